/-
  The document's reading of one part of a vector's text, at this program. Conditions: the text has at most 300 letters.
-/
import Derived.Test.YtpbgolcimbjekaaGreatDoorQ31
import Derived.Test.YtpbgolcimbjekaaGreatDoorQ36
namespace Go.Proofs.YtpbgolcimbjekaaGreatDoor
open Go.RowKit

/-- A part: the resource (3: none), its number, the error. -/
def partR (l : List UInt8) : Nat × Int × Int :=
  match (cutAt 61 l).2 with
  | none => ((resL (cutAt 61 l).1).getD 3, 0, 11)
  | some q => match resL (cutAt 61 l).1 with
    | none => (3, 0, 11)
    | some r => (r, numL r q)
def rne (x : Nat × Int × Int) : Value := .tuple #[.int .i64 (x.1 : Int), .int .i64 x.2.1, .int .i64 x.2.2]
theorem partR_cut {l : List UInt8} (h : (cutAt 61 l).2 = none) : partR l = ((resL (cutAt 61 l).1).getD 3, 0, 11) := by unfold partR; rw [h]
theorem partR_res {l q : List UInt8} (h : (cutAt 61 l).2 = some q) (hr : resL (cutAt 61 l).1 = none) : partR l = (3, 0, 11) := by unfold partR; rw [h, hr]
theorem partR_num {l q : List UInt8} {r : Nat} (h : (cutAt 61 l).2 = some q) (hr : resL (cutAt 61 l).1 = some r) : partR l = (r, numL r q) := by unfold partR; rw [h, hr]

theorem parse_le (l : List UInt8) : (parseL l).1 ≤ most := by
  unfold parseL
  split
  · simp
  · split
    · simp
    · split
      · simp
      · split
        · simp
        · split
          · assumption
          · simp

/-- Where the first equals sign is, at or behind a place. -/
def posn (l : List UInt8) (k : Nat) : Nat := k + (cutAt 61 (l.drop k)).1.length
theorem cut_le (d : UInt8) : ∀ l : List UInt8, (cutAt d l).1.length ≤ l.length
  | [] => by simp [cutAt]
  | c :: r => by have := cut_le d r; rw [cutAt]; split <;> simp <;> omega
theorem cut_take (d : UInt8) : ∀ l : List UInt8, (cutAt d l).1 = l.take (cutAt d l).1.length
  | [] => rfl
  | c :: r => by
    have := cut_take d r
    rw [cutAt]
    split
    · rfl
    · simp only [List.length_cons, List.take_succ_cons]
      rw [← this]
theorem cut_drop (d : UInt8) : ∀ l : List UInt8, (cutAt d l).2 = if (cutAt d l).1.length = l.length then none else some (l.drop ((cutAt d l).1.length + 1))
  | [] => rfl
  | c :: r => by
    have := cut_drop d r
    rw [cutAt]
    split
    · simp
    · simp only [List.length_cons, List.drop_succ_cons]
      rw [this]
      by_cases e : (cutAt d r).1.length = r.length
      · rw [if_pos e, if_pos (by omega)]
      · rw [if_neg e, if_neg (by omega)]
theorem posn_end {l : List UInt8} : posn l l.length = l.length := by simp [posn, cutAt]
theorem posn_eq {l : List UInt8} {k : Nat} (h : k < l.length) (e : l[k] = 61) : posn l k = k := by
  unfold posn
  rw [List.drop_eq_getElem_cons h, cutAt, if_pos e]
  simp
theorem posn_ne {l : List UInt8} {k : Nat} (h : k < l.length) (e : l[k] ≠ 61) : posn l k = posn l (k + 1) := by
  unfold posn
  rw [List.drop_eq_getElem_cons h, cutAt, if_neg e]
  simp; omega
theorem posn_zero (l : List UInt8) : posn l 0 = (cutAt 61 l).1.length := by simp [posn]
theorem take_extract (s : ByteArray) (i : Nat) : (s.extract 0 i).data.toList = s.data.toList.take i := by rw [mid_extract]; simp

theorem num_err {r : Nat} {q : List UInt8} {v : Nat} {g : Int} (h : parseL q = (v, g)) (hg : g ≠ 0) : numL r q = (0, g) := by unfold numL numP; rw [h]; exact if_pos hg
theorem num_over {r : Nat} {q : List UInt8} {v : Nat} (h : parseL q = (v, 0)) (hg : ¬ up v (each r) ≤ 1152921504606846976 ∨ bnd r < up v (each r)) : numL r q = (0, 15) := by
  unfold numL numP
  rw [h]
  by_cases c : up v (each r) ≤ 1152921504606846976
  · have hc : cntL r v = (((up v (each r) : Nat) : Int), 0) := by unfold cntL; rw [if_pos c]
    simp only [hc]
    rw [if_neg (by simp), if_neg (by simp), if_pos (by have := hg.resolve_left (fun h => h c); omega)]
  · have hc : cntL r v = (0, 15) := by unfold cntL; rw [if_neg c]
    simp only [hc]
    rw [if_neg (by simp), if_pos (by simp)]
theorem num_form {r : Nat} {q : List UInt8} {v : Nat} (h : parseL q = (v, 0)) (h1 : up v (each r) ≤ 1152921504606846976) (h2 : ¬ bnd r < up v (each r)) (hr : r = 2) (h3 : ((up v (each r) : Nat) : Int) % 2097152 ≠ 0) : numL r q = (0, 11) := by
  have hc : cntL r v = (((up v (each r) : Nat) : Int), 0) := by unfold cntL; rw [if_pos h1]
  unfold numL numP
  rw [h]
  simp only [hc]
  rw [if_neg (by simp), if_neg (by simp), if_neg (by omega), if_pos ⟨hr, h3⟩]
theorem num_ok {r : Nat} {q : List UInt8} {v : Nat} (h : parseL q = (v, 0)) (h1 : up v (each r) ≤ 1152921504606846976) (h2 : ¬ bnd r < up v (each r)) (h3 : r = 2 → ((up v (each r) : Nat) : Int) % 2097152 = 0) : numL r q = (((up v (each r) : Nat) : Int), 0) := by
  have hc : cntL r v = (((up v (each r) : Nat) : Int), 0) := by unfold cntL; rw [if_pos h1]
  unfold numL numP
  rw [h]
  simp only [hc]
  rw [if_neg (by simp), if_neg (by simp), if_neg (by omega), if_neg (fun k => k.2 (h3 k.1))]

theorem res_split (l : List UInt8) : (resL l = none ∧ l ≠ cpuL ∧ l ≠ memL ∧ l ≠ hugL) ∨ (resL l = some 0 ∧ l = cpuL) ∨ (resL l = some 1 ∧ l ≠ cpuL ∧ l = memL) ∨ (resL l = some 2 ∧ l ≠ cpuL ∧ l ≠ memL ∧ l = hugL) := by
  unfold resL
  by_cases a : l = cpuL
  · rw [if_pos a]; simp [a]
  by_cases b : l = memL
  · rw [if_neg a, if_pos b]; simp [b]
    exact fun h => a (b.trans h)
  by_cases c : l = hugL
  · rw [if_neg a, if_neg b, if_pos c]; simp [c]
    exact ⟨fun h => a (c.trans h), fun h => b (c.trans h)⟩
  · rw [if_neg a, if_neg b, if_neg c]; simp [a, b, c]

set_option maxHeartbeats 8000000 in
set_option maxRecDepth 100000 in
theorem part_is (s : ByteArray) (hm : s.size ≤ 300) (w : World) :
    Calls Tryz.prog 24 #[.string s] w fun e w' => e = .returned (rne (partR s.data.toList)) ∧ Below w.heap.size w w' := by
  obtain ⟨R, hR⟩ : ∃ R, R = partR s.data.toList := ⟨_, rfl⟩
  rw [← hR]
  have HR : Hid (R = partR s.data.toList) := hR
  clear hR
  have P0 : Hid (s.size = posn s.data.toList s.size) := by unfold Hid; rw [← ba_len, posn_end]
  go_enter Tryz.func24, Tryz.ntmps24
  go_wp2
  go_loopw [5, 6] (fun p q wr => ∃ (k a : Nat) (z : Int), p = .int .i64 a ∧ q = .int .i64 z ∧ k ≤ s.size ∧ Hid (z = (k : Int) - 1) ∧ Hid (a = posn s.data.toList k) ∧ w = wr) (fun _ q _ => (intOf q + 1).toNat)
  case atStart => exact ⟨s.size, s.size, (s.size : Int) - 1, rfl, rfl, by omega, rfl, P0, rfl⟩
  case round =>
    clear P0
    obtain ⟨k, a, z, rfl, rfl, kl, hz, HA, rfl⟩ := hrel
    by_cases z0 : 0 ≤ z
    · obtain ⟨j, rfl⟩ : ∃ j : Nat, z = (j : Int) := ⟨z.toNat, by omega⟩
      have kj : k = j + 1 := by have := hz.out; omega
      have jl : j < s.size := by omega
      have j1 : (j : Int) < (s.size : Int) := by omega
      by_cases e : s[j].toNat = 61
      · have e' : s[j] = 61 := by apply UInt8.toNat_inj.1; simpa using e
        have A2 : Hid (j = posn s.data.toList j) := (posn_eq (by rw [ba_len]; exact jl) ((at_list s j jl).trans e')).symm
        clear HA hz e'
        go_wp2
        go_roundw
        case rel => exact ⟨j, j, (j : Int) - 1, rfl, by go_num, by omega, rfl, A2, trivial⟩
        case measure => simp [intOf]
      · have A2 : Hid (a = posn s.data.toList j) := by
          unfold Hid
          rw [HA.out, kj]
          exact (posn_ne (by rw [ba_len]; exact jl) (by rw [at_list s j jl]; rintro h; exact e (by rw [h]; rfl))).symm
        have e2 : ((s[j].toNat : Int) == 61) = false := by simp; omega
        clear HA hz
        go_wp2
        go_roundw
        case rel => exact ⟨j, a, (j : Int) - 1, rfl, by go_num, by omega, rfl, A2, trivial⟩
        case measure => simp [intOf]
    · have k0 : k = 0 := by have := hz.out; omega
      have A2 : Hid (a = (cutAt 61 s.data.toList).1.length) := by unfold Hid; rw [HA.out, k0, posn_zero]
      have al : a ≤ s.size := by have := cut_le 61 s.data.toList; rw [A2.out, ← ba_len]; exact this
      have a0 : (0 : Int) ≤ (a : Int) := by omega
      have a1 : (a : Int) ≤ (s.size : Int) := by omega
      have NM : Hid ((s.extract 0 a).data.toList = (cutAt 61 s.data.toList).1) := by unfold Hid; rw [take_extract, A2.out]; exact (cut_take 61 _).symm
      clear HA hz kl k0
      obtain ⟨n, hn⟩ : ∃ n, n = s.extract 0 a := ⟨_, rfl⟩
      rw [← hn] at NM
      have N0 : Hid (n = s.extract 0 a) := hn
      have sl : ∀ w : World, (Instr.slice 9 (.string s) none (some (.int .i64 (a : Int))) none).run Tryz.prog w = .ok (.string n) w := fun w => by rw [hn]; simp [go_sem, a0, a1]
      clear hn
      have SP := res_split n.data.toList
      by_cases ca : a = s.size
      · have CN : Hid ((cutAt 61 s.data.toList).2 = none) := by unfold Hid; rw [cut_drop, if_pos (by rw [← A2.out, ba_len, ca])]
        have q1 : ((a : Int) == (s.size : Int)) = true := by simp [ca]
        clear ca
        rcases SP with ⟨hr, e0, e1, e2⟩ | ⟨hr, e0⟩ | ⟨hr, e0, e1⟩ | ⟨hr, e0, e1, e2⟩
        · have hq0 : (n.toList == [99, 112, 117]) = false := by rw [cpu_eq]; exact decide_eq_false e0
          have hq1 : (n.toList == [109, 101, 109, 111, 114, 121]) = false := by rw [mem_eq]; exact decide_eq_false e1
          have hq2 : (n.toList == [104, 117, 103, 101, 112, 97, 103, 101, 115]) = false := by rw [hug_eq]; exact decide_eq_false e2
          clear e0 e1 e2
          have X : Hid (R = (3, 0, 11)) := by unfold Hid; rw [HR.out, partR_cut CN.out, ← NM.out, hr]; rfl
          clear hr HR
          go_wp2
          go_ret3
          exact ⟨by rw [X.out]; rfl, by go_grown⟩
          
        · have hq0 : (n.toList == [99, 112, 117]) = true := by rw [cpu_eq]; exact decide_eq_true e0
          clear e0
          have X : Hid (R = (0, 0, 11)) := by unfold Hid; rw [HR.out, partR_cut CN.out, ← NM.out, hr]; rfl
          clear hr HR
          go_wp2
          go_ret3
          exact ⟨by rw [X.out]; rfl, by go_grown⟩
          
        · have hq0 : (n.toList == [99, 112, 117]) = false := by rw [cpu_eq]; exact decide_eq_false e0
          have hq1 : (n.toList == [109, 101, 109, 111, 114, 121]) = true := by rw [mem_eq]; exact decide_eq_true e1
          clear e0 e1
          have X : Hid (R = (1, 0, 11)) := by unfold Hid; rw [HR.out, partR_cut CN.out, ← NM.out, hr]; rfl
          clear hr HR
          go_wp2
          go_ret3
          exact ⟨by rw [X.out]; rfl, by go_grown⟩
          
        · have hq0 : (n.toList == [99, 112, 117]) = false := by rw [cpu_eq]; exact decide_eq_false e0
          have hq1 : (n.toList == [109, 101, 109, 111, 114, 121]) = false := by rw [mem_eq]; exact decide_eq_false e1
          have hq2 : (n.toList == [104, 117, 103, 101, 112, 97, 103, 101, 115]) = true := by rw [hug_eq]; exact decide_eq_true e2
          clear e0 e1 e2
          have X : Hid (R = (2, 0, 11)) := by unfold Hid; rw [HR.out, partR_cut CN.out, ← NM.out, hr]; rfl
          clear hr HR
          go_wp2
          go_ret3
          exact ⟨by rw [X.out]; rfl, by go_grown⟩
          
      · have q1 : ((a : Int) == (s.size : Int)) = false := by simp; omega
        have al2 : a < s.size := by omega
        have b0 : (0 : Int) ≤ (a : Int) + 1 := by omega
        have b1 : (a : Int) + 1 ≤ (s.size : Int) := by omega
        obtain ⟨x, hx⟩ : ∃ x, x = s.extract (a + 1) s.size := ⟨_, rfl⟩
        have xe : x.data.toList = s.data.toList.drop (a + 1) := by rw [hx]; exact drop_extract s (a + 1)
        have CN : Hid ((cutAt 61 s.data.toList).2 = some x.data.toList) := by unfold Hid; rw [cut_drop, if_neg (by rw [← A2.out, ba_len]; exact ca), ← A2.out, xe]
        have XM : Hid (x.size ≤ 300) := by unfold Hid; rw [← ba_len, xe, List.length_drop, ba_len]; omega
        have sl2 : ∀ w : World, (Instr.slice 9 (.string s) (some (.int .i64 ((a : Int) + 1))) none none).run Tryz.prog w = .ok (.string x) w := fun w => by
          rw [hx]
          have : ((a : Int) + 1).toNat = a + 1 := by omega
          simp [go_sem, b0, b1, this]
        clear ca hx xe
        rcases SP with ⟨hr, e0, e1, e2⟩ | ⟨hr, e0⟩ | ⟨hr, e0, e1⟩ | ⟨hr, e0, e1, e2⟩
        · have hq0 : (n.toList == [99, 112, 117]) = false := by rw [cpu_eq]; exact decide_eq_false e0
          have hq1 : (n.toList == [109, 101, 109, 111, 114, 121]) = false := by rw [mem_eq]; exact decide_eq_false e1
          have hq2 : (n.toList == [104, 117, 103, 101, 112, 97, 103, 101, 115]) = false := by rw [hug_eq]; exact decide_eq_false e2
          clear e0 e1 e2
          have X : Hid (R = (3, 0, 11)) := by unfold Hid; rw [HR.out, partR_res CN.out (by rw [← NM.out, hr])]
          clear hr HR
          go_wp2
          go_ret3
          exact ⟨by rw [X.out]; rfl, by go_grown⟩
          
        · have hq0 : (n.toList == [99, 112, 117]) = true := by rw [cpu_eq]; exact decide_eq_true e0
          clear e0
          have X0 : Hid (R = (0, numL 0 x.data.toList)) := by unfold Hid; rw [HR.out, partR_num CN.out (by rw [← NM.out, hr])]
          clear hr HR
          go_wp2_with (fail)
          refine (rparse_amount x XM.out _).mono ?_
          rintro e w1 ⟨⟨ph, pl, g, rfl, hg, i⟩, hw1⟩
          obtain ⟨v, g', hv⟩ : ∃ v g', parseL x.data.toList = (v, g') := ⟨_, _, Prod.eta _ |>.symm⟩
          rw [hv] at hg i
          obtain rfl : g = g' := hg
          have I : Hid (Is ph pl v) := i
          have PV : Hid (parseL x.data.toList = (v, g)) := hv
          have VM : Hid (v ≤ most) := by have := parse_le x.data.toList; rw [hv] at this; exact this
          have q_b : Box (w1.alloc (.cells #[.int .u64 ph, .int .u64 pl] 42)) w1.heap.size ph pl := Box.new _ _ _ _ _ rfl
          have HB1 : Below w.heap.size w (w1.alloc (.cells #[.int .u64 ph, .int .u64 pl] 42)) := Below.alloc hw1 hw1.size _
          clear i hv
          by_cases g0 : g = 0
          · subst g0
            go_wp2_with (fail)
            refine (parts_is (v := 1000000) I.out rfl (by decide) (by decide) _).mono ?_
            rintro e w2 ⟨⟨u, o, rfl, hp⟩, hw2⟩
            have HB2 : Below w.heap.size w w2 := HB1.trans (hw2.mono HB1.size)
            clear HB1 hw1 hw2 q_b I
            rcases hp with ⟨_, p1, rfl, rfl⟩ | ⟨p1, rfl, rfl⟩
            · have P1 : Hid (up v (each 0) ≤ 1152921504606846976) := p1
              obtain ⟨N, hN⟩ : ∃ N, N = up v 1000000 := ⟨_, rfl⟩
              rw [← hN]
              have HN : Hid (N = up v (each 0)) := hN
              have N1 : (0 : Int) ≤ (N : Int) := by omega
              clear hN p1
              by_cases c : 1099511627776 < (N : Int)
              · have X : Hid (R = (0, 0, 15)) := by unfold Hid; rw [X0.out, num_over PV.out (Or.inr (by rw [← HN.out]; unfold bnd; simp; omega))]
                go_wp2
                go_ret3
                exact ⟨by rw [X.out]; rfl, HB2⟩
              · have X : Hid (R = (0, (N : Int), 0)) := by unfold Hid; rw [X0.out, num_ok PV.out P1.out (by rw [← HN.out]; unfold bnd; simp; omega) (by intro h; simp at h), ← HN.out]
                go_wp2
                go_ret3
                exact ⟨by rw [X.out]; rfl, HB2⟩
            · have X : Hid (R = (0, 0, 15)) := by unfold Hid; rw [X0.out, num_over (r := 0) PV.out (Or.inl (fun h => p1 ⟨VM.out, h⟩))]
              clear p1
              go_wp2
              go_ret3
              exact ⟨by rw [X.out]; rfl, HB2⟩
          · have X : Hid (R = (0, 0, g)) := by unfold Hid; rw [X0.out, num_err PV.out g0]
            have g1 : (g != 0) = true := by simp [g0]
            go_wp2
            go_ret3
            exact ⟨by rw [X.out]; rfl, by go_grown⟩
          
        · have hq0 : (n.toList == [99, 112, 117]) = false := by rw [cpu_eq]; exact decide_eq_false e0
          have hq1 : (n.toList == [109, 101, 109, 111, 114, 121]) = true := by rw [mem_eq]; exact decide_eq_true e1
          clear e0 e1
          have X0 : Hid (R = (1, numL 1 x.data.toList)) := by unfold Hid; rw [HR.out, partR_num CN.out (by rw [← NM.out, hr])]
          clear hr HR
          go_wp2_with (fail)
          refine (rparse_amount x XM.out _).mono ?_
          rintro e w1 ⟨⟨ph, pl, g, rfl, hg, i⟩, hw1⟩
          obtain ⟨v, g', hv⟩ : ∃ v g', parseL x.data.toList = (v, g') := ⟨_, _, Prod.eta _ |>.symm⟩
          rw [hv] at hg i
          obtain rfl : g = g' := hg
          have I : Hid (Is ph pl v) := i
          have PV : Hid (parseL x.data.toList = (v, g)) := hv
          have VM : Hid (v ≤ most) := by have := parse_le x.data.toList; rw [hv] at this; exact this
          have q_b : Box (w1.alloc (.cells #[.int .u64 ph, .int .u64 pl] 42)) w1.heap.size ph pl := Box.new _ _ _ _ _ rfl
          have HB1 : Below w.heap.size w (w1.alloc (.cells #[.int .u64 ph, .int .u64 pl] 42)) := Below.alloc hw1 hw1.size _
          clear i hv
          by_cases g0 : g = 0
          · subst g0
            go_wp2_with (fail)
            refine (parts_is (v := 1000000000) I.out rfl (by decide) (by decide) _).mono ?_
            rintro e w2 ⟨⟨u, o, rfl, hp⟩, hw2⟩
            have HB2 : Below w.heap.size w w2 := HB1.trans (hw2.mono HB1.size)
            clear HB1 hw1 hw2 q_b I
            rcases hp with ⟨_, p1, rfl, rfl⟩ | ⟨p1, rfl, rfl⟩
            · have P1 : Hid (up v (each 1) ≤ 1152921504606846976) := p1
              obtain ⟨N, hN⟩ : ∃ N, N = up v 1000000000 := ⟨_, rfl⟩
              rw [← hN]
              have HN : Hid (N = up v (each 1)) := hN
              have N1 : (0 : Int) ≤ (N : Int) := by omega
              clear hN p1
              by_cases c : 1125899906842624 < (N : Int)
              · have X : Hid (R = (1, 0, 15)) := by unfold Hid; rw [X0.out, num_over PV.out (Or.inr (by rw [← HN.out]; unfold bnd; simp; omega))]
                go_wp2
                go_ret3
                exact ⟨by rw [X.out]; rfl, HB2⟩
              · have X : Hid (R = (1, (N : Int), 0)) := by unfold Hid; rw [X0.out, num_ok PV.out P1.out (by rw [← HN.out]; unfold bnd; simp; omega) (by intro h; simp at h), ← HN.out]
                go_wp2
                go_ret3
                exact ⟨by rw [X.out]; rfl, HB2⟩
            · have X : Hid (R = (1, 0, 15)) := by unfold Hid; rw [X0.out, num_over (r := 1) PV.out (Or.inl (fun h => p1 ⟨VM.out, h⟩))]
              clear p1
              go_wp2
              go_ret3
              exact ⟨by rw [X.out]; rfl, HB2⟩
          · have X : Hid (R = (1, 0, g)) := by unfold Hid; rw [X0.out, num_err PV.out g0]
            have g1 : (g != 0) = true := by simp [g0]
            go_wp2
            go_ret3
            exact ⟨by rw [X.out]; rfl, by go_grown⟩
          
        · have hq0 : (n.toList == [99, 112, 117]) = false := by rw [cpu_eq]; exact decide_eq_false e0
          have hq1 : (n.toList == [109, 101, 109, 111, 114, 121]) = false := by rw [mem_eq]; exact decide_eq_false e1
          have hq2 : (n.toList == [104, 117, 103, 101, 112, 97, 103, 101, 115]) = true := by rw [hug_eq]; exact decide_eq_true e2
          clear e0 e1 e2
          have X0 : Hid (R = (2, numL 2 x.data.toList)) := by unfold Hid; rw [HR.out, partR_num CN.out (by rw [← NM.out, hr])]
          clear hr HR
          go_wp2_with (fail)
          refine (rparse_amount x XM.out _).mono ?_
          rintro e w1 ⟨⟨ph, pl, g, rfl, hg, i⟩, hw1⟩
          obtain ⟨v, g', hv⟩ : ∃ v g', parseL x.data.toList = (v, g') := ⟨_, _, Prod.eta _ |>.symm⟩
          rw [hv] at hg i
          obtain rfl : g = g' := hg
          have I : Hid (Is ph pl v) := i
          have PV : Hid (parseL x.data.toList = (v, g)) := hv
          have VM : Hid (v ≤ most) := by have := parse_le x.data.toList; rw [hv] at this; exact this
          have q_b : Box (w1.alloc (.cells #[.int .u64 ph, .int .u64 pl] 42)) w1.heap.size ph pl := Box.new _ _ _ _ _ rfl
          have HB1 : Below w.heap.size w (w1.alloc (.cells #[.int .u64 ph, .int .u64 pl] 42)) := Below.alloc hw1 hw1.size _
          clear i hv
          by_cases g0 : g = 0
          · subst g0
            go_wp2_with (fail)
            refine (parts_is (v := 1000000000) I.out rfl (by decide) (by decide) _).mono ?_
            rintro e w2 ⟨⟨u, o, rfl, hp⟩, hw2⟩
            have HB2 : Below w.heap.size w w2 := HB1.trans (hw2.mono HB1.size)
            clear HB1 hw1 hw2 q_b I
            rcases hp with ⟨_, p1, rfl, rfl⟩ | ⟨p1, rfl, rfl⟩
            · have P1 : Hid (up v (each 2) ≤ 1152921504606846976) := p1
              obtain ⟨N, hN⟩ : ∃ N, N = up v 1000000000 := ⟨_, rfl⟩
              rw [← hN]
              have HN : Hid (N = up v (each 2)) := hN
              have N1 : (0 : Int) ≤ (N : Int) := by omega
              clear hN p1
              by_cases c : 1125899906842624 < (N : Int)
              · have X : Hid (R = (2, 0, 15)) := by unfold Hid; rw [X0.out, num_over PV.out (Or.inr (by rw [← HN.out]; unfold bnd; simp; omega))]
                go_wp2
                go_ret3
                exact ⟨by rw [X.out]; rfl, HB2⟩
              · by_cases d : (N : Int) % 2097152 = 0
                · have X : Hid (R = (2, (N : Int), 0)) := by unfold Hid; rw [X0.out, num_ok PV.out P1.out (by rw [← HN.out]; unfold bnd; simp; omega) (by intro _; rw [← HN.out]; exact d), ← HN.out]
                  have d' : ((N : Int) % 2097152 != 0) = false := by simp [d]
                  go_wp2
                  go_ret3
                  exact ⟨by rw [X.out]; rfl, HB2⟩
                · have X : Hid (R = (2, 0, 11)) := by unfold Hid; rw [X0.out, num_form PV.out P1.out (by rw [← HN.out]; unfold bnd; simp; omega) rfl (by rw [← HN.out]; exact d)]
                  have d' : ((N : Int) % 2097152 != 0) = true := by simp [d]
                  go_wp2
                  go_ret3
                  exact ⟨by rw [X.out]; rfl, HB2⟩
            · have X : Hid (R = (2, 0, 15)) := by unfold Hid; rw [X0.out, num_over (r := 2) PV.out (Or.inl (fun h => p1 ⟨VM.out, h⟩))]
              clear p1
              go_wp2
              go_ret3
              exact ⟨by rw [X.out]; rfl, HB2⟩
          · have X : Hid (R = (2, 0, g)) := by unfold Hid; rw [X0.out, num_err PV.out g0]
            have g1 : (g != 0) = true := by simp [g0]
            go_wp2
            go_ret3
            exact ⟨by rw [X.out]; rfl, by go_grown⟩
          

end Go.Proofs.YtpbgolcimbjekaaGreatDoor
