/-
  The knobs of a pod at this program: package knobs' own. Conditions: the tables of the program lie as its text lays them; the containers read as a list; the names' lengths fit the machine.
-/
import Derived.Test.YtaeejemknmjglaaDoorRE
import Derived.Test.YtaeejemknmjglaaDoorPL
namespace Go.Proofs.YtaeejemknmjglaaDoor.Sp
open Go.RowKit

/-- The row of five numbers, the first f of which are new. -/
def mx (A B : Nat → Int) (f i : Nat) : Int := if i < f then B i else A i
abbrev row (F : Nat → Int) : List Value := [.int .i64 (F 0), .int .i64 (F 1), .int .i64 (F 2), .int .i64 (F 3), .int .i64 (F 4)]
theorem vec_cpu (a b c : Int) (w : World) : (Instr.field 23 (.agg #[.int .i64 a, .int .i64 b, .int .i64 c]) 0).run Tryd.prog w = .ok (.int .i64 a) w := by kernel_rfl
theorem mx_zero (A B : Nat → Int) : row (mx A B 0) = row A := rfl
theorem mx_all (A B : Nat → Int) : row (mx A B 5) = row B := rfl

set_option maxHeartbeats 4000000 in
set_option maxRecDepth 100000 in
theorem podK_is {v : Value} {zs : List Ct} (pn : ByteArray) (pr po : Int) (hm : pn.size ≤ maxLen) (w : World) (hL : LaidS w) (h : RdC w v zs) :
    Calls Tryd.prog 12 #[.agg #[.string pn, .int .i64 pr, .int .i64 po, v]] w fun e w' => e = .returned (if podB pn pr po zs = true then podV zs else k0V) ∧ Below w.heap.size w w' := by
  obtain ⟨R, hR⟩ : ∃ R, R = if podB pn pr po zs = true then podV zs else k0V := ⟨_, rfl⟩
  rw [← hR]
  have HR : Hid (R = if podB pn pr po zs = true then podV zs else k0V) := hR
  have HL : Hid (LaidS w) := hL
  have HZ : Hid (RdC w v zs) := h
  have HM : Hid (pn.size ≤ maxLen) := hm
  obtain ⟨T, hT⟩ := tog_ex zs
  have HT : Hid (Tog zs T) := hT
  clear hR hL h hm hT
  obtain ⟨a, cap, rfl, h1, h2, h3⟩ := id HZ.out
  have H3 : Hid (∀ (j : Nat) (c : Ct), zs[j]? = some c → c.n.size ≤ maxLen ∧ ∃ b off : Nat, a = some ⟨b, off, none⟩ ∧ Ten w b (off + j * 10) c) := h3
  clear h3
  have zl : zs.length ≤ maxLen := by omega
  unfold maxLen at zl
  go_enter Tryd.func12, Tryd.ntmps12
  go_wp2_with (fail)
  refine (pod_is pn pr po HM.out _ ((HL.out.alloc _).alloc _) ((HZ.out.alloc _).alloc _)).mono ?_
  rintro e w1 ⟨rfl, hw1⟩
  have HBw1 : Below w.heap.size w w1 := Below.trans (by go_grown) (hw1.mono (by first | omega | (simp; done) | (simp; omega)))
  have p_p : Cs w1 (w.heap.size) [.string pn, .int .i64 pr, .int .i64 po, .slice a zs.length cap] := Cs.later hw1 (by repeat (first | assumption | (refine Cs.new _ _ _ _ ?_; simp; done) | refine Cs.alloc ?_ _ | refine Cs.drew ?_ | (refine Cs.beside ?_ _ _ (by omega))))
  have p_r : Cs w1 (w.heap.size + 1) [.int .i64 0, .int .i64 0, .int .i64 0, .int .i64 0, .int .i64 0] := Cs.later hw1 (by repeat (first | assumption | (refine Cs.new _ _ _ _ ?_; simp; done) | refine Cs.alloc ?_ _ | refine Cs.drew ?_ | (refine Cs.beside ?_ _ _ (by omega))))
  have q_p := p_p
  have p0 : w1.cell? ⟨w.heap.size, 0, none⟩ = some (.string pn) := p_p.1 0 _ rfl
  have p1 : w1.cell? ⟨w.heap.size, 1, none⟩ = some (.int .i64 pr) := p_p.1 1 _ rfl
  have p2 : w1.cell? ⟨w.heap.size, 2, none⟩ = some (.int .i64 po) := p_p.1 2 _ rfl
  have p3 : w1.cell? ⟨w.heap.size, 3, none⟩ = some (.slice a zs.length cap) := p_p.1 3 _ rfl
  have pz : w.heap.size < w1.heap.size := p_p.2.2
  clear p_p
  have q_r := p_r
  have r0 : w1.cell? ⟨w.heap.size + 1, 0, none⟩ = some (.int .i64 0) := p_r.1 0 _ rfl
  have rF0 : w1.frozen? ⟨w.heap.size + 1, 0, none⟩ = false := p_r.2.1 0 (by simp)
  have r1 : w1.cell? ⟨w.heap.size + 1, 1, none⟩ = some (.int .i64 0) := p_r.1 1 _ rfl
  have rF1 : w1.frozen? ⟨w.heap.size + 1, 1, none⟩ = false := p_r.2.1 1 (by simp)
  have r2 : w1.cell? ⟨w.heap.size + 1, 2, none⟩ = some (.int .i64 0) := p_r.1 2 _ rfl
  have rF2 : w1.frozen? ⟨w.heap.size + 1, 2, none⟩ = false := p_r.2.1 2 (by simp)
  have r3 : w1.cell? ⟨w.heap.size + 1, 3, none⟩ = some (.int .i64 0) := p_r.1 3 _ rfl
  have rF3 : w1.frozen? ⟨w.heap.size + 1, 3, none⟩ = false := p_r.2.1 3 (by simp)
  have r4 : w1.cell? ⟨w.heap.size + 1, 4, none⟩ = some (.int .i64 0) := p_r.1 4 _ rfl
  have rF4 : w1.frozen? ⟨w.heap.size + 1, 4, none⟩ = false := p_r.2.1 4 (by simp)
  have rz : w.heap.size + 1 < w1.heap.size := p_r.2.2
  clear p_r
  have hsw1 := hw1.size
  (try simp at hsw1)
  clear hw1
  obtain ⟨g, hg⟩ : ∃ g, g = podB pn pr po zs := ⟨_, rfl⟩
  rw [← hg]
  have HG : Hid (g = podB pn pr po zs) := hg
  clear hg
  cases g with
  | false =>
    have X : Hid (R = k0V) := by unfold Hid; rw [HR.out, ← HG.out]; rfl
    clear HR HG
    go_wp2
    refine bodyPost_ret (v := R) (by rw [X.out]; simp [results, Tryd.results12, go_sem, r0, r1, r2, r3, r4]) rfl ⟨rfl, by go_grown⟩
  | true =>
  have TA : Hid (T 0 zs.length = unl Ct.lc zs ∧ T 2 zs.length = sm Ct.rm zs ∧ T 3 zs.length = unl Ct.lm zs ∧ T 4 zs.length = sm Ct.lh zs) := tog_all HT.out HG.out.symm
  have SS : Hid (∀ w, LaidS w → RdC w (.slice a zs.length cap) zs → Calls Tryd.prog 33 #[.agg #[.string pn, .int .i64 pr, .int .i64 po, .slice a zs.length cap]] w fun e w' => e = .returned (.agg #[.int .i64 (sm Ct.rc zs), .int .i64 (sm Ct.rm zs), .int .i64 (sm Ct.rh zs)]) ∧ Below w.heap.size w w') := fun w h1 h2 => by
    have := requestsP_is pn pr po w h1 h2 (by have := (pod_parts HG.out.symm).2.1.2; omega)
    rw [(sums_some (pod_parts HG.out.symm).2.2.2).1] at this
    exact this
  have X : Hid (R = podV zs) := by unfold Hid; rw [HR.out, ← HG.out]; rfl
  have CO : Hid (∀ (i : Nat) (c : Ct), zs[i]? = some c → ctB c.n c.rc c.rm c.rh c.lc c.lm c.lh = true) := fun i c hc => (csB_iff.1 (pod_parts HG.out.symm).2.2.1 i c hc).1
  clear HR HG
  go_wp2
  clear p0 p1 p2 p3 pz r0 r1 r2 r3 r4 rF0 rF1 rF2 rF3 rF4 rz
  have q_a : Cs (w1.alloc (.cells #[.int .i64 0, .int .i64 0, .int .i64 0, .int .i64 0, .int .i64 0] 51)) w1.heap.size (row fun i => T i 0) := by
    rw [show (row fun i => T i 0) = [.int .i64 0, .int .i64 0, .int .i64 0, .int .i64 0, .int .i64 0] by simp only [HT.out.zero]]
    exact Cs.new _ _ _ _ rfl
  go_loopw [15] (fun f wr => ∃ j : Nat, f = .int .i64 j ∧ j ≤ zs.length ∧ Cs wr w1.heap.size (row fun i => T i j) ∧ Cs wr w.heap.size [.string pn, .int .i64 pr, .int .i64 po, .slice a zs.length cap] ∧ Cs wr (w.heap.size + 1) [.int .i64 0, .int .i64 0, .int .i64 0, .int .i64 0, .int .i64 0] ∧ Below w.heap.size w wr) (fun f _ => zs.length - (intOf f).toNat)
  case atStart => exact ⟨0, rfl, by omega, q_a, q_p.alloc _, q_r.alloc _, by go_grown⟩
  case round =>
    clear q_a q_p q_r
    obtain ⟨j, rfl, jl, q_a, q_p, q_r, HB⟩ := hrel
    have hs := HB.size
    have ba := q_a.2.2
    by_cases cj : j < zs.length
    · obtain ⟨⟨m, rc, rm, rh, lc, lm, lh, x, y, z⟩, hdj⟩ : ∃ d, zs[j]? = some d := ⟨zs[j], List.getElem?_eq_getElem cj⟩
      obtain ⟨hmm, b, off, rfl, T10⟩ := H3.out j _ hdj
      have MM : Hid (m.size ≤ maxLen) := hmm
      have CC : Hid (ctB m rc rm rh lc lm lh = true) := CO.out j _ hdj
      have TN : Hid (∀ i, T i (j + 1) = togV (T i j) (kn i ⟨m, rc, rm, rh, lc, lm, lh, x, y, z⟩)) := fun i => HT.out.next i j _ hdj
      obtain ⟨c0, c1, c2, c3, c4, c5, c6, c7, c8, c9⟩ := T10.later HB
      simp only at c0 c1 c2 c3 c4 c5 c6 c7 c8 c9
      have j0 : (0 : Int) ≤ (j : Int) := by omega
      have j1 : (j : Int) < (zs.length : Int) := by omega
      clear T10 hdj hmm
      have C : Hid (∀ w, LaidS w → Calls Tryd.prog 10 #[.agg #[.string m, .int .i64 rc, .int .i64 rm, .int .i64 rh, .int .i64 lc, .int .i64 lm, .int .i64 lh, .bool x, .bool y, .bool z]] w fun e w' => e = .returned (kctV rc rm lc lm lh) ∧ Below w.heap.size w w') := fun w h => by
        have := containerK_is m rc rm rh lc lm lh x y z MM.out w h
        rw [CC.out, if_pos rfl] at this
        exact this
      go_wp2_with (fail)
      refine (C.out _ ((HL.out.later HB).alloc _)).mono ?_
      rintro e w2 ⟨rfl, hw2⟩
      have HB2 : Below w.heap.size w w2 := Below.trans (show Below w.heap.size w _ by go_grown) (hw2.mono (by simp; omega))
      have a2 := Cs.later hw2 (q_a.alloc (.cells #[.string m, .int .i64 rc, .int .i64 rm, .int .i64 rh, .int .i64 lc, .int .i64 lm, .int .i64 lh, .bool x, .bool y, .bool z] 26))
      have p2 := Cs.later hw2 (q_p.alloc (.cells #[.string m, .int .i64 rc, .int .i64 rm, .int .i64 rh, .int .i64 lc, .int .i64 lm, .int .i64 lh, .bool x, .bool y, .bool z] 26))
      have r2 := Cs.later hw2 (q_r.alloc (.cells #[.string m, .int .i64 rc, .int .i64 rm, .int .i64 rh, .int .i64 lc, .int .i64 lm, .int .i64 lh, .bool x, .bool y, .bool z] 26))
      clear q_a q_p q_r hw2 HB hs ba c0 c1 c2 c3 c4 c5 c6 c7 c8 c9 C CC
      obtain ⟨A, hA⟩ : ∃ A : Nat → Int, A = fun i => T i j := ⟨_, rfl⟩
      obtain ⟨B, hB⟩ : ∃ B : Nat → Int, B = fun i => T i (j + 1) := ⟨_, rfl⟩
      obtain ⟨K, hK⟩ : ∃ K : Nat → Int, K = fun i => kn i ⟨m, rc, rm, rh, lc, lm, lh, x, y, z⟩ := ⟨_, rfl⟩
      have AB : Hid (∀ i, togV (A i) (K i) = B i) := fun i => by rw [hA, hB, hK]; exact (TN.out i).symm
      have KV : kctV rc rm lc lm lh = .agg #[.int .i64 (K 0), .int .i64 (K 1), .int .i64 (K 2), .int .i64 (K 3), .int .i64 (K 4)] := by rw [hK]; rfl
      have EB : Hid (row (mx A B 5) = row fun i => T i (j + 1)) := by unfold Hid; rw [hB]; rfl
      have a3 : Cs w2 w1.heap.size (row (mx A B 0)) := by rw [mx_zero, hA]; exact a2
      rw [KV]
      clear hA hB hK KV TN a2
      go_wp2_with (fail)
      refine (numbers_is (K 0) (K 1) (K 2) (K 3) (K 4) _).mono ?_
      rintro e w3 ⟨rfl, hw3⟩
      have HB3 : Below w.heap.size w w3 := HB2.trans (hw3.mono HB2.size)
      have a4 := Cs.later hw3 a3
      have p4 := Cs.later hw3 p2
      have r4 := Cs.later hw3 r2
      clear a3 p2 r2 hw3 HB2
      go_wp2
      go_loopw [22] (fun f wr => ∃ f' : Nat, f = .int .i64 f' ∧ f' ≤ 5 ∧ Cs wr w1.heap.size (row (mx A B f')) ∧ Cs wr w.heap.size [.string pn, .int .i64 pr, .int .i64 po, .slice (some ⟨b, off, none⟩) zs.length cap] ∧ Cs wr (w.heap.size + 1) [.int .i64 0, .int .i64 0, .int .i64 0, .int .i64 0, .int .i64 0] ∧ Below w.heap.size w wr) (fun f _ => 5 - (intOf f).toNat)
      case atStart => exact ⟨0, rfl, by omega, a4, p4, r4, HB3⟩
      case round =>
        clear a4 p4 r4 HB3
        obtain ⟨f, rfl, fl, q_a, q_p, q_r, HB⟩ := hrel
        have hs := HB.size
        have ba := q_a.2.2
        by_cases f5 : f = 5
        · subst f5
          rw [EB.out] at q_a
          clear EB AB
          go_wp2
          go_roundw
          case rel => exact ⟨j + 1, by go_num, by omega, q_a, q_p, q_r, HB⟩
          case measure => simp [intOf]; omega
        rcases (show f = 0 ∨ f = 1 ∨ f = 2 ∨ f = 3 ∨ f = 4 by omega) with rfl | rfl | rfl | rfl | rfl
        · have ix := num_ix0 (K 0) (K 1) (K 2) (K 3) (K 4)
          have ca : wr.cell? ⟨w1.heap.size, 0, none⟩ = some (.int .i64 (A 0)) := q_a.1 0 _ rfl
          have cf : wr.frozen? ⟨w1.heap.size, 0, none⟩ = false := q_a.2.1 0 (by simp)
          have E : togV (A 0) (K 0) = B 0 := AB.out 0
          go_wp2_with (fail)
          refine (together_is (A 0) (K 0) _).mono ?_
          rintro e w5 ⟨rfl, rfl⟩
          rw [E]
          have n_a : Cs (w5.setCell ⟨w1.heap.size, 0, none⟩ (.int .i64 (B 0))) w1.heap.size (row (mx A B 1)) := q_a.set 0 (.int .i64 (B 0)) (by simp)
          have n_p := Cs.beside q_p (b' := w1.heap.size) 0 (.int .i64 (B 0)) (by have := hsw1; omega)
          have n_r := Cs.beside q_r (b' := w1.heap.size) 0 (.int .i64 (B 0)) (by have := hsw1; omega)
          clear q_a q_p q_r E EB AB
          go_wp2
          go_roundw
          case rel => exact ⟨1, by go_num, by omega, n_a, n_p, n_r, by go_grown⟩
          case measure => simp [intOf]
        · have ix := num_ix1 (K 0) (K 1) (K 2) (K 3) (K 4)
          have ca : wr.cell? ⟨w1.heap.size, 1, none⟩ = some (.int .i64 (A 1)) := q_a.1 1 _ rfl
          have cf : wr.frozen? ⟨w1.heap.size, 1, none⟩ = false := q_a.2.1 1 (by simp)
          have E : togV (A 1) (K 1) = B 1 := AB.out 1
          go_wp2_with (fail)
          refine (together_is (A 1) (K 1) _).mono ?_
          rintro e w5 ⟨rfl, rfl⟩
          rw [E]
          have n_a : Cs (w5.setCell ⟨w1.heap.size, 1, none⟩ (.int .i64 (B 1))) w1.heap.size (row (mx A B 2)) := q_a.set 1 (.int .i64 (B 1)) (by simp)
          have n_p := Cs.beside q_p (b' := w1.heap.size) 1 (.int .i64 (B 1)) (by have := hsw1; omega)
          have n_r := Cs.beside q_r (b' := w1.heap.size) 1 (.int .i64 (B 1)) (by have := hsw1; omega)
          clear q_a q_p q_r E EB AB
          go_wp2
          go_roundw
          case rel => exact ⟨2, by go_num, by omega, n_a, n_p, n_r, by go_grown⟩
          case measure => simp [intOf]
        · have ix := num_ix2 (K 0) (K 1) (K 2) (K 3) (K 4)
          have ca : wr.cell? ⟨w1.heap.size, 2, none⟩ = some (.int .i64 (A 2)) := q_a.1 2 _ rfl
          have cf : wr.frozen? ⟨w1.heap.size, 2, none⟩ = false := q_a.2.1 2 (by simp)
          have E : togV (A 2) (K 2) = B 2 := AB.out 2
          go_wp2_with (fail)
          refine (together_is (A 2) (K 2) _).mono ?_
          rintro e w5 ⟨rfl, rfl⟩
          rw [E]
          have n_a : Cs (w5.setCell ⟨w1.heap.size, 2, none⟩ (.int .i64 (B 2))) w1.heap.size (row (mx A B 3)) := q_a.set 2 (.int .i64 (B 2)) (by simp)
          have n_p := Cs.beside q_p (b' := w1.heap.size) 2 (.int .i64 (B 2)) (by have := hsw1; omega)
          have n_r := Cs.beside q_r (b' := w1.heap.size) 2 (.int .i64 (B 2)) (by have := hsw1; omega)
          clear q_a q_p q_r E EB AB
          go_wp2
          go_roundw
          case rel => exact ⟨3, by go_num, by omega, n_a, n_p, n_r, by go_grown⟩
          case measure => simp [intOf]
        · have ix := num_ix3 (K 0) (K 1) (K 2) (K 3) (K 4)
          have ca : wr.cell? ⟨w1.heap.size, 3, none⟩ = some (.int .i64 (A 3)) := q_a.1 3 _ rfl
          have cf : wr.frozen? ⟨w1.heap.size, 3, none⟩ = false := q_a.2.1 3 (by simp)
          have E : togV (A 3) (K 3) = B 3 := AB.out 3
          go_wp2_with (fail)
          refine (together_is (A 3) (K 3) _).mono ?_
          rintro e w5 ⟨rfl, rfl⟩
          rw [E]
          have n_a : Cs (w5.setCell ⟨w1.heap.size, 3, none⟩ (.int .i64 (B 3))) w1.heap.size (row (mx A B 4)) := q_a.set 3 (.int .i64 (B 3)) (by simp)
          have n_p := Cs.beside q_p (b' := w1.heap.size) 3 (.int .i64 (B 3)) (by have := hsw1; omega)
          have n_r := Cs.beside q_r (b' := w1.heap.size) 3 (.int .i64 (B 3)) (by have := hsw1; omega)
          clear q_a q_p q_r E EB AB
          go_wp2
          go_roundw
          case rel => exact ⟨4, by go_num, by omega, n_a, n_p, n_r, by go_grown⟩
          case measure => simp [intOf]
        · have ix := num_ix4 (K 0) (K 1) (K 2) (K 3) (K 4)
          have ca : wr.cell? ⟨w1.heap.size, 4, none⟩ = some (.int .i64 (A 4)) := q_a.1 4 _ rfl
          have cf : wr.frozen? ⟨w1.heap.size, 4, none⟩ = false := q_a.2.1 4 (by simp)
          have E : togV (A 4) (K 4) = B 4 := AB.out 4
          go_wp2_with (fail)
          refine (together_is (A 4) (K 4) _).mono ?_
          rintro e w5 ⟨rfl, rfl⟩
          rw [E]
          have n_a : Cs (w5.setCell ⟨w1.heap.size, 4, none⟩ (.int .i64 (B 4))) w1.heap.size (row (mx A B 5)) := q_a.set 4 (.int .i64 (B 4)) (by simp)
          have n_p := Cs.beside q_p (b' := w1.heap.size) 4 (.int .i64 (B 4)) (by have := hsw1; omega)
          have n_r := Cs.beside q_r (b' := w1.heap.size) 4 (.int .i64 (B 4)) (by have := hsw1; omega)
          clear q_a q_p q_r E EB AB
          go_wp2
          go_roundw
          case rel => exact ⟨5, by go_num, by omega, n_a, n_p, n_r, by go_grown⟩
          case measure => simp [intOf]
    · obtain rfl : j = zs.length := by omega
      rw [show (row fun i => T i zs.length) = [.int .i64 (unl Ct.lc zs), .int .i64 (T 1 zs.length), .int .i64 (sm Ct.rm zs), .int .i64 (unl Ct.lm zs), .int .i64 (sm Ct.lh zs)] by rw [← TA.out.1, ← TA.out.2.1, ← TA.out.2.2.1, ← TA.out.2.2.2]] at q_a
      generalize T 1 zs.length = t1 at *
      have X' : Hid (R = .agg #[.int .i64 (unl Ct.lc zs), .int .i64 (wgt (sm Ct.rc zs)), .int .i64 (sm Ct.rm zs), .int .i64 (unl Ct.lm zs), .int .i64 (sm Ct.lh zs)]) := X.out
      generalize unl Ct.lc zs = k0 at *
      generalize unl Ct.lm zs = k3 at *
      have RZ : Hid (RdC wr (.slice a zs.length cap) zs) := HZ.out.later HB
      generalize sm Ct.rm zs = k2 at *
      generalize sm Ct.lh zs = k4 at *
      generalize sm Ct.rc zs = kc at *
      generalize sm Ct.rh zs = kh at *
      have p0 : wr.cell? ⟨w.heap.size, 0, none⟩ = some (.string pn) := q_p.1 0 _ rfl
      have p1 : wr.cell? ⟨w.heap.size, 1, none⟩ = some (.int .i64 pr) := q_p.1 1 _ rfl
      have p2 : wr.cell? ⟨w.heap.size, 2, none⟩ = some (.int .i64 po) := q_p.1 2 _ rfl
      have p3 : wr.cell? ⟨w.heap.size, 3, none⟩ = some (.slice a zs.length cap) := q_p.1 3 _ rfl
      have pz := q_p.2.2
      clear TA X
      go_wp2_with (fail)
      refine (SS.out _ (HL.out.later HB) RZ.out).mono ?_
      rintro e w2 ⟨rfl, hw2⟩
      have HB2 : Below w.heap.size w w2 := HB.trans (hw2.mono HB.size)
      have a2 := Cs.later hw2 q_a
      have r2 := Cs.later hw2 q_r
      clear SS RZ p0 p1 p2 p3 pz q_a q_p q_r hw2 HB hs ba
      have fd := vec_cpu kc k2 kh
      go_wp2_with (fail)
      refine (weight_is kc _).mono ?_
      rintro e w3 ⟨rfl, rfl⟩
      have f1 : w3.frozen? ⟨w1.heap.size, 1, none⟩ = false := a2.2.1 1 (by simp)
      have n1 : w3.cell? ⟨w1.heap.size, 1, none⟩ = some (.int .i64 t1) := a2.1 1 _ rfl
      have n0 : w3.cell? ⟨w1.heap.size, 0, none⟩ = some (.int .i64 k0) := a2.1 0 _ rfl
      have n2 : w3.cell? ⟨w1.heap.size, 2, none⟩ = some (.int .i64 k2) := a2.1 2 _ rfl
      have n3 : w3.cell? ⟨w1.heap.size, 3, none⟩ = some (.int .i64 k3) := a2.1 3 _ rfl
      have n4 : w3.cell? ⟨w1.heap.size, 4, none⟩ = some (.int .i64 k4) := a2.1 4 _ rfl
      have nz := a2.2.2
      have hs := HB2.size
      have w1s : w.heap.size + 1 < w1.heap.size := by have := hsw1; omega
      go_wp2_with (fail)
      refine (of_is k0 (wgt kc) k2 k3 k4 _).mono ?_
      rintro e w4 ⟨rfl, hw4⟩
      have HB4 : Below w.heap.size w w4 := Below.trans (show Below w.heap.size w _ by go_grown) (hw4.mono (by simp; omega))
      have q_4 : Cs w4 (w.heap.size + 1) [.int .i64 0, .int .i64 0, .int .i64 0, .int .i64 0, .int .i64 0] := Cs.later hw4 (Cs.beside r2 _ _ (by omega))
      clear a2 r2 n0 n1 n2 n3 n4 f1 nz hw4 HB2
      have r0 : w4.cell? ⟨w.heap.size + 1, 0, none⟩ = some (.int .i64 0) := q_4.1 0 _ rfl
      have r1 : w4.cell? ⟨w.heap.size + 1, 1, none⟩ = some (.int .i64 0) := q_4.1 1 _ rfl
      have r2 : w4.cell? ⟨w.heap.size + 1, 2, none⟩ = some (.int .i64 0) := q_4.1 2 _ rfl
      have r3 : w4.cell? ⟨w.heap.size + 1, 3, none⟩ = some (.int .i64 0) := q_4.1 3 _ rfl
      have r4 : w4.cell? ⟨w.heap.size + 1, 4, none⟩ = some (.int .i64 0) := q_4.1 4 _ rfl
      have rF0 : w4.frozen? ⟨w.heap.size + 1, 0, none⟩ = false := q_4.2.1 0 (by simp)
      have rF1 : w4.frozen? ⟨w.heap.size + 1, 1, none⟩ = false := q_4.2.1 1 (by simp)
      have rF2 : w4.frozen? ⟨w.heap.size + 1, 2, none⟩ = false := q_4.2.1 2 (by simp)
      have rF3 : w4.frozen? ⟨w.heap.size + 1, 3, none⟩ = false := q_4.2.1 3 (by simp)
      have rF4 : w4.frozen? ⟨w.heap.size + 1, 4, none⟩ = false := q_4.2.1 4 (by simp)
      have rz : w.heap.size + 1 < w4.heap.size := q_4.2.2
      clear q_4
      go_wp2
      refine bodyPost_ret (v := R) (by rw [X'.out]; simp [results, Tryd.results12, go_sem, r0, r1, r2, r3, r4]) rfl ⟨rfl, by go_grown⟩

end Go.Proofs.YtaeejemknmjglaaDoor.Sp
