/-
  The document's Parse of a vector's text, at this program. Conditions: the text has at most 300 letters.
-/
import Derived.Test.YtpbgolcimbjekaaGreatDoorQ37
import Derived.Test.YtpbgolcimbjekaaGreatDoorQ21
namespace Go.Proofs.YtpbgolcimbjekaaGreatDoor
open Go.RowKit

/-- Four numbers lie in a block, and may be written. -/
def Bx4 (W : World) (b : Nat) (c m h t : Int) : Prop := (W.cell? ⟨b, 0, none⟩ = some (.int .i64 c) ∧ W.cell? ⟨b, 1, none⟩ = some (.int .i64 m) ∧ W.cell? ⟨b, 2, none⟩ = some (.int .i64 h) ∧ W.cell? ⟨b, 3, none⟩ = some (.int .i64 t)) ∧ W.frozen? ⟨b, 0, none⟩ = false ∧ W.frozen? ⟨b, 1, none⟩ = false ∧ W.frozen? ⟨b, 2, none⟩ = false ∧ b < W.heap.size
theorem Bx4.later {W w1 : World} {b : Nat} {c m h t : Int} (hb : Below W.heap.size W w1) (k : Bx4 W b c m h t) : Bx4 w1 b c m h t := by
  obtain ⟨⟨c0, c1, c2, c3⟩, f0, f1, f2, z⟩ := k
  have := hb.size
  obtain ⟨_, hf⟩ := bcell hb
  exact ⟨⟨cell_later hb c0, cell_later hb c1, cell_later hb c2, cell_later hb c3⟩, (hf _ _ z).trans f0, (hf _ _ z).trans f1, (hf _ _ z).trans f2, by omega⟩
theorem Bx4.alloc {W : World} {b : Nat} {c m h t : Int} (k : Bx4 W b c m h t) (o : Obj) : Bx4 (W.alloc o) b c m h t := Bx4.later ((Below.refl _ _).alloc (Nat.le_refl _) o) k
theorem Bx4.new (W : World) (b : Nat) (c m h t : Int) (ty : TypeId) (e : b = W.heap.size) : Bx4 (W.alloc (.cells #[.int .i64 c, .int .i64 m, .int .i64 h, .int .i64 t] ty)) b c m h t := by
  subst e
  exact ⟨⟨by simp [go_sem], by simp [go_sem], by simp [go_sem], by simp [go_sem]⟩, by simp [go_sem], by simp [go_sem], by simp [go_sem], by simp⟩
theorem Bx4.beside {W : World} {b b' : Nat} {c m h t : Int} (k : Bx4 W b c m h t) (i : Nat) (x : Value) (e : b ≠ b') : Bx4 (W.setCell ⟨b', i, none⟩ x) b c m h t := by
  obtain ⟨⟨c0, c1, c2, c3⟩, f0, f1, f2, z⟩ := k
  exact ⟨⟨by simp [go_sem, c0], by simp [go_sem, c1], by simp [go_sem, c2], by simp [go_sem, c3]⟩, by simp [go_sem, f0], by simp [go_sem, f1], by simp [go_sem, f2], by simpa using z⟩
theorem Bx4.put0 {W : World} {b : Nat} {c m h t : Int} (k : Bx4 W b c m h t) (x : Int) : Bx4 (W.setCell ⟨b, 0, none⟩ (.int .i64 x)) b x m h t := by
  obtain ⟨⟨c0, c1, c2, c3⟩, f0, f1, f2, z⟩ := k
  exact ⟨⟨by simp [go_sem, c0], by simp [go_sem, c1], by simp [go_sem, c2], by simp [go_sem, c3]⟩, by simp [go_sem, f0], by simp [go_sem, f1], by simp [go_sem, f2], by simpa using z⟩
theorem Bx4.put1 {W : World} {b : Nat} {c m h t : Int} (k : Bx4 W b c m h t) (x : Int) : Bx4 (W.setCell ⟨b, 1, none⟩ (.int .i64 x)) b c x h t := by
  obtain ⟨⟨c0, c1, c2, c3⟩, f0, f1, f2, z⟩ := k
  exact ⟨⟨by simp [go_sem, c0], by simp [go_sem, c1], by simp [go_sem, c2], by simp [go_sem, c3]⟩, by simp [go_sem, f0], by simp [go_sem, f1], by simp [go_sem, f2], by simpa using z⟩
theorem Bx4.put2 {W : World} {b : Nat} {c m h t : Int} (k : Bx4 W b c m h t) (x : Int) : Bx4 (W.setCell ⟨b, 2, none⟩ (.int .i64 x)) b c m x t := by
  obtain ⟨⟨c0, c1, c2, c3⟩, f0, f1, f2, z⟩ := k
  exact ⟨⟨by simp [go_sem, c0], by simp [go_sem, c1], by simp [go_sem, c2], by simp [go_sem, c3]⟩, by simp [go_sem, f0], by simp [go_sem, f1], by simp [go_sem, f2], by simpa using z⟩
theorem Bx3.beside' {W : World} {b b' : Nat} {c m h : Int} (k : Bx3 W b c m h) (i : Nat) (x : Value) (e : b ≠ b') : Bx3 (W.setCell ⟨b', i, none⟩ x) b c m h := k.beside i x e

theorem segs_len : ∀ (l : List UInt8), ∀ p ∈ segs l, p.length ≤ l.length
  | [], p, h => by simp [segs] at h; subst h; simp
  | c :: r, p, h => by
    have ih := segs_len r
    rw [segs] at h
    split at h
    · rcases List.mem_cons.1 h with rfl | h
      · simp
      · have := ih p h; simp; omega
    · rw [segs_cut r] at h ih
      rcases List.mem_cons.1 h with rfl | h
      · have := ih (cutAt 44 r).1 (by simp)
        simp; omega
      · have := ih p (by simp at h ⊢; exact Or.inr h)
        simp; omega

/-- So often was each there. -/
def cnt (b : Bool) : Int := if b = true then 1 else 0
/-- What a round leaves: nothing, the vector so far, how often each was there, the parts. -/
def PR (w W : World) (v : Int × Int × Int) (t : Bool × Bool × Bool) (o : Value) (os : List ByteArray) : Prop := Bx3 W w.heap.size 0 0 0 ∧ Bx4 W (w.heap.size + 1) v.1 v.2.1 v.2.2 0 ∧ Bx4 W (w.heap.size + 2) (cnt t.1) (cnt t.2.1) (cnt t.2.2) 0 ∧ Own W (w.heap.size + 3) o os ∧ Below w.heap.size w W
theorem PR.later {w W w1 : World} {v : Int × Int × Int} {t : Bool × Bool × Bool} {o : Value} {os : List ByteArray} (k : PR w W v t o os) (hb : Below W.heap.size W w1) : PR w w1 v t o os :=
  ⟨k.1.later hb, k.2.1.later hb, k.2.2.1.later hb, k.2.2.2.1.later hb, k.2.2.2.2.trans (hb.mono k.2.2.2.2.size)⟩
theorem Own.beside {W : World} {base b : Nat} {o : Value} {os : List ByteArray} (h : Own W base o os) (hb : b < base) (i : Nat) (x : Value) : Own (W.setCell ⟨b, i, none⟩ x) base o os := ownsRow_setCell_below h (by exact hb) x
theorem Own.cell {W : World} {base : Nat} {o : Value} {os : List ByteArray} (h : Own W base o os) {j : Nat} {x : ByteArray} (hj : os[j]? = some x) : ∃ g cap : Nat, o = .slice (some ⟨g, 0, none⟩) os.length cap ∧ os.length ≤ cap ∧ W.cell? ⟨g, j, none⟩ = some (.string x) := by
  obtain ⟨g, cap, e, h1, -, h3⟩ := h.join (fun e => by subst e; simp at hj)
  exact ⟨g, cap, e, h1, by have := h3 j x hj; rwa [Nat.zero_add] at this⟩

theorem runs_stop {v : Int × Int × Int} {t : Bool × Bool × Bool} {p : List UInt8} {ps : List (List UInt8)} {r : Nat} {n e : Int} (h : partR p = (r, n, e)) (hr : r < 3) (ht : thr t r = true) : runs v t (p :: ps) = ((0, 0, 0), 11) := by
  unfold partR at h
  cases hc : (cutAt 61 p).2 with
  | none => exact runs_cut hc
  | some q =>
    cases hn : resL (cutAt 61 p).1 with
    | none => exact runs_res hc hn
    | some k =>
      rw [hc, hn] at h
      injection h with h1 h2
      subst h1
      exact runs_thr hc hn ht
theorem runs_fail {v : Int × Int × Int} {t : Bool × Bool × Bool} {p : List UInt8} {ps : List (List UInt8)} {r : Nat} {n e : Int} (h : partR p = (r, n, e)) (ht : ¬ (r < 3 ∧ thr t r = true)) (he : e ≠ 0) : runs v t (p :: ps) = ((0, 0, 0), e) := by
  unfold partR at h
  cases hc : (cutAt 61 p).2 with
  | none =>
    rw [hc] at h
    injection h with h1 h2
    injection h2 with h2 h3
    rw [runs_cut hc, ← h3]
  | some q =>
    cases hn : resL (cutAt 61 p).1 with
    | none =>
      rw [hc, hn] at h
      injection h with h1 h2
      injection h2 with h2 h3
      rw [runs_res hc hn, ← h3]
    | some k =>
      rw [hc, hn] at h
      injection h with h1 h2
      subst h1
      have k3 : k < 3 := by rcases res_cases (cutAt 61 p).1 with e | e | e | e <;> rw [e] at hn <;> simp at hn <;> omega
      exact runs_err hc hn (by cases q : thr t k with | false => rfl | true => exact absurd ⟨k3, q⟩ ht) h2 he
theorem runs_more {v : Int × Int × Int} {t : Bool × Bool × Bool} {p : List UInt8} {ps : List (List UInt8)} {r : Nat} {n : Int} (h : partR p = (r, n, 0)) (ht : ¬ (r < 3 ∧ thr t r = true)) : r < 3 ∧ runs v t (p :: ps) = runs (withv v.1 v.2.1 v.2.2 r n) (sett t r) ps := by
  unfold partR at h
  cases hc : (cutAt 61 p).2 with
  | none =>
    rw [hc] at h
    injection h with h1 h2
    injection h2 with h2 h3
    simp at h3
  | some q =>
    cases hn : resL (cutAt 61 p).1 with
    | none =>
      rw [hc, hn] at h
      injection h with h1 h2
      injection h2 with h2 h3
      simp at h3
    | some k =>
      rw [hc, hn] at h
      injection h with h1 h2
      subst h1
      have k3 : k < 3 := by rcases res_cases (cutAt 61 p).1 with e | e | e | e <;> rw [e] at hn <;> simp at hn <;> omega
      exact ⟨k3, runs_on hc hn (by cases q : thr t k with | false => rfl | true => exact absurd ⟨k3, q⟩ ht) h2⟩
theorem partR_lt (p : List UInt8) : (partR p).1 < 4 := by
  unfold partR
  have hh := res_cases (cutAt 61 p).1
  split
  · rcases hh with e | e | e | e <;> rw [e] <;> simp
  · rcases hh with e | e | e | e <;> rw [e] <;> simp

set_option maxHeartbeats 2000000 in
theorem rvparse_none (w : World) : Calls Tryz.prog 8 #[.string ⟨#[]⟩] w fun e w' => e = .returned (.tuple #[.agg #[.int .i64 0, .int .i64 0, .int .i64 0], .int .i64 10]) ∧ Below w.heap.size w w' := by
  go_enter Tryz.func8, Tryz.ntmps8
  go_wp2
  go_returns
  exact ⟨rfl, by go_grown⟩

set_option maxHeartbeats 2000000 in
theorem rvparse_dash (w : World) : Calls Tryz.prog 8 #[.string ⟨#[45]⟩] w fun e w' => e = .returned (.tuple #[.agg #[.int .i64 0, .int .i64 0, .int .i64 0], .int .i64 0]) ∧ Below w.heap.size w w' := by
  go_enter Tryz.func8, Tryz.ntmps8
  go_wp2
  go_returns
  exact ⟨rfl, by go_grown⟩

set_option maxHeartbeats 8000000 in
set_option maxRecDepth 100000 in
theorem rvparse_some (s : ByteArray) (hm : s.size ≤ 300) (w : World) (n1 : s.data.toList ≠ []) (n2 : s.data.toList ≠ [45]) :
    Calls Tryz.prog 8 #[.string s] w fun e w' => e = .returned (vev (runs (0, 0, 0) (false, false, false) (segs s.data.toList))) ∧ Below w.heap.size w w' := by
  obtain ⟨R, hR⟩ : ∃ R, R = runs (0, 0, 0) (false, false, false) (segs s.data.toList) := ⟨_, rfl⟩
  rw [← hR]
  have HR : Hid (R = runs (0, 0, 0) (false, false, false) (segs s.data.toList)) := hR
  have g1 : (s.toList == ([] : List UInt8)) = false := by rw [ByteArray.toList_eq, beq_dec]; exact decide_eq_false n1
  have g2 : (s.toList == [45]) = false := by rw [ByteArray.toList_eq, beq_dec]; exact decide_eq_false n2
  have g3 : s.toList.isEmpty = false := by rw [empty_iff]; exact decide_eq_false n1
  have HM : Hid (s.size ≤ 300) := hm
  have SL : Hid (∀ p ∈ segs s.data.toList, p.length ≤ 300) := fun p hp => Nat.le_trans (segs_len _ p hp) (by rw [ba_len]; exact hm)
  clear hR n1 n2 hm
  go_enter Tryz.func8, Tryz.ntmps8
  go_wp2_with (fail)
  refine (split_is s HM.out _).mono ?_
  rintro e w1 ⟨o, os, rfl, hown, hos, hol, hw1⟩
  have OS : Hid (os.map (·.data.toList) = segs s.data.toList) := hos
  have KP : Hid (PR w w1 (0, 0, 0) (false, false, false) o os) := ⟨Bx3.later hw1 (((Bx3.new _ _ _ _ _ _ rfl).alloc _).alloc _), Bx4.later hw1 ((Bx4.new _ _ _ _ _ _ _ (by simp)).alloc _), Bx4.later hw1 (Bx4.new _ _ _ _ _ _ _ (by simp)), by simpa using hown, Below.trans (by go_grown) (hw1.mono (by simp; omega))⟩
  have OL : ∃ (a : Option Addr) (cap : Nat), o = .slice a os.length cap := by
    by_cases z : os = []
    · subst z
      obtain ⟨-, ⟨rfl, _⟩ | ⟨g, cap, cur, rfl, _⟩⟩ := hown
      · exact ⟨none, 0, rfl⟩
      · exact ⟨_, cap, rfl⟩
    · obtain ⟨g, cap, rfl, _⟩ := hown.join z
      exact ⟨_, cap, rfl⟩
  obtain ⟨oa, ocap, rfl⟩ := OL
  clear hos hown hw1 g1 g2 g3
  have H0 : Hid (R = runs (0, 0, 0) (false, false, false) ((os.drop 0).map (·.data.toList))) := by unfold Hid; rw [HR.out, List.drop_zero, OS.out]
  have SZ : Hid (∀ x ∈ os, x.size ≤ 300) := fun x hx => by
    have := SL.out x.data.toList (by rw [← OS.out]; exact List.mem_map_of_mem hx)
    rwa [ba_len] at this
  clear HR SL OS HM
  go_wp2
  go_loopw [20] (fun f wr => ∃ (j : Nat) (v : Int × Int × Int) (t : Bool × Bool × Bool), f = .int .i64 j ∧ j ≤ os.length ∧ Hid (R = runs v t ((os.drop j).map (·.data.toList))) ∧ Hid (PR w wr v t (.slice oa os.length ocap) os)) (fun f _ => os.length - (intOf f).toNat)
  case atStart => exact ⟨0, (0, 0, 0), (false, false, false), rfl, by omega, H0, KP⟩
  case round =>
    clear H0 KP
    obtain ⟨j, ⟨vc, vm, vh⟩, ⟨tc, tm, th⟩, rfl, jl, RR, K⟩ := hrel
    by_cases cj : j < os.length
    · obtain ⟨x, hx⟩ : ∃ x, os[j]? = some x := ⟨os[j], List.getElem?_eq_getElem cj⟩
      obtain ⟨g, cap, e1, h1, cell⟩ := K.out.2.2.2.1.cell hx
      injection e1 with e1 e2 e3
      subst e1 e3
      have XM : Hid (x.size ≤ 300) := SZ.out x (List.mem_of_getElem? hx)
      have R1 : Hid (R = runs (vc, vm, vh) (tc, tm, th) (x.data.toList :: (os.drop (j + 1)).map (·.data.toList))) := by
        unfold Hid
        rw [RR.out, List.drop_eq_getElem_cons cj, show os[j] = x from (List.getElem?_eq_some_iff.1 hx).2]
        rfl
      have j0 : (0 : Int) ≤ (j : Int) := by omega
      have j1 : (j : Int) < (os.length : Int) := by omega
      clear RR hx
      go_wp2_with (fail)
      refine (part_is x XM.out _).mono ?_
      rintro e w2 ⟨rfl, hw2⟩
      obtain ⟨⟨r, n, y⟩, hp⟩ : ∃ p, p = partR x.data.toList := ⟨_, rfl⟩
      rw [← hp, show rne (r, n, y) = .tuple #[.int .i64 (r : Int), .int .i64 n, .int .i64 y] from rfl]
      have PP : Hid (partR x.data.toList = (r, n, y)) := hp.symm
      have r4 : r < 4 := by have := partR_lt x.data.toList; rw [← hp] at this; exact this
      have K2 : Hid (PR w w2 (vc, vm, vh) (tc, tm, th) (.slice (some ⟨g, 0, none⟩) os.length ocap) os) := K.out.later hw2
      clear hp K hw2 cell
      obtain ⟨⟨a0, a1, a2, a3, a4, a5, a6⟩, ⟨⟨p0, p1, p2, p3⟩, p4, p5, p6, p7⟩, ⟨⟨s0, s1, s2, s3⟩, s4, s5, s6, s7⟩, -, HB⟩ := K2.out
      simp only at p0 p1 p2 s0 s1 s2
      have nb : w.heap.size + 2 < w2.heap.size := s7
      match r, r4, PP with
      | 3, _, PP =>
        have y0 : y ≠ 0 := fun h => by subst h; have := (runs_more (v := (0, 0, 0)) (t := (false, false, false)) (ps := []) PP.out (by omega)).1; omega
        have X : Hid (R = ((0, 0, 0), y)) := by unfold Hid; rw [R1.out, runs_fail PP.out (by omega) y0]
        have y1 : (y != 0) = true := by simp [y0]
        clear R1 PP K2 y0
        go_wp2
        refine bodyPost_ret (v := .tuple #[.agg #[.int .i64 0, .int .i64 0, .int .i64 0], .int .i64 y]) (by simp [results, Tryz.results8, go_sem, a0, a1, a2]) rfl ?_
        exact ⟨by rw [X.out]; rfl, by go_grown⟩
      | 0, _, PP =>
        cases tc with
        | true =>
          have X : Hid (R = ((0, 0, 0), 11)) := by unfold Hid; rw [R1.out, runs_stop PP.out (by omega) rfl]
          rw [show cnt true = 1 from rfl] at s0
          clear R1 PP K2
          go_wp2
          refine bodyPost_ret (v := .tuple #[.agg #[.int .i64 0, .int .i64 0, .int .i64 0], .int .i64 11]) (by simp [results, Tryz.results8, go_sem, a0, a1, a2]) rfl ?_
          exact ⟨by rw [X.out]; rfl, by go_grown⟩
        | false =>
          rw [show cnt false = 0 from rfl] at s0
          have NT : ¬ (0 < 3 ∧ thr (false, tm, th) 0 = true) := fun h => Bool.noConfusion h.2
          by_cases y0 : y = 0
          · subst y0
            have R2 : Hid (R = runs (n, vm, vh) (true, tm, th) ((os.drop (j + 1)).map (·.data.toList))) := by unfold Hid; rw [R1.out, (runs_more PP.out NT).2]; rfl
            have K3 : Hid (PR w ((w2.setCell ⟨w.heap.size + 2, 0, none⟩ (.int .i64 1)).setCell ⟨w.heap.size + 1, 0, none⟩ (.int .i64 n)) (n, vm, vh) (true, tm, th) (.slice (some ⟨g, 0, none⟩) os.length ocap) os) :=
              ⟨(K2.out.1.beside _ _ (by omega)).beside _ _ (by omega), (K2.out.2.1.beside _ _ (by omega)).put0 n, (K2.out.2.2.1.put0 1).beside _ _ (by omega), (K2.out.2.2.2.1.beside (by omega) _ _).beside (by omega) _ _, (HB.setCell (by show w.heap.size ≤ w.heap.size + 2; omega) _).setCell (by show w.heap.size ≤ w.heap.size + 1; omega) _⟩
            clear R1 PP K2 NT
            go_wp2
            go_roundw
            case rel => exact ⟨j + 1, (n, vm, vh), (true, tm, th), by go_num, by omega, R2, K3⟩
            case measure => simp [intOf]; omega
          · have X : Hid (R = ((0, 0, 0), y)) := by unfold Hid; rw [R1.out, runs_fail PP.out NT y0]
            have y1 : (y != 0) = true := by simp [y0]
            clear R1 PP K2 y0 NT
            go_wp2
            refine bodyPost_ret (v := .tuple #[.agg #[.int .i64 0, .int .i64 0, .int .i64 0], .int .i64 y]) (by simp [results, Tryz.results8, go_sem, a0, a1, a2]) rfl ?_
            exact ⟨by rw [X.out]; rfl, by go_grown⟩
      | 1, _, PP =>
        cases tm with
        | true =>
          have X : Hid (R = ((0, 0, 0), 11)) := by unfold Hid; rw [R1.out, runs_stop PP.out (by omega) rfl]
          rw [show cnt true = 1 from rfl] at s1
          clear R1 PP K2
          go_wp2
          refine bodyPost_ret (v := .tuple #[.agg #[.int .i64 0, .int .i64 0, .int .i64 0], .int .i64 11]) (by simp [results, Tryz.results8, go_sem, a0, a1, a2]) rfl ?_
          exact ⟨by rw [X.out]; rfl, by go_grown⟩
        | false =>
          rw [show cnt false = 0 from rfl] at s1
          have NT : ¬ (1 < 3 ∧ thr (tc, false, th) 1 = true) := fun h => Bool.noConfusion h.2
          by_cases y0 : y = 0
          · subst y0
            have R2 : Hid (R = runs (vc, n, vh) (tc, true, th) ((os.drop (j + 1)).map (·.data.toList))) := by unfold Hid; rw [R1.out, (runs_more PP.out NT).2]; rfl
            have K3 : Hid (PR w ((w2.setCell ⟨w.heap.size + 2, 1, none⟩ (.int .i64 1)).setCell ⟨w.heap.size + 1, 1, none⟩ (.int .i64 n)) (vc, n, vh) (tc, true, th) (.slice (some ⟨g, 0, none⟩) os.length ocap) os) :=
              ⟨(K2.out.1.beside _ _ (by omega)).beside _ _ (by omega), (K2.out.2.1.beside _ _ (by omega)).put1 n, (K2.out.2.2.1.put1 1).beside _ _ (by omega), (K2.out.2.2.2.1.beside (by omega) _ _).beside (by omega) _ _, (HB.setCell (by show w.heap.size ≤ w.heap.size + 2; omega) _).setCell (by show w.heap.size ≤ w.heap.size + 1; omega) _⟩
            clear R1 PP K2 NT
            go_wp2
            go_roundw
            case rel => exact ⟨j + 1, (vc, n, vh), (tc, true, th), by go_num, by omega, R2, K3⟩
            case measure => simp [intOf]; omega
          · have X : Hid (R = ((0, 0, 0), y)) := by unfold Hid; rw [R1.out, runs_fail PP.out NT y0]
            have y1 : (y != 0) = true := by simp [y0]
            clear R1 PP K2 y0 NT
            go_wp2
            refine bodyPost_ret (v := .tuple #[.agg #[.int .i64 0, .int .i64 0, .int .i64 0], .int .i64 y]) (by simp [results, Tryz.results8, go_sem, a0, a1, a2]) rfl ?_
            exact ⟨by rw [X.out]; rfl, by go_grown⟩
      | 2, _, PP =>
        cases th with
        | true =>
          have X : Hid (R = ((0, 0, 0), 11)) := by unfold Hid; rw [R1.out, runs_stop PP.out (by omega) rfl]
          rw [show cnt true = 1 from rfl] at s2
          clear R1 PP K2
          go_wp2
          refine bodyPost_ret (v := .tuple #[.agg #[.int .i64 0, .int .i64 0, .int .i64 0], .int .i64 11]) (by simp [results, Tryz.results8, go_sem, a0, a1, a2]) rfl ?_
          exact ⟨by rw [X.out]; rfl, by go_grown⟩
        | false =>
          rw [show cnt false = 0 from rfl] at s2
          have NT : ¬ (2 < 3 ∧ thr (tc, tm, false) 2 = true) := fun h => Bool.noConfusion h.2
          by_cases y0 : y = 0
          · subst y0
            have R2 : Hid (R = runs (vc, vm, n) (tc, tm, true) ((os.drop (j + 1)).map (·.data.toList))) := by unfold Hid; rw [R1.out, (runs_more PP.out NT).2]; rfl
            have K3 : Hid (PR w ((w2.setCell ⟨w.heap.size + 2, 2, none⟩ (.int .i64 1)).setCell ⟨w.heap.size + 1, 2, none⟩ (.int .i64 n)) (vc, vm, n) (tc, tm, true) (.slice (some ⟨g, 0, none⟩) os.length ocap) os) :=
              ⟨(K2.out.1.beside _ _ (by omega)).beside _ _ (by omega), (K2.out.2.1.beside _ _ (by omega)).put2 n, (K2.out.2.2.1.put2 1).beside _ _ (by omega), (K2.out.2.2.2.1.beside (by omega) _ _).beside (by omega) _ _, (HB.setCell (by show w.heap.size ≤ w.heap.size + 2; omega) _).setCell (by show w.heap.size ≤ w.heap.size + 1; omega) _⟩
            clear R1 PP K2 NT
            go_wp2
            go_roundw
            case rel => exact ⟨j + 1, (vc, vm, n), (tc, tm, true), by go_num, by omega, R2, K3⟩
            case measure => simp [intOf]; omega
          · have X : Hid (R = ((0, 0, 0), y)) := by unfold Hid; rw [R1.out, runs_fail PP.out NT y0]
            have y1 : (y != 0) = true := by simp [y0]
            clear R1 PP K2 y0 NT
            go_wp2
            refine bodyPost_ret (v := .tuple #[.agg #[.int .i64 0, .int .i64 0, .int .i64 0], .int .i64 y]) (by simp [results, Tryz.results8, go_sem, a0, a1, a2]) rfl ?_
            exact ⟨by rw [X.out]; rfl, by go_grown⟩
    · obtain rfl : j = os.length := by omega
      have X : Hid (R = ((vc, vm, vh), 0)) := by unfold Hid; rw [RR.out, List.drop_length]; rfl
      obtain ⟨⟨a0, a1, a2, a3, a4, a5, a6⟩, ⟨⟨p0, p1, p2, p3⟩, p4, p5, p6, p7⟩, -, -, HB⟩ := K.out
      simp only at p0 p1 p2
      have nb : w.heap.size + 1 < wr.heap.size := p7
      clear RR K
      go_wp2
      refine bodyPost_ret (v := .tuple #[.agg #[.int .i64 vc, .int .i64 vm, .int .i64 vh], .int .i64 0]) (by simp [results, Tryz.results8, go_sem, a0, a1, a2]) rfl ?_
      exact ⟨by rw [X.out]; rfl, by go_grown⟩

theorem rvparse_is (s : ByteArray) (hm : s.size ≤ 300) (w : World) :
    Calls Tryz.prog 8 #[.string s] w fun e w' => e = .returned (vev (parseV s.data.toList)) ∧ Below w.heap.size w w' := by
  unfold parseV
  by_cases a : s.data.toList = []
  · rw [if_pos a]
    obtain rfl := ba_eq a
    exact rvparse_none w
  by_cases b : s.data.toList = [45]
  · rw [if_neg a, if_pos b]
    obtain rfl := ba_eq b
    exact rvparse_dash w
  · rw [if_neg a, if_neg b]
    exact rvparse_some s hm w a b

end Go.Proofs.YtpbgolcimbjekaaGreatDoor
