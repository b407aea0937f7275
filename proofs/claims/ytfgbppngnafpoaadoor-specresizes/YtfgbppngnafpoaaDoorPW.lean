/-
  SpecNames of this program: true for every text and every container. Conditions: the tables of the program lie as its text lays them; the two texts' lengths fit the machine.
-/
import Derived.Test.YtfgbppngnafpoaaDoorPV
namespace Go.Proofs.YtfgbppngnafpoaaDoor.Sp
open Go.RowKit

/-- These blocks lie, and the tables. -/
def LT (w : World) (bs : List (Nat × List Value)) (W : World) : Prop := Lies w bs W ∧ LaidS W
theorem LT.later {w W w1 : World} {bs : List (Nat × List Value)} (h : LT w bs W) (hb : Below W.heap.size W w1) : LT w bs w1 := ⟨h.1.later hb, h.2.later hb⟩
theorem LT.drew {w W : World} {bs : List (Nat × List Value)} (h : LT w bs W) : LT w bs W.drew := h.later (Below.refl _ _).drew

set_option maxHeartbeats 4000000 in
set_option maxRecDepth 100000 in
theorem specNames_any (s : ByteArray) (hs : s.size ≤ maxLen) (m rc rm rh lc lm lh x y z) (hm : m.size ≤ maxLen) (w : World) (hL : LaidS w) :
    Calls Tryd.prog 3 #[.string s, .agg #[.string m, .int .i64 rc, .int .i64 rm, .int .i64 rh, .int .i64 lc, .int .i64 lm, .int .i64 lh, .bool x, .bool y, .bool z]] w fun e w' => e = .returned (.bool true) ∧ Below w.heap.size w w' := by
  have HL : Hid (LaidS w) := hL
  have HS : Hid (s.size ≤ maxLen ∧ m.size ≤ maxLen) := ⟨hs, hm⟩
  clear hL
  unfold maxLen at hs hm
  go_enter Tryd.func3, Tryd.ntmps3
  go_wp2_with (fail)
  refine (sfirst_is _ (HL.out.alloc _)).mono ?_
  rintro e w1 ⟨rfl, hw1⟩
  have K1 : Hid (LT w [(w.heap.size, [.string m, .int .i64 rc, .int .i64 rm, .int .i64 rh, .int .i64 lc, .int .i64 lm, .int .i64 lh, .bool x, .bool y, .bool z])] w1) := ⟨⟨fun x hx => by simp at hx; subst hx; exact Cs.later hw1 (by repeat (first | assumption | (refine Cs.new _ _ _ _ ?_; simp; done) | refine Cs.alloc ?_ _ | refine Cs.drew ?_ | (refine Cs.beside ?_ _ _ (by omega)))), Below.trans (show Below w.heap.size w _ by go_grown) (hw1.mono (by simp))⟩, (HL.out.alloc _).later hw1⟩
  clear hw1
  have q_c := K1.out.1.get 0 rfl
  have HB := K1.out.1.2
  have hs1 := HB.size
  have c0 : w1.cell? ⟨w.heap.size, 0, none⟩ = some (.string m) := q_c.1 0 _ rfl
  by_cases l1 : (300 : Int) < (s.size : Int)
  · go_wp2
    go_ret
    exact ⟨rfl, HB⟩
  by_cases l2 : (300 : Int) < (m.size : Int)
  · go_wp2
    go_ret
    exact ⟨rfl, HB⟩
  obtain ⟨g1, hg1⟩ : ∃ g, nameB s = g := ⟨_, rfl⟩
  obtain ⟨g2, hg2⟩ : ∃ g, ctB m rc rm rh lc lm lh = g := ⟨_, rfl⟩
  have CA : Hid (∀ w, Calls Tryd.prog 9 #[.string s] w fun e w' => e = .returned (.bool g1) ∧ Below w.heap.size w w') := fun w => by
    have := name_is s HS.out.1 w
    rw [hg1] at this
    exact this.mono fun e w' ⟨h1, h2⟩ => ⟨h1, by rw [h2]; exact Below.refl _ _⟩
  have CB : Hid (∀ w, Calls Tryd.prog 10 #[.string s] w fun e w' => e = .returned (.bool g1) ∧ Below w.heap.size w w') := fun w => by
    have := refName_is s HS.out.1 w
    rw [hg1] at this
    exact this.mono fun e w' ⟨h1, h2⟩ => ⟨h1, by rw [h2]; exact Below.refl _ _⟩
  have CC : Hid (∀ w, LaidS w → Calls Tryd.prog 11 #[.agg #[.string m, .int .i64 rc, .int .i64 rm, .int .i64 rh, .int .i64 lc, .int .i64 lm, .int .i64 lh, .bool x, .bool y, .bool z]] w fun e w' => e = .returned (.bool g2) ∧ Below w.heap.size w w') := fun w hL => by
    have := container_is m rc rm rh lc lm lh x y z HS.out.2 w hL
    rwa [hg2] at this
  have CD : Hid (∀ w, Calls Tryd.prog 12 #[.agg #[.string m, .int .i64 rc, .int .i64 rm, .int .i64 rh, .int .i64 lc, .int .i64 lm, .int .i64 lh, .bool x, .bool y, .bool z]] w fun e w' => e = .returned (.bool g2) ∧ Below w.heap.size w w') := fun w => by
    have := refContainer_is m rc rm rh lc lm lh x y z HS.out.2 w
    rwa [hg2] at this
  clear hg1 hg2 q_c HB hs1
  go_upto_region 5 with (fail)
  clear c0
  refine wp_region_noPanic ?_
  refine wp_region_held_drew (S := fun _ => True) (by kernel_rfl) ?_ (fun hHeld => ?_)
  · exact trivial
  refine wpAnyH_take (i := 0) (v := ?_) rfl (by kernel_rfl) (by kernel_rfl) (by kernel_rfl) (fun _ _ _ h => h) (Or.inl ⟨by rfl, ?_⟩) (by assumption) ?_
  rotate_left
  · (intro wS hSw; skip; go_simp; try with_reducible rfl)
  change wpAnyH _ _ _ _ _ _ _ (Act.put _ (some 16) _) _
  simp only [Act.put, List.setIfInBounds_toArray, List.set_cons_zero, List.set_cons_succ]
  refine wpAnyH_take (i := 2) (v := ?_) rfl (by kernel_rfl) (by kernel_rfl) (by kernel_rfl) (fun _ _ _ h => h) (Or.inl ⟨by rfl, ?_⟩) (by assumption) ?_
  rotate_left
  · (intro wS hSw; skip; go_simp; try with_reducible rfl)
  change wpAnyH _ _ _ _ _ _ _ (Act.put _ (some 18) _) _
  simp only [Act.put, List.setIfInBounds_toArray, List.set_cons_zero, List.set_cons_succ]
  refine wpAnyH_named ?_
  intro A hA
  clear hHeld
  refine wpAnyH_inv (I := fun L a W => ∃ (c1 c3 c4 c5 c6 c7 c8 c9 c10 c11 c12 : Bool) (s17 s19 s20 s21 s22 s23 s24 s25 s26 s27 s4 : Value), L = #[true, c1, true, c3, c4, c5, c6, c7, c8, c9, c10, c11, c12] ∧ a = (((((((((((A.put (some 17) s17).put (some 19) s19).put (some 20) s20).put (some 21) s21).put (some 22) s22).put (some 23) s23).put (some 24) s24).put (some 25) s25).put (some 26) s26).put (some 27) s27).put (some 4) s4) ∧ Hid (LT w [(w.heap.size, [.string m, .int .i64 rc, .int .i64 rm, .int .i64 rh, .int .i64 lc, .int .i64 lm, .int .i64 lh, .bool x, .bool y, .bool z])] W) ∧ Hid (c1 = true → s17 = .bool g1) ∧ Hid (c3 = true → s19 = .bool g1) ∧ Hid (c4 = true → s20 = .bool true) ∧ Hid (c5 = true → s21 = .bool true) ∧ Hid (c6 = true → s22 = .agg #[.string m, .int .i64 rc, .int .i64 rm, .int .i64 rh, .int .i64 lc, .int .i64 lm, .int .i64 lh, .bool x, .bool y, .bool z]) ∧ Hid (c7 = true → s23 = .bool g2) ∧ Hid (c8 = true → s24 = .agg #[.string m, .int .i64 rc, .int .i64 rm, .int .i64 rh, .int .i64 lc, .int .i64 lm, .int .i64 lh, .bool x, .bool y, .bool z]) ∧ Hid (c9 = true → s25 = .bool g2) ∧ Hid (c10 = true → s26 = .bool true) ∧ Hid (c11 = true → s27 = .bool true) ∧ Hid (c12 = true → s4 = .bool true)) ?hS ?hz (by kernel_rfl) ?hsteps ?hend _ _ _ _ (by decide) ?h0
  case hS => rintro L a W ⟨c1, c3, c4, c5, c6, c7, c8, c9, c10, c11, c12, s17, s19, s20, s21, s22, s23, s24, s25, s26, s27, s4, -, -, K, -⟩; exact (fun h => h) (trivial)
  case hz => rintro L a W ⟨c1, c3, c4, c5, c6, c7, c8, c9, c10, c11, c12, s17, s19, s20, s21, s22, s23, s24, s25, s26, s27, s4, rfl, -⟩; rfl
  case h0 => exact ⟨false, false, false, false, false, false, false, false, false, false, false, A.eval (.tmp 17), A.eval (.tmp 19), A.eval (.tmp 20), A.eval (.tmp 21), A.eval (.tmp 22), A.eval (.tmp 23), A.eval (.tmp 24), A.eval (.tmp 25), A.eval (.tmp 26), A.eval (.tmp 27), A.eval (.tmp 4), rfl, by simp only [put_self], K1.out.drew, fun h => Bool.noConfusion h, fun h => Bool.noConfusion h, fun h => Bool.noConfusion h, fun h => Bool.noConfusion h, fun h => Bool.noConfusion h, fun h => Bool.noConfusion h, fun h => Bool.noConfusion h, fun h => Bool.noConfusion h, fun h => Bool.noConfusion h, fun h => Bool.noConfusion h, fun h => Bool.noConfusion h⟩
  case hend =>
    rintro L a W ⟨c1, c3, c4, c5, c6, c7, c8, c9, c10, c11, c12, s17, s19, s20, s21, s22, s23, s24, s25, s26, s27, s4, rfl, rfl, K, k1, k3, k4, k5, k6, k7, k8, k9, k10, k11, k12⟩ hall
    obtain rfl : c1 = true := hall 1
    obtain rfl : c3 = true := hall 3
    obtain rfl : c4 = true := hall 4
    obtain rfl : c5 = true := hall 5
    obtain rfl : c6 = true := hall 6
    obtain rfl : c7 = true := hall 7
    obtain rfl : c8 = true := hall 8
    obtain rfl : c9 = true := hall 9
    obtain rfl : c10 = true := hall 10
    obtain rfl : c11 = true := hall 11
    obtain rfl : c12 = true := hall 12
    obtain rfl := k1.out rfl
    obtain rfl := k3.out rfl
    obtain rfl := k4.out rfl
    obtain rfl := k5.out rfl
    obtain rfl := k6.out rfl
    obtain rfl := k7.out rfl
    obtain rfl := k8.out rfl
    obtain rfl := k9.out rfl
    obtain rfl := k10.out rfl
    obtain rfl := k11.out rfl
    obtain rfl := k12.out rfl
    clear k1 k3 k4 k5 k6 k7 k8 k9 k10 k11 k12
    refine NoPanic.normal ?_
    subst hA
    simp only [Act.put, List.setIfInBounds_toArray, List.set_cons_zero, List.set_cons_succ]
    have HB := K.out.1.2
    clear K K1
    go_wp2
    go_ret
    exact ⟨rfl, HB⟩
  case hsteps =>
    refine StepsI.skip (i := 0) (by rintro L a W ⟨c1, c3, c4, c5, c6, c7, c8, c9, c10, c11, c12, s17, s19, s20, s21, s22, s23, s24, s25, s26, s27, s4, rfl, -⟩; rfl) ?_
    refine StepsI.cons (i := 1) rfl ?_ ?_
    · rintro L a W ⟨c1, c3, c4, c5, c6, c7, c8, c9, c10, c11, c12, s17, s19, s20, s21, s22, s23, s24, s25, s26, s27, s4, rfl, rfl, K, k1, k3, k4, k5, k6, k7, k8, k9, k10, k11, k12⟩ h0 hd KK hK
      obtain rfl : c1 = false := h0
      subst hA
      simp only [Act.put, List.setIfInBounds_toArray, List.set_cons_zero, List.set_cons_succ]
      clear hd
      go_simp
      refine (CA.out _).mono ?_
      rintro e w2 ⟨rfl, hw2⟩
      (try go_wp2_with (fail))
      exact hK.out _ _ ⟨true, c3, c4, c5, c6, c7, c8, c9, c10, c11, c12, .bool g1, s19, s20, s21, s22, s23, s24, s25, s26, s27, s4, rfl, by simp only [Act.put, List.setIfInBounds_toArray, List.set_cons_zero, List.set_cons_succ], K.out.later hw2, fun _ => rfl, k3.out, k4.out, k5.out, k6.out, k7.out, k8.out, k9.out, k10.out, k11.out, k12.out⟩
    refine StepsI.skip (i := 2) (by rintro L a W ⟨c1, c3, c4, c5, c6, c7, c8, c9, c10, c11, c12, s17, s19, s20, s21, s22, s23, s24, s25, s26, s27, s4, rfl, -⟩; rfl) ?_
    refine StepsI.cons (i := 3) rfl ?_ ?_
    · rintro L a W ⟨c1, c3, c4, c5, c6, c7, c8, c9, c10, c11, c12, s17, s19, s20, s21, s22, s23, s24, s25, s26, s27, s4, rfl, rfl, K, k1, k3, k4, k5, k6, k7, k8, k9, k10, k11, k12⟩ h0 hd KK hK
      obtain rfl : c3 = false := h0
      subst hA
      simp only [Act.put, List.setIfInBounds_toArray, List.set_cons_zero, List.set_cons_succ]
      clear hd
      go_simp
      refine (CB.out _).mono ?_
      rintro e w2 ⟨rfl, hw2⟩
      (try go_wp2_with (fail))
      exact hK.out _ _ ⟨c1, true, c4, c5, c6, c7, c8, c9, c10, c11, c12, s17, .bool g1, s20, s21, s22, s23, s24, s25, s26, s27, s4, rfl, by simp only [Act.put, List.setIfInBounds_toArray, List.set_cons_zero, List.set_cons_succ], K.out.later hw2, k1.out, fun _ => rfl, k4.out, k5.out, k6.out, k7.out, k8.out, k9.out, k10.out, k11.out, k12.out⟩
    refine StepsI.cons (i := 4) rfl ?_ ?_
    · rintro L a W ⟨c1, c3, c4, c5, c6, c7, c8, c9, c10, c11, c12, s17, s19, s20, s21, s22, s23, s24, s25, s26, s27, s4, rfl, rfl, K, k1, k3, k4, k5, k6, k7, k8, k9, k10, k11, k12⟩ h0 hd KK hK
      obtain rfl : c4 = false := h0
      obtain rfl : c1 = true := hd ⟨1, .data⟩ (by simp) rfl
      obtain rfl : c3 = true := hd ⟨3, .data⟩ (by simp) rfl
      have e1 := k1.out rfl
      subst e1
      have e3 := k3.out rfl
      subst e3
      subst hA
      simp only [Act.put, List.setIfInBounds_toArray, List.set_cons_zero, List.set_cons_succ]
      clear hd
      go_simp
      exact hK.out _ _ ⟨true, true, true, c5, c6, c7, c8, c9, c10, c11, c12, .bool g1, .bool g1, .bool true, s21, s22, s23, s24, s25, s26, s27, s4, rfl, by simp only [Act.put, List.setIfInBounds_toArray, List.set_cons_zero, List.set_cons_succ], K, fun _ => rfl, fun _ => rfl, fun _ => rfl, k5.out, k6.out, k7.out, k8.out, k9.out, k10.out, k11.out, k12.out⟩
    refine StepsI.cons (i := 5) rfl ?_ ?_
    · rintro L a W ⟨c1, c3, c4, c5, c6, c7, c8, c9, c10, c11, c12, s17, s19, s20, s21, s22, s23, s24, s25, s26, s27, s4, rfl, rfl, K, k1, k3, k4, k5, k6, k7, k8, k9, k10, k11, k12⟩ h0 hd KK hK
      obtain rfl : c5 = false := h0
      obtain rfl : c4 = true := hd ⟨4, .data⟩ (by simp) rfl
      have e4 := k4.out rfl
      subst e4
      subst hA
      simp only [Act.put, List.setIfInBounds_toArray, List.set_cons_zero, List.set_cons_succ]
      clear hd
      go_simp
      exact hK.out _ _ ⟨c1, c3, true, true, c6, c7, c8, c9, c10, c11, c12, s17, s19, .bool true, .bool true, s22, s23, s24, s25, s26, s27, s4, rfl, by simp only [Act.put, List.setIfInBounds_toArray, List.set_cons_zero, List.set_cons_succ], K, k1.out, k3.out, fun _ => rfl, fun _ => rfl, k6.out, k7.out, k8.out, k9.out, k10.out, k11.out, k12.out⟩
    refine StepsI.cons (i := 6) rfl ?_ ?_
    · rintro L a W ⟨c1, c3, c4, c5, c6, c7, c8, c9, c10, c11, c12, s17, s19, s20, s21, s22, s23, s24, s25, s26, s27, s4, rfl, rfl, K, k1, k3, k4, k5, k6, k7, k8, k9, k10, k11, k12⟩ h0 hd KK hK
      obtain rfl : c6 = false := h0
      obtain rfl : c5 = true := hd ⟨5, .guard⟩ (by simp) rfl
      have e5 := k5.out rfl
      subst e5
      have z0 := (K.out.1.get 0 rfl).1 0 _ rfl
      have z1 := (K.out.1.get 0 rfl).1 1 _ rfl
      have z2 := (K.out.1.get 0 rfl).1 2 _ rfl
      have z3 := (K.out.1.get 0 rfl).1 3 _ rfl
      have z4 := (K.out.1.get 0 rfl).1 4 _ rfl
      have z5 := (K.out.1.get 0 rfl).1 5 _ rfl
      have z6 := (K.out.1.get 0 rfl).1 6 _ rfl
      have z7 := (K.out.1.get 0 rfl).1 7 _ rfl
      have z8 := (K.out.1.get 0 rfl).1 8 _ rfl
      have z9 := (K.out.1.get 0 rfl).1 9 _ rfl
      subst hA
      simp only [Act.put, List.setIfInBounds_toArray, List.set_cons_zero, List.set_cons_succ]
      clear hd
      go_simp
      exact hK.out _ _ ⟨c1, c3, c4, true, true, c7, c8, c9, c10, c11, c12, s17, s19, s20, .bool true, .agg #[.string m, .int .i64 rc, .int .i64 rm, .int .i64 rh, .int .i64 lc, .int .i64 lm, .int .i64 lh, .bool x, .bool y, .bool z], s23, s24, s25, s26, s27, s4, rfl, by simp only [Act.put, List.setIfInBounds_toArray, List.set_cons_zero, List.set_cons_succ], K, k1.out, k3.out, k4.out, fun _ => rfl, fun _ => rfl, k7.out, k8.out, k9.out, k10.out, k11.out, k12.out⟩
    refine StepsI.cons (i := 7) rfl ?_ ?_
    · rintro L a W ⟨c1, c3, c4, c5, c6, c7, c8, c9, c10, c11, c12, s17, s19, s20, s21, s22, s23, s24, s25, s26, s27, s4, rfl, rfl, K, k1, k3, k4, k5, k6, k7, k8, k9, k10, k11, k12⟩ h0 hd KK hK
      obtain rfl : c7 = false := h0
      obtain rfl : c5 = true := hd ⟨5, .guard⟩ (by simp) rfl
      obtain rfl : c6 = true := hd ⟨6, .data⟩ (by simp) rfl
      have e5 := k5.out rfl
      subst e5
      have e6 := k6.out rfl
      subst e6
      subst hA
      simp only [Act.put, List.setIfInBounds_toArray, List.set_cons_zero, List.set_cons_succ]
      clear hd
      go_simp
      refine (CC.out _ K.out.2).mono ?_
      rintro e w2 ⟨rfl, hw2⟩
      (try go_wp2_with (fail))
      exact hK.out _ _ ⟨c1, c3, c4, true, true, true, c8, c9, c10, c11, c12, s17, s19, s20, .bool true, .agg #[.string m, .int .i64 rc, .int .i64 rm, .int .i64 rh, .int .i64 lc, .int .i64 lm, .int .i64 lh, .bool x, .bool y, .bool z], .bool g2, s24, s25, s26, s27, s4, rfl, by simp only [Act.put, List.setIfInBounds_toArray, List.set_cons_zero, List.set_cons_succ], K.out.later hw2, k1.out, k3.out, k4.out, fun _ => rfl, fun _ => rfl, fun _ => rfl, k8.out, k9.out, k10.out, k11.out, k12.out⟩
    refine StepsI.cons (i := 8) rfl ?_ ?_
    · rintro L a W ⟨c1, c3, c4, c5, c6, c7, c8, c9, c10, c11, c12, s17, s19, s20, s21, s22, s23, s24, s25, s26, s27, s4, rfl, rfl, K, k1, k3, k4, k5, k6, k7, k8, k9, k10, k11, k12⟩ h0 hd KK hK
      obtain rfl : c8 = false := h0
      obtain rfl : c5 = true := hd ⟨5, .guard⟩ (by simp) rfl
      have e5 := k5.out rfl
      subst e5
      have z0 := (K.out.1.get 0 rfl).1 0 _ rfl
      have z1 := (K.out.1.get 0 rfl).1 1 _ rfl
      have z2 := (K.out.1.get 0 rfl).1 2 _ rfl
      have z3 := (K.out.1.get 0 rfl).1 3 _ rfl
      have z4 := (K.out.1.get 0 rfl).1 4 _ rfl
      have z5 := (K.out.1.get 0 rfl).1 5 _ rfl
      have z6 := (K.out.1.get 0 rfl).1 6 _ rfl
      have z7 := (K.out.1.get 0 rfl).1 7 _ rfl
      have z8 := (K.out.1.get 0 rfl).1 8 _ rfl
      have z9 := (K.out.1.get 0 rfl).1 9 _ rfl
      subst hA
      simp only [Act.put, List.setIfInBounds_toArray, List.set_cons_zero, List.set_cons_succ]
      clear hd
      go_simp
      exact hK.out _ _ ⟨c1, c3, c4, true, c6, c7, true, c9, c10, c11, c12, s17, s19, s20, .bool true, s22, s23, .agg #[.string m, .int .i64 rc, .int .i64 rm, .int .i64 rh, .int .i64 lc, .int .i64 lm, .int .i64 lh, .bool x, .bool y, .bool z], s25, s26, s27, s4, rfl, by simp only [Act.put, List.setIfInBounds_toArray, List.set_cons_zero, List.set_cons_succ], K, k1.out, k3.out, k4.out, fun _ => rfl, k6.out, k7.out, fun _ => rfl, k9.out, k10.out, k11.out, k12.out⟩
    refine StepsI.cons (i := 9) rfl ?_ ?_
    · rintro L a W ⟨c1, c3, c4, c5, c6, c7, c8, c9, c10, c11, c12, s17, s19, s20, s21, s22, s23, s24, s25, s26, s27, s4, rfl, rfl, K, k1, k3, k4, k5, k6, k7, k8, k9, k10, k11, k12⟩ h0 hd KK hK
      obtain rfl : c9 = false := h0
      obtain rfl : c5 = true := hd ⟨5, .guard⟩ (by simp) rfl
      obtain rfl : c8 = true := hd ⟨8, .data⟩ (by simp) rfl
      have e5 := k5.out rfl
      subst e5
      have e8 := k8.out rfl
      subst e8
      subst hA
      simp only [Act.put, List.setIfInBounds_toArray, List.set_cons_zero, List.set_cons_succ]
      clear hd
      go_simp
      refine (CD.out _).mono ?_
      rintro e w2 ⟨rfl, hw2⟩
      (try go_wp2_with (fail))
      exact hK.out _ _ ⟨c1, c3, c4, true, c6, c7, true, true, c10, c11, c12, s17, s19, s20, .bool true, s22, s23, .agg #[.string m, .int .i64 rc, .int .i64 rm, .int .i64 rh, .int .i64 lc, .int .i64 lm, .int .i64 lh, .bool x, .bool y, .bool z], .bool g2, s26, s27, s4, rfl, by simp only [Act.put, List.setIfInBounds_toArray, List.set_cons_zero, List.set_cons_succ], K.out.later hw2, k1.out, k3.out, k4.out, fun _ => rfl, k6.out, k7.out, fun _ => rfl, fun _ => rfl, k10.out, k11.out, k12.out⟩
    refine StepsI.cons (i := 10) rfl ?_ ?_
    · rintro L a W ⟨c1, c3, c4, c5, c6, c7, c8, c9, c10, c11, c12, s17, s19, s20, s21, s22, s23, s24, s25, s26, s27, s4, rfl, rfl, K, k1, k3, k4, k5, k6, k7, k8, k9, k10, k11, k12⟩ h0 hd KK hK
      obtain rfl : c10 = false := h0
      obtain rfl : c5 = true := hd ⟨5, .guard⟩ (by simp) rfl
      obtain rfl : c7 = true := hd ⟨7, .data⟩ (by simp) rfl
      obtain rfl : c9 = true := hd ⟨9, .data⟩ (by simp) rfl
      have e5 := k5.out rfl
      subst e5
      have e7 := k7.out rfl
      subst e7
      have e9 := k9.out rfl
      subst e9
      subst hA
      simp only [Act.put, List.setIfInBounds_toArray, List.set_cons_zero, List.set_cons_succ]
      clear hd
      go_simp
      exact hK.out _ _ ⟨c1, c3, c4, true, c6, true, c8, true, true, c11, c12, s17, s19, s20, .bool true, s22, .bool g2, s24, .bool g2, .bool true, s27, s4, rfl, by simp only [Act.put, List.setIfInBounds_toArray, List.set_cons_zero, List.set_cons_succ], K, k1.out, k3.out, k4.out, fun _ => rfl, k6.out, fun _ => rfl, k8.out, fun _ => rfl, fun _ => rfl, k11.out, k12.out⟩
    refine StepsI.cons (i := 11) rfl ?_ ?_
    · rintro L a W ⟨c1, c3, c4, c5, c6, c7, c8, c9, c10, c11, c12, s17, s19, s20, s21, s22, s23, s24, s25, s26, s27, s4, rfl, rfl, K, k1, k3, k4, k5, k6, k7, k8, k9, k10, k11, k12⟩ h0 hd KK hK
      obtain rfl : c11 = false := h0
      obtain rfl : c5 = true := hd ⟨5, .data⟩ (by simp) rfl
      obtain rfl : c10 = true := hd ⟨10, .data⟩ (by simp) rfl
      have e5 := k5.out rfl
      subst e5
      have e10 := k10.out rfl
      subst e10
      subst hA
      simp only [Act.put, List.setIfInBounds_toArray, List.set_cons_zero, List.set_cons_succ]
      clear hd
      go_simp
      exact hK.out _ _ ⟨c1, c3, c4, true, c6, c7, c8, c9, true, true, c12, s17, s19, s20, .bool true, s22, s23, s24, s25, .bool true, .bool true, s4, rfl, by simp only [Act.put, List.setIfInBounds_toArray, List.set_cons_zero, List.set_cons_succ], K, k1.out, k3.out, k4.out, fun _ => rfl, k6.out, k7.out, k8.out, k9.out, fun _ => rfl, fun _ => rfl, k12.out⟩
    refine StepsI.cons (i := 12) rfl ?_ ?_
    · rintro L a W ⟨c1, c3, c4, c5, c6, c7, c8, c9, c10, c11, c12, s17, s19, s20, s21, s22, s23, s24, s25, s26, s27, s4, rfl, rfl, K, k1, k3, k4, k5, k6, k7, k8, k9, k10, k11, k12⟩ h0 hd KK hK
      obtain rfl : c12 = false := h0
      obtain rfl : c11 = true := hd ⟨11, .data⟩ (by simp) rfl
      have e11 := k11.out rfl
      subst e11
      subst hA
      simp only [Act.put, List.setIfInBounds_toArray, List.set_cons_zero, List.set_cons_succ]
      clear hd
      go_simp
      exact hK.out _ _ ⟨c1, c3, c4, c5, c6, c7, c8, c9, c10, true, true, s17, s19, s20, s21, s22, s23, s24, s25, s26, .bool true, .bool true, rfl, by simp only [Act.put, List.setIfInBounds_toArray, List.set_cons_zero, List.set_cons_succ], K, k1.out, k3.out, k4.out, k5.out, k6.out, k7.out, k8.out, k9.out, k10.out, fun _ => rfl, fun _ => rfl⟩
    exact StepsI.nil

end Go.Proofs.YtfgbppngnafpoaaDoor.Sp
