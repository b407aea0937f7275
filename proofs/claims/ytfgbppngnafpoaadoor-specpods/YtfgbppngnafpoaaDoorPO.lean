/-
  What turns between two vectors' bounded resources, and what differs between two containers, at this program. Conditions: where it is said, the tables of the program lie as its text lays them.
-/
import Derived.Test.YtfgbppngnafpoaaDoorPN
import Derived.Deep.CutRange
import Derived.Deep.DeepCutAuto
import Derived.Deep.CutBlock
namespace Go.Proofs.YtfgbppngnafpoaaDoor.Sp
open Go.RowKit

theorem cell_beside {W : World} {g a b : Nat} {v : Value} (h : a ≠ b) : (W.setCell ⟨g, a, none⟩ v).cell? ⟨g, b, none⟩ = W.cell? ⟨g, b, none⟩ := World.cell?_setCell_other _ _ _ _ (fun e => h (by injection e))
theorem cell_here {W : World} {g a : Nat} {u v : Value} (h : W.cell? ⟨g, a, none⟩ = some u) : (W.setCell ⟨g, a, none⟩ v).cell? ⟨g, a, none⟩ = some v := World.cell?_setCell_same _ _ _ h
def turnB (fc fm tc tm : Int) : Bool := ((fc == 0) != (tc == 0)) || ((fm == 0) != (tm == 0))

set_option maxHeartbeats 1000000 in
set_option maxRecDepth 100000 in
theorem turns_is (fc fm fh tc tm th : Int) (w : World) (hL : LaidS w) :
    Calls Tryd.prog 44 #[.agg #[.int .i64 fc, .int .i64 fm, .int .i64 fh], .agg #[.int .i64 tc, .int .i64 tm, .int .i64 th]] w fun e w' => e = .returned (.bool (turnB fc fm tc tm)) ∧ Below w.heap.size w w' := by
  obtain ⟨R, hR⟩ : ∃ R, R = turnB fc fm tc tm := ⟨_, rfl⟩
  rw [← hR]
  have HR : Hid (R = turnB fc fm tc tm) := hR
  clear hR
  obtain ⟨b0, b1, bz⟩ := hL.bounded
  clear hL
  go_enter Tryd.func44, Tryd.ntmps44
  go_wp2
  clear b0 b1 bz
  go_loopw [8] (fun f wr => ∃ (j : Nat) (q : Int), f = .int .i64 q ∧ q = j ∧ j ≤ 2 ∧ Hid ((0 < j → (fc == 0) = (tc == 0)) ∧ (1 < j → (fm == 0) = (tm == 0))) ∧ Lies w [(w.heap.size, [.int .i64 fc, .int .i64 fm, .int .i64 fh]), (w.heap.size + 1, [.int .i64 tc, .int .i64 tm, .int .i64 th])] wr) (fun f _ => 2 - (intOf f).toNat)
  case atStart => exact ⟨0, _, rfl, rfl, by omega, ⟨by omega, by omega⟩, (fun x hx => by simp at hx; rcases hx with rfl | rfl <;> exact (by repeat (first | assumption | (refine Cs.new _ _ _ _ ?_; simp; done) | refine Cs.alloc ?_ _ | refine Cs.drew ?_ | (refine Cs.beside ?_ _ _ (by omega))))), by go_grown⟩
  case round =>
    obtain ⟨j, q, rfl, hq, jl, HJ, L0⟩ := hrel
    have hs := L0.2.size
    rcases (show j = 0 ∨ j = 1 ∨ j = 2 by omega) with rfl | rfl | rfl
    · obtain rfl : q = 0 := hq
      have ix : ∀ w : World, (Instr.index 59 (.agg #[.int .i64 0, .int .i64 1]) (.int .i64 0)).run Tryd.prog w = .ok (.int .i64 0) w := bded_ix0
      have CA : Hid (∀ w, Calls Tryd.prog 33 #[.agg #[.int .i64 fc, .int .i64 fm, .int .i64 fh], .int .i64 0] w fun e w' => e = .returned (.int .i64 fc) ∧ Below w.heap.size w w') := fun w => at_any fc fm fh 0 w
      have CB : Hid (∀ w, Calls Tryd.prog 33 #[.agg #[.int .i64 tc, .int .i64 tm, .int .i64 th], .int .i64 0] w fun e w' => e = .returned (.int .i64 tc) ∧ Below w.heap.size w w') := fun w => at_any tc tm th 0 w
      have HJ' : Hid ((fc == 0) = (tc == 0) → Hid ((0 < 1 → (fc == 0) = (tc == 0)) ∧ (1 < 1 → (fm == 0) = (tm == 0)))) := fun h => ⟨fun _ => h, by omega⟩
      obtain ⟨d1, t1⟩ : ∃ e, (fc == 0) = e := ⟨_, rfl⟩
      obtain ⟨d2, t2⟩ : ∃ e, (tc == 0) = e := ⟨_, rfl⟩
      go_upto_region 4 with (fail)
      refine wp_region_noPanic ?_
      refine wp_region_held_drew (S := fun w' => Cs w' w.heap.size [.int .i64 fc, .int .i64 fm, .int .i64 fh] ∧ Cs w' (w.heap.size + 1) [.int .i64 tc, .int .i64 tm, .int .i64 th]) (by kernel_rfl) ?_ (fun hHeld => ?_)
      · exact ⟨L0.drew.get 0 rfl, L0.drew.get 1 rfl⟩
      refine wpAnyH_take (i := 0) (v := ?_) rfl (by kernel_rfl) (by kernel_rfl) (by kernel_rfl) (fun _ _ _ h => h) (Or.inl ⟨by rfl, ?_⟩) (by assumption) ?_
      rotate_left
      · (intro wS hSw; have g1 := hSw.1.1 0 _ rfl; have g2 := hSw.1.1 1 _ rfl; have g3 := hSw.1.1 2 _ rfl; have g4 := hSw.2.1 0 _ rfl; have g5 := hSw.2.1 1 _ rfl; have g6 := hSw.2.1 2 _ rfl; go_simp; try with_reducible rfl)
      change wpAnyH _ _ _ _ _ _ _ (Act.put _ (some 11) _) _
      simp only [Act.put, List.setIfInBounds_toArray, List.set_cons_zero, List.set_cons_succ]
      refine wpAnyH_take (i := 1) (v := ?_) rfl (by kernel_rfl) (by kernel_rfl) (by kernel_rfl) (fun _ _ _ h => h) (Or.inl ⟨by rfl, ?_⟩) (by assumption) ?_
      rotate_left
      · (intro wS hSw; have g1 := hSw.1.1 0 _ rfl; have g2 := hSw.1.1 1 _ rfl; have g3 := hSw.1.1 2 _ rfl; have g4 := hSw.2.1 0 _ rfl; have g5 := hSw.2.1 1 _ rfl; have g6 := hSw.2.1 2 _ rfl; go_simp; try with_reducible rfl)
      change wpAnyH _ _ _ _ _ _ _ (Act.put _ (some 12) _) _
      simp only [Act.put, List.setIfInBounds_toArray, List.set_cons_zero, List.set_cons_succ]
      refine wpAnyH_take (i := 4) (v := ?_) rfl (by kernel_rfl) (by kernel_rfl) (by kernel_rfl) (fun _ _ _ h => h) (Or.inl ⟨by rfl, ?_⟩) (by assumption) ?_
      rotate_left
      · (intro wS hSw; have g1 := hSw.1.1 0 _ rfl; have g2 := hSw.1.1 1 _ rfl; have g3 := hSw.1.1 2 _ rfl; have g4 := hSw.2.1 0 _ rfl; have g5 := hSw.2.1 1 _ rfl; have g6 := hSw.2.1 2 _ rfl; go_simp; try with_reducible rfl)
      change wpAnyH _ _ _ _ _ _ _ (Act.put _ (some 15) _) _
      simp only [Act.put, List.setIfInBounds_toArray, List.set_cons_zero, List.set_cons_succ]
      refine wpAnyH_take (i := 5) (v := ?_) rfl (by kernel_rfl) (by kernel_rfl) (by kernel_rfl) (fun _ _ _ h => h) (Or.inl ⟨by rfl, ?_⟩) (by assumption) ?_
      rotate_left
      · (intro wS hSw; have g1 := hSw.1.1 0 _ rfl; have g2 := hSw.1.1 1 _ rfl; have g3 := hSw.1.1 2 _ rfl; have g4 := hSw.2.1 0 _ rfl; have g5 := hSw.2.1 1 _ rfl; have g6 := hSw.2.1 2 _ rfl; go_simp; try with_reducible rfl)
      change wpAnyH _ _ _ _ _ _ _ (Act.put _ (some 16) _) _
      simp only [Act.put, List.setIfInBounds_toArray, List.set_cons_zero, List.set_cons_succ]
      refine wpAnyH_named ?_
      intro A hA
      clear hHeld
      refine wpAnyH_inv (I := fun L a W => ∃ (c2 c3 c6 c7 c8 : Bool) (s13 s14 s17 s18 s19 : Value), L = #[true, true, c2, c3, true, true, c6, c7, c8] ∧ a = (((((A.put (some 13) s13).put (some 14) s14).put (some 17) s17).put (some 18) s18).put (some 19) s19) ∧ Hid (Lies w [(w.heap.size, [.int .i64 fc, .int .i64 fm, .int .i64 fh]), (w.heap.size + 1, [.int .i64 tc, .int .i64 tm, .int .i64 th])] W) ∧ Hid (c2 = true → s13 = .int .i64 fc) ∧ Hid (c3 = true → s14 = .bool d1) ∧ Hid (c6 = true → s17 = .int .i64 tc) ∧ Hid (c7 = true → s18 = .bool d2) ∧ Hid (c8 = true → s19 = .bool (!(d1 == d2)))) ?hS ?hz (by kernel_rfl) ?hsteps ?hend _ _ _ _ (by decide) ?h0
      case hS => rintro L a W ⟨c2, c3, c6, c7, c8, s13, s14, s17, s18, s19, -, -, K, -⟩; exact (fun h => h) (⟨K.out.get 0 rfl, K.out.get 1 rfl⟩)
      case hz => rintro L a W ⟨c2, c3, c6, c7, c8, s13, s14, s17, s18, s19, rfl, -⟩; rfl
      case h0 => exact ⟨false, false, false, false, false, A.eval (.tmp 13), A.eval (.tmp 14), A.eval (.tmp 17), A.eval (.tmp 18), A.eval (.tmp 19), rfl, by simp only [put_self], L0.drew, fun h => Bool.noConfusion h, fun h => Bool.noConfusion h, fun h => Bool.noConfusion h, fun h => Bool.noConfusion h, fun h => Bool.noConfusion h⟩
      case hend =>
        rintro L a W ⟨c2, c3, c6, c7, c8, s13, s14, s17, s18, s19, rfl, rfl, K, k2, k3, k6, k7, k8⟩ hall
        obtain rfl : c2 = true := hall 2
        obtain rfl : c3 = true := hall 3
        obtain rfl : c6 = true := hall 6
        obtain rfl : c7 = true := hall 7
        obtain rfl : c8 = true := hall 8
        obtain rfl := k2.out rfl
        obtain rfl := k3.out rfl
        obtain rfl := k6.out rfl
        obtain rfl := k7.out rfl
        obtain rfl := k8.out rfl
        clear k2 k3 k6 k7 k8
        refine NoPanic.normal ?_
        subst hA
        simp only [Act.put, List.setIfInBounds_toArray, List.set_cons_zero, List.set_cons_succ]
        have L1 := K.out
        have HJ' := HJ'.out
        clear K L0 CA CB
        cases d1 with
        | false =>
          cases d2 with
          | false =>
            go_wp2
            go_roundw
            case rel => exact ⟨1, _, by go_num, rfl, by omega, HJ' (by rw [t1, t2]), L1⟩
            case measure => simp [intOf]
          | true =>
            have X : Hid (R = true) := by unfold Hid; rw [HR.out, turnB, t1, t2]; rfl
            go_wp2
            go_ret
            exact ⟨by rw [X.out]; rfl, L1.2⟩
        | true =>
          cases d2 with
          | false =>
            have X : Hid (R = true) := by unfold Hid; rw [HR.out, turnB, t1, t2]; rfl
            go_wp2
            go_ret
            exact ⟨by rw [X.out]; rfl, L1.2⟩
          | true =>
            go_wp2
            go_roundw
            case rel => exact ⟨1, _, by go_num, rfl, by omega, HJ' (by rw [t1, t2]), L1⟩
            case measure => simp [intOf]
      case hsteps =>
        refine StepsI.skip (i := 0) (by rintro L a W ⟨c2, c3, c6, c7, c8, s13, s14, s17, s18, s19, rfl, -⟩; rfl) ?_
        refine StepsI.skip (i := 1) (by rintro L a W ⟨c2, c3, c6, c7, c8, s13, s14, s17, s18, s19, rfl, -⟩; rfl) ?_
        refine StepsI.cons (i := 2) rfl ?_ ?_
        · rintro L a W ⟨c2, c3, c6, c7, c8, s13, s14, s17, s18, s19, rfl, rfl, K, k2, k3, k6, k7, k8⟩ h0 hd KK hK
          obtain rfl : c2 = false := h0
          subst hA
          simp only [Act.put, List.setIfInBounds_toArray, List.set_cons_zero, List.set_cons_succ]
          clear hd
          go_simp
          refine (CA.out _).mono ?_
          rintro e w2 ⟨rfl, hw2⟩
          (try go_wp2_with (fail))
          exact hK.out _ _ ⟨true, c3, c6, c7, c8, .int .i64 fc, s14, s17, s18, s19, rfl, by simp only [Act.put, List.setIfInBounds_toArray, List.set_cons_zero, List.set_cons_succ], K.out.later hw2, fun _ => rfl, k3.out, k6.out, k7.out, k8.out⟩
        refine StepsI.cons (i := 3) rfl ?_ ?_
        · rintro L a W ⟨c2, c3, c6, c7, c8, s13, s14, s17, s18, s19, rfl, rfl, K, k2, k3, k6, k7, k8⟩ h0 hd KK hK
          obtain rfl : c3 = false := h0
          obtain rfl : c2 = true := hd ⟨2, .data⟩ (by simp) rfl
          have e2 := k2.out rfl
          subst e2
          subst hA
          simp only [Act.put, List.setIfInBounds_toArray, List.set_cons_zero, List.set_cons_succ]
          clear hd
          go_simp
          exact hK.out _ _ ⟨true, true, c6, c7, c8, .int .i64 fc, .bool d1, s17, s18, s19, rfl, by simp only [Act.put, List.setIfInBounds_toArray, List.set_cons_zero, List.set_cons_succ], K, fun _ => rfl, fun _ => rfl, k6.out, k7.out, k8.out⟩
        refine StepsI.skip (i := 4) (by rintro L a W ⟨c2, c3, c6, c7, c8, s13, s14, s17, s18, s19, rfl, -⟩; rfl) ?_
        refine StepsI.skip (i := 5) (by rintro L a W ⟨c2, c3, c6, c7, c8, s13, s14, s17, s18, s19, rfl, -⟩; rfl) ?_
        refine StepsI.cons (i := 6) rfl ?_ ?_
        · rintro L a W ⟨c2, c3, c6, c7, c8, s13, s14, s17, s18, s19, rfl, rfl, K, k2, k3, k6, k7, k8⟩ h0 hd KK hK
          obtain rfl : c6 = false := h0
          subst hA
          simp only [Act.put, List.setIfInBounds_toArray, List.set_cons_zero, List.set_cons_succ]
          clear hd
          go_simp
          refine (CB.out _).mono ?_
          rintro e w2 ⟨rfl, hw2⟩
          (try go_wp2_with (fail))
          exact hK.out _ _ ⟨c2, c3, true, c7, c8, s13, s14, .int .i64 tc, s18, s19, rfl, by simp only [Act.put, List.setIfInBounds_toArray, List.set_cons_zero, List.set_cons_succ], K.out.later hw2, k2.out, k3.out, fun _ => rfl, k7.out, k8.out⟩
        refine StepsI.cons (i := 7) rfl ?_ ?_
        · rintro L a W ⟨c2, c3, c6, c7, c8, s13, s14, s17, s18, s19, rfl, rfl, K, k2, k3, k6, k7, k8⟩ h0 hd KK hK
          obtain rfl : c7 = false := h0
          obtain rfl : c6 = true := hd ⟨6, .data⟩ (by simp) rfl
          have e6 := k6.out rfl
          subst e6
          subst hA
          simp only [Act.put, List.setIfInBounds_toArray, List.set_cons_zero, List.set_cons_succ]
          clear hd
          go_simp
          exact hK.out _ _ ⟨c2, c3, true, true, c8, s13, s14, .int .i64 tc, .bool d2, s19, rfl, by simp only [Act.put, List.setIfInBounds_toArray, List.set_cons_zero, List.set_cons_succ], K, k2.out, k3.out, fun _ => rfl, fun _ => rfl, k8.out⟩
        refine StepsI.cons (i := 8) rfl ?_ ?_
        · rintro L a W ⟨c2, c3, c6, c7, c8, s13, s14, s17, s18, s19, rfl, rfl, K, k2, k3, k6, k7, k8⟩ h0 hd KK hK
          obtain rfl : c8 = false := h0
          obtain rfl : c3 = true := hd ⟨3, .data⟩ (by simp) rfl
          obtain rfl : c7 = true := hd ⟨7, .data⟩ (by simp) rfl
          have e3 := k3.out rfl
          subst e3
          have e7 := k7.out rfl
          subst e7
          subst hA
          simp only [Act.put, List.setIfInBounds_toArray, List.set_cons_zero, List.set_cons_succ]
          clear hd
          go_simp
          exact hK.out _ _ ⟨c2, true, c6, true, true, s13, .bool d1, s17, .bool d2, .bool (!(d1 == d2)), rfl, by simp only [Act.put, List.setIfInBounds_toArray, List.set_cons_zero, List.set_cons_succ], K, k2.out, fun _ => rfl, k6.out, fun _ => rfl, fun _ => rfl⟩
        exact StepsI.nil
    · obtain rfl : q = 1 := hq
      have ix : ∀ w : World, (Instr.index 59 (.agg #[.int .i64 0, .int .i64 1]) (.int .i64 1)).run Tryd.prog w = .ok (.int .i64 1) w := bded_ix1
      have CA : Hid (∀ w, Calls Tryd.prog 33 #[.agg #[.int .i64 fc, .int .i64 fm, .int .i64 fh], .int .i64 1] w fun e w' => e = .returned (.int .i64 fm) ∧ Below w.heap.size w w') := fun w => at_any fc fm fh 1 w
      have CB : Hid (∀ w, Calls Tryd.prog 33 #[.agg #[.int .i64 tc, .int .i64 tm, .int .i64 th], .int .i64 1] w fun e w' => e = .returned (.int .i64 tm) ∧ Below w.heap.size w w') := fun w => at_any tc tm th 1 w
      have HJ' : Hid ((fm == 0) = (tm == 0) → Hid ((0 < 2 → (fc == 0) = (tc == 0)) ∧ (1 < 2 → (fm == 0) = (tm == 0)))) := fun h => ⟨fun _ => HJ.out.1 (by omega), fun _ => h⟩
      obtain ⟨d1, t1⟩ : ∃ e, (fm == 0) = e := ⟨_, rfl⟩
      obtain ⟨d2, t2⟩ : ∃ e, (tm == 0) = e := ⟨_, rfl⟩
      go_upto_region 4 with (fail)
      refine wp_region_noPanic ?_
      refine wp_region_held_drew (S := fun w' => Cs w' w.heap.size [.int .i64 fc, .int .i64 fm, .int .i64 fh] ∧ Cs w' (w.heap.size + 1) [.int .i64 tc, .int .i64 tm, .int .i64 th]) (by kernel_rfl) ?_ (fun hHeld => ?_)
      · exact ⟨L0.drew.get 0 rfl, L0.drew.get 1 rfl⟩
      refine wpAnyH_take (i := 0) (v := ?_) rfl (by kernel_rfl) (by kernel_rfl) (by kernel_rfl) (fun _ _ _ h => h) (Or.inl ⟨by rfl, ?_⟩) (by assumption) ?_
      rotate_left
      · (intro wS hSw; have g1 := hSw.1.1 0 _ rfl; have g2 := hSw.1.1 1 _ rfl; have g3 := hSw.1.1 2 _ rfl; have g4 := hSw.2.1 0 _ rfl; have g5 := hSw.2.1 1 _ rfl; have g6 := hSw.2.1 2 _ rfl; go_simp; try with_reducible rfl)
      change wpAnyH _ _ _ _ _ _ _ (Act.put _ (some 11) _) _
      simp only [Act.put, List.setIfInBounds_toArray, List.set_cons_zero, List.set_cons_succ]
      refine wpAnyH_take (i := 1) (v := ?_) rfl (by kernel_rfl) (by kernel_rfl) (by kernel_rfl) (fun _ _ _ h => h) (Or.inl ⟨by rfl, ?_⟩) (by assumption) ?_
      rotate_left
      · (intro wS hSw; have g1 := hSw.1.1 0 _ rfl; have g2 := hSw.1.1 1 _ rfl; have g3 := hSw.1.1 2 _ rfl; have g4 := hSw.2.1 0 _ rfl; have g5 := hSw.2.1 1 _ rfl; have g6 := hSw.2.1 2 _ rfl; go_simp; try with_reducible rfl)
      change wpAnyH _ _ _ _ _ _ _ (Act.put _ (some 12) _) _
      simp only [Act.put, List.setIfInBounds_toArray, List.set_cons_zero, List.set_cons_succ]
      refine wpAnyH_take (i := 4) (v := ?_) rfl (by kernel_rfl) (by kernel_rfl) (by kernel_rfl) (fun _ _ _ h => h) (Or.inl ⟨by rfl, ?_⟩) (by assumption) ?_
      rotate_left
      · (intro wS hSw; have g1 := hSw.1.1 0 _ rfl; have g2 := hSw.1.1 1 _ rfl; have g3 := hSw.1.1 2 _ rfl; have g4 := hSw.2.1 0 _ rfl; have g5 := hSw.2.1 1 _ rfl; have g6 := hSw.2.1 2 _ rfl; go_simp; try with_reducible rfl)
      change wpAnyH _ _ _ _ _ _ _ (Act.put _ (some 15) _) _
      simp only [Act.put, List.setIfInBounds_toArray, List.set_cons_zero, List.set_cons_succ]
      refine wpAnyH_take (i := 5) (v := ?_) rfl (by kernel_rfl) (by kernel_rfl) (by kernel_rfl) (fun _ _ _ h => h) (Or.inl ⟨by rfl, ?_⟩) (by assumption) ?_
      rotate_left
      · (intro wS hSw; have g1 := hSw.1.1 0 _ rfl; have g2 := hSw.1.1 1 _ rfl; have g3 := hSw.1.1 2 _ rfl; have g4 := hSw.2.1 0 _ rfl; have g5 := hSw.2.1 1 _ rfl; have g6 := hSw.2.1 2 _ rfl; go_simp; try with_reducible rfl)
      change wpAnyH _ _ _ _ _ _ _ (Act.put _ (some 16) _) _
      simp only [Act.put, List.setIfInBounds_toArray, List.set_cons_zero, List.set_cons_succ]
      refine wpAnyH_named ?_
      intro A hA
      clear hHeld
      refine wpAnyH_inv (I := fun L a W => ∃ (c2 c3 c6 c7 c8 : Bool) (s13 s14 s17 s18 s19 : Value), L = #[true, true, c2, c3, true, true, c6, c7, c8] ∧ a = (((((A.put (some 13) s13).put (some 14) s14).put (some 17) s17).put (some 18) s18).put (some 19) s19) ∧ Hid (Lies w [(w.heap.size, [.int .i64 fc, .int .i64 fm, .int .i64 fh]), (w.heap.size + 1, [.int .i64 tc, .int .i64 tm, .int .i64 th])] W) ∧ Hid (c2 = true → s13 = .int .i64 fm) ∧ Hid (c3 = true → s14 = .bool d1) ∧ Hid (c6 = true → s17 = .int .i64 tm) ∧ Hid (c7 = true → s18 = .bool d2) ∧ Hid (c8 = true → s19 = .bool (!(d1 == d2)))) ?hS ?hz (by kernel_rfl) ?hsteps ?hend _ _ _ _ (by decide) ?h0
      case hS => rintro L a W ⟨c2, c3, c6, c7, c8, s13, s14, s17, s18, s19, -, -, K, -⟩; exact (fun h => h) (⟨K.out.get 0 rfl, K.out.get 1 rfl⟩)
      case hz => rintro L a W ⟨c2, c3, c6, c7, c8, s13, s14, s17, s18, s19, rfl, -⟩; rfl
      case h0 => exact ⟨false, false, false, false, false, A.eval (.tmp 13), A.eval (.tmp 14), A.eval (.tmp 17), A.eval (.tmp 18), A.eval (.tmp 19), rfl, by simp only [put_self], L0.drew, fun h => Bool.noConfusion h, fun h => Bool.noConfusion h, fun h => Bool.noConfusion h, fun h => Bool.noConfusion h, fun h => Bool.noConfusion h⟩
      case hend =>
        rintro L a W ⟨c2, c3, c6, c7, c8, s13, s14, s17, s18, s19, rfl, rfl, K, k2, k3, k6, k7, k8⟩ hall
        obtain rfl : c2 = true := hall 2
        obtain rfl : c3 = true := hall 3
        obtain rfl : c6 = true := hall 6
        obtain rfl : c7 = true := hall 7
        obtain rfl : c8 = true := hall 8
        obtain rfl := k2.out rfl
        obtain rfl := k3.out rfl
        obtain rfl := k6.out rfl
        obtain rfl := k7.out rfl
        obtain rfl := k8.out rfl
        clear k2 k3 k6 k7 k8
        refine NoPanic.normal ?_
        subst hA
        simp only [Act.put, List.setIfInBounds_toArray, List.set_cons_zero, List.set_cons_succ]
        have L1 := K.out
        have HJ' := HJ'.out
        clear K L0 CA CB
        cases d1 with
        | false =>
          cases d2 with
          | false =>
            go_wp2
            go_roundw
            case rel => exact ⟨2, _, by go_num, rfl, by omega, HJ' (by rw [t1, t2]), L1⟩
            case measure => simp [intOf]
          | true =>
            have X : Hid (R = true) := by unfold Hid; rw [HR.out, turnB, t1, t2]; simp
            go_wp2
            go_ret
            exact ⟨by rw [X.out]; rfl, L1.2⟩
        | true =>
          cases d2 with
          | false =>
            have X : Hid (R = true) := by unfold Hid; rw [HR.out, turnB, t1, t2]; simp
            go_wp2
            go_ret
            exact ⟨by rw [X.out]; rfl, L1.2⟩
          | true =>
            go_wp2
            go_roundw
            case rel => exact ⟨2, _, by go_num, rfl, by omega, HJ' (by rw [t1, t2]), L1⟩
            case measure => simp [intOf]
      case hsteps =>
        refine StepsI.skip (i := 0) (by rintro L a W ⟨c2, c3, c6, c7, c8, s13, s14, s17, s18, s19, rfl, -⟩; rfl) ?_
        refine StepsI.skip (i := 1) (by rintro L a W ⟨c2, c3, c6, c7, c8, s13, s14, s17, s18, s19, rfl, -⟩; rfl) ?_
        refine StepsI.cons (i := 2) rfl ?_ ?_
        · rintro L a W ⟨c2, c3, c6, c7, c8, s13, s14, s17, s18, s19, rfl, rfl, K, k2, k3, k6, k7, k8⟩ h0 hd KK hK
          obtain rfl : c2 = false := h0
          subst hA
          simp only [Act.put, List.setIfInBounds_toArray, List.set_cons_zero, List.set_cons_succ]
          clear hd
          go_simp
          refine (CA.out _).mono ?_
          rintro e w2 ⟨rfl, hw2⟩
          (try go_wp2_with (fail))
          exact hK.out _ _ ⟨true, c3, c6, c7, c8, .int .i64 fm, s14, s17, s18, s19, rfl, by simp only [Act.put, List.setIfInBounds_toArray, List.set_cons_zero, List.set_cons_succ], K.out.later hw2, fun _ => rfl, k3.out, k6.out, k7.out, k8.out⟩
        refine StepsI.cons (i := 3) rfl ?_ ?_
        · rintro L a W ⟨c2, c3, c6, c7, c8, s13, s14, s17, s18, s19, rfl, rfl, K, k2, k3, k6, k7, k8⟩ h0 hd KK hK
          obtain rfl : c3 = false := h0
          obtain rfl : c2 = true := hd ⟨2, .data⟩ (by simp) rfl
          have e2 := k2.out rfl
          subst e2
          subst hA
          simp only [Act.put, List.setIfInBounds_toArray, List.set_cons_zero, List.set_cons_succ]
          clear hd
          go_simp
          exact hK.out _ _ ⟨true, true, c6, c7, c8, .int .i64 fm, .bool d1, s17, s18, s19, rfl, by simp only [Act.put, List.setIfInBounds_toArray, List.set_cons_zero, List.set_cons_succ], K, fun _ => rfl, fun _ => rfl, k6.out, k7.out, k8.out⟩
        refine StepsI.skip (i := 4) (by rintro L a W ⟨c2, c3, c6, c7, c8, s13, s14, s17, s18, s19, rfl, -⟩; rfl) ?_
        refine StepsI.skip (i := 5) (by rintro L a W ⟨c2, c3, c6, c7, c8, s13, s14, s17, s18, s19, rfl, -⟩; rfl) ?_
        refine StepsI.cons (i := 6) rfl ?_ ?_
        · rintro L a W ⟨c2, c3, c6, c7, c8, s13, s14, s17, s18, s19, rfl, rfl, K, k2, k3, k6, k7, k8⟩ h0 hd KK hK
          obtain rfl : c6 = false := h0
          subst hA
          simp only [Act.put, List.setIfInBounds_toArray, List.set_cons_zero, List.set_cons_succ]
          clear hd
          go_simp
          refine (CB.out _).mono ?_
          rintro e w2 ⟨rfl, hw2⟩
          (try go_wp2_with (fail))
          exact hK.out _ _ ⟨c2, c3, true, c7, c8, s13, s14, .int .i64 tm, s18, s19, rfl, by simp only [Act.put, List.setIfInBounds_toArray, List.set_cons_zero, List.set_cons_succ], K.out.later hw2, k2.out, k3.out, fun _ => rfl, k7.out, k8.out⟩
        refine StepsI.cons (i := 7) rfl ?_ ?_
        · rintro L a W ⟨c2, c3, c6, c7, c8, s13, s14, s17, s18, s19, rfl, rfl, K, k2, k3, k6, k7, k8⟩ h0 hd KK hK
          obtain rfl : c7 = false := h0
          obtain rfl : c6 = true := hd ⟨6, .data⟩ (by simp) rfl
          have e6 := k6.out rfl
          subst e6
          subst hA
          simp only [Act.put, List.setIfInBounds_toArray, List.set_cons_zero, List.set_cons_succ]
          clear hd
          go_simp
          exact hK.out _ _ ⟨c2, c3, true, true, c8, s13, s14, .int .i64 tm, .bool d2, s19, rfl, by simp only [Act.put, List.setIfInBounds_toArray, List.set_cons_zero, List.set_cons_succ], K, k2.out, k3.out, fun _ => rfl, fun _ => rfl, k8.out⟩
        refine StepsI.cons (i := 8) rfl ?_ ?_
        · rintro L a W ⟨c2, c3, c6, c7, c8, s13, s14, s17, s18, s19, rfl, rfl, K, k2, k3, k6, k7, k8⟩ h0 hd KK hK
          obtain rfl : c8 = false := h0
          obtain rfl : c3 = true := hd ⟨3, .data⟩ (by simp) rfl
          obtain rfl : c7 = true := hd ⟨7, .data⟩ (by simp) rfl
          have e3 := k3.out rfl
          subst e3
          have e7 := k7.out rfl
          subst e7
          subst hA
          simp only [Act.put, List.setIfInBounds_toArray, List.set_cons_zero, List.set_cons_succ]
          clear hd
          go_simp
          exact hK.out _ _ ⟨c2, true, c6, true, true, s13, .bool d1, s17, .bool d2, .bool (!(d1 == d2)), rfl, by simp only [Act.put, List.setIfInBounds_toArray, List.set_cons_zero, List.set_cons_succ], K, k2.out, fun _ => rfl, k6.out, fun _ => rfl, fun _ => rfl⟩
        exact StepsI.nil
    · obtain rfl : q = 2 := hq
      have X : Hid (R = false) := by
        unfold Hid
        rw [HR.out, turnB, HJ.out.1 (by omega), HJ.out.2 (by omega)]
        simp
      clear HJ HR
      go_wp2
      go_ret
      exact ⟨by rw [X.out]; rfl, L0.2⟩

theorem bix0 (a b c : Bool) (w : World) : (Instr.index 24 (.agg #[.bool a, .bool b, .bool c]) (.int .i64 0)).run Tryd.prog w = .ok (.bool a) w := by kernel_rfl
theorem bix1 (a b c : Bool) (w : World) : (Instr.index 24 (.agg #[.bool a, .bool b, .bool c]) (.int .i64 1)).run Tryd.prog w = .ok (.bool b) w := by kernel_rfl
theorem bix2 (a b c : Bool) (w : World) : (Instr.index 24 (.agg #[.bool a, .bool b, .bool c]) (.int .i64 2)).run Tryd.prog w = .ok (.bool c) w := by kernel_rfl
def vb (b : Bool × Bool × Bool) : Value := .agg #[.bool b.1, .bool b.2.1, .bool b.2.2]
def lb (b : Bool × Bool × Bool) : List Value := [.bool b.1, .bool b.2.1, .bool b.2.2]

set_option maxHeartbeats 2000000 in
set_option maxRecDepth 100000 in
theorem unl_is (m rc rm rh lc lm lh x y z m1 rc1 rm1 rh1 lc1 lm1 lh1 x1 y1 z1) (w : World) :
    Calls Tryd.prog 42 #[.agg #[.string m, .int .i64 rc, .int .i64 rm, .int .i64 rh, .int .i64 lc, .int .i64 lm, .int .i64 lh, .bool x, .bool y, .bool z], .agg #[.string m1, .int .i64 rc1, .int .i64 rm1, .int .i64 rh1, .int .i64 lc1, .int .i64 lm1, .int .i64 lh1, .bool x1, .bool y1, .bool z1]] w fun e w' => e = .returned (vb (chg ⟨m, rc, rm, rh, lc, lm, lh, x, y, z⟩ ⟨m1, rc1, rm1, rh1, lc1, lm1, lh1, x1, y1, z1⟩)) ∧ Below w.heap.size w w' := by
  obtain ⟨u0, hu0⟩ : ∃ b, (rc != rc1) = b := ⟨_, rfl⟩
  obtain ⟨u1, hu1⟩ : ∃ b, (rm != rm1) = b := ⟨_, rfl⟩
  obtain ⟨u2, hu2⟩ : ∃ b, (rh != rh1) = b := ⟨_, rfl⟩
  obtain ⟨v0, hv0⟩ : ∃ b, (lc != lc1) = b := ⟨_, rfl⟩
  obtain ⟨v1, hv1⟩ : ∃ b, (lm != lm1) = b := ⟨_, rfl⟩
  obtain ⟨v2, hv2⟩ : ∃ b, (lh != lh1) = b := ⟨_, rfl⟩
  have CA : Hid (∀ w, Calls Tryd.prog 47 #[.agg #[.int .i64 rc, .int .i64 rm, .int .i64 rh], .agg #[.int .i64 rc1, .int .i64 rm1, .int .i64 rh1]] w fun x w' => x = .returned (.agg #[.bool u0, .bool u1, .bool u2]) ∧ Below w.heap.size w w') := fun w => by
    have := unlike_any rc rm rh rc1 rm1 rh1 w
    rwa [hu0, hu1, hu2] at this
  have CB : Hid (∀ w, Calls Tryd.prog 47 #[.agg #[.int .i64 lc, .int .i64 lm, .int .i64 lh], .agg #[.int .i64 lc1, .int .i64 lm1, .int .i64 lh1]] w fun x w' => x = .returned (.agg #[.bool v0, .bool v1, .bool v2]) ∧ Below w.heap.size w w') := fun w => by
    have := unlike_any lc lm lh lc1 lm1 lh1 w
    rwa [hv0, hv1, hv2] at this
  rw [show vb (chg ⟨m, rc, rm, rh, lc, lm, lh, x, y, z⟩ ⟨m1, rc1, rm1, rh1, lc1, lm1, lh1, x1, y1, z1⟩) = .agg #[.bool (u0 || v0), .bool (u1 || v1), .bool (u2 || v2)] by rw [← hu0, ← hu1, ← hu2, ← hv0, ← hv1, ← hv2]; rfl]
  clear hu0 hu1 hu2 hv0 hv1 hv2
  go_enter Tryd.func42, Tryd.ntmps42
  go_wp2_with (fail)
  refine (CA.out _).mono ?_
  rintro e w1 ⟨rfl, hw1⟩
  have HBw1 : Below w.heap.size w w1 := Below.trans (by go_grown) (hw1.mono (by first | omega | (simp; done) | (simp; omega)))
  have p_a : Cs w1 (w.heap.size) [.string m, .int .i64 rc, .int .i64 rm, .int .i64 rh, .int .i64 lc, .int .i64 lm, .int .i64 lh, .bool x, .bool y, .bool z] := Cs.later hw1 (by repeat (first | assumption | (refine Cs.new _ _ _ _ ?_; simp; done) | refine Cs.alloc ?_ _ | refine Cs.drew ?_ | (refine Cs.beside ?_ _ _ (by omega))))
  have p_b : Cs w1 (w.heap.size + 1) [.string m1, .int .i64 rc1, .int .i64 rm1, .int .i64 rh1, .int .i64 lc1, .int .i64 lm1, .int .i64 lh1, .bool x1, .bool y1, .bool z1] := Cs.later hw1 (by repeat (first | assumption | (refine Cs.new _ _ _ _ ?_; simp; done) | refine Cs.alloc ?_ _ | refine Cs.drew ?_ | (refine Cs.beside ?_ _ _ (by omega))))
  have p_r : Cs w1 (w.heap.size + 2) [.bool false, .bool false, .bool false] := Cs.later hw1 (by repeat (first | assumption | (refine Cs.new _ _ _ _ ?_; simp; done) | refine Cs.alloc ?_ _ | refine Cs.drew ?_ | (refine Cs.beside ?_ _ _ (by omega))))
  have q_a := p_a
  have a0 : w1.cell? ⟨w.heap.size, 0, none⟩ = some (.string m) := p_a.1 0 _ rfl
  have a1 : w1.cell? ⟨w.heap.size, 1, none⟩ = some (.int .i64 rc) := p_a.1 1 _ rfl
  have a2 : w1.cell? ⟨w.heap.size, 2, none⟩ = some (.int .i64 rm) := p_a.1 2 _ rfl
  have a3 : w1.cell? ⟨w.heap.size, 3, none⟩ = some (.int .i64 rh) := p_a.1 3 _ rfl
  have a4 : w1.cell? ⟨w.heap.size, 4, none⟩ = some (.int .i64 lc) := p_a.1 4 _ rfl
  have a5 : w1.cell? ⟨w.heap.size, 5, none⟩ = some (.int .i64 lm) := p_a.1 5 _ rfl
  have a6 : w1.cell? ⟨w.heap.size, 6, none⟩ = some (.int .i64 lh) := p_a.1 6 _ rfl
  have a7 : w1.cell? ⟨w.heap.size, 7, none⟩ = some (.bool x) := p_a.1 7 _ rfl
  have a8 : w1.cell? ⟨w.heap.size, 8, none⟩ = some (.bool y) := p_a.1 8 _ rfl
  have a9 : w1.cell? ⟨w.heap.size, 9, none⟩ = some (.bool z) := p_a.1 9 _ rfl
  have az : w.heap.size < w1.heap.size := p_a.2.2
  clear p_a
  have q_b := p_b
  have b0 : w1.cell? ⟨w.heap.size + 1, 0, none⟩ = some (.string m1) := p_b.1 0 _ rfl
  have b1 : w1.cell? ⟨w.heap.size + 1, 1, none⟩ = some (.int .i64 rc1) := p_b.1 1 _ rfl
  have b2 : w1.cell? ⟨w.heap.size + 1, 2, none⟩ = some (.int .i64 rm1) := p_b.1 2 _ rfl
  have b3 : w1.cell? ⟨w.heap.size + 1, 3, none⟩ = some (.int .i64 rh1) := p_b.1 3 _ rfl
  have b4 : w1.cell? ⟨w.heap.size + 1, 4, none⟩ = some (.int .i64 lc1) := p_b.1 4 _ rfl
  have b5 : w1.cell? ⟨w.heap.size + 1, 5, none⟩ = some (.int .i64 lm1) := p_b.1 5 _ rfl
  have b6 : w1.cell? ⟨w.heap.size + 1, 6, none⟩ = some (.int .i64 lh1) := p_b.1 6 _ rfl
  have b7 : w1.cell? ⟨w.heap.size + 1, 7, none⟩ = some (.bool x1) := p_b.1 7 _ rfl
  have b8 : w1.cell? ⟨w.heap.size + 1, 8, none⟩ = some (.bool y1) := p_b.1 8 _ rfl
  have b9 : w1.cell? ⟨w.heap.size + 1, 9, none⟩ = some (.bool z1) := p_b.1 9 _ rfl
  have bz : w.heap.size + 1 < w1.heap.size := p_b.2.2
  clear p_b
  have q_r := p_r
  have r0 : w1.cell? ⟨w.heap.size + 2, 0, none⟩ = some (.bool false) := p_r.1 0 _ rfl
  have rF0 : w1.frozen? ⟨w.heap.size + 2, 0, none⟩ = false := p_r.2.1 0 (by simp)
  have r1 : w1.cell? ⟨w.heap.size + 2, 1, none⟩ = some (.bool false) := p_r.1 1 _ rfl
  have rF1 : w1.frozen? ⟨w.heap.size + 2, 1, none⟩ = false := p_r.2.1 1 (by simp)
  have r2 : w1.cell? ⟨w.heap.size + 2, 2, none⟩ = some (.bool false) := p_r.1 2 _ rfl
  have rF2 : w1.frozen? ⟨w.heap.size + 2, 2, none⟩ = false := p_r.2.1 2 (by simp)
  have rz : w.heap.size + 2 < w1.heap.size := p_r.2.2
  clear p_r
  have hsw1 := hw1.size
  (try simp at hsw1)
  clear hw1
  go_wp2_with (fail)
  refine (CB.out _).mono ?_
  rintro e w2 ⟨rfl, hw2⟩
  have HBw2 : Below w.heap.size w w2 := Below.trans (by go_grown) (hw2.mono (by first | omega | (simp; done) | (simp; omega)))
  have p_l : Cs w2 (w1.heap.size) [.bool u0, .bool u1, .bool u2] := Cs.later hw2 (by repeat (first | assumption | (refine Cs.new _ _ _ _ ?_; simp; done) | refine Cs.alloc ?_ _ | refine Cs.drew ?_ | (refine Cs.beside ?_ _ _ (by omega))))
  have p_r : Cs w2 (w.heap.size + 2) [.bool false, .bool false, .bool false] := Cs.later hw2 (by repeat (first | assumption | (refine Cs.new _ _ _ _ ?_; simp; done) | refine Cs.alloc ?_ _ | refine Cs.drew ?_ | (refine Cs.beside ?_ _ _ (by omega))))
  clear q_r r0 r1 r2 rF0 rF1 rF2 rz
  have q_l := p_l
  have l0 : w2.cell? ⟨w1.heap.size, 0, none⟩ = some (.bool u0) := p_l.1 0 _ rfl
  have lF0 : w2.frozen? ⟨w1.heap.size, 0, none⟩ = false := p_l.2.1 0 (by simp)
  have l1 : w2.cell? ⟨w1.heap.size, 1, none⟩ = some (.bool u1) := p_l.1 1 _ rfl
  have lF1 : w2.frozen? ⟨w1.heap.size, 1, none⟩ = false := p_l.2.1 1 (by simp)
  have l2 : w2.cell? ⟨w1.heap.size, 2, none⟩ = some (.bool u2) := p_l.1 2 _ rfl
  have lF2 : w2.frozen? ⟨w1.heap.size, 2, none⟩ = false := p_l.2.1 2 (by simp)
  have lz : w1.heap.size < w2.heap.size := p_l.2.2
  clear p_l
  have q_r := p_r
  have r0 : w2.cell? ⟨w.heap.size + 2, 0, none⟩ = some (.bool false) := p_r.1 0 _ rfl
  have rF0 : w2.frozen? ⟨w.heap.size + 2, 0, none⟩ = false := p_r.2.1 0 (by simp)
  have r1 : w2.cell? ⟨w.heap.size + 2, 1, none⟩ = some (.bool false) := p_r.1 1 _ rfl
  have rF1 : w2.frozen? ⟨w.heap.size + 2, 1, none⟩ = false := p_r.2.1 1 (by simp)
  have r2 : w2.cell? ⟨w.heap.size + 2, 2, none⟩ = some (.bool false) := p_r.1 2 _ rfl
  have rF2 : w2.frozen? ⟨w.heap.size + 2, 2, none⟩ = false := p_r.2.1 2 (by simp)
  have rz : w.heap.size + 2 < w2.heap.size := p_r.2.2
  clear p_r
  have hsw2 := hw2.size
  (try simp at hsw2)
  clear hw2
  go_wp2
  have L1 : Lies w [(w1.heap.size, [.bool u0, .bool u1, .bool u2]), (w.heap.size + 2, [.bool false, .bool false, .bool false])] w2 := ⟨fun x hx => by simp at hx; rcases hx with rfl | rfl; exact q_l; exact q_r, HBw2⟩
  clear CA CB a0 a1 a2 a3 a4 a5 a6 a7 a8 a9 az q_a b0 b1 b2 b3 b4 b5 b6 b7 b8 b9 bz q_b l0 l1 l2 lF0 lF1 lF2 q_l r0 r1 r2 rF0 rF1 rF2 q_r HBw2 hsw2 HBw1
  go_loopw [18] (fun f wr => ∃ (j : Nat) (q : Int) (x0 x1 x2 : Bool), f = .int .i64 q ∧ q = j ∧ j ≤ 3 ∧ Hid (x0 = (if 0 < j then u0 || v0 else u0) ∧ x1 = (if 1 < j then u1 || v1 else u1) ∧ x2 = (if 2 < j then u2 || v2 else u2)) ∧ Lies w [(w1.heap.size, [.bool x0, .bool x1, .bool x2]), (w.heap.size + 2, [.bool false, .bool false, .bool false])] wr) (fun f _ => 3 - (intOf f).toNat)
  case atStart => exact ⟨0, _, _, _, _, rfl, rfl, by omega, ⟨rfl, rfl, rfl⟩, L1⟩
  case round =>
    clear L1
    obtain ⟨j, q, x0, x1, x2, rfl, hq, jl, HX, L0⟩ := hrel
    have hs := L0.2.size
    have q_l := L0.get 0 rfl
    have q_r := L0.get 1 rfl
    have HB := L0.2
    have l0 : wr.cell? ⟨w1.heap.size, 0, none⟩ = some (.bool x0) := q_l.1 0 _ rfl
    have l1 : wr.cell? ⟨w1.heap.size, 1, none⟩ = some (.bool x1) := q_l.1 1 _ rfl
    have l2 : wr.cell? ⟨w1.heap.size, 2, none⟩ = some (.bool x2) := q_l.1 2 _ rfl
    have lF0 : wr.frozen? ⟨w1.heap.size, 0, none⟩ = false := q_l.2.1 0 (by simp)
    have lF1 : wr.frozen? ⟨w1.heap.size, 1, none⟩ = false := q_l.2.1 1 (by simp)
    have lF2 : wr.frozen? ⟨w1.heap.size, 2, none⟩ = false := q_l.2.1 2 (by simp)
    have lz' := q_l.2.2
    have rz' := q_r.2.2
    clear L0
    rcases (show j = 0 ∨ j = 1 ∨ j = 2 ∨ j = 3 by omega) with rfl | rfl | rfl | rfl
    · obtain rfl : q = 0 := hq
      have ix : ∀ w : World, (Instr.index 24 (.agg #[.bool v0, .bool v1, .bool v2]) (.int .i64 0)).run Tryd.prog w = .ok (.bool v0) w := bix0 v0 v1 v2
      cases x0 with
      | false =>
        have N1 : Cs (wr.setCell ⟨w1.heap.size, 0, none⟩ (.bool v0)) w1.heap.size [.bool v0, .bool x1, .bool x2] := q_l.set 0 _ (by simp)
        have N2 : Cs (wr.setCell ⟨w1.heap.size, 0, none⟩ (.bool v0)) (w.heap.size + 2) [.bool false, .bool false, .bool false] := q_r.beside _ _ (by omega)
        have N3 : Below w.heap.size w (wr.setCell ⟨w1.heap.size, 0, none⟩ (.bool v0)) := by go_grown
        have NX : Hid (v0 = (if 0 < 1 then u0 || v0 else u0) ∧ x1 = (if 1 < 1 then u1 || v1 else u1) ∧ x2 = (if 2 < 1 then u2 || v2 else u2)) := ⟨by rw [if_pos (by omega), ← (show (false : Bool) = u0 from HX.out.1)]; simp, HX.out.2.1, HX.out.2.2⟩
        clear HX
        go_wp2
        go_roundw
        case rel => exact ⟨1, _, _, _, _, by go_num, rfl, by omega, NX, (fun x hx => by simp at hx; rcases hx with rfl | rfl; exact N1; exact N2), N3⟩
        case measure => simp [intOf]
      | true =>
        have N1 : Cs (wr.setCell ⟨w1.heap.size, 0, none⟩ (.bool true)) w1.heap.size [.bool true, .bool x1, .bool x2] := q_l.set 0 _ (by simp)
        have N2 : Cs (wr.setCell ⟨w1.heap.size, 0, none⟩ (.bool true)) (w.heap.size + 2) [.bool false, .bool false, .bool false] := q_r.beside _ _ (by omega)
        have N3 : Below w.heap.size w (wr.setCell ⟨w1.heap.size, 0, none⟩ (.bool true)) := by go_grown
        have NX : Hid (true = (if 0 < 1 then u0 || v0 else u0) ∧ x1 = (if 1 < 1 then u1 || v1 else u1) ∧ x2 = (if 2 < 1 then u2 || v2 else u2)) := ⟨by rw [if_pos (by omega), ← (show (true : Bool) = u0 from HX.out.1)]; simp, HX.out.2.1, HX.out.2.2⟩
        clear HX
        go_wp2
        go_roundw
        case rel => exact ⟨1, _, _, _, _, by go_num, rfl, by omega, NX, (fun x hx => by simp at hx; rcases hx with rfl | rfl; exact N1; exact N2), N3⟩
        case measure => simp [intOf]
    · obtain rfl : q = 1 := hq
      have ix : ∀ w : World, (Instr.index 24 (.agg #[.bool v0, .bool v1, .bool v2]) (.int .i64 1)).run Tryd.prog w = .ok (.bool v1) w := bix1 v0 v1 v2
      cases x1 with
      | false =>
        have N1 : Cs (wr.setCell ⟨w1.heap.size, 1, none⟩ (.bool v1)) w1.heap.size [.bool x0, .bool v1, .bool x2] := q_l.set 1 _ (by simp)
        have N2 : Cs (wr.setCell ⟨w1.heap.size, 1, none⟩ (.bool v1)) (w.heap.size + 2) [.bool false, .bool false, .bool false] := q_r.beside _ _ (by omega)
        have N3 : Below w.heap.size w (wr.setCell ⟨w1.heap.size, 1, none⟩ (.bool v1)) := by go_grown
        have NX : Hid (x0 = (if 0 < 2 then u0 || v0 else u0) ∧ v1 = (if 1 < 2 then u1 || v1 else u1) ∧ x2 = (if 2 < 2 then u2 || v2 else u2)) := ⟨HX.out.1, by rw [if_pos (by omega), ← (show (false : Bool) = u1 from HX.out.2.1)]; simp, HX.out.2.2⟩
        clear HX
        go_wp2
        go_roundw
        case rel => exact ⟨2, _, _, _, _, by go_num, rfl, by omega, NX, (fun x hx => by simp at hx; rcases hx with rfl | rfl; exact N1; exact N2), N3⟩
        case measure => simp [intOf]
      | true =>
        have N1 : Cs (wr.setCell ⟨w1.heap.size, 1, none⟩ (.bool true)) w1.heap.size [.bool x0, .bool true, .bool x2] := q_l.set 1 _ (by simp)
        have N2 : Cs (wr.setCell ⟨w1.heap.size, 1, none⟩ (.bool true)) (w.heap.size + 2) [.bool false, .bool false, .bool false] := q_r.beside _ _ (by omega)
        have N3 : Below w.heap.size w (wr.setCell ⟨w1.heap.size, 1, none⟩ (.bool true)) := by go_grown
        have NX : Hid (x0 = (if 0 < 2 then u0 || v0 else u0) ∧ true = (if 1 < 2 then u1 || v1 else u1) ∧ x2 = (if 2 < 2 then u2 || v2 else u2)) := ⟨HX.out.1, by rw [if_pos (by omega), ← (show (true : Bool) = u1 from HX.out.2.1)]; simp, HX.out.2.2⟩
        clear HX
        go_wp2
        go_roundw
        case rel => exact ⟨2, _, _, _, _, by go_num, rfl, by omega, NX, (fun x hx => by simp at hx; rcases hx with rfl | rfl; exact N1; exact N2), N3⟩
        case measure => simp [intOf]
    · obtain rfl : q = 2 := hq
      have ix : ∀ w : World, (Instr.index 24 (.agg #[.bool v0, .bool v1, .bool v2]) (.int .i64 2)).run Tryd.prog w = .ok (.bool v2) w := bix2 v0 v1 v2
      cases x2 with
      | false =>
        have N1 : Cs (wr.setCell ⟨w1.heap.size, 2, none⟩ (.bool v2)) w1.heap.size [.bool x0, .bool x1, .bool v2] := q_l.set 2 _ (by simp)
        have N2 : Cs (wr.setCell ⟨w1.heap.size, 2, none⟩ (.bool v2)) (w.heap.size + 2) [.bool false, .bool false, .bool false] := q_r.beside _ _ (by omega)
        have N3 : Below w.heap.size w (wr.setCell ⟨w1.heap.size, 2, none⟩ (.bool v2)) := by go_grown
        have NX : Hid (x0 = (if 0 < 3 then u0 || v0 else u0) ∧ x1 = (if 1 < 3 then u1 || v1 else u1) ∧ v2 = (if 2 < 3 then u2 || v2 else u2)) := ⟨HX.out.1, HX.out.2.1, by rw [if_pos (by omega), ← (show (false : Bool) = u2 from HX.out.2.2)]; simp⟩
        clear HX
        go_wp2
        go_roundw
        case rel => exact ⟨3, _, _, _, _, by go_num, rfl, by omega, NX, (fun x hx => by simp at hx; rcases hx with rfl | rfl; exact N1; exact N2), N3⟩
        case measure => simp [intOf]
      | true =>
        have N1 : Cs (wr.setCell ⟨w1.heap.size, 2, none⟩ (.bool true)) w1.heap.size [.bool x0, .bool x1, .bool true] := q_l.set 2 _ (by simp)
        have N2 : Cs (wr.setCell ⟨w1.heap.size, 2, none⟩ (.bool true)) (w.heap.size + 2) [.bool false, .bool false, .bool false] := q_r.beside _ _ (by omega)
        have N3 : Below w.heap.size w (wr.setCell ⟨w1.heap.size, 2, none⟩ (.bool true)) := by go_grown
        have NX : Hid (x0 = (if 0 < 3 then u0 || v0 else u0) ∧ x1 = (if 1 < 3 then u1 || v1 else u1) ∧ true = (if 2 < 3 then u2 || v2 else u2)) := ⟨HX.out.1, HX.out.2.1, by rw [if_pos (by omega), ← (show (true : Bool) = u2 from HX.out.2.2)]; simp⟩
        clear HX
        go_wp2
        go_roundw
        case rel => exact ⟨3, _, _, _, _, by go_num, rfl, by omega, NX, (fun x hx => by simp at hx; rcases hx with rfl | rfl; exact N1; exact N2), N3⟩
        case measure => simp [intOf]
    · obtain rfl : q = 3 := hq
      obtain ⟨e0, e1, e2⟩ := HX.out
      simp at e0 e1 e2
      have X : Hid (x0 = (u0 || v0) ∧ x1 = (u1 || v1) ∧ x2 = (u2 || v2)) := ⟨e0, e1, e2⟩
      clear e0 e1 e2 HX
      have r0 : wr.cell? ⟨w.heap.size + 2, 0, none⟩ = some (.bool false) := q_r.1 0 _ rfl
      have r1 : wr.cell? ⟨w.heap.size + 2, 1, none⟩ = some (.bool false) := q_r.1 1 _ rfl
      have r2 : wr.cell? ⟨w.heap.size + 2, 2, none⟩ = some (.bool false) := q_r.1 2 _ rfl
      have rF0 : wr.frozen? ⟨w.heap.size + 2, 0, none⟩ = false := q_r.2.1 0 (by simp)
      have rF1 : wr.frozen? ⟨w.heap.size + 2, 1, none⟩ = false := q_r.2.1 1 (by simp)
      have rF2 : wr.frozen? ⟨w.heap.size + 2, 2, none⟩ = false := q_r.2.1 2 (by simp)
      go_wp2
      refine bodyPost_ret (v := .agg #[.bool x0, .bool x1, .bool x2]) (by simp [results, Tryd.results42, go_sem, r0, r1, r2]) rfl ?_
      exact ⟨by rw [X.out.1, X.out.2.1, X.out.2.2], by go_grown⟩

end Go.Proofs.YtfgbppngnafpoaaDoor.Sp
