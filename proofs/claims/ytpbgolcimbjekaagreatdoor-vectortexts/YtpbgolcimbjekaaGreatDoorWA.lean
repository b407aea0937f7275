/-
  Contracts of the document's own answers for layer 2 at this program: the greatest amount, whether it is an amount. Conditions: the words are words.
-/
import Derived.Test.YtpbgolcimbjekaaGreatDoorVP
import Derived.Test.YtpbgolcimbjekaaGreatDoorR1
import Derived.Test.YtpbgolcimbjekaaGreatDoorTA
namespace Go.Proofs.YtpbgolcimbjekaaGreatDoor
open Go.RowKit

theorem lit_most : (.agg #[.int .u64 51712, .int .u64 15258, .int .u64 0, .int .u64 0, .int .u64 0, .int .u64 0, .int .u64 0, .int .u64 0, .int .u64 0, .int .u64 0, .int .u64 0, .int .u64 0, .int .u64 0, .int .u64 0, .int .u64 0, .int .u64 0, .int .u64 0, .int .u64 0, .int .u64 0, .int .u64 0] : Value) = dv 1000000000 := by
  have : dl (wd 1000000000) = [.int .u64 51712, .int .u64 15258, .int .u64 0, .int .u64 0, .int .u64 0, .int .u64 0, .int .u64 0, .int .u64 0, .int .u64 0, .int .u64 0, .int .u64 0, .int .u64 0, .int .u64 0, .int .u64 0, .int .u64 0, .int .u64 0, .int .u64 0, .int .u64 0, .int .u64 0, .int .u64 0] := rfl
  unfold dv
  rw [this]
theorem rof_is {h l : Int} {a : Nat} (i : Is h l a) (w : World) :
    Calls Tryz.prog 29 #[.agg #[.int .u64 h, .int .u64 l]] w fun x w' => x = .returned (dv (a : Int)) ∧ Below w.heap.size w w' := by
  have := rof_dv h l w i.l0 i.l1 i.h0 i.h1
  rw [i.eq] at this
  exact this

set_option maxHeartbeats 400000 in
set_option maxRecDepth 100000 in
theorem most_dv (w : World) :
    Calls Tryz.prog 69 #[] w fun x w' => x = .returned (dv 1152921504606846976000000000) ∧ Below w.heap.size w w' := by
  obtain ⟨B, hB⟩ : ∃ B : Int, B = 1000000000 := ⟨_, rfl⟩
  obtain ⟨P, hP⟩ : ∃ P : Int, P = 2 ^ 60 := ⟨_, rfl⟩
  obtain ⟨M, hM⟩ : ∃ M : Int, M = 1152921504606846976000000000 := ⟨_, rfl⟩
  have LB := lit_most
  rw [← hB] at LB
  have HLB : Hid _ := LB
  have CP : Hid (∀ w, Calls Tryz.prog 47 #[.int .i64 60] w fun x w' => x = .returned (dv P) ∧ Below w.heap.size w w') := fun w => by rw [hP]; exact power_dv 60 w (by omega)
  have CT : Hid (∀ w, Calls Tryz.prog 30 #[dv P, dv B] w fun x w' => x = .returned (dv M) ∧ Below w.heap.size w w') := fun w => by
    have e : M = P * B := by rw [hM, hP, hB]; decide
    rw [e]
    exact times_dv P B w (by rw [hP]; decide) (by rw [hP]; decide) (by omega) (by omega)
  rw [← hM]
  clear hB hP hM LB
  go_enter Tryz.func69, Tryz.ntmps69
  go_upto_region 1 with (fail)
  refine wp_region_lit ?_
  have F1 : Hid (St w [0] _) := (St.none w).zero rfl 63
  refine wpList_one fun K' hK' => ?_
  rw [if_pos (by rfl)]
  go_simp
  refine (CP.out _).mono ?_
  rintro e w2 ⟨rfl, hw2⟩
  (try go_wp2_with (fail))
  refine hK'.out _ _ ?_
  clear hK' K'
  have F2 := F1.out.later hw2
  clear F1 hw2
  refine wpList_one fun K' hK' => ?_
  rw [if_pos (by rfl)]
  go_simp
  rw [HLB.out]
  refine hK'.out _ _ ?_
  clear hK' K'
  refine wpList_one fun K' hK' => ?_
  rw [if_pos (by rfl)]
  go_simp
  refine (CT.out _).mono ?_
  rintro e w3 ⟨rfl, hw3⟩
  (try go_wp2_with (fail))
  refine hK'.out _ _ ?_
  clear hK' K'
  have F3 := F2.later hw3
  clear F2 hw3
  refine num_store (F3.get 0 _ rfl) rfl _ _ rfl rfl rfl M rfl ?_
  have F5 : Hid (St w [M] _) := F3.put 0 M (by simp)
  rw [Nat.add_zero] at F5 ⊢
  generalize World.setCells w3 w.heap.size 0 (dl (wd M)) = W' at F5 ⊢
  clear F3
  go_wp2_with (fail)
  refine bodyPost_ret (v := dv M) ?_ rfl ⟨rfl, F5.out.2.2⟩
  have hl := run_loadVar_mid W' w.heap.size 0 63 (dl (wd M)) _ (F5.out.get 0 _ rfl).1 Tryz.underlying63 rfl (by rw [dl_len]; exact dig_info)
  simp [results, Tryz.results69, asAddr, hl, dv]

set_option maxHeartbeats 400000 in
set_option maxRecDepth 100000 in
theorem fits_is {ah al : Int} {a : Nat} (i : Is ah al a) (w : World) :
    Calls Tryz.prog 46 #[.agg #[.int .u64 ah, .int .u64 al]] w fun e w' => e = .returned (.bool (decide (a ≤ most))) ∧ Below w.heap.size w w' := by
  have CO : Hid (∀ w, Calls Tryz.prog 29 #[.agg #[.int .u64 ah, .int .u64 al]] w fun x w' => x = .returned (dv (a : Int)) ∧ Below w.heap.size w w') := fun w => rof_is i w
  have a1 := i.lt
  have CL : Hid (∀ w, Calls Tryz.prog 48 #[dv 1152921504606846976000000000, dv (a : Int)] w fun x w' => x = .returned (.bool (decide (¬ a ≤ most))) ∧ Below w.heap.size w w') := fun w => by
    have p20 := pow20
    have := less_dv 1152921504606846976000000000 (a : Int) w (by omega) (by omega) (by omega) (by omega)
    rw [show decide ((1152921504606846976000000000 : Int) < (a : Int)) = decide (¬ a ≤ most) by rw [decide_eq_decide]; unfold most; omega] at this
    exact this
  obtain ⟨b, hb⟩ : ∃ b, b = decide (a ≤ most) := ⟨_, rfl⟩
  rw [show decide (¬ a ≤ most) = !b by rw [hb, decide_not]] at CL
  rw [← hb]
  clear hb a1 i
  obtain ⟨M, hM⟩ : ∃ M : Int, M = 1152921504606846976000000000 := ⟨_, rfl⟩
  obtain ⟨D, hD⟩ : ∃ D : Int, D = (a : Int) := ⟨_, rfl⟩
  have CM : Hid (∀ w, Calls Tryz.prog 69 #[] w fun x w' => x = .returned (dv M) ∧ Below w.heap.size w w') := fun w => by rw [hM]; exact most_dv w
  rw [← hM, ← hD] at CL
  rw [← hD] at CO
  clear hM hD
  go_enter Tryz.func46, Tryz.ntmps46
  go_wp2_with (fail)
  have F0 : BD w [(w.heap.size, ah, al)] (w.alloc (.cells #[.int .u64 ah, .int .u64 al] 42)) := ⟨fun x hx => by simp at hx; subst hx; exact Box.new _ _ _ _ _ rfl, by go_grown⟩
  generalize w.alloc (.cells #[.int .u64 ah, .int .u64 al] 42) = W1 at *
  refine wp_region_noPanic ?_
  refine wp_region_held_drew (S := fun w' => Box w' w.heap.size ah al) (by kernel_rfl) ?_ (fun hHeld => ?_)
  · exact F0.drew.1 (w.heap.size, ah, al) (by simp)
  refine wpAnyH_take (i := 1) (v := ?_) rfl (by kernel_rfl) (by kernel_rfl) (by kernel_rfl) (fun _ _ _ h => h) (Or.inl ⟨by rfl, ?_⟩) (by assumption) ?_
  rotate_left
  · (intro wS hSw; obtain ⟨g0, g1, -, -, -⟩ := hSw; go_simp; try with_reducible rfl)
  change wpAnyH _ _ _ _ _ _ _ (Act.put _ (some 4) _) _
  simp only [Act.put, List.setIfInBounds_toArray, List.set_cons_zero, List.set_cons_succ]
  refine wpAnyH_named ?_
  intro A hA
  clear hHeld
  refine wpAnyH_inv (I := fun L a W => ∃ (c0 c2 c3 c4 c5 : Bool) (s3 s5 s6 s7 s2 : Value), L = #[c0, true, c2, c3, c4, c5] ∧ a = (((((A.put (some 3) s3).put (some 5) s5).put (some 6) s6).put (some 7) s7).put (some 2) s2) ∧ Hid (BD w [(w.heap.size, ah, al)] W) ∧ Hid (c0 = true → s3 = dv M) ∧ Hid (c2 = true → s5 = dv D) ∧ Hid (c3 = true → s6 = .bool (!b)) ∧ Hid (c4 = true → s7 = .bool b) ∧ Hid (c5 = true → s2 = .bool b)) ?hS ?hz (by kernel_rfl) ?hsteps ?hend _ _ _ _ (by decide) ?h0
  case hS => rintro L a W ⟨c0, c2, c3, c4, c5, s3, s5, s6, s7, s2, -, -, K, -⟩; exact (fun h => h) (K.out.1 (w.heap.size, ah, al) (by simp))
  case hz => rintro L a W ⟨c0, c2, c3, c4, c5, s3, s5, s6, s7, s2, rfl, -⟩; rfl
  case h0 => exact ⟨false, false, false, false, false, A.eval (.tmp 3), A.eval (.tmp 5), A.eval (.tmp 6), A.eval (.tmp 7), A.eval (.tmp 2), rfl, by simp only [put_self], F0.drew, fun h => Bool.noConfusion h, fun h => Bool.noConfusion h, fun h => Bool.noConfusion h, fun h => Bool.noConfusion h, fun h => Bool.noConfusion h⟩
  case hend =>
    rintro L a W ⟨c0, c2, c3, c4, c5, s3, s5, s6, s7, s2, rfl, rfl, K, k0, k2, k3, k4, k5⟩ hall
    obtain rfl : c0 = true := hall 0
    obtain rfl : c2 = true := hall 2
    obtain rfl : c3 = true := hall 3
    obtain rfl : c4 = true := hall 4
    obtain rfl : c5 = true := hall 5
    obtain rfl := k0.out rfl
    obtain rfl := k2.out rfl
    obtain rfl := k3.out rfl
    obtain rfl := k4.out rfl
    obtain rfl := k5.out rfl
    clear k0 k2 k3 k4 k5
    refine NoPanic.normal ?_
    subst hA
    simp only [Act.put, List.setIfInBounds_toArray, List.set_cons_zero, List.set_cons_succ]
    have HBZ : Below w.heap.size w W := K.out.2
    clear K
    go_wp2
    go_ret
    exact ⟨rfl, HBZ⟩
  case hsteps =>
    refine StepsI.cons (i := 0) rfl ?_ ?_
    · rintro L a W ⟨c0, c2, c3, c4, c5, s3, s5, s6, s7, s2, rfl, rfl, K, k0, k2, k3, k4, k5⟩ h0 hd KK hK
      obtain rfl : c0 = false := h0
      subst hA
      simp only [Act.put, List.setIfInBounds_toArray, List.set_cons_zero, List.set_cons_succ]
      clear hd
      go_simp
      refine (CM.out _).mono ?_
      rintro e w2 ⟨rfl, hw2⟩
      (try go_wp2_with (fail))
      exact hK.out _ _ ⟨true, c2, c3, c4, c5, dv M, s5, s6, s7, s2, rfl, by simp only [Act.put, List.setIfInBounds_toArray, List.set_cons_zero, List.set_cons_succ], K.out.later hw2, fun _ => rfl, k2.out, k3.out, k4.out, k5.out⟩
    refine StepsI.skip (i := 1) (by rintro L a W ⟨c0, c2, c3, c4, c5, s3, s5, s6, s7, s2, rfl, -⟩; rfl) ?_
    refine StepsI.cons (i := 2) rfl ?_ ?_
    · rintro L a W ⟨c0, c2, c3, c4, c5, s3, s5, s6, s7, s2, rfl, rfl, K, k0, k2, k3, k4, k5⟩ h0 hd KK hK
      obtain rfl : c2 = false := h0
      subst hA
      simp only [Act.put, List.setIfInBounds_toArray, List.set_cons_zero, List.set_cons_succ]
      clear hd
      go_simp
      refine (CO.out _).mono ?_
      rintro e w2 ⟨rfl, hw2⟩
      (try go_wp2_with (fail))
      exact hK.out _ _ ⟨c0, true, c3, c4, c5, s3, dv D, s6, s7, s2, rfl, by simp only [Act.put, List.setIfInBounds_toArray, List.set_cons_zero, List.set_cons_succ], K.out.later hw2, k0.out, fun _ => rfl, k3.out, k4.out, k5.out⟩
    refine StepsI.cons (i := 3) rfl ?_ ?_
    · rintro L a W ⟨c0, c2, c3, c4, c5, s3, s5, s6, s7, s2, rfl, rfl, K, k0, k2, k3, k4, k5⟩ h0 hd KK hK
      obtain rfl : c3 = false := h0
      obtain rfl : c0 = true := hd ⟨0, .data⟩ (by simp) rfl
      obtain rfl : c2 = true := hd ⟨2, .data⟩ (by simp) rfl
      have e0 := k0.out rfl
      subst e0
      have e2 := k2.out rfl
      subst e2
      subst hA
      simp only [Act.put, List.setIfInBounds_toArray, List.set_cons_zero, List.set_cons_succ]
      clear hd
      go_simp
      refine (CL.out _).mono ?_
      rintro e w2 ⟨rfl, hw2⟩
      (try go_wp2_with (fail))
      exact hK.out _ _ ⟨true, true, true, c4, c5, dv M, dv D, .bool (!b), s7, s2, rfl, by simp only [Act.put, List.setIfInBounds_toArray, List.set_cons_zero, List.set_cons_succ], K.out.later hw2, fun _ => rfl, fun _ => rfl, fun _ => rfl, k4.out, k5.out⟩
    refine StepsI.cons (i := 4) rfl ?_ ?_
    · rintro L a W ⟨c0, c2, c3, c4, c5, s3, s5, s6, s7, s2, rfl, rfl, K, k0, k2, k3, k4, k5⟩ h0 hd KK hK
      obtain rfl : c4 = false := h0
      obtain rfl : c3 = true := hd ⟨3, .data⟩ (by simp) rfl
      have e3 := k3.out rfl
      subst e3
      subst hA
      simp only [Act.put, List.setIfInBounds_toArray, List.set_cons_zero, List.set_cons_succ]
      clear hd
      go_simp
      exact hK.out _ _ ⟨c0, c2, true, true, c5, s3, s5, .bool (!b), .bool b, s2, rfl, by simp only [Act.put, List.setIfInBounds_toArray, List.set_cons_zero, List.set_cons_succ], K, k0.out, k2.out, fun _ => rfl, fun _ => rfl, k5.out⟩
    refine StepsI.cons (i := 5) rfl ?_ ?_
    · rintro L a W ⟨c0, c2, c3, c4, c5, s3, s5, s6, s7, s2, rfl, rfl, K, k0, k2, k3, k4, k5⟩ h0 hd KK hK
      obtain rfl : c5 = false := h0
      obtain rfl : c4 = true := hd ⟨4, .data⟩ (by simp) rfl
      have e4 := k4.out rfl
      subst e4
      subst hA
      simp only [Act.put, List.setIfInBounds_toArray, List.set_cons_zero, List.set_cons_succ]
      clear hd
      go_simp
      exact hK.out _ _ ⟨c0, c2, c3, true, true, s3, s5, s6, .bool b, .bool b, rfl, by simp only [Act.put, List.setIfInBounds_toArray, List.set_cons_zero, List.set_cons_succ], K, k0.out, k2.out, k3.out, fun _ => rfl, fun _ => rfl⟩
    exact StepsI.nil

end Go.Proofs.YtpbgolcimbjekaaGreatDoor
