/-
  The walk of the statement WideBy: it returns true. Conditions: all words lie below 2^64, n is a machine word.
-/
import Derived.Test.YtahmgbaonldlfaaK
import Derived.Test.YtahmgbaonldlfaaR2
import Derived.Deep.RegionHeld3
import Derived.Deep.RegionWith
import Derived.Deep.CutRange
import Derived.Deep.DeepCutAuto
namespace Go.Proofs.Ytahmgbaonldlfaa
open Go.RowKit

set_option maxHeartbeats 40000000 in
set_option maxRecDepth 100000 in
theorem lawby_any (ah al u n : Int) (w : World) (a0 : 0 ≤ al) (a1 : al < 18446744073709551616) (a2 : 0 ≤ ah) (a3 : ah < 18446744073709551616)
    (u0 : 0 ≤ u) (u1 : u < 18446744073709551616) (n0 : -9223372036854775808 ≤ n) (n1 : n ≤ 9223372036854775807) :
    Calls Try.prog 5 #[.agg #[.int .u64 ah, .int .u64 al], .int .u64 u, .int .i64 n] w fun e w' => e = .returned (.bool true) ∧ Below w.heap.size w w' := by
  go_enter Try.func5, Try.ntmps5
  go_wp2_with (fail)
  refine (first_any _).mono ?_
  rintro e w1 ⟨rfl, hw1⟩
  have C0 := cell_later hw1 (a := ⟨w.heap.size, 0, none⟩) (v := .int .u64 ah) (by simp [go_sem])
  have C1 := cell_later hw1 (a := ⟨w.heap.size, 1, none⟩) (v := .int .u64 al) (by simp [go_sem])
  obtain ⟨HB1, -, -, s1⟩ := aft hw1 (B := w.heap.size) (W0 := w) (by go_grown) (by first | omega | (simp; done) | (simp; omega))
  clear hw1
  (try simp at s1)
  have K1 : Hid (Kn w [(w.heap.size, ah, al)] [] w1) := Kn.one ⟨C0, C1, by omega⟩ (by omega) HB1
  clear HB1
  have HA : Hid (0 ≤ (ah * 18446744073709551616 + al) ∧ (ah * 18446744073709551616 + al) < 340282366920938463463374607431768211456) := by unfold Hid; omega
  have H20 : Hid ((65536 : Int) ^ 20 = 2135987035920910082395021706169552114602704522356652769947041607822219725780640550022962086936576) := pow20
  go_upto_region 3 with (fail)
  refine wp_region_lit ?_
  refine wpList_one fun K' hK' => ?_
  rw [if_pos (by rfl)]
  go_simp
  refine hK'.out _ _ ?_
  clear hK' K'
  clear C0 C1
  refine wpList_one fun K' hK' => ?_
  rw [if_pos (by rfl)]
  go_simp
  refine (rof_dv ah al _ a0 a1 a2 a3).mono ?_
  rintro e w2 ⟨rfl, hw2⟩
  (try go_wp2_with (fail))
  refine hK'.out _ _ ?_
  clear hK' K'
  have K2 := K1.out.later hw2
  clear K1 hw2 s1
  refine wpList_one fun K' hK' => ?_
  rw [if_pos (by rfl)]
  go_simp
  refine hK'.out _ _ ?_
  clear hK' K'
  refine num_store (Num.zeros w2 27 _ rfl) rfl _ _ rfl rfl rfl (ah * 18446744073709551616 + al) rfl ?_
  refine wpList_to (Pr := fun W => Hid (Kn w [(w.heap.size, ah, al)] [(w2.heap.size, (ah * 18446744073709551616 + al))] W)) (K2.digits (ah * 18446744073709551616 + al) 27) ?_
  intro W3 F3
  clear K2
  generalize w2.heap.size = p7 at F3 ⊢
  clear w2
  obtain ⟨qh, hqh⟩ : ∃ qh : Int, qh = if u = 0 then 0 else wh ((ah * 18446744073709551616 + al) / u) := ⟨_, rfl⟩
  have Hqh : Hid (qh = if u = 0 then 0 else wh ((ah * 18446744073709551616 + al) / u)) := hqh
  clear hqh
  obtain ⟨ql, hql⟩ : ∃ ql : Int, ql = if u = 0 then 0 else wl ((ah * 18446744073709551616 + al) / u) := ⟨_, rfl⟩
  have Hql : Hid (ql = if u = 0 then 0 else wl ((ah * 18446744073709551616 + al) / u)) := hql
  clear hql
  obtain ⟨r, hr⟩ : ∃ r : Int, r = if u = 0 then 0 else (ah * 18446744073709551616 + al) % u := ⟨_, rfl⟩
  have Hr : Hid (r = if u = 0 then 0 else (ah * 18446744073709551616 + al) % u) := hr
  clear hr
  obtain ⟨ok, hok⟩ : ∃ ok : Bool, ok = !decide (u = 0) := ⟨_, rfl⟩
  have Hok : Hid (ok = !decide (u = 0)) := hok
  clear hok
  obtain ⟨p0, p1, pz⟩ := F3.out.1 (w.heap.size, ah, al) (by simp)
  dsimp only at p0 p1 pz
  go_wp2_with (fail)
  refine (by_wv ah al u _ a0 a1 a2 a3 u0 u1 qh ql r ok Hqh.out Hql.out Hr.out Hok.out).mono ?_
  rintro e w4 ⟨rfl, hw4⟩
  have F4 : Hid (Kn w ((w4.heap.size, qh, ql) :: [(w.heap.size, ah, al)]) [(p7, (ah * 18446744073709551616 + al))] (w4.alloc (.cells #[.int .u64 (qh), .int .u64 (ql)] 24))) := (F3.out.later hw4).new qh ql 24
  clear p0 p1 pz hw4 F3
  go_upto_if 38 with (fail)
  generalize w4.alloc (.cells #[.int .u64 (qh), .int .u64 (ql)] 24) = W4 at F4 ⊢
  generalize w4.heap.size = p8 at F4 ⊢
  go_cut [] (fun wc => Hid (Kn w [(w.heap.size, ah, al)] [(p7, (ah * 18446744073709551616 + al))] wc))
  case first =>
    by_cases hu : u = 0
    · rw [show (u == 0) = true from beq_iff_eq.2 hu]
      have e := Hqh.out
      rw [if_pos hu] at e
      subst e
      have e := Hql.out
      rw [if_pos hu] at e
      subst e
      have e := Hr.out
      rw [if_pos hu] at e
      subst e
      have e : ok = false := by rw [Hok.out, decide_eq_true hu]; rfl
      subst e
      obtain ⟨q0, q1, qz⟩ := F4.out.1 (p8, 0, 0) (by simp)
      dsimp only at q0 q1 qz
      clear hu
      go_wp2_with (fail)
      go_meet
      case rel => exact F4.out.part (by simp) (by simp)
    · rw [show (u == 0) = false from beq_eq_false_iff_ne.2 hu]
      obtain ⟨Q, hQ⟩ : ∃ Q : Int, Q = (ah * 18446744073709551616 + al) / u := ⟨_, rfl⟩
      have HQ : Hid (Q = (ah * 18446744073709551616 + al) / u) := hQ
      clear hQ
      obtain ⟨M, hM⟩ : ∃ M : Int, M = (ah * 18446744073709551616 + al) % u := ⟨_, rfl⟩
      have HM : Hid (M = (ah * 18446744073709551616 + al) % u) := hM
      clear hM
      have e := Hqh.out
      rw [if_neg hu, ← HQ.out] at e
      subst e
      have e := Hql.out
      rw [if_neg hu, ← HQ.out] at e
      subst e
      have e := Hr.out
      rw [if_neg hu, ← HM.out] at e
      have e' := e.symm
      subst e'
      have e : ok = true := by rw [Hok.out, decide_eq_false hu]; rfl
      subst e
      have HQ0 : Hid (0 ≤ Q ∧ Q < 65536 ^ 20) := by unfold Hid; rw [HQ.out]; have h1 := Int.ediv_nonneg HA.out.1 u0; have h2 := Int.ediv_le_self u HA.out.1; have := HA.out; have := H20.out; omega
      have HM0 : Hid (0 ≤ M ∧ M < 18446744073709551616) := by unfold Hid; rw [HM.out]; have h1 := Int.emod_nonneg (ah * 18446744073709551616 + al) hu; have h2 := Int.emod_lt_of_pos (ah * 18446744073709551616 + al) (show 0 < u by omega); omega
      have HU : Hid (0 < u) := by unfold Hid; omega
      clear Hqh Hql Hr Hok hu
      go_upto_region 8 with (fail)
      go_cut [11, 12] (fun s11 s12 wc => ∃ x y : Nat, s11 = .pointer (some ⟨x, 0, none⟩) ∧ s12 = .pointer (some ⟨y, 0, none⟩) ∧ Hid (Kn w ((p8, wh Q, wl Q) :: [(w.heap.size, ah, al)]) ((x, Q) :: (y, M) :: [(p7, (ah * 18446744073709551616 + al))]) wc))
      case first =>
        refine wp_region_noPanic ?_
        refine wp_region_held_drew (S := fun w' => w'.rangeAt p7 0 (dl (wd (ah * 18446744073709551616 + al)))) (by kernel_rfl) ?_ (fun hHeld => ?_)
        · exact (F4.out.2.1 (p7, (ah * 18446744073709551616 + al)) (by simp)).1
        refine wpAnyH_take (i := 0) (v := .agg (dl (wd (ah * 18446744073709551616 + al))).toArray) rfl (by kernel_rfl) (by kernel_rfl) (by kernel_rfl) (fun _ _ _ h => h) (yieldsIf_load_mid (by rfl) _ _ rfl (p7) 0 rfl (dl (wd (ah * 18446744073709551616 + al))) _ (fun wS hSw => hSw) Try.underlying27 rfl (by rw [dl_len]; exact dig_info)) (by assumption) ?_
        change wpAnyH _ _ _ _ _ _ _ (Act.put _ (some 50) _) _
        simp only [Act.put, List.setIfInBounds_toArray, List.set_cons_zero, List.set_cons_succ]
        refine wpAnyH_take (i := 1) (v := ?_) rfl (by kernel_rfl) (by kernel_rfl) (by kernel_rfl) (fun _ _ _ h => h) (Or.inl ⟨by rfl, ?_⟩) (by assumption) ?_
        rotate_left
        · (intro wS hSw; (try dsimp only at hSw); go_simp; try with_reducible rfl)
        change wpAnyH _ _ _ _ _ _ _ (Act.put _ (some 51) _) _
        simp only [Act.put, List.setIfInBounds_toArray, List.set_cons_zero, List.set_cons_succ]
        refine wpAnyH_take (i := 2) (v := ?_) rfl (by kernel_rfl) (by kernel_rfl) (by kernel_rfl) (fun _ _ _ h => h) (Or.inl ⟨by rfl, ?_⟩) (by assumption) ?_
        rotate_left
        · (intro wS hSw; (try dsimp only at hSw); go_simp; try with_reducible rfl)
        change wpAnyH _ _ _ _ _ _ _ (Act.put _ (some 52) _) _
        simp only [Act.put, List.setIfInBounds_toArray, List.set_cons_zero, List.set_cons_succ]
        refine wpAnyH_named ?_
        intro A hA
        clear hHeld
        refine wpAnyH_inv (I := fun L a W => ∃ (c3 c4 c5 c6 c7 c8 c9 c10 c11 : Bool) (s53 s54 s49 s55 s56 s11 s12 : Value), L = #[true, true, true, c3, c4, c5, c6, c7, c8, c9, c10, c11] ∧ a = (((((((A.put (some 53) s53).put (some 54) s54).put (some 49) s49).put (some 55) s55).put (some 56) s56).put (some 11) s11).put (some 12) s12) ∧ Hid (Below W4.heap.size W4.drew W) ∧ Hid (c3 = true → s53 = dv u) ∧ Hid (c4 = true → s54 = .tuple #[dv Q, dv M]) ∧ Hid (c5 = true → s49 = .tuple #[dv Q, dv M]) ∧ Hid (c6 = true → s55 = dv Q) ∧ Hid (c7 = true → s56 = dv M) ∧ Hid (MadeL W4.heap.size 20 c8 c10 s11 (dl (wd Q)) W) ∧ Hid (MadeL W4.heap.size 20 c9 c11 s12 (dl (wd M)) W) ∧ Hid (c8 = true → c9 = true → s11 ≠ s12)) ?hS ?hz (by kernel_rfl) ?hsteps ?hend _ _ _ _ (by decide) ?h0
        case hS => rintro L a W ⟨c3, c4, c5, c6, c7, c8, c9, c10, c11, s53, s54, s49, s55, s56, s11, s12, -, -, K, -⟩; have hb := K.out; clear K; exact (fun h => h) (range_later (F4.out.2.1 (p7, (ah * 18446744073709551616 + al)) (by simp)).1 (of_drew hb) (F4.out.2.1 (p7, (ah * 18446744073709551616 + al)) (by simp)).2)
        case hz => rintro L a W ⟨c3, c4, c5, c6, c7, c8, c9, c10, c11, s53, s54, s49, s55, s56, s11, s12, rfl, -⟩; rfl
        case h0 => exact ⟨false, false, false, false, false, false, false, false, false, A.eval (.tmp 53), A.eval (.tmp 54), A.eval (.tmp 49), A.eval (.tmp 55), A.eval (.tmp 56), A.eval (.tmp 11), A.eval (.tmp 12), rfl, by simp only [put_self], Below.refl _ _, fun h => Bool.noConfusion h, fun h => Bool.noConfusion h, fun h => Bool.noConfusion h, fun h => Bool.noConfusion h, fun h => Bool.noConfusion h, MadeL.not _ _ _ _ _, MadeL.not _ _ _ _ _, fun h => Bool.noConfusion h⟩
        case hend =>
          rintro L a W ⟨c3, c4, c5, c6, c7, c8, c9, c10, c11, s53, s54, s49, s55, s56, s11, s12, rfl, rfl, K, k3, k4, k5, k6, k7, k8, k9, d8_9⟩ hall
          obtain rfl : c3 = true := hall 3
          obtain rfl : c4 = true := hall 4
          obtain rfl : c5 = true := hall 5
          obtain rfl : c6 = true := hall 6
          obtain rfl : c7 = true := hall 7
          obtain rfl : c8 = true := hall 8
          obtain rfl : c9 = true := hall 9
          obtain rfl : c10 = true := hall 10
          obtain rfl : c11 = true := hall 11
          obtain ⟨p8r, rfl, -, z8, -, r8'⟩ := k8.out.2 rfl
          have r8 := r8' rfl
          clear r8'
          obtain ⟨p9r, rfl, -, z9, -, r9'⟩ := k9.out.2 rfl
          have r9 := r9' rfl
          clear r9'
          obtain rfl := k3.out rfl
          obtain rfl := k4.out rfl
          obtain rfl := k5.out rfl
          obtain rfl := k6.out rfl
          obtain rfl := k7.out rfl
          clear k3 k4 k5 k6 k7 k8 k9 d8_9
          refine NoPanic.normal ?_
          subst hA
          simp only [Act.put, List.setIfInBounds_toArray, List.set_cons_zero, List.set_cons_succ]
          have R : Hid (Kn w ((p8, wh Q, wl Q) :: [(w.heap.size, ah, al)]) ((p8r, Q) :: (p9r, M) :: [(p7, (ah * 18446744073709551616 + al))]) W) := (Kn.later F4.out.drew K.out).ranges ⟨r8, z8⟩ ⟨r9, z9⟩
          clear K r8 r9
          go_wp2_with (fail)
          go_meet
          case rel => exact ⟨p8r, p9r, rfl, rfl, R⟩
        case hsteps =>
          refine StepsI.skip (i := 0) (by rintro L a W ⟨c3, c4, c5, c6, c7, c8, c9, c10, c11, s53, s54, s49, s55, s56, s11, s12, rfl, -⟩; rfl) ?_
          refine StepsI.skip (i := 1) (by rintro L a W ⟨c3, c4, c5, c6, c7, c8, c9, c10, c11, s53, s54, s49, s55, s56, s11, s12, rfl, -⟩; rfl) ?_
          refine StepsI.skip (i := 2) (by rintro L a W ⟨c3, c4, c5, c6, c7, c8, c9, c10, c11, s53, s54, s49, s55, s56, s11, s12, rfl, -⟩; rfl) ?_
          refine StepsI.cons (i := 3) rfl ?_ ?_
          · rintro L a W ⟨c3, c4, c5, c6, c7, c8, c9, c10, c11, s53, s54, s49, s55, s56, s11, s12, rfl, rfl, K, k3, k4, k5, k6, k7, k8, k9, d8_9⟩ h0 hd KK hK
            obtain rfl : c3 = false := h0
            subst hA
            simp only [Act.put, List.setIfInBounds_toArray, List.set_cons_zero, List.set_cons_succ]
            clear hd
            go_simp
            refine (rof_dv 0 u _ u0 u1 (by omega) (by omega)).mono ?_
            rintro e w2 ⟨rfl, hw2⟩
            rw [Int.zero_mul, Int.zero_add]
            (try go_wp2_with (fail))
            exact hK.out _ _ ⟨true, c4, c5, c6, c7, c8, c9, c10, c11, dv u, s54, s49, s55, s56, s11, s12, rfl, by simp only [Act.put, List.setIfInBounds_toArray, List.set_cons_zero, List.set_cons_succ], K.out.trans (hw2.mono K.out.size), fun _ => rfl, k4.out, k5.out, k6.out, k7.out, k8.out.later hw2, k9.out.later hw2, d8_9.out⟩
          refine StepsI.cons (i := 4) rfl ?_ ?_
          · rintro L a W ⟨c3, c4, c5, c6, c7, c8, c9, c10, c11, s53, s54, s49, s55, s56, s11, s12, rfl, rfl, K, k3, k4, k5, k6, k7, k8, k9, d8_9⟩ h0 hd KK hK
            obtain rfl : c4 = false := h0
            obtain rfl : c3 = true := hd ⟨3, .data⟩ (by simp) rfl
            have e3 := k3.out rfl
            subst e3
            subst hA
            simp only [Act.put, List.setIfInBounds_toArray, List.set_cons_zero, List.set_cons_succ]
            clear hd
            go_simp
            refine (by_dv (ah * 18446744073709551616 + al) u _ HA.out.1 HA.out.2 HU.out (by omega)).mono ?_
            rintro e w2 ⟨rfl, hw2⟩
            rw [← HQ.out, ← HM.out]
            (try go_wp2_with (fail))
            exact hK.out _ _ ⟨true, true, c5, c6, c7, c8, c9, c10, c11, dv u, .tuple #[dv Q, dv M], s49, s55, s56, s11, s12, rfl, by simp only [Act.put, List.setIfInBounds_toArray, List.set_cons_zero, List.set_cons_succ], K.out.trans (hw2.mono K.out.size), fun _ => rfl, fun _ => rfl, k5.out, k6.out, k7.out, k8.out.later hw2, k9.out.later hw2, d8_9.out⟩
          refine StepsI.cons (i := 5) rfl ?_ ?_
          · rintro L a W ⟨c3, c4, c5, c6, c7, c8, c9, c10, c11, s53, s54, s49, s55, s56, s11, s12, rfl, rfl, K, k3, k4, k5, k6, k7, k8, k9, d8_9⟩ h0 hd KK hK
            obtain rfl : c5 = false := h0
            obtain rfl : c4 = true := hd ⟨4, .data⟩ (by simp) rfl
            have e4 := k4.out rfl
            subst e4
            subst hA
            simp only [Act.put, List.setIfInBounds_toArray, List.set_cons_zero, List.set_cons_succ]
            clear hd
            go_simp
            exact hK.out _ _ ⟨c3, true, true, c6, c7, c8, c9, c10, c11, s53, .tuple #[dv Q, dv M], .tuple #[dv Q, dv M], s55, s56, s11, s12, rfl, by simp only [Act.put, List.setIfInBounds_toArray, List.set_cons_zero, List.set_cons_succ], K.out, k3.out, fun _ => rfl, fun _ => rfl, k6.out, k7.out, k8.out, k9.out, d8_9.out⟩
          refine StepsI.cons (i := 6) rfl ?_ ?_
          · rintro L a W ⟨c3, c4, c5, c6, c7, c8, c9, c10, c11, s53, s54, s49, s55, s56, s11, s12, rfl, rfl, K, k3, k4, k5, k6, k7, k8, k9, d8_9⟩ h0 hd KK hK
            obtain rfl : c6 = false := h0
            obtain rfl : c5 = true := hd ⟨5, .data⟩ (by simp) rfl
            have e5 := k5.out rfl
            subst e5
            subst hA
            simp only [Act.put, List.setIfInBounds_toArray, List.set_cons_zero, List.set_cons_succ]
            clear hd
            go_simp
            exact hK.out _ _ ⟨c3, c4, true, true, c7, c8, c9, c10, c11, s53, s54, .tuple #[dv Q, dv M], dv Q, s56, s11, s12, rfl, by simp only [Act.put, List.setIfInBounds_toArray, List.set_cons_zero, List.set_cons_succ], K.out, k3.out, k4.out, fun _ => rfl, fun _ => rfl, k7.out, k8.out, k9.out, d8_9.out⟩
          refine StepsI.cons (i := 7) rfl ?_ ?_
          · rintro L a W ⟨c3, c4, c5, c6, c7, c8, c9, c10, c11, s53, s54, s49, s55, s56, s11, s12, rfl, rfl, K, k3, k4, k5, k6, k7, k8, k9, d8_9⟩ h0 hd KK hK
            obtain rfl : c7 = false := h0
            obtain rfl : c5 = true := hd ⟨5, .data⟩ (by simp) rfl
            have e5 := k5.out rfl
            subst e5
            subst hA
            simp only [Act.put, List.setIfInBounds_toArray, List.set_cons_zero, List.set_cons_succ]
            clear hd
            go_simp
            exact hK.out _ _ ⟨c3, c4, true, c6, true, c8, c9, c10, c11, s53, s54, .tuple #[dv Q, dv M], s55, dv M, s11, s12, rfl, by simp only [Act.put, List.setIfInBounds_toArray, List.set_cons_zero, List.set_cons_succ], K.out, k3.out, k4.out, fun _ => rfl, k6.out, fun _ => rfl, k8.out, k9.out, d8_9.out⟩
          refine StepsI.cons (i := 8) rfl ?_ ?_
          · rintro L a W ⟨c3, c4, c5, c6, c7, c8, c9, c10, c11, s53, s54, s49, s55, s56, s11, s12, rfl, rfl, K, k3, k4, k5, k6, k7, k8, k9, d8_9⟩ h0 hd KK hK
            obtain rfl : c8 = false := h0
            subst hA
            simp only [Act.put, List.setIfInBounds_toArray, List.set_cons_zero, List.set_cons_succ]
            clear hd
            go_simp
            exact hK.out _ _ ⟨c3, c4, c5, c6, c7, true, c9, c10, c11, s53, s54, s49, s55, s56, .pointer (some ⟨W.heap.size, 0, none⟩), s12, rfl, by simp only [Act.put, List.setIfInBounds_toArray, List.set_cons_zero, List.set_cons_succ], K.out.alloc K.out.size _, k3.out, k4.out, k5.out, k6.out, k7.out, k8.out.new K.out.size _ (by rfl), k9.out.alloc _, fun _ hc => by subst hc; exact k9.out.ne⟩
          refine StepsI.cons (i := 9) rfl ?_ ?_
          · rintro L a W ⟨c3, c4, c5, c6, c7, c8, c9, c10, c11, s53, s54, s49, s55, s56, s11, s12, rfl, rfl, K, k3, k4, k5, k6, k7, k8, k9, d8_9⟩ h0 hd KK hK
            obtain rfl : c9 = false := h0
            subst hA
            simp only [Act.put, List.setIfInBounds_toArray, List.set_cons_zero, List.set_cons_succ]
            clear hd
            go_simp
            exact hK.out _ _ ⟨c3, c4, c5, c6, c7, c8, true, c10, c11, s53, s54, s49, s55, s56, s11, .pointer (some ⟨W.heap.size, 0, none⟩), rfl, by simp only [Act.put, List.setIfInBounds_toArray, List.set_cons_zero, List.set_cons_succ], K.out.alloc K.out.size _, k3.out, k4.out, k5.out, k6.out, k7.out, k8.out.alloc _, k9.out.new K.out.size _ (by rfl), fun hc _ => by subst hc; exact k8.out.ne.symm⟩
          refine StepsI.cons (i := 10) rfl ?_ ?_
          · rintro L a W ⟨c3, c4, c5, c6, c7, c8, c9, c10, c11, s53, s54, s49, s55, s56, s11, s12, rfl, rfl, K, k3, k4, k5, k6, k7, k8, k9, d8_9⟩ h0 hd KK hK
            obtain rfl : c10 = false := h0
            obtain rfl : c8 = true := hd ⟨8, .data⟩ (by simp) rfl
            obtain rfl : c6 = true := hd ⟨6, .data⟩ (by simp) rfl
            obtain rfl : c9 = true := hd ⟨9, .phase⟩ (by simp) rfl
            have e := k6.out rfl
            subst hA
            simp only [Act.put, List.setIfInBounds_toArray, List.set_cons_zero, List.set_cons_succ]
            clear hd
            rw [if_pos (by rfl)]
            refine MadeL.store k8.out _ _ _ rfl rfl (by rfl) e (dl_len _) dig_info (dl_each _) ?_
            exact hK.out _ _ ⟨c3, c4, c5, true, c7, true, true, true, c11, s53, s54, s49, s55, s56, s11, s12, rfl, by simp only [Act.put, List.setIfInBounds_toArray, List.set_cons_zero, List.set_cons_succ], below_cells _ k8.out.ge _ 0 K.out, k3.out, k4.out, k5.out, k6.out, k7.out, k8.out.put (dl_len _), k9.out.beside k8.out _ (d8_9.out rfl rfl), d8_9.out⟩
          refine StepsI.cons (i := 11) rfl ?_ ?_
          · rintro L a W ⟨c3, c4, c5, c6, c7, c8, c9, c10, c11, s53, s54, s49, s55, s56, s11, s12, rfl, rfl, K, k3, k4, k5, k6, k7, k8, k9, d8_9⟩ h0 hd KK hK
            obtain rfl : c11 = false := h0
            obtain rfl : c9 = true := hd ⟨9, .data⟩ (by simp) rfl
            obtain rfl : c7 = true := hd ⟨7, .data⟩ (by simp) rfl
            obtain rfl : c8 = true := hd ⟨8, .phase⟩ (by simp) rfl
            have e := k7.out rfl
            subst hA
            simp only [Act.put, List.setIfInBounds_toArray, List.set_cons_zero, List.set_cons_succ]
            clear hd
            rw [if_pos (by rfl)]
            refine MadeL.store k9.out _ _ _ rfl rfl (by rfl) e (dl_len _) dig_info (dl_each _) ?_
            exact hK.out _ _ ⟨c3, c4, c5, c6, true, true, true, c10, true, s53, s54, s49, s55, s56, s11, s12, rfl, by simp only [Act.put, List.setIfInBounds_toArray, List.set_cons_zero, List.set_cons_succ], below_cells _ k9.out.ge _ 0 K.out, k3.out, k4.out, k5.out, k6.out, k7.out, k8.out.beside k9.out _ ((d8_9.out rfl rfl).symm), k9.out.put (dl_len _), d8_9.out⟩
          exact StepsI.nil
      case rest =>
        obtain ⟨x11, x12, rfl, rfl, F8⟩ := hcut
        clear F4
        go_upto_region 9 with (fail)
        refine wp_region_lit ?_
        refine wpList_load_mid rfl _ _ rfl x11 0 rfl (dl (wd Q)) _ (F8.out.2.1 (x11, Q) (by simp)).1 Try.underlying27 rfl (by rw [dl_len]; exact dig_info) ?_
        simp only [Act.put, List.setIfInBounds_toArray, List.set_cons_zero, List.set_cons_succ]
        go_wp2_with (fail)
        refine (wide_dv Q _ HQ0.out.1 HQ0.out.2).mono ?_
        rintro e w9 ⟨rfl, hw9⟩
        have F9 : Hid (Kn w ((w9.heap.size, wh Q, wl Q) :: (p8, wh Q, wl Q) :: [(w.heap.size, ah, al)]) ((x11, Q) :: (x12, M) :: [(p7, (ah * 18446744073709551616 + al))]) (w9.alloc (.cells #[.int .u64 (wh Q), .int .u64 (wl Q)] 24))) := (F8.out.later hw9).new (wh Q) (wl Q) 24
        clear hw9 F8
        go_upto_region 10 with (fail)
        generalize w9.alloc (.cells #[.int .u64 (wh Q), .int .u64 (wl Q)] 24) = W9 at F9 ⊢
        generalize w9.heap.size = p13 at F9 ⊢
        refine wp_region_lit ?_
        refine wpList_load_mid rfl _ _ rfl x12 0 rfl (dl (wd M)) _ (F9.out.2.1 (x12, M) (by simp)).1 Try.underlying27 rfl (by rw [dl_len]; exact dig_info) ?_
        simp only [Act.put, List.setIfInBounds_toArray, List.set_cons_zero, List.set_cons_succ]
        go_wp2_with (fail)
        refine (wide_dv M _ HM0.out.1 (by have := HM0.out; have := H20.out; omega)).mono ?_
        rintro e w10 ⟨rfl, hw10⟩
        rw [(words_low M HM0.out.1 HM0.out.2).1, (words_low M HM0.out.1 HM0.out.2).2]
        have F10 : Hid (Kn w ((w10.heap.size, 0, M) :: (p13, wh Q, wl Q) :: (p8, wh Q, wl Q) :: [(w.heap.size, ah, al)]) ((x11, Q) :: (x12, M) :: [(p7, (ah * 18446744073709551616 + al))]) (w10.alloc (.cells #[.int .u64 (0), .int .u64 (M)] 24))) := (F9.out.later hw10).new 0 M 24
        clear hw10 F9
        go_upto_region 11 with (fail)
        generalize w10.alloc (.cells #[.int .u64 (0), .int .u64 (M)] 24) = W10 at F10 ⊢
        generalize w10.heap.size = p15 at F10 ⊢
        obtain ⟨m0, m1, mz⟩ := F10.out.1 (p8, wh Q, wl Q) (by simp)
        dsimp only at m0 m1 mz
        obtain ⟨o0, o1, oz⟩ := F10.out.1 (p13, wh Q, wl Q) (by simp)
        dsimp only at o0 o1 oz
        obtain ⟨q0, q1, qz⟩ := F10.out.1 (p15, 0, M) (by simp)
        dsimp only at q0 q1 qz
        go_wp2_with (fail)
        go_meet
        case rel => exact F10.out.part (by simp) (by simp)
  case rest =>
    have F12 := hcut
    clear hcut F4 Hqh Hql Hr Hok
    go_upto_region 14 with (fail)
    rw [show (if 0 < if 128 < n then 128 else n then if 128 < n then 128 else n else 0) = ((max 0 (min n 128)).toNat : Int) by (repeat' split) <;> omega]
    obtain ⟨k, hk⟩ : ∃ k : Nat, k = (max 0 (min n 128)).toNat := ⟨_, rfl⟩
    have Hk : Hid (k = (max 0 (min n 128)).toNat) := hk
    clear hk
    rw [← Hk.out]
    generalize (if 128 < n then (128 : Int) else n) = k81
    have Hk1 : Hid (k ≤ 128) := by unfold Hid; rw [Hk.out]; omega
    obtain ⟨lh, hlh⟩ : ∃ lh : Int, lh = if n < 0 then 0 else wh ((ah * 18446744073709551616 + al) * 2 ^ n.toNat) := ⟨_, rfl⟩
    have Hlh : Hid (lh = if n < 0 then 0 else wh ((ah * 18446744073709551616 + al) * 2 ^ n.toNat)) := hlh
    clear hlh
    obtain ⟨ll, hll⟩ : ∃ ll : Int, ll = if n < 0 then 0 else wl ((ah * 18446744073709551616 + al) * 2 ^ n.toNat) := ⟨_, rfl⟩
    have Hll : Hid (ll = if n < 0 then 0 else wl ((ah * 18446744073709551616 + al) * 2 ^ n.toNat)) := hll
    clear hll
    obtain ⟨lb, hlb⟩ : ∃ lb : Bool, lb = if n < 0 then false else wt ((ah * 18446744073709551616 + al) * 2 ^ n.toNat) := ⟨_, rfl⟩
    have Hlb : Hid (lb = if n < 0 then false else wt ((ah * 18446744073709551616 + al) * 2 ^ n.toNat)) := hlb
    clear hlb
    obtain ⟨p0, p1, pz⟩ := F12.out.1 (w.heap.size, ah, al) (by simp)
    dsimp only at p0 p1 pz
    go_wp2_with (fail)
    refine (left_wv ah al n _ a0 a1 a2 a3 n1 lh ll lb Hlh.out Hll.out Hlb.out).mono ?_
    rintro e w14 ⟨rfl, hw14⟩
    have F14 : Hid (Kn w ((w14.heap.size, lh, ll) :: [(w.heap.size, ah, al)]) [(p7, (ah * 18446744073709551616 + al))] (w14.alloc (.cells #[.int .u64 (lh), .int .u64 (ll)] 24))) := (F12.out.later hw14).new lh ll 24
    clear p0 p1 pz hw14 F12
    go_upto_region 15 with (fail)
    generalize w14.alloc (.cells #[.int .u64 (lh), .int .u64 (ll)] 24) = W14 at F14 ⊢
    generalize w14.heap.size = p18 at F14 ⊢
    go_cut [20, 21] (fun s20 s21 wc => ∃ p20 : Nat, s20 = .pointer (some ⟨p20, 0, none⟩) ∧ s21 = .bool (decide (ah = 0 ∧ al = 0) && decide (0 ≤ n)) ∧ Hid (PV w ((p18, lh, ll) :: [(w.heap.size, ah, al)]) [(p7, (ah * 18446744073709551616 + al))] p20 0 0 wc))
    case first =>
      obtain ⟨p0, p1, pz⟩ := F14.out.1 (w.heap.size, ah, al) (by simp)
      dsimp only at p0 p1 pz
      have F15 : Hid (PV w ((p18, lh, ll) :: [(w.heap.size, ah, al)]) [(p7, (ah * 18446744073709551616 + al))] W14.heap.size 0 0 (W14.alloc (.cells #[.int .u64 (0), .int .u64 (0)] 24))) := PV.new F14.out 0 0 24
      by_cases h1 : ah = 0
      · by_cases h2 : al = 0
        · go_wp2_with (fail)
          go_meet
          case rel => exact ⟨_, rfl, by simp [h1, h2], F15⟩
        · go_wp2_with (fail)
          go_meet
          case rel => exact ⟨_, rfl, by simp [h2], F15⟩
      · go_wp2_with (fail)
        go_meet
        case rel => exact ⟨_, rfl, by simp [h1], F15⟩
    case rest =>
      obtain ⟨p20, rfl, rfl, F15⟩ := hcut
      clear F14
      obtain ⟨f0, hf0⟩ : ∃ f0 : Bool, f0 = (decide (ah = 0 ∧ al = 0) && decide (0 ≤ n)) := ⟨_, rfl⟩
      have Hf0 : Hid (f0 = (decide (ah = 0 ∧ al = 0) && decide (0 ≤ n))) := hf0
      clear hf0
      rw [← Hf0.out]
      go_upto_region 16 with (fail)
      go_cut [102] (fun s102 wc => s102 = .bool (decide (0 ≤ n ∧ n < 128)) ∧ Hid (PV w ((p18, lh, ll) :: [(w.heap.size, ah, al)]) [(p7, (ah * 18446744073709551616 + al))] p20 0 0 wc))
      case first =>
        by_cases h1 : 0 ≤ n
        · by_cases h2 : n < 128
          · go_wp2_with (fail)
            go_meet
            case rel => exact ⟨by simp [h1, h2], F15⟩
          · go_wp2_with (fail)
            go_meet
            case rel => exact ⟨by simp [h2], F15⟩
        · go_wp2_with (fail)
          go_meet
          case rel => exact ⟨by simp; omega, F15⟩
      case rest =>
        obtain ⟨rfl, F16⟩ := hcut
        clear F15
        go_upto_if 102 with (fail)
        go_cut [21] (fun s21 wc => s21 = .bool lb ∧ Hid (Kn w ((p20, lh, ll) :: ((p18, lh, ll) :: [(w.heap.size, ah, al)])) [(p7, (ah * 18446744073709551616 + al))] wc))
        case first =>
          by_cases hn : 0 ≤ n ∧ n < 128
          · rw [decide_eq_true hn]
            have e := Hlh.out
            rw [if_neg (by omega)] at e
            have e2 := Hll.out
            rw [if_neg (by omega)] at e2
            have e3 := Hlb.out
            rw [if_neg (by omega)] at e3
            obtain ⟨m, rfl⟩ : ∃ m : Nat, n = m := ⟨n.toNat, by omega⟩
            rw [Int.toNat_natCast] at e e2 e3
            obtain ⟨Z, hZ⟩ : ∃ Z : Int, Z = (ah * 18446744073709551616 + al) * 2 ^ m := ⟨_, rfl⟩
            have HZ : Hid (Z = (ah * 18446744073709551616 + al) * 2 ^ m) := hZ
            clear hZ
            rw [← HZ.out] at e e2 e3
            have Hm : Hid (m < 128) := by unfold Hid; omega
            have HP : Hid (0 < (2 : Int) ^ m ∧ (2 : Int) ^ m < 340282366920938463463374607431768211456) := ⟨two_pow_pos m, by have := two_pow_below m 8 (by have := Hm.out; omega); simpa using this⟩
            have HZ0 : Hid (0 ≤ Z ∧ Z < 65536 ^ 20) := by unfold Hid; rw [HZ.out]; exact prod_wide _ _ HA.out.1 HA.out.2 HP.out.1 HP.out.2
            have E : Hid (lh = wh Z ∧ ll = wl Z ∧ lb = wt Z) := ⟨e, e2, e3⟩
            clear e e2 e3 hn Hlh Hll Hlb
            obtain ⟨rfl, rfl, rfl⟩ := E.out
            clear E
            go_upto_region 17 with (fail)
            refine wp_region_noPanic ?_
            refine wp_region_held_drew (S := fun w' => w'.rangeAt p7 0 (dl (wd (ah * 18446744073709551616 + al)))) (by kernel_rfl) ?_ (fun hHeld => ?_)
            · exact (F16.out.1.2.1 (p7, (ah * 18446744073709551616 + al)) (by simp)).1
            refine wpAnyH_take (i := 0) (v := .agg (dl (wd (ah * 18446744073709551616 + al))).toArray) rfl (by kernel_rfl) (by kernel_rfl) (by kernel_rfl) (fun _ _ _ h => h) (yieldsIf_load_mid (by rfl) _ _ rfl (p7) 0 rfl (dl (wd (ah * 18446744073709551616 + al))) _ (fun wS hSw => hSw) Try.underlying27 rfl (by rw [dl_len]; exact dig_info)) (by assumption) ?_
            change wpAnyH _ _ _ _ _ _ _ (Act.put _ (some 104) _) _
            simp only [Act.put, List.setIfInBounds_toArray, List.set_cons_zero, List.set_cons_succ]
            refine wpAnyH_take (i := 1) (v := ?_) rfl (by kernel_rfl) (by kernel_rfl) (by kernel_rfl) (fun _ _ _ h => h) (Or.inl ⟨by rfl, ?_⟩) (by assumption) ?_
            rotate_left
            · (intro wS hSw; (try dsimp only at hSw); go_simp; try with_reducible rfl)
            change wpAnyH _ _ _ _ _ _ _ (Act.put _ (some 105) _) _
            simp only [Act.put, List.setIfInBounds_toArray, List.set_cons_zero, List.set_cons_succ]
            refine wpAnyH_named ?_
            intro A hA
            clear hHeld
            refine wpAnyH_inv (I := fun L a W => ∃ (c2 c3 c4 c5 c6 c7 c8 c9 : Bool) (s106 s107 s108 s103 s109 s110 s21 : Value), L = #[true, true, c2, c3, c4, c5, c6, c7, c8, c9] ∧ a = (((((((A.put (some 106) s106).put (some 107) s107).put (some 108) s108).put (some 103) s103).put (some 109) s109).put (some 110) s110).put (some 21) s21) ∧ Hid (PV w ((p18, wh Z, wl Z) :: [(w.heap.size, ah, al)]) [(p7, (ah * 18446744073709551616 + al))] p20 (bif c8 then wh Z else 0) (bif c8 then wl Z else 0) W) ∧ Hid (c2 = true → s106 = dv (2 ^ m)) ∧ Hid (c3 = true → s107 = dv Z) ∧ Hid (c4 = true → s108 = .tuple #[.agg #[.int .u64 (wh Z), .int .u64 (wl Z)], .bool (wt Z)]) ∧ Hid (c5 = true → s103 = .tuple #[.agg #[.int .u64 (wh Z), .int .u64 (wl Z)], .bool (wt Z)]) ∧ Hid (c6 = true → s109 = .agg #[.int .u64 (wh Z), .int .u64 (wl Z)]) ∧ Hid (c7 = true → s110 = .bool (wt Z)) ∧ Hid (c9 = true → s21 = .bool (wt Z))) ?hS ?hz (by kernel_rfl) ?hsteps ?hend _ _ _ _ (by decide) ?h0
            case hS => rintro L a W ⟨c2, c3, c4, c5, c6, c7, c8, c9, s106, s107, s108, s103, s109, s110, s21, -, -, K, -⟩; exact (fun h => h) ((K.out.1.2.1 (p7, (ah * 18446744073709551616 + al)) (by simp)).1)
            case hz => rintro L a W ⟨c2, c3, c4, c5, c6, c7, c8, c9, s106, s107, s108, s103, s109, s110, s21, rfl, -⟩; rfl
            case h0 => exact ⟨false, false, false, false, false, false, false, false, A.eval (.tmp 106), A.eval (.tmp 107), A.eval (.tmp 108), A.eval (.tmp 103), A.eval (.tmp 109), A.eval (.tmp 110), A.eval (.tmp 21), rfl, by simp only [put_self], F16.out.drew, fun h => Bool.noConfusion h, fun h => Bool.noConfusion h, fun h => Bool.noConfusion h, fun h => Bool.noConfusion h, fun h => Bool.noConfusion h, fun h => Bool.noConfusion h, fun h => Bool.noConfusion h⟩
            case hend =>
              rintro L a W ⟨c2, c3, c4, c5, c6, c7, c8, c9, s106, s107, s108, s103, s109, s110, s21, rfl, rfl, K, k2, k3, k4, k5, k6, k7, k9⟩ hall
              obtain rfl : c2 = true := hall 2
              obtain rfl : c3 = true := hall 3
              obtain rfl : c4 = true := hall 4
              obtain rfl : c5 = true := hall 5
              obtain rfl : c6 = true := hall 6
              obtain rfl : c7 = true := hall 7
              obtain rfl : c8 = true := hall 8
              obtain rfl : c9 = true := hall 9
              obtain rfl := k2.out rfl
              obtain rfl := k3.out rfl
              obtain rfl := k4.out rfl
              obtain rfl := k5.out rfl
              obtain rfl := k6.out rfl
              obtain rfl := k7.out rfl
              obtain rfl := k9.out rfl
              clear k2 k3 k4 k5 k6 k7 k9
              refine NoPanic.normal ?_
              subst hA
              simp only [Act.put, List.setIfInBounds_toArray, List.set_cons_zero, List.set_cons_succ]
              have R : Hid (PV w ((p18, wh Z, wl Z) :: [(w.heap.size, ah, al)]) [(p7, (ah * 18446744073709551616 + al))] p20 (wh Z) (wl Z) W) := K
              clear K F16
              go_wp2_with (fail)
              go_meet
              case rel => exact ⟨rfl, R.out.kn⟩
            case hsteps =>
              clear F16
              refine StepsI.skip (i := 0) (by rintro L a W ⟨c2, c3, c4, c5, c6, c7, c8, c9, s106, s107, s108, s103, s109, s110, s21, rfl, -⟩; rfl) ?_
              refine StepsI.skip (i := 1) (by rintro L a W ⟨c2, c3, c4, c5, c6, c7, c8, c9, s106, s107, s108, s103, s109, s110, s21, rfl, -⟩; rfl) ?_
              refine StepsI.cons (i := 2) rfl ?_ ?_
              · rintro L a W ⟨c2, c3, c4, c5, c6, c7, c8, c9, s106, s107, s108, s103, s109, s110, s21, rfl, rfl, K, k2, k3, k4, k5, k6, k7, k9⟩ h0 hd KK hK
                obtain rfl : c2 = false := h0
                subst hA
                simp only [Act.put, List.setIfInBounds_toArray, List.set_cons_zero, List.set_cons_succ]
                clear hd
                go_simp
                refine (power_dv m _ (by have := Hm.out; omega)).mono ?_
                rintro e w2 ⟨rfl, hw2⟩
                (try go_wp2_with (fail))
                exact hK.out _ _ ⟨true, c3, c4, c5, c6, c7, c8, c9, dv (2 ^ m), s107, s108, s103, s109, s110, s21, rfl, by simp only [Act.put, List.setIfInBounds_toArray, List.set_cons_zero, List.set_cons_succ], K.out.later hw2, fun _ => rfl, k3.out, k4.out, k5.out, k6.out, k7.out, k9.out⟩
              refine StepsI.cons (i := 3) rfl ?_ ?_
              · rintro L a W ⟨c2, c3, c4, c5, c6, c7, c8, c9, s106, s107, s108, s103, s109, s110, s21, rfl, rfl, K, k2, k3, k4, k5, k6, k7, k9⟩ h0 hd KK hK
                obtain rfl : c3 = false := h0
                obtain rfl : c2 = true := hd ⟨2, .data⟩ (by simp) rfl
                have e2 := k2.out rfl
                subst e2
                subst hA
                simp only [Act.put, List.setIfInBounds_toArray, List.set_cons_zero, List.set_cons_succ]
                clear hd
                go_simp
                refine (times_dv (ah * 18446744073709551616 + al) (2 ^ m) _ HA.out.1 HA.out.2 (by have := HP.out; omega) HP.out.2).mono ?_
                rintro e w2 ⟨rfl, hw2⟩
                rw [← HZ.out]
                (try go_wp2_with (fail))
                exact hK.out _ _ ⟨true, true, c4, c5, c6, c7, c8, c9, dv (2 ^ m), dv Z, s108, s103, s109, s110, s21, rfl, by simp only [Act.put, List.setIfInBounds_toArray, List.set_cons_zero, List.set_cons_succ], K.out.later hw2, fun _ => rfl, fun _ => rfl, k4.out, k5.out, k6.out, k7.out, k9.out⟩
              refine StepsI.cons (i := 4) rfl ?_ ?_
              · rintro L a W ⟨c2, c3, c4, c5, c6, c7, c8, c9, s106, s107, s108, s103, s109, s110, s21, rfl, rfl, K, k2, k3, k4, k5, k6, k7, k9⟩ h0 hd KK hK
                obtain rfl : c4 = false := h0
                obtain rfl : c3 = true := hd ⟨3, .data⟩ (by simp) rfl
                have e3 := k3.out rfl
                subst e3
                subst hA
                simp only [Act.put, List.setIfInBounds_toArray, List.set_cons_zero, List.set_cons_succ]
                clear hd
                go_simp
                refine (wide_dv Z _ HZ0.out.1 HZ0.out.2).mono ?_
                rintro e w2 ⟨rfl, hw2⟩
                (try go_wp2_with (fail))
                exact hK.out _ _ ⟨c2, true, true, c5, c6, c7, c8, c9, s106, dv Z, .tuple #[.agg #[.int .u64 (wh Z), .int .u64 (wl Z)], .bool (wt Z)], s103, s109, s110, s21, rfl, by simp only [Act.put, List.setIfInBounds_toArray, List.set_cons_zero, List.set_cons_succ], K.out.later hw2, k2.out, fun _ => rfl, fun _ => rfl, k5.out, k6.out, k7.out, k9.out⟩
              refine StepsI.cons (i := 5) rfl ?_ ?_
              · rintro L a W ⟨c2, c3, c4, c5, c6, c7, c8, c9, s106, s107, s108, s103, s109, s110, s21, rfl, rfl, K, k2, k3, k4, k5, k6, k7, k9⟩ h0 hd KK hK
                obtain rfl : c5 = false := h0
                obtain rfl : c4 = true := hd ⟨4, .data⟩ (by simp) rfl
                have e4 := k4.out rfl
                subst e4
                subst hA
                simp only [Act.put, List.setIfInBounds_toArray, List.set_cons_zero, List.set_cons_succ]
                clear hd
                go_simp
                exact hK.out _ _ ⟨c2, c3, true, true, c6, c7, c8, c9, s106, s107, .tuple #[.agg #[.int .u64 (wh Z), .int .u64 (wl Z)], .bool (wt Z)], .tuple #[.agg #[.int .u64 (wh Z), .int .u64 (wl Z)], .bool (wt Z)], s109, s110, s21, rfl, by simp only [Act.put, List.setIfInBounds_toArray, List.set_cons_zero, List.set_cons_succ], K, k2.out, k3.out, fun _ => rfl, fun _ => rfl, k6.out, k7.out, k9.out⟩
              refine StepsI.cons (i := 6) rfl ?_ ?_
              · rintro L a W ⟨c2, c3, c4, c5, c6, c7, c8, c9, s106, s107, s108, s103, s109, s110, s21, rfl, rfl, K, k2, k3, k4, k5, k6, k7, k9⟩ h0 hd KK hK
                obtain rfl : c6 = false := h0
                obtain rfl : c5 = true := hd ⟨5, .data⟩ (by simp) rfl
                have e5 := k5.out rfl
                subst e5
                subst hA
                simp only [Act.put, List.setIfInBounds_toArray, List.set_cons_zero, List.set_cons_succ]
                clear hd
                go_simp
                exact hK.out _ _ ⟨c2, c3, c4, true, true, c7, c8, c9, s106, s107, s108, .tuple #[.agg #[.int .u64 (wh Z), .int .u64 (wl Z)], .bool (wt Z)], .agg #[.int .u64 (wh Z), .int .u64 (wl Z)], s110, s21, rfl, by simp only [Act.put, List.setIfInBounds_toArray, List.set_cons_zero, List.set_cons_succ], K, k2.out, k3.out, k4.out, fun _ => rfl, fun _ => rfl, k7.out, k9.out⟩
              refine StepsI.cons (i := 7) rfl ?_ ?_
              · rintro L a W ⟨c2, c3, c4, c5, c6, c7, c8, c9, s106, s107, s108, s103, s109, s110, s21, rfl, rfl, K, k2, k3, k4, k5, k6, k7, k9⟩ h0 hd KK hK
                obtain rfl : c7 = false := h0
                obtain rfl : c5 = true := hd ⟨5, .data⟩ (by simp) rfl
                have e5 := k5.out rfl
                subst e5
                subst hA
                simp only [Act.put, List.setIfInBounds_toArray, List.set_cons_zero, List.set_cons_succ]
                clear hd
                go_simp
                exact hK.out _ _ ⟨c2, c3, c4, true, c6, true, c8, c9, s106, s107, s108, .tuple #[.agg #[.int .u64 (wh Z), .int .u64 (wl Z)], .bool (wt Z)], s109, .bool (wt Z), s21, rfl, by simp only [Act.put, List.setIfInBounds_toArray, List.set_cons_zero, List.set_cons_succ], K, k2.out, k3.out, k4.out, fun _ => rfl, k6.out, fun _ => rfl, k9.out⟩
              refine StepsI.cons (i := 8) rfl ?_ ?_
              · rintro L a W ⟨c2, c3, c4, c5, c6, c7, c8, c9, s106, s107, s108, s103, s109, s110, s21, rfl, rfl, K, k2, k3, k4, k5, k6, k7, k9⟩ h0 hd KK hK
                obtain rfl : c8 = false := h0
                obtain rfl : c6 = true := hd ⟨6, .data⟩ (by simp) rfl
                have e6 := k6.out rfl
                subst e6
                subst hA
                simp only [Act.put, List.setIfInBounds_toArray, List.set_cons_zero, List.set_cons_succ]
                clear hd
                rw [if_pos (by rfl)]
                refine pv_wp_store K.out _ _ rfl rfl rfl (wh Z) (wl Z) rfl ?_
                exact hK.out _ _ ⟨c2, c3, c4, c5, true, c7, true, c9, s106, s107, s108, s103, .agg #[.int .u64 (wh Z), .int .u64 (wl Z)], s110, s21, rfl, by simp only [Act.put, List.setIfInBounds_toArray, List.set_cons_zero, List.set_cons_succ], K.out.store (wh Z) (wl Z), k2.out, k3.out, k4.out, k5.out, fun _ => rfl, k7.out, k9.out⟩
              refine StepsI.cons (i := 9) rfl ?_ ?_
              · rintro L a W ⟨c2, c3, c4, c5, c6, c7, c8, c9, s106, s107, s108, s103, s109, s110, s21, rfl, rfl, K, k2, k3, k4, k5, k6, k7, k9⟩ h0 hd KK hK
                obtain rfl : c9 = false := h0
                obtain rfl : c7 = true := hd ⟨7, .data⟩ (by simp) rfl
                have e7 := k7.out rfl
                subst e7
                subst hA
                simp only [Act.put, List.setIfInBounds_toArray, List.set_cons_zero, List.set_cons_succ]
                clear hd
                go_simp
                exact hK.out _ _ ⟨c2, c3, c4, c5, c6, true, c8, true, s106, s107, s108, s103, s109, .bool (wt Z), .bool (wt Z), rfl, by simp only [Act.put, List.setIfInBounds_toArray, List.set_cons_zero, List.set_cons_succ], K, k2.out, k3.out, k4.out, k5.out, k6.out, fun _ => rfl, fun _ => rfl⟩
              exact StepsI.nil
          · rw [decide_eq_false hn]
            have E : Hid (lh = 0 ∧ ll = 0 ∧ lb = f0) := by unfold Hid; rw [Hlh.out, Hll.out, Hlb.out, Hf0.out]; exact left_out ah al n a0 a2 hn
            obtain ⟨rfl, rfl, rfl⟩ := E.out
            clear E
            go_wp2_with (fail)
            go_meet
            case rel => exact ⟨rfl, F16.out.kn⟩
        case rest =>
          obtain ⟨rfl, F17⟩ := hcut
          clear F16
          go_upto_region 18 with (fail)
          obtain ⟨Y, hY⟩ : ∃ Y : Int, Y = (ah * 18446744073709551616 + al) / 2 ^ k := ⟨_, rfl⟩
          have HY : Hid (Y = (ah * 18446744073709551616 + al) / 2 ^ k) := hY
          clear hY
          obtain ⟨X, hX⟩ : ∃ X : Int, X = (ah * 18446744073709551616 + al) % 2 ^ k := ⟨_, rfl⟩
          have HX : Hid (X = (ah * 18446744073709551616 + al) % 2 ^ k) := hX
          clear hX
          have HK : Hid (0 < (2 : Int) ^ k ∧ (2 : Int) ^ k ≤ 340282366920938463463374607431768211456) := ⟨two_pow_pos k, by have := two_pow_mono Hk1.out; rw [pow128] at this; exact this⟩
          have HY0 : Hid (0 ≤ Y ∧ Y < 65536 ^ 20) := by unfold Hid; rw [HY.out]; have h1 := Int.ediv_nonneg HA.out.1 (Int.le_of_lt HK.out.1); have h2 := Int.ediv_le_self (2 ^ k) HA.out.1; have := HA.out; have := H20.out; omega
          go_cut [22, 23] (fun s22 s23 wc => ∃ x y : Nat, s22 = .pointer (some ⟨x, 0, none⟩) ∧ s23 = .pointer (some ⟨y, 0, none⟩) ∧ Hid (Kn w ((p20, lh, ll) :: ((p18, lh, ll) :: [(w.heap.size, ah, al)])) ((x, Y) :: (y, X) :: [(p7, (ah * 18446744073709551616 + al))]) wc))
          case first =>
            refine wp_region_noPanic ?_
            refine wp_region_held_drew (S := fun w' => w'.rangeAt p7 0 (dl (wd (ah * 18446744073709551616 + al)))) (by kernel_rfl) ?_ (fun hHeld => ?_)
            · exact (F17.out.2.1 (p7, (ah * 18446744073709551616 + al)) (by simp)).1
            refine wpAnyH_take (i := 0) (v := .agg (dl (wd (ah * 18446744073709551616 + al))).toArray) rfl (by kernel_rfl) (by kernel_rfl) (by kernel_rfl) (fun _ _ _ h => h) (yieldsIf_load_mid (by rfl) _ _ rfl (p7) 0 rfl (dl (wd (ah * 18446744073709551616 + al))) _ (fun wS hSw => hSw) Try.underlying27 rfl (by rw [dl_len]; exact dig_info)) (by assumption) ?_
            change wpAnyH _ _ _ _ _ _ _ (Act.put _ (some 112) _) _
            simp only [Act.put, List.setIfInBounds_toArray, List.set_cons_zero, List.set_cons_succ]
            refine wpAnyH_take (i := 1) (v := ?_) rfl (by kernel_rfl) (by kernel_rfl) (by kernel_rfl) (fun _ _ _ h => h) (Or.inl ⟨by rfl, ?_⟩) (by assumption) ?_
            rotate_left
            · (intro wS hSw; (try dsimp only at hSw); go_simp; try with_reducible rfl)
            change wpAnyH _ _ _ _ _ _ _ (Act.put _ (some 113) _) _
            simp only [Act.put, List.setIfInBounds_toArray, List.set_cons_zero, List.set_cons_succ]
            refine wpAnyH_named ?_
            intro A hA
            clear hHeld
            refine wpAnyH_inv (I := fun L a W => ∃ (c2 c3 c4 c5 c6 c7 c8 c9 c10 : Bool) (s114 s115 s111 s116 s117 s22 s23 : Value), L = #[true, true, c2, c3, c4, c5, c6, c7, c8, c9, c10] ∧ a = (((((((A.put (some 114) s114).put (some 115) s115).put (some 111) s111).put (some 116) s116).put (some 117) s117).put (some 22) s22).put (some 23) s23) ∧ Hid (Below wc.heap.size wc.drew W) ∧ Hid (c2 = true → s114 = dv (2 ^ k)) ∧ Hid (c3 = true → s115 = .tuple #[dv Y, dv X]) ∧ Hid (c4 = true → s111 = .tuple #[dv Y, dv X]) ∧ Hid (c5 = true → s116 = dv Y) ∧ Hid (c6 = true → s117 = dv X) ∧ Hid (MadeL wc.heap.size 20 c7 c9 s22 (dl (wd Y)) W) ∧ Hid (MadeL wc.heap.size 20 c8 c10 s23 (dl (wd X)) W) ∧ Hid (c7 = true → c8 = true → s22 ≠ s23)) ?hS ?hz (by kernel_rfl) ?hsteps ?hend _ _ _ _ (by decide) ?h0
            case hS => rintro L a W ⟨c2, c3, c4, c5, c6, c7, c8, c9, c10, s114, s115, s111, s116, s117, s22, s23, -, -, K, -⟩; have hb := K.out; clear K; exact (fun h => h) (range_later (F17.out.2.1 (p7, (ah * 18446744073709551616 + al)) (by simp)).1 (of_drew hb) (F17.out.2.1 (p7, (ah * 18446744073709551616 + al)) (by simp)).2)
            case hz => rintro L a W ⟨c2, c3, c4, c5, c6, c7, c8, c9, c10, s114, s115, s111, s116, s117, s22, s23, rfl, -⟩; rfl
            case h0 => exact ⟨false, false, false, false, false, false, false, false, false, A.eval (.tmp 114), A.eval (.tmp 115), A.eval (.tmp 111), A.eval (.tmp 116), A.eval (.tmp 117), A.eval (.tmp 22), A.eval (.tmp 23), rfl, by simp only [put_self], Below.refl _ _, fun h => Bool.noConfusion h, fun h => Bool.noConfusion h, fun h => Bool.noConfusion h, fun h => Bool.noConfusion h, fun h => Bool.noConfusion h, MadeL.not _ _ _ _ _, MadeL.not _ _ _ _ _, fun h => Bool.noConfusion h⟩
            case hend =>
              rintro L a W ⟨c2, c3, c4, c5, c6, c7, c8, c9, c10, s114, s115, s111, s116, s117, s22, s23, rfl, rfl, K, k2, k3, k4, k5, k6, k7, k8, d7_8⟩ hall
              obtain rfl : c2 = true := hall 2
              obtain rfl : c3 = true := hall 3
              obtain rfl : c4 = true := hall 4
              obtain rfl : c5 = true := hall 5
              obtain rfl : c6 = true := hall 6
              obtain rfl : c7 = true := hall 7
              obtain rfl : c8 = true := hall 8
              obtain rfl : c9 = true := hall 9
              obtain rfl : c10 = true := hall 10
              obtain ⟨p7r, rfl, -, z7, -, r7'⟩ := k7.out.2 rfl
              have r7 := r7' rfl
              clear r7'
              obtain ⟨p8r, rfl, -, z8, -, r8'⟩ := k8.out.2 rfl
              have r8 := r8' rfl
              clear r8'
              obtain rfl := k2.out rfl
              obtain rfl := k3.out rfl
              obtain rfl := k4.out rfl
              obtain rfl := k5.out rfl
              obtain rfl := k6.out rfl
              clear k2 k3 k4 k5 k6 k7 k8 d7_8
              refine NoPanic.normal ?_
              subst hA
              simp only [Act.put, List.setIfInBounds_toArray, List.set_cons_zero, List.set_cons_succ]
              have R : Hid (Kn w ((p20, lh, ll) :: ((p18, lh, ll) :: [(w.heap.size, ah, al)])) ((p7r, Y) :: (p8r, X) :: [(p7, (ah * 18446744073709551616 + al))]) W) := (Kn.later F17.out.drew K.out).ranges ⟨r7, z7⟩ ⟨r8, z8⟩
              clear K r7 r8
              go_wp2_with (fail)
              go_meet
              case rel => exact ⟨p7r, p8r, rfl, rfl, R⟩
            case hsteps =>
              refine StepsI.skip (i := 0) (by rintro L a W ⟨c2, c3, c4, c5, c6, c7, c8, c9, c10, s114, s115, s111, s116, s117, s22, s23, rfl, -⟩; rfl) ?_
              refine StepsI.skip (i := 1) (by rintro L a W ⟨c2, c3, c4, c5, c6, c7, c8, c9, c10, s114, s115, s111, s116, s117, s22, s23, rfl, -⟩; rfl) ?_
              refine StepsI.cons (i := 2) rfl ?_ ?_
              · rintro L a W ⟨c2, c3, c4, c5, c6, c7, c8, c9, c10, s114, s115, s111, s116, s117, s22, s23, rfl, rfl, K, k2, k3, k4, k5, k6, k7, k8, d7_8⟩ h0 hd KK hK
                obtain rfl : c2 = false := h0
                subst hA
                simp only [Act.put, List.setIfInBounds_toArray, List.set_cons_zero, List.set_cons_succ]
                clear hd
                go_simp
                refine (power_dv k _ (by have := Hk1.out; omega)).mono ?_
                rintro e w2 ⟨rfl, hw2⟩
                (try go_wp2_with (fail))
                exact hK.out _ _ ⟨true, c3, c4, c5, c6, c7, c8, c9, c10, dv (2 ^ k), s115, s111, s116, s117, s22, s23, rfl, by simp only [Act.put, List.setIfInBounds_toArray, List.set_cons_zero, List.set_cons_succ], K.out.trans (hw2.mono K.out.size), fun _ => rfl, k3.out, k4.out, k5.out, k6.out, k7.out.later hw2, k8.out.later hw2, d7_8.out⟩
              refine StepsI.cons (i := 3) rfl ?_ ?_
              · rintro L a W ⟨c2, c3, c4, c5, c6, c7, c8, c9, c10, s114, s115, s111, s116, s117, s22, s23, rfl, rfl, K, k2, k3, k4, k5, k6, k7, k8, d7_8⟩ h0 hd KK hK
                obtain rfl : c3 = false := h0
                obtain rfl : c2 = true := hd ⟨2, .data⟩ (by simp) rfl
                have e2 := k2.out rfl
                subst e2
                subst hA
                simp only [Act.put, List.setIfInBounds_toArray, List.set_cons_zero, List.set_cons_succ]
                clear hd
                go_simp
                refine (by_dv (ah * 18446744073709551616 + al) (2 ^ k) _ HA.out.1 HA.out.2 HK.out.1 HK.out.2).mono ?_
                rintro e w2 ⟨rfl, hw2⟩
                rw [← HY.out, ← HX.out]
                (try go_wp2_with (fail))
                exact hK.out _ _ ⟨true, true, c4, c5, c6, c7, c8, c9, c10, dv (2 ^ k), .tuple #[dv Y, dv X], s111, s116, s117, s22, s23, rfl, by simp only [Act.put, List.setIfInBounds_toArray, List.set_cons_zero, List.set_cons_succ], K.out.trans (hw2.mono K.out.size), fun _ => rfl, fun _ => rfl, k4.out, k5.out, k6.out, k7.out.later hw2, k8.out.later hw2, d7_8.out⟩
              refine StepsI.cons (i := 4) rfl ?_ ?_
              · rintro L a W ⟨c2, c3, c4, c5, c6, c7, c8, c9, c10, s114, s115, s111, s116, s117, s22, s23, rfl, rfl, K, k2, k3, k4, k5, k6, k7, k8, d7_8⟩ h0 hd KK hK
                obtain rfl : c4 = false := h0
                obtain rfl : c3 = true := hd ⟨3, .data⟩ (by simp) rfl
                have e3 := k3.out rfl
                subst e3
                subst hA
                simp only [Act.put, List.setIfInBounds_toArray, List.set_cons_zero, List.set_cons_succ]
                clear hd
                go_simp
                exact hK.out _ _ ⟨c2, true, true, c5, c6, c7, c8, c9, c10, s114, .tuple #[dv Y, dv X], .tuple #[dv Y, dv X], s116, s117, s22, s23, rfl, by simp only [Act.put, List.setIfInBounds_toArray, List.set_cons_zero, List.set_cons_succ], K.out, k2.out, fun _ => rfl, fun _ => rfl, k5.out, k6.out, k7.out, k8.out, d7_8.out⟩
              refine StepsI.cons (i := 5) rfl ?_ ?_
              · rintro L a W ⟨c2, c3, c4, c5, c6, c7, c8, c9, c10, s114, s115, s111, s116, s117, s22, s23, rfl, rfl, K, k2, k3, k4, k5, k6, k7, k8, d7_8⟩ h0 hd KK hK
                obtain rfl : c5 = false := h0
                obtain rfl : c4 = true := hd ⟨4, .data⟩ (by simp) rfl
                have e4 := k4.out rfl
                subst e4
                subst hA
                simp only [Act.put, List.setIfInBounds_toArray, List.set_cons_zero, List.set_cons_succ]
                clear hd
                go_simp
                exact hK.out _ _ ⟨c2, c3, true, true, c6, c7, c8, c9, c10, s114, s115, .tuple #[dv Y, dv X], dv Y, s117, s22, s23, rfl, by simp only [Act.put, List.setIfInBounds_toArray, List.set_cons_zero, List.set_cons_succ], K.out, k2.out, k3.out, fun _ => rfl, fun _ => rfl, k6.out, k7.out, k8.out, d7_8.out⟩
              refine StepsI.cons (i := 6) rfl ?_ ?_
              · rintro L a W ⟨c2, c3, c4, c5, c6, c7, c8, c9, c10, s114, s115, s111, s116, s117, s22, s23, rfl, rfl, K, k2, k3, k4, k5, k6, k7, k8, d7_8⟩ h0 hd KK hK
                obtain rfl : c6 = false := h0
                obtain rfl : c4 = true := hd ⟨4, .data⟩ (by simp) rfl
                have e4 := k4.out rfl
                subst e4
                subst hA
                simp only [Act.put, List.setIfInBounds_toArray, List.set_cons_zero, List.set_cons_succ]
                clear hd
                go_simp
                exact hK.out _ _ ⟨c2, c3, true, c5, true, c7, c8, c9, c10, s114, s115, .tuple #[dv Y, dv X], s116, dv X, s22, s23, rfl, by simp only [Act.put, List.setIfInBounds_toArray, List.set_cons_zero, List.set_cons_succ], K.out, k2.out, k3.out, fun _ => rfl, k5.out, fun _ => rfl, k7.out, k8.out, d7_8.out⟩
              refine StepsI.cons (i := 7) rfl ?_ ?_
              · rintro L a W ⟨c2, c3, c4, c5, c6, c7, c8, c9, c10, s114, s115, s111, s116, s117, s22, s23, rfl, rfl, K, k2, k3, k4, k5, k6, k7, k8, d7_8⟩ h0 hd KK hK
                obtain rfl : c7 = false := h0
                subst hA
                simp only [Act.put, List.setIfInBounds_toArray, List.set_cons_zero, List.set_cons_succ]
                clear hd
                go_simp
                exact hK.out _ _ ⟨c2, c3, c4, c5, c6, true, c8, c9, c10, s114, s115, s111, s116, s117, .pointer (some ⟨W.heap.size, 0, none⟩), s23, rfl, by simp only [Act.put, List.setIfInBounds_toArray, List.set_cons_zero, List.set_cons_succ], K.out.alloc K.out.size _, k2.out, k3.out, k4.out, k5.out, k6.out, k7.out.new K.out.size _ (by rfl), k8.out.alloc _, fun _ hc => by subst hc; exact k8.out.ne⟩
              refine StepsI.cons (i := 8) rfl ?_ ?_
              · rintro L a W ⟨c2, c3, c4, c5, c6, c7, c8, c9, c10, s114, s115, s111, s116, s117, s22, s23, rfl, rfl, K, k2, k3, k4, k5, k6, k7, k8, d7_8⟩ h0 hd KK hK
                obtain rfl : c8 = false := h0
                subst hA
                simp only [Act.put, List.setIfInBounds_toArray, List.set_cons_zero, List.set_cons_succ]
                clear hd
                go_simp
                exact hK.out _ _ ⟨c2, c3, c4, c5, c6, c7, true, c9, c10, s114, s115, s111, s116, s117, s22, .pointer (some ⟨W.heap.size, 0, none⟩), rfl, by simp only [Act.put, List.setIfInBounds_toArray, List.set_cons_zero, List.set_cons_succ], K.out.alloc K.out.size _, k2.out, k3.out, k4.out, k5.out, k6.out, k7.out.alloc _, k8.out.new K.out.size _ (by rfl), fun hc _ => by subst hc; exact k7.out.ne.symm⟩
              refine StepsI.cons (i := 9) rfl ?_ ?_
              · rintro L a W ⟨c2, c3, c4, c5, c6, c7, c8, c9, c10, s114, s115, s111, s116, s117, s22, s23, rfl, rfl, K, k2, k3, k4, k5, k6, k7, k8, d7_8⟩ h0 hd KK hK
                obtain rfl : c9 = false := h0
                obtain rfl : c7 = true := hd ⟨7, .data⟩ (by simp) rfl
                obtain rfl : c5 = true := hd ⟨5, .data⟩ (by simp) rfl
                obtain rfl : c8 = true := hd ⟨8, .phase⟩ (by simp) rfl
                have e := k5.out rfl
                subst hA
                simp only [Act.put, List.setIfInBounds_toArray, List.set_cons_zero, List.set_cons_succ]
                clear hd
                rw [if_pos (by rfl)]
                refine MadeL.store k7.out _ _ _ rfl rfl (by rfl) e (dl_len _) dig_info (dl_each _) ?_
                exact hK.out _ _ ⟨c2, c3, c4, true, c6, true, true, true, c10, s114, s115, s111, s116, s117, s22, s23, rfl, by simp only [Act.put, List.setIfInBounds_toArray, List.set_cons_zero, List.set_cons_succ], below_cells _ k7.out.ge _ 0 K.out, k2.out, k3.out, k4.out, k5.out, k6.out, k7.out.put (dl_len _), k8.out.beside k7.out _ (d7_8.out rfl rfl), d7_8.out⟩
              refine StepsI.cons (i := 10) rfl ?_ ?_
              · rintro L a W ⟨c2, c3, c4, c5, c6, c7, c8, c9, c10, s114, s115, s111, s116, s117, s22, s23, rfl, rfl, K, k2, k3, k4, k5, k6, k7, k8, d7_8⟩ h0 hd KK hK
                obtain rfl : c10 = false := h0
                obtain rfl : c8 = true := hd ⟨8, .data⟩ (by simp) rfl
                obtain rfl : c6 = true := hd ⟨6, .data⟩ (by simp) rfl
                obtain rfl : c7 = true := hd ⟨7, .phase⟩ (by simp) rfl
                have e := k6.out rfl
                subst hA
                simp only [Act.put, List.setIfInBounds_toArray, List.set_cons_zero, List.set_cons_succ]
                clear hd
                rw [if_pos (by rfl)]
                refine MadeL.store k8.out _ _ _ rfl rfl (by rfl) e (dl_len _) dig_info (dl_each _) ?_
                exact hK.out _ _ ⟨c2, c3, c4, c5, true, true, true, c9, true, s114, s115, s111, s116, s117, s22, s23, rfl, by simp only [Act.put, List.setIfInBounds_toArray, List.set_cons_zero, List.set_cons_succ], below_cells _ k8.out.ge _ 0 K.out, k2.out, k3.out, k4.out, k5.out, k6.out, k7.out.beside k8.out _ ((d7_8.out rfl rfl).symm), k8.out.put (dl_len _), d7_8.out⟩
              exact StepsI.nil
          case rest =>
            obtain ⟨x22, x23, rfl, rfl, F18⟩ := hcut
            clear F17
            go_upto_region 19 with (fail)
            refine wp_region_lit ?_
            refine wpList_load_mid rfl _ _ rfl x22 0 rfl (dl (wd Y)) _ (F18.out.2.1 (x22, Y) (by simp)).1 Try.underlying27 rfl (by rw [dl_len]; exact dig_info) ?_
            simp only [Act.put, List.setIfInBounds_toArray, List.set_cons_zero, List.set_cons_succ]
            go_wp2_with (fail)
            refine (wide_dv Y _ HY0.out.1 HY0.out.2).mono ?_
            rintro e w19 ⟨rfl, hw19⟩
            have F19' : Hid (Kn w ((w19.heap.size, wh Y, wl Y) :: ((p20, lh, ll) :: ((p18, lh, ll) :: [(w.heap.size, ah, al)]))) ((x22, Y) :: (x23, X) :: [(p7, (ah * 18446744073709551616 + al))]) (w19.alloc (.cells #[.int .u64 (wh Y), .int .u64 (wl Y)] 24))) := (F18.out.later hw19).new (wh Y) (wl Y) 24
            clear hw19 F18
            go_upto_region 20 with (fail)
            generalize w19.alloc (.cells #[.int .u64 (wh Y), .int .u64 (wl Y)] 24) = W19 at F19' ⊢
            generalize w19.heap.size = p24 at F19' ⊢
            have F19 : Hid (Kn w [(p24, wh Y, wl Y), (p20, lh, ll), (p18, lh, ll), (w.heap.size, ah, al)] [] W19) := F19'.out.part (by simp) (by simp)
            clear F19'
            refine wp_region_noPanic ?_
            refine wp_region_held_drew (S := fun w' => Pair w' p18 lh ll ∧ Pair w' p20 lh ll ∧ Pair w' w.heap.size ah al ∧ Pair w' p24 (wh Y) (wl Y)) (by kernel_rfl) ?_ (fun hHeld => ?_)
            · exact ⟨F19.out.1 (p18, lh, ll) (by simp), F19.out.1 (p20, lh, ll) (by simp), F19.out.1 (w.heap.size, ah, al) (by simp), F19.out.1 (p24, wh Y, wl Y) (by simp)⟩
            refine wpAnyH_take (i := 0) (v := ?_) rfl (by kernel_rfl) (by kernel_rfl) (by kernel_rfl) (fun _ _ _ h => h) (Or.inl ⟨by rfl, ?_⟩) (by assumption) ?_
            rotate_left
            · (intro wS hSw; obtain ⟨⟨g0, g1, -⟩, ⟨g2, g3, -⟩, ⟨g4, g5, -⟩, g6, g7, -⟩ := hSw; go_simp; try with_reducible rfl)
            change wpAnyH _ _ _ _ _ _ _ (Act.put _ (some 123) _) _
            simp only [Act.put, List.setIfInBounds_toArray, List.set_cons_zero, List.set_cons_succ]
            refine wpAnyH_take (i := 1) (v := ?_) rfl (by kernel_rfl) (by kernel_rfl) (by kernel_rfl) (fun _ _ _ h => h) (Or.inl ⟨by rfl, ?_⟩) (by assumption) ?_
            rotate_left
            · (intro wS hSw; obtain ⟨⟨g0, g1, -⟩, ⟨g2, g3, -⟩, ⟨g4, g5, -⟩, g6, g7, -⟩ := hSw; go_simp; try with_reducible rfl)
            change wpAnyH _ _ _ _ _ _ _ (Act.put _ (some 124) _) _
            simp only [Act.put, List.setIfInBounds_toArray, List.set_cons_zero, List.set_cons_succ]
            refine wpAnyH_take (i := 2) (v := ?_) rfl (by kernel_rfl) (by kernel_rfl) (by kernel_rfl) (fun _ _ _ h => h) (Or.inl ⟨by rfl, ?_⟩) (by assumption) ?_
            rotate_left
            · (intro wS hSw; obtain ⟨⟨g0, g1, -⟩, ⟨g2, g3, -⟩, ⟨g4, g5, -⟩, g6, g7, -⟩ := hSw; go_simp; try with_reducible rfl)
            change wpAnyH _ _ _ _ _ _ _ (Act.put _ (some 125) _) _
            simp only [Act.put, List.setIfInBounds_toArray, List.set_cons_zero, List.set_cons_succ]
            refine wpAnyH_take (i := 3) (v := ?_) rfl (by kernel_rfl) (by kernel_rfl) (by kernel_rfl) (fun _ _ _ h => h) (Or.inl ⟨by rfl, ?_⟩) (by assumption) ?_
            rotate_left
            · (intro wS hSw; obtain ⟨⟨g0, g1, -⟩, ⟨g2, g3, -⟩, ⟨g4, g5, -⟩, g6, g7, -⟩ := hSw; go_simp; try with_reducible rfl)
            change wpAnyH _ _ _ _ _ _ _ (Act.put _ (some 126) _) _
            simp only [Act.put, List.setIfInBounds_toArray, List.set_cons_zero, List.set_cons_succ]
            refine wpAnyH_take (i := 4) (v := ?_) rfl (by kernel_rfl) (by kernel_rfl) (by kernel_rfl) (fun _ _ _ h => h) (Or.inl ⟨by rfl, ?_⟩) (by assumption) ?_
            rotate_left
            · (intro wS hSw; obtain ⟨⟨g0, g1, -⟩, ⟨g2, g3, -⟩, ⟨g4, g5, -⟩, g6, g7, -⟩ := hSw; go_simp; try with_reducible rfl)
            change wpAnyH _ _ _ _ _ _ _ (Act.put _ (some 127) _) _
            simp only [Act.put, List.setIfInBounds_toArray, List.set_cons_zero, List.set_cons_succ]
            refine wpAnyH_take (i := 5) (v := ?_) rfl (by kernel_rfl) (by kernel_rfl) (by kernel_rfl) (fun _ _ _ h => h) (Or.inl ⟨by rfl, ?_⟩) (by assumption) ?_
            rotate_left
            · (intro wS hSw; obtain ⟨⟨g0, g1, -⟩, ⟨g2, g3, -⟩, ⟨g4, g5, -⟩, g6, g7, -⟩ := hSw; go_simp; try with_reducible rfl)
            change wpAnyH _ _ _ _ _ _ _ (Act.put _ (some 128) _) _
            simp only [Act.put, List.setIfInBounds_toArray, List.set_cons_zero, List.set_cons_succ]
            refine wpAnyH_take (i := 6) (v := ?_) rfl (by kernel_rfl) (by kernel_rfl) (by kernel_rfl) (fun _ _ _ h => h) (Or.inl ⟨by rfl, ?_⟩) (by assumption) ?_
            rotate_left
            · (intro wS hSw; obtain ⟨⟨g0, g1, -⟩, ⟨g2, g3, -⟩, ⟨g4, g5, -⟩, g6, g7, -⟩ := hSw; go_simp; try with_reducible rfl)
            change wpAnyH _ _ _ _ _ _ _ (Act.put _ (some 129) _) _
            simp only [Act.put, List.setIfInBounds_toArray, List.set_cons_zero, List.set_cons_succ]
            refine wpAnyH_take (i := 7) (v := ?_) rfl (by kernel_rfl) (by kernel_rfl) (by kernel_rfl) (fun _ _ _ h => h) (Or.inl ⟨by rfl, ?_⟩) (by assumption) ?_
            rotate_left
            · (intro wS hSw; obtain ⟨⟨g0, g1, -⟩, ⟨g2, g3, -⟩, ⟨g4, g5, -⟩, g6, g7, -⟩ := hSw; go_simp; try with_reducible rfl)
            change wpAnyH _ _ _ _ _ _ _ (Act.put _ (some 130) _) _
            simp only [Act.put, List.setIfInBounds_toArray, List.set_cons_zero, List.set_cons_succ]
            refine wpAnyH_take (i := 8) (v := ?_) rfl (by kernel_rfl) (by kernel_rfl) (by kernel_rfl) (fun _ _ _ h => h) (Or.inl ⟨by rfl, ?_⟩) (by assumption) ?_
            rotate_left
            · (intro wS hSw; obtain ⟨⟨g0, g1, -⟩, ⟨g2, g3, -⟩, ⟨g4, g5, -⟩, g6, g7, -⟩ := hSw; go_simp; try with_reducible rfl)
            change wpAnyH _ _ _ _ _ _ _ (Act.put _ (some 131) _) _
            simp only [Act.put, List.setIfInBounds_toArray, List.set_cons_zero, List.set_cons_succ]
            refine wpAnyH_take (i := 9) (v := ?_) rfl (by kernel_rfl) (by kernel_rfl) (by kernel_rfl) (fun _ _ _ h => h) (Or.inl ⟨by rfl, ?_⟩) (by assumption) ?_
            rotate_left
            · (intro wS hSw; obtain ⟨⟨g0, g1, -⟩, ⟨g2, g3, -⟩, ⟨g4, g5, -⟩, g6, g7, -⟩ := hSw; go_simp; try with_reducible rfl)
            change wpAnyH _ _ _ _ _ _ _ (Act.put _ (some 132) _) _
            simp only [Act.put, List.setIfInBounds_toArray, List.set_cons_zero, List.set_cons_succ]
            refine wpAnyH_take (i := 10) (v := ?_) rfl (by kernel_rfl) (by kernel_rfl) (by kernel_rfl) (fun _ _ _ h => h) (Or.inl ⟨by rfl, ?_⟩) (by assumption) ?_
            rotate_left
            · (intro wS hSw; obtain ⟨⟨g0, g1, -⟩, ⟨g2, g3, -⟩, ⟨g4, g5, -⟩, g6, g7, -⟩ := hSw; go_simp; try with_reducible rfl)
            change wpAnyH _ _ _ _ _ _ _ (Act.put _ (some 133) _) _
            simp only [Act.put, List.setIfInBounds_toArray, List.set_cons_zero, List.set_cons_succ]
            refine wpAnyH_take (i := 12) (v := ?_) rfl (by kernel_rfl) (by kernel_rfl) (by kernel_rfl) (fun _ _ _ h => h) (Or.inl ⟨by rfl, ?_⟩) (by assumption) ?_
            rotate_left
            · (intro wS hSw; obtain ⟨⟨g0, g1, -⟩, ⟨g2, g3, -⟩, ⟨g4, g5, -⟩, g6, g7, -⟩ := hSw; go_simp; try with_reducible rfl)
            change wpAnyH _ _ _ _ _ _ _ (Act.put _ (some 135) _) _
            simp only [Act.put, List.setIfInBounds_toArray, List.set_cons_zero, List.set_cons_succ]
            refine wpAnyH_named ?_
            intro A hA
            clear hHeld
            refine wpAnyH_inv (I := fun L a W => ∃ (c11 c13 c14 c15 : Bool) (s134 s136 s137 s6 : Value), L = #[true, true, true, true, true, true, true, true, true, true, true, c11, true, c13, c14, c15] ∧ a = ((((A.put (some 134) s134).put (some 136) s136).put (some 137) s137).put (some 6) s6) ∧ Hid (Kn w [(p24, wh Y, wl Y), (p20, lh, ll), (p18, lh, ll), (w.heap.size, ah, al)] [] W) ∧ Hid (c11 = true → s134 = .agg #[.int .u64 (wh Y), .int .u64 (wl Y)]) ∧ Hid (c13 = true → s136 = .bool true) ∧ Hid (c14 = true → s137 = .bool true) ∧ Hid (c15 = true → s6 = .bool true)) ?hS ?hz (by kernel_rfl) ?hsteps ?hend _ _ _ _ (by decide) ?h0
            case hS => rintro L a W ⟨c11, c13, c14, c15, s134, s136, s137, s6, -, -, K, -⟩; exact (fun h => h) (⟨K.out.1 (p18, lh, ll) (by simp), K.out.1 (p20, lh, ll) (by simp), K.out.1 (w.heap.size, ah, al) (by simp), K.out.1 (p24, wh Y, wl Y) (by simp)⟩)
            case hz => rintro L a W ⟨c11, c13, c14, c15, s134, s136, s137, s6, rfl, -⟩; rfl
            case h0 => exact ⟨false, false, false, false, A.eval (.tmp 134), A.eval (.tmp 136), A.eval (.tmp 137), A.eval (.tmp 6), rfl, by simp only [put_self], F19.out.drew, fun h => Bool.noConfusion h, fun h => Bool.noConfusion h, fun h => Bool.noConfusion h, fun h => Bool.noConfusion h⟩
            case hend =>
              rintro L a W ⟨c11, c13, c14, c15, s134, s136, s137, s6, rfl, rfl, K, k11, k13, k14, k15⟩ hall
              obtain rfl : c11 = true := hall 11
              obtain rfl : c13 = true := hall 13
              obtain rfl : c14 = true := hall 14
              obtain rfl : c15 = true := hall 15
              obtain rfl := k11.out rfl
              obtain rfl := k13.out rfl
              obtain rfl := k14.out rfl
              obtain rfl := k15.out rfl
              clear k11 k13 k14 k15
              refine NoPanic.normal ?_
              subst hA
              simp only [Act.put, List.setIfInBounds_toArray, List.set_cons_zero, List.set_cons_succ]
              clear F19
              go_wp2_with (fail)
              go_ret
              exact ⟨rfl, K.out.2.2.2⟩
            case hsteps =>
              clear F19
              refine StepsI.skip (i := 0) (by rintro L a W ⟨c11, c13, c14, c15, s134, s136, s137, s6, rfl, -⟩; rfl) ?_
              refine StepsI.skip (i := 1) (by rintro L a W ⟨c11, c13, c14, c15, s134, s136, s137, s6, rfl, -⟩; rfl) ?_
              refine StepsI.skip (i := 2) (by rintro L a W ⟨c11, c13, c14, c15, s134, s136, s137, s6, rfl, -⟩; rfl) ?_
              refine StepsI.skip (i := 3) (by rintro L a W ⟨c11, c13, c14, c15, s134, s136, s137, s6, rfl, -⟩; rfl) ?_
              refine StepsI.skip (i := 4) (by rintro L a W ⟨c11, c13, c14, c15, s134, s136, s137, s6, rfl, -⟩; rfl) ?_
              refine StepsI.skip (i := 5) (by rintro L a W ⟨c11, c13, c14, c15, s134, s136, s137, s6, rfl, -⟩; rfl) ?_
              refine StepsI.skip (i := 6) (by rintro L a W ⟨c11, c13, c14, c15, s134, s136, s137, s6, rfl, -⟩; rfl) ?_
              refine StepsI.skip (i := 7) (by rintro L a W ⟨c11, c13, c14, c15, s134, s136, s137, s6, rfl, -⟩; rfl) ?_
              refine StepsI.skip (i := 8) (by rintro L a W ⟨c11, c13, c14, c15, s134, s136, s137, s6, rfl, -⟩; rfl) ?_
              refine StepsI.skip (i := 9) (by rintro L a W ⟨c11, c13, c14, c15, s134, s136, s137, s6, rfl, -⟩; rfl) ?_
              refine StepsI.skip (i := 10) (by rintro L a W ⟨c11, c13, c14, c15, s134, s136, s137, s6, rfl, -⟩; rfl) ?_
              refine StepsI.cons (i := 11) rfl ?_ ?_
              · rintro L a W ⟨c11, c13, c14, c15, s134, s136, s137, s6, rfl, rfl, K, k11, k13, k14, k15⟩ h0 hd KK hK
                obtain rfl : c11 = false := h0
                subst hA
                simp only [Act.put, List.setIfInBounds_toArray, List.set_cons_zero, List.set_cons_succ]
                clear hd
                go_simp
                refine (right_wv ah al n _ a0 a1 a2 a3 n1 k Hk.out Y HY.out).mono ?_
                rintro e w2 ⟨rfl, hw2⟩
                (try go_wp2_with (fail))
                exact hK.out _ _ ⟨true, c13, c14, c15, .agg #[.int .u64 (wh Y), .int .u64 (wl Y)], s136, s137, s6, rfl, by simp only [Act.put, List.setIfInBounds_toArray, List.set_cons_zero, List.set_cons_succ], K.out.later hw2, fun _ => rfl, k13.out, k14.out, k15.out⟩
              refine StepsI.skip (i := 12) (by rintro L a W ⟨c11, c13, c14, c15, s134, s136, s137, s6, rfl, -⟩; rfl) ?_
              refine StepsI.cons (i := 13) rfl ?_ ?_
              · rintro L a W ⟨c11, c13, c14, c15, s134, s136, s137, s6, rfl, rfl, K, k11, k13, k14, k15⟩ h0 hd KK hK
                obtain rfl : c13 = false := h0
                obtain rfl : c11 = true := hd ⟨11, .data⟩ (by simp) rfl
                have e11 := k11.out rfl
                subst e11
                subst hA
                simp only [Act.put, List.setIfInBounds_toArray, List.set_cons_zero, List.set_cons_succ]
                clear hd
                go_simp
                exact hK.out _ _ ⟨true, true, c14, c15, .agg #[.int .u64 (wh Y), .int .u64 (wl Y)], .bool true, s137, s6, rfl, by simp only [Act.put, List.setIfInBounds_toArray, List.set_cons_zero, List.set_cons_succ], K, fun _ => rfl, fun _ => rfl, k14.out, k15.out⟩
              refine StepsI.cons (i := 14) rfl ?_ ?_
              · rintro L a W ⟨c11, c13, c14, c15, s134, s136, s137, s6, rfl, rfl, K, k11, k13, k14, k15⟩ h0 hd KK hK
                obtain rfl : c14 = false := h0
                obtain rfl : c13 = true := hd ⟨13, .data⟩ (by simp) rfl
                have e13 := k13.out rfl
                subst e13
                subst hA
                simp only [Act.put, List.setIfInBounds_toArray, List.set_cons_zero, List.set_cons_succ]
                clear hd
                go_simp
                exact hK.out _ _ ⟨c11, true, true, c15, s134, .bool true, .bool true, s6, rfl, by simp only [Act.put, List.setIfInBounds_toArray, List.set_cons_zero, List.set_cons_succ], K, k11.out, fun _ => rfl, fun _ => rfl, k15.out⟩
              refine StepsI.cons (i := 15) rfl ?_ ?_
              · rintro L a W ⟨c11, c13, c14, c15, s134, s136, s137, s6, rfl, rfl, K, k11, k13, k14, k15⟩ h0 hd KK hK
                obtain rfl : c15 = false := h0
                obtain rfl : c14 = true := hd ⟨14, .data⟩ (by simp) rfl
                have e14 := k14.out rfl
                subst e14
                subst hA
                simp only [Act.put, List.setIfInBounds_toArray, List.set_cons_zero, List.set_cons_succ]
                clear hd
                go_simp
                exact hK.out _ _ ⟨c11, c13, true, true, s134, s136, .bool true, .bool true, rfl, by simp only [Act.put, List.setIfInBounds_toArray, List.set_cons_zero, List.set_cons_succ], K, k11.out, k13.out, fun _ => rfl, fun _ => rfl⟩
              exact StepsI.nil

end Go.Proofs.Ytahmgbaonldlfaa
