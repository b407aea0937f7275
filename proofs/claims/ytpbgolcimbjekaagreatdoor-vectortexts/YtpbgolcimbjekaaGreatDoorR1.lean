/-
  Contracts of the document's own answers for layer 1 at this program: By. Conditions: a number below 2^128, by one from 1 to 2^128.
-/
import Derived.Test.YtpbgolcimbjekaaGreatDoorR0
namespace Go.Proofs.YtpbgolcimbjekaaGreatDoor
open Go.RowKit

theorem mul_pow_lt (U : Int) (k : Nat) (u0 : 0 < U) (u1 : U ≤ 340282366920938463463374607431768211456) (hk : k ≤ 130) : 0 < U * 2 ^ k ∧ U * 2 ^ k < 65536 ^ 20 := by
  have p := two_pow_pos k
  refine ⟨Int.mul_pos u0 p, ?_⟩
  have a : (2 : Int) ^ k < 65536 ^ 9 := two_pow_below k 9 (by omega)
  have b : U * 2 ^ k ≤ 340282366920938463463374607431768211456 * 65536 ^ 9 := Int.mul_le_mul u1 (by omega) (by omega) (by omega)
  refine Int.lt_of_le_of_lt b (by decide)
theorem mul_twice (U : Int) (k : Nat) : U * 2 ^ k + U * 2 ^ k = U * 2 ^ (k + 1) := by rw [← Int.mul_add, two_pow_twice]
theorem rest_small {U V Q D : Int} (u0 : 0 < U) (h : 0 ≤ D ∧ 0 ≤ Q ∧ Q * U + D = V) (v1 : V < 340282366920938463463374607431768211456) : D < 65536 ^ 20 := by
  have : 0 ≤ Q * U := Int.mul_nonneg h.2.1 (by omega)
  have e := pow20
  omega
theorem step_on {U V Q D P : Int} (k : Nat) (h : 0 ≤ D ∧ 0 ≤ Q ∧ Q * U + D = V) (hP : P = U * 2 ^ k) (hl : ¬ D < P) : 0 ≤ D - P ∧ 0 ≤ Q + 2 ^ k ∧ (Q + 2 ^ k) * U + (D - P) = V := by
  have p := two_pow_pos k
  refine ⟨by omega, by omega, ?_⟩
  rw [Int.add_mul, Int.mul_comm (2 ^ k) U, ← hP]
  omega
theorem step_lt {U D : Int} (k : Nat) (h : D < U * 2 ^ (k + 1)) : D - U * 2 ^ k < U * 2 ^ k := by
  have := mul_twice U k
  omega
theorem quo_small {U V Q : Int} (D : Int) (u0 : 0 < U) (d0 : 0 ≤ D) (e : Q * U + D = V) (v1 : V < 340282366920938463463374607431768211456) : Q < 340282366920938463463374607431768211456 := by
  refine Int.lt_of_not_ge fun h => ?_
  have : Q * 1 ≤ Q * U := Int.mul_le_mul_of_nonneg_left (by omega) (by omega)
  omega

set_option maxHeartbeats 8000000 in
set_option maxRecDepth 100000 in
theorem by_dv (V U : Int) (w : World) (v0 : 0 ≤ V) (v1 : V < 340282366920938463463374607431768211456) (u0 : 0 < U) (u1 : U ≤ 340282366920938463463374607431768211456) :
    Calls Tryz.prog 33 #[dv V, dv U] w fun x w' => x = .returned (.tuple #[dv (V / U), dv (V % U)]) ∧ Below w.heap.size w w' := by
  change Calls Tryz.prog 33 #[.agg (dl (wd V)).toArray, .agg (dl (wd U)).toArray] w _
  go_enter Tryz.func33, Tryz.ntmps33
  go_wp2_with (fail)
  have F0 : Hid (St w [V, U, 0, 0, 0] _) := (((((St.none w).box rfl V 63).box (by simp) U 63).zero (by simp) 63).zero (by simp) 63).zero (by simp) 63
  have H0 : Hid (V < U * 2 ^ 129) := by
    have : (1 : Int) * 2 ^ 129 ≤ U * 2 ^ 129 := Int.mul_le_mul_of_nonneg_right (by omega) (by decide)
    have e : (340282366920938463463374607431768211456 : Int) ≤ 1 * 2 ^ 129 := by decide
    exact Int.lt_of_lt_of_le v1 (Int.le_trans e this)
  go_loopw [7] (fun s7 wr => ∃ (D Q : Int), Hid (0 ≤ D ∧ 0 ≤ Q ∧ Q * U + D = V) ∧ Hid (St w [D, U, 0, 0, Q] wr) ∧
      ((∃ n : Nat, n ≤ 128 ∧ s7 = .int .i64 n ∧ Hid (D < U * 2 ^ (n + 1))) ∨ (s7 = .int .i64 (-1) ∧ Hid (D < U)))) (fun s7 _ => (intOf s7 + 1).toNat)
  case atStart => exact ⟨V, 0, ⟨v0, by omega, by omega⟩, F0, Or.inl ⟨128, by omega, rfl, H0⟩⟩
  case round =>
    clear F0 H0
    obtain ⟨D, Q, HE, F, ⟨n, hn, rfl, HD⟩ | ⟨rfl, HD⟩⟩ := hrel
    · have m0 : (0 : Int) ≤ (n : Int) := by omega
      have m1 : (n : Int) ≤ 128 := by omega
      go_upto_region 5 with (fail)
      refine wp_region_lit ?_
      refine num_load (F.out.get 1 _ rfl) rfl _ rfl rfl ?_
      simp only [Act.put, List.setIfInBounds_toArray, List.set_cons_zero, List.set_cons_succ]
      refine wpList_one fun K' hK' => ?_
      rw [if_pos (by rfl)]
      go_simp
      refine hK'.out _ _ ?_
      clear hK' K'
      have z := (F.out.get 4 _ rfl).2.2
      refine num_store (Num.zeros wr 63 _ rfl) rfl _ _ rfl rfl rfl U rfl ?_
      have G : Hid (Num _ wr.heap.size U) := (Num.zeros wr 63 _ rfl).put U
      have F1 : Hid (St w [D, U, 0, 0, Q] _) := (F.out.alloc (.cells (Array.replicate 20 (.int .u64 0)) 63)).beside wr.heap.size (dl (wd U)) (by simp only [List.length_cons, List.length_nil]; omega)
      go_wp2_with (fail)
      have hp : Hid (w.heap.size + 5 ≤ wr.heap.size) := z
      clear z F
      generalize wr.heap.size = p at *
      go_loopw [9] (fun s9 wq => ∃ k : Nat, k ≤ n ∧ s9 = .int .i64 k ∧ Hid (Num wq p (U * 2 ^ k)) ∧ Hid (St w [D, U, 0, 0, Q] wq)) (fun s9 _ => n - (intOf s9).toNat)
      case atStart => exact ⟨0, by omega, rfl, by rw [Int.pow_zero, Int.mul_one]; exact G, F1⟩
      case round =>
        clear G F1
        obtain ⟨k, hk, rfl, G, F⟩ := hrel
        by_cases hlt : k < n
        · have k0 : (0 : Int) ≤ (k : Int) := by omega
          have k1 : (k : Int) < n := by omega
          go_upto_region 9 with (fail)
          refine wp_region_lit ?_
          refine num_load G.out rfl _ rfl rfl ?_
          simp only [Act.put, List.setIfInBounds_toArray, List.set_cons_zero, List.set_cons_succ]
          refine num_load G.out rfl _ rfl rfl ?_
          simp only [Act.put, List.setIfInBounds_toArray, List.set_cons_zero, List.set_cons_succ]
          refine wpList_one fun K' hK' => ?_
          rw [if_pos (by rfl)]
          go_simp
          refine (plus_dv (U * 2 ^ k) (U * 2 ^ k) _ (by have := mul_pow_lt U k u0 u1 (by omega); omega) (by have := mul_pow_lt U k u0 u1 (by omega); omega) (by rw [mul_twice]; exact (mul_pow_lt U (k + 1) u0 u1 (by omega)).2)).mono ?_
          rintro e w2 ⟨rfl, hw2⟩
          rw [mul_twice]
          (try go_wp2_with (fail))
          refine hK'.out _ _ ?_
          clear hK' K'
          refine num_store (G.out.later hw2) rfl _ _ rfl rfl rfl (U * 2 ^ (k + 1)) rfl ?_
          have G2 : Hid (Num _ p (U * 2 ^ (k + 1))) := (G.out.later hw2).put (U * 2 ^ (k + 1))
          have F2 : Hid (St w [D, U, 0, 0, Q] _) := (F.out.later hw2).beside p (dl (wd (U * 2 ^ (k + 1)))) hp.out
          go_wp2_with (fail)
          go_roundw
          case rel => exact ⟨k + 1, by omega, by go_num, G2, F2⟩
          case measure => simp [intOf]; omega
        · obtain rfl : k = n := by omega
          go_upto_region 10 with (fail)
          refine wp_region_lit ?_
          refine num_load (F.out.get 0 _ rfl) rfl _ rfl rfl ?_
          simp only [Act.put, List.setIfInBounds_toArray, List.set_cons_zero, List.set_cons_succ]
          refine num_load G.out rfl _ rfl rfl ?_
          simp only [Act.put, List.setIfInBounds_toArray, List.set_cons_zero, List.set_cons_succ]
          go_wp2_with (fail)
          refine (less_dv D (U * 2 ^ k) _ HE.out.1 (rest_small u0 HE.out v1) (by have := mul_pow_lt U k u0 u1 (by omega); omega) (mul_pow_lt U k u0 u1 (by omega)).2).mono ?_
          rintro e w3 ⟨rfl, hw3⟩
          have F3 : Hid (St w [D, U, 0, 0, Q] w3) := F.out.later hw3
          have G3 : Hid (Num w3 p (U * 2 ^ k)) := G.out.later hw3
          clear F G hw3
          by_cases hl : D < U * 2 ^ k
          · rw [decide_eq_true hl]
            go_wp2_with (fail)
            go_roundw
            case rel =>
              refine ⟨D, Q, HE, F3, ?_⟩
              rcases k with _ | k
              · exact Or.inr ⟨by simp, by rw [Int.pow_zero, Int.mul_one] at hl; exact hl⟩
              · exact Or.inl ⟨k, by omega, by go_num, hl⟩
            case measure => simp [intOf]
          · rw [decide_eq_false hl]
            go_upto_region 11 with (fail)
            refine wp_region_lit ?_
            refine num_load (F3.out.get 0 _ rfl) rfl _ rfl rfl ?_
            simp only [Act.put, List.setIfInBounds_toArray, List.set_cons_zero, List.set_cons_succ]
            refine num_load G3.out rfl _ rfl rfl ?_
            simp only [Act.put, List.setIfInBounds_toArray, List.set_cons_zero, List.set_cons_succ]
            refine wpList_one fun K' hK' => ?_
            rw [if_pos (by rfl)]
            go_simp
            refine (minus_dv D (U * 2 ^ k) _ (by have := mul_pow_lt U k u0 u1 (by omega); omega) (by omega) (rest_small u0 HE.out v1)).mono ?_
            rintro e w4 ⟨rfl, hw4⟩
            (try go_wp2_with (fail))
            refine hK'.out _ _ ?_
            clear hK' K'
            have H2 : Hid (0 ≤ D - U * 2 ^ k ∧ 0 ≤ Q + 2 ^ k ∧ (Q + 2 ^ k) * U + (D - U * 2 ^ k) = V) := step_on k HE.out rfl (by omega)
            have H3 : Hid (D - U * 2 ^ k < U * 2 ^ k) := step_lt k HD.out
            have H4 : Hid (0 ≤ Q ∧ Q + 2 ^ k < 65536 ^ 20) := ⟨HE.out.2.1, by have := quo_small _ u0 H2.out.1 H2.out.2.2 v1; have := pow20; omega⟩
            refine num_store ((F3.out.later hw4).get 0 _ rfl) rfl _ _ rfl rfl rfl (D - U * 2 ^ k) rfl ?_
            have F4 : Hid (St w [D - U * 2 ^ k, U, 0, 0, Q] _) := (F3.out.later hw4).put 0 (D - U * 2 ^ k) (by simp)
            rw [Nat.add_zero] at F4 ⊢
            generalize D - U * 2 ^ k = D2 at F4 H2 H3 ⊢
            generalize World.setCells w4 w.heap.size 0 (dl (wd D2)) = w5 at F4 ⊢
            clear HE HD F3 G3 hw4 hl
            go_upto_region 12 with (fail)
            refine wp_region_noPanic ?_
            refine wp_region_held_drew (S := fun _ => True) (by kernel_rfl) trivial (fun hHeld => ?_)
            refine wpAnyH_named ?_
            intro A hA
            clear hHeld
            refine wpAnyH_inv (I := fun L a W => ∃ (c0 c1 c2 c3 c4 : Bool) (s30 s31 s32 s33 : Value), L = #[c0, c1, c2, c3, c4] ∧ a = ((((A.put (some 30) s30).put (some 31) s31).put (some 32) s32).put (some 33) s33) ∧ Hid (c4 = true → c0 = true) ∧ Hid (c0 = true → s30 = dv Q) ∧ Hid (c1 = true → s31 = .int .i64 k) ∧ Hid (c2 = true → s32 = dv (2 ^ k)) ∧ Hid (c3 = true → s33 = dv (Q + 2 ^ k)) ∧ Hid (St w [D2, U, 0, 0, bif c4 then Q + 2 ^ k else Q] W)) ?hS ?hz (by kernel_rfl) ?hsteps ?hend _ _ _ _ (by decide) ?h0
            case hS => intros; trivial
            case hz => rintro L a W ⟨c0, c1, c2, c3, c4, s30, s31, s32, s33, rfl, -⟩; rfl
            case h0 => exact ⟨false, false, false, false, false, A.eval (.tmp 30), A.eval (.tmp 31), A.eval (.tmp 32), A.eval (.tmp 33), rfl, by simp only [put_self], fun h => Bool.noConfusion h, fun h => Bool.noConfusion h, fun h => Bool.noConfusion h, fun h => Bool.noConfusion h, fun h => Bool.noConfusion h, F4.out.drew⟩
            case hend =>
              rintro L a W ⟨c0, c1, c2, c3, c4, s30, s31, s32, s33, rfl, rfl, i4, k0, k1, k2, k3, F⟩ hall
              obtain rfl : c0 = true := hall 0
              obtain rfl : c1 = true := hall 1
              obtain rfl : c2 = true := hall 2
              obtain rfl : c3 = true := hall 3
              obtain rfl : c4 = true := hall 4
              have F5 : Hid (St w [D2, U, 0, 0, Q + 2 ^ k] W) := F
              clear F F4 i4 k0 k1 k2 k3
              refine NoPanic.normal ?_
              subst hA
              simp only [Act.put, List.setIfInBounds_toArray, List.set_cons_zero, List.set_cons_succ]
              go_wp2_with (fail)
              go_roundw
              case rel =>
                refine ⟨D2, Q + 2 ^ k, H2, F5, ?_⟩
                rcases k with _ | k
                · exact Or.inr ⟨by simp, by have := H3.out; rw [Int.pow_zero, Int.mul_one] at this; exact this⟩
                · exact Or.inl ⟨k, by omega, by go_num, H3⟩
              case measure => simp [intOf]
            case hsteps =>
              clear F4
              refine StepsI.cons (i := 0) rfl ?_ ?_
              · rintro L a W ⟨c0, c1, c2, c3, c4, s30, s31, s32, s33, rfl, rfl, i4, k0, k1, k2, k3, F⟩ h0 hd KK hK
                obtain rfl : c0 = false := h0
                obtain rfl : c4 = false := by
                  cases c4
                  · rfl
                  · exact absurd (i4.out rfl) (by decide)
                subst hA
                simp only [Act.put, List.setIfInBounds_toArray, List.set_cons_zero, List.set_cons_succ]
                clear hd
                rw [if_pos (by rfl)]
                refine num_wp_load (F.out.get 4 Q rfl) _ rfl (some 30) rfl rfl ?_
                exact hK.out _ _ ⟨true, c1, c2, c3, false, dv Q, s31, s32, s33, rfl, by simp only [Act.put, List.setIfInBounds_toArray, List.set_cons_zero, List.set_cons_succ], fun _ => rfl, fun _ => rfl, k1.out, k2.out, k3.out, F⟩
              refine StepsI.cons (i := 1) rfl ?_ ?_
              · rintro L a W ⟨c0, c1, c2, c3, c4, s30, s31, s32, s33, rfl, rfl, i4, k0, k1, k2, k3, F⟩ h0 hd KK hK
                obtain rfl : c1 = false := h0
                subst hA
                simp only [Act.put, List.setIfInBounds_toArray, List.set_cons_zero, List.set_cons_succ]
                clear hd
                go_simp
                exact hK.out _ _ ⟨c0, true, c2, c3, c4, s30, .int .i64 k, s32, s33, rfl, by simp only [Act.put, List.setIfInBounds_toArray, List.set_cons_zero, List.set_cons_succ], i4.out, k0.out, fun _ => rfl, k2.out, k3.out, F⟩
              refine StepsI.cons (i := 2) rfl ?_ ?_
              · rintro L a W ⟨c0, c1, c2, c3, c4, s30, s31, s32, s33, rfl, rfl, i4, k0, k1, k2, k3, F⟩ h0 hd KK hK
                obtain rfl : c2 = false := h0
                obtain rfl : c1 = true := hd ⟨1, .data⟩ (by simp) rfl
                have e1 := k1.out rfl
                subst e1
                subst hA
                simp only [Act.put, List.setIfInBounds_toArray, List.set_cons_zero, List.set_cons_succ]
                clear hd
                go_simp
                refine (power_dv k _ (by omega)).mono ?_
                rintro e w2 ⟨rfl, hw2⟩
                (try go_wp2_with (fail))
                exact hK.out _ _ ⟨c0, true, true, c3, c4, s30, .int .i64 k, dv (2 ^ k), s33, rfl, by simp only [Act.put, List.setIfInBounds_toArray, List.set_cons_zero, List.set_cons_succ], i4.out, k0.out, fun _ => rfl, fun _ => rfl, k3.out, F.out.later hw2⟩
              refine StepsI.cons (i := 3) rfl ?_ ?_
              · rintro L a W ⟨c0, c1, c2, c3, c4, s30, s31, s32, s33, rfl, rfl, i4, k0, k1, k2, k3, F⟩ h0 hd KK hK
                obtain rfl : c3 = false := h0
                obtain rfl : c0 = true := hd ⟨0, .data⟩ (by simp) rfl
                obtain rfl : c2 = true := hd ⟨2, .data⟩ (by simp) rfl
                have e0 := k0.out rfl
                subst e0
                have e2 := k2.out rfl
                subst e2
                subst hA
                simp only [Act.put, List.setIfInBounds_toArray, List.set_cons_zero, List.set_cons_succ]
                clear hd
                go_simp
                refine (plus_dv Q (2 ^ k) _ H4.out.1 (by have := two_pow_pos k; omega) H4.out.2).mono ?_
                rintro e w2 ⟨rfl, hw2⟩
                (try go_wp2_with (fail))
                exact hK.out _ _ ⟨true, c1, true, true, c4, dv Q, s31, dv (2 ^ k), dv (Q + 2 ^ k), rfl, by simp only [Act.put, List.setIfInBounds_toArray, List.set_cons_zero, List.set_cons_succ], fun _ => rfl, fun _ => rfl, k1.out, fun _ => rfl, fun _ => rfl, F.out.later hw2⟩
              refine StepsI.cons (i := 4) rfl ?_ ?_
              · rintro L a W ⟨c0, c1, c2, c3, c4, s30, s31, s32, s33, rfl, rfl, i4, k0, k1, k2, k3, F⟩ h0 hd KK hK
                obtain rfl : c4 = false := h0
                obtain rfl : c3 = true := hd ⟨3, .data⟩ (by simp) rfl
                obtain rfl : c0 = true := hd ⟨0, .phase⟩ (by simp) rfl
                have e3 := k3.out rfl
                subst hA
                simp only [Act.put, List.setIfInBounds_toArray, List.set_cons_zero, List.set_cons_succ]
                clear hd
                rw [if_pos (by rfl)]
                refine num_wp_store (F.out.get 4 _ rfl) _ _ rfl rfl rfl (Q + 2 ^ k) e3 ?_
                exact hK.out _ _ ⟨true, c1, c2, true, true, s30, s31, s32, s33, rfl, by simp only [Act.put, List.setIfInBounds_toArray, List.set_cons_zero, List.set_cons_succ], fun _ => rfl, k0.out, k1.out, k2.out, k3.out, F.out.put 4 (Q + 2 ^ k) (by simp)⟩
              exact StepsI.nil
    · have HV : Hid (Q = V / U ∧ D = V % U) := by
        obtain ⟨d0, q0, e⟩ := HE.out
        have d1 := HD.out
        subst e
        have e1 : (Q * U + D) / U = Q := by rw [Int.add_comm, Int.add_mul_ediv_right _ _ (by omega), Int.ediv_eq_zero_of_lt d0 d1, Int.zero_add]
        have e2 : (Q * U + D) % U = D := by rw [Int.add_comm, Int.add_mul_emod_self_right, Int.emod_eq_of_lt d0 d1]
        exact ⟨e1.symm, e2.symm⟩
      go_upto_region 13 with (fail)
      refine wp_region_noPanic ?_
      refine wp_region_held_drew (S := fun _ => True) (by kernel_rfl) trivial (fun hHeld => ?_)
      refine wpAnyH_named ?_
      intro A hA
      clear hHeld
      refine wpAnyH_inv (I := fun L a W => ∃ (c0 c1 c2 c3 : Bool) (s34 s35 : Value), L = #[c0, c1, c2, c3] ∧ a = ((A.put (some 34) s34).put (some 35) s35) ∧ Hid (c0 = true → s34 = dv Q) ∧ Hid (c1 = true → s35 = dv D) ∧ Hid (St w [D, U, bif c2 then Q else 0, bif c3 then D else 0, Q] W)) ?hS ?hz (by kernel_rfl) ?hsteps ?hend _ _ _ _ (by decide) ?h0
      case hS => intros; trivial
      case hz => rintro L a W ⟨c0, c1, c2, c3, s34, s35, rfl, -⟩; rfl
      case h0 => exact ⟨false, false, false, false, A.eval (.tmp 34), A.eval (.tmp 35), rfl, by simp only [put_self], fun h => Bool.noConfusion h, fun h => Bool.noConfusion h, F.out.drew⟩
      case hend =>
        rintro L a W ⟨c0, c1, c2, c3, s34, s35, rfl, rfl, k0, k1, F'⟩ hall
        obtain rfl : c0 = true := hall 0
        obtain rfl : c1 = true := hall 1
        obtain rfl : c2 = true := hall 2
        obtain rfl : c3 = true := hall 3
        have F5 : Hid (St w [D, U, Q, D, Q] W) := F'
        clear F F'
        refine NoPanic.normal ?_
        subst hA
        simp only [Act.put, List.setIfInBounds_toArray, List.set_cons_zero, List.set_cons_succ]
        go_wp2_with (fail)
        refine bodyPost_ret (v := .tuple #[dv Q, dv D]) ?_ rfl ⟨by rw [HV.out.1, HV.out.2], F5.out.2.2⟩
        have hl := run_loadVar_mid W (w.heap.size + 2) 0 63 (dl (wd Q)) _ (F5.out.get 2 _ rfl).1 Tryz.underlying63 rfl (by rw [dl_len]; exact dig_info)
        have hm := run_loadVar_mid W (w.heap.size + 3) 0 63 (dl (wd D)) _ (F5.out.get 3 _ rfl).1 Tryz.underlying63 rfl (by rw [dl_len]; exact dig_info)
        simp [results, Tryz.results33, asAddr, hl, hm, dv]
      case hsteps =>
        clear F
        refine StepsI.cons (i := 0) rfl ?_ ?_
        · rintro L a W ⟨c0, c1, c2, c3, s34, s35, rfl, rfl, k0, k1, F'⟩ h0 hd KK hK
          obtain rfl : c0 = false := h0
          subst hA
          simp only [Act.put, List.setIfInBounds_toArray, List.set_cons_zero, List.set_cons_succ]
          clear hd
          rw [if_pos (by rfl)]
          refine num_wp_load (F'.out.get 4 _ rfl) _ rfl (some 34) rfl rfl ?_
          exact hK.out _ _ ⟨true, c1, c2, c3, dv Q, s35, rfl, by simp only [Act.put, List.setIfInBounds_toArray, List.set_cons_zero, List.set_cons_succ], fun _ => rfl, k1.out, F'⟩
        refine StepsI.cons (i := 1) rfl ?_ ?_
        · rintro L a W ⟨c0, c1, c2, c3, s34, s35, rfl, rfl, k0, k1, F'⟩ h0 hd KK hK
          obtain rfl : c1 = false := h0
          subst hA
          simp only [Act.put, List.setIfInBounds_toArray, List.set_cons_zero, List.set_cons_succ]
          clear hd
          rw [if_pos (by rfl)]
          refine num_wp_load (F'.out.get 0 _ rfl) _ rfl (some 35) rfl rfl ?_
          exact hK.out _ _ ⟨c0, true, c2, c3, s34, dv D, rfl, by simp only [Act.put, List.setIfInBounds_toArray, List.set_cons_zero, List.set_cons_succ], k0.out, fun _ => rfl, F'⟩
        refine StepsI.cons (i := 2) rfl ?_ ?_
        · rintro L a W ⟨c0, c1, c2, c3, s34, s35, rfl, rfl, k0, k1, F'⟩ h0 hd KK hK
          obtain rfl : c2 = false := h0
          obtain rfl : c0 = true := hd ⟨0, .data⟩ (by simp) rfl
          have e0 := k0.out rfl
          subst hA
          simp only [Act.put, List.setIfInBounds_toArray, List.set_cons_zero, List.set_cons_succ]
          clear hd
          rw [if_pos (by rfl)]
          refine num_wp_store (F'.out.get 2 _ rfl) _ _ rfl rfl rfl Q e0 ?_
          exact hK.out _ _ ⟨true, c1, true, c3, s34, s35, rfl, by simp only [Act.put, List.setIfInBounds_toArray, List.set_cons_zero, List.set_cons_succ], k0.out, k1.out, F'.out.put 2 Q (by simp)⟩
        refine StepsI.cons (i := 3) rfl ?_ ?_
        · rintro L a W ⟨c0, c1, c2, c3, s34, s35, rfl, rfl, k0, k1, F'⟩ h0 hd KK hK
          obtain rfl : c3 = false := h0
          obtain rfl : c1 = true := hd ⟨1, .data⟩ (by simp) rfl
          have e1 := k1.out rfl
          subst hA
          simp only [Act.put, List.setIfInBounds_toArray, List.set_cons_zero, List.set_cons_succ]
          clear hd
          rw [if_pos (by rfl)]
          refine num_wp_store (F'.out.get 3 _ rfl) _ _ rfl rfl rfl D e1 ?_
          exact hK.out _ _ ⟨c0, true, c2, true, s34, s35, rfl, by simp only [Act.put, List.setIfInBounds_toArray, List.set_cons_zero, List.set_cons_succ], k0.out, k1.out, F'.out.put 3 D (by simp)⟩
        exact StepsI.nil
end Go.Proofs.YtpbgolcimbjekaaGreatDoor
