/-
  The walk of the statement CheckedSums at this program: it returns true. Conditions: the arguments are numbers of 64 bits.
-/
import Derived.Test.YtfbkmifgnpapbaaCB
import Derived.Test.YtfbkmifgnpapbaaCH
namespace Go.Proofs.Ytfbkmifgnpapbaa
open Go.RowKit

theorem intS (m : Bool) (V S : Int) (w : World) (v0 : 0 ≤ V) (v1 : V < 65536 ^ 20) (h : sgn m V = S) :
    Calls Try.prog 11 #[iv m V] w fun e w' => e = .returned (.tuple #[.int .i64 (fitv S), .bool (fitb S)]) ∧ Below w.heap.size w w' := by
  subst h
  exact int3 m V w v0 v1
theorem sgn_abs (n : Int) : sgn (decide (n < 0)) n.natAbs = n := by
  unfold sgn
  by_cases h : n < 0
  · rw [decide_eq_true h]; simp; omega
  · rw [decide_eq_false h]; simp; omega
theorem sgn_not (m : Bool) (V : Int) : sgn (!m) V = -sgn m V := by cases m <;> simp [sgn]
theorem sgn_mul (m k : Bool) (V U : Int) : sgn (m != k) (V * U) = sgn m V * sgn k U := by
  cases m <;> cases k <;> simp [sgn, Int.neg_mul, Int.mul_neg]
theorem abs_bd {n : Int} (h : In64 n) : 0 ≤ (n.natAbs : Int) ∧ (n.natAbs : Int) ≤ 9223372036854775808 := by unfold In64 at h; omega
theorem prod_bd3 {V U : Int} (v0 : 0 ≤ V) (v1 : V ≤ 9223372036854775808) (u0 : 0 ≤ U) (u1 : U ≤ 9223372036854775808) : 0 ≤ V * U ∧ V * U < 65536 ^ 20 := by
  have p20 := pow20
  have h1 := Int.mul_nonneg v0 u0
  have h2 : V * U ≤ 9223372036854775808 * 9223372036854775808 := Int.mul_le_mul v1 u1 u0 (by omega)
  omega

theorem sums_gives (a b : Int) (ha : In64 a) (hb : In64 b) : ∃ (ma mb nb M1 M2 M3 M4 : Bool) (VA VB R1 R2 R3 R4 s1 s2 s3 s4 : Int) (t1 t2 t3 t4 : Bool),
      (∀ w, Calls Try.prog 8 #[.int .i64 a] w fun e w' => e = .returned (iv ma VA) ∧ Below w.heap.size w w') ∧
      (∀ w, Calls Try.prog 8 #[.int .i64 b] w fun e w' => e = .returned (iv mb VB) ∧ Below w.heap.size w w') ∧
      (∀ w, Calls Try.prog 9 #[.int .i64 a, .int .i64 b] w fun e w' => e = .returned (.tuple #[.int .i64 s1, .bool t1]) ∧ w' = w) ∧
      (∀ w, Calls Try.prog 10 #[iv ma VA, iv mb VB] w fun e w' => e = .returned (iv M1 R1) ∧ Below w.heap.size w w') ∧
      (∀ w, Calls Try.prog 11 #[iv M1 R1] w fun e w' => e = .returned (.tuple #[.int .i64 s1, .bool t1]) ∧ Below w.heap.size w w') ∧
      (∀ w, Calls Try.prog 12 #[.int .i64 a, .int .i64 b] w fun e w' => e = .returned (.tuple #[.int .i64 s2, .bool t2]) ∧ w' = w) ∧
      (∀ w, Calls Try.prog 13 #[iv mb VB] w fun e w' => e = .returned (iv nb VB) ∧ Below w.heap.size w w') ∧
      (∀ w, Calls Try.prog 10 #[iv ma VA, iv nb VB] w fun e w' => e = .returned (iv M2 R2) ∧ Below w.heap.size w w') ∧
      (∀ w, Calls Try.prog 11 #[iv M2 R2] w fun e w' => e = .returned (.tuple #[.int .i64 s2, .bool t2]) ∧ Below w.heap.size w w') ∧
      (∀ w, Calls Try.prog 14 #[.int .i64 a, .int .i64 b] w fun e w' => e = .returned (.tuple #[.int .i64 s3, .bool t3]) ∧ w' = w) ∧
      (∀ w, Calls Try.prog 15 #[iv ma VA, iv mb VB] w fun e w' => e = .returned (iv M3 R3) ∧ Below w.heap.size w w') ∧
      (∀ w, Calls Try.prog 11 #[iv M3 R3] w fun e w' => e = .returned (.tuple #[.int .i64 s3, .bool t3]) ∧ Below w.heap.size w w') ∧
      (b < 1 → (∀ w, Calls Try.prog 16 #[.int .i64 a, .int .i64 b] w fun e w' => e = .returned (.tuple #[.int .i64 0, .bool false]) ∧ w' = w)) ∧
      (1 ≤ b → (∀ w, Calls Try.prog 16 #[.int .i64 a, .int .i64 b] w fun e w' => e = .returned (.tuple #[.int .i64 s4, .bool t4]) ∧ w' = w) ∧ (∀ w, Calls Try.prog 17 #[.int .i64 a, .int .i64 b] w fun e w' => e = .returned (iv M4 R4) ∧ Below w.heap.size w w') ∧ (∀ w, Calls Try.prog 11 #[iv M4 R4] w fun e w' => e = .returned (.tuple #[.int .i64 s4, .bool t4]) ∧ Below w.heap.size w w')) := by
  have bA := abs_bd ha
  have bB := abs_bd hb
  have p20 := pow20
  have q1 := plus_bd (m1 := decide (a < 0)) (m2 := decide (b < 0)) (B := 65536 ^ 20) bA.1 bB.1 (by omega)
  have q2 := plus_bd (m1 := decide (a < 0)) (m2 := !decide (b < 0)) (B := 65536 ^ 20) bA.1 bB.1 (by omega)
  have q3 := prod_bd3 bA.1 bA.2 bB.1 bB.2
  refine ⟨decide (a < 0), decide (b < 0), !decide (b < 0), plusM (decide (a < 0)) a.natAbs (decide (b < 0)) b.natAbs, plusM (decide (a < 0)) a.natAbs (!decide (b < 0)) b.natAbs, (decide (a < 0) != decide (b < 0)), decide (a < 0),
    a.natAbs, b.natAbs, plusV (decide (a < 0)) a.natAbs (decide (b < 0)) b.natAbs, plusV (decide (a < 0)) a.natAbs (!decide (b < 0)) b.natAbs, a.natAbs * b.natAbs, upS a b,
    fitv (a + b), fitv (a - b), fitv (a * b), fitv (upv a b), fitb (a + b), fitb (a - b), fitb (a * b), fitb (upv a b),
    fun w => of3 a w ha, fun w => of3 b w hb, fun w => cadd_any a b w ha hb, fun w => plus3 _ _ _ _ w bA.1 bB.1 (by omega), fun w => intS _ _ _ w q1.1 q1.2 ?_,
    fun w => csub_any a b w ha hb, fun w => neg3 _ _ w, fun w => plus3 _ _ _ _ w bA.1 bB.1 (by omega), fun w => intS _ _ _ w q2.1 q2.2 ?_,
    fun w => cmul_any a b w ha hb, fun w => times3 _ _ _ _ w bA.1 bB.1 (by omega) (by omega), fun w => intS _ _ _ w q3.1 q3.2 ?_, fun hl w => ?_, fun hg => ⟨fun w => ?_, fun w => up3 a b w ha hb hg, fun w => intS _ _ _ w (upS_bd ha hb hg).1 (upS_bd ha hb hg).2 (upS_sgn hg)⟩⟩
  · rw [plus_sgn, sgn_abs, sgn_abs]
  · rw [plus_sgn, sgn_not, sgn_abs, sgn_abs]; omega
  · rw [sgn_mul, sgn_abs, sgn_abs]
  · have := cup_any a b w ha hb
    rwa [if_pos hl, if_pos hl] at this
  · have := cup_any a b w ha hb
    rwa [if_neg (by omega), if_neg (by omega)] at this

set_option maxHeartbeats 8000000 in
set_option maxRecDepth 100000 in
theorem lawsums_any (a b : Int) (w : World) (ha : In64 a) (hb : In64 b) :
    Calls Try.prog 3 #[.int .i64 a, .int .i64 b] w fun e w' => e = .returned (.bool true) ∧ Below w.heap.size w w' := by
  obtain ⟨ma, mb, nb, M1, M2, M3, M4, VA, VB, R1, R2, R3, R4, s1, s2, s3, s4, t1, t2, t3, t4, gFA, gFB, gAD, gP1, gI1, gSU, gN2, gP2, gI2, gMU, gP3, gI3, gUL, gUG⟩ := sums_gives a b ha hb
  have FA : Hid (∀ w, Calls Try.prog 8 #[.int .i64 a] w fun e w' => e = .returned (iv ma VA) ∧ Below w.heap.size w w') := gFA
  have FB : Hid (∀ w, Calls Try.prog 8 #[.int .i64 b] w fun e w' => e = .returned (iv mb VB) ∧ Below w.heap.size w w') := gFB
  have AD : Hid (∀ w, Calls Try.prog 9 #[.int .i64 a, .int .i64 b] w fun e w' => e = .returned (.tuple #[.int .i64 s1, .bool t1]) ∧ w' = w) := gAD
  have P1 : Hid (∀ w, Calls Try.prog 10 #[iv ma VA, iv mb VB] w fun e w' => e = .returned (iv M1 R1) ∧ Below w.heap.size w w') := gP1
  have I1 : Hid (∀ w, Calls Try.prog 11 #[iv M1 R1] w fun e w' => e = .returned (.tuple #[.int .i64 s1, .bool t1]) ∧ Below w.heap.size w w') := gI1
  have SU : Hid (∀ w, Calls Try.prog 12 #[.int .i64 a, .int .i64 b] w fun e w' => e = .returned (.tuple #[.int .i64 s2, .bool t2]) ∧ w' = w) := gSU
  have N2 : Hid (∀ w, Calls Try.prog 13 #[iv mb VB] w fun e w' => e = .returned (iv nb VB) ∧ Below w.heap.size w w') := gN2
  have P2 : Hid (∀ w, Calls Try.prog 10 #[iv ma VA, iv nb VB] w fun e w' => e = .returned (iv M2 R2) ∧ Below w.heap.size w w') := gP2
  have I2 : Hid (∀ w, Calls Try.prog 11 #[iv M2 R2] w fun e w' => e = .returned (.tuple #[.int .i64 s2, .bool t2]) ∧ Below w.heap.size w w') := gI2
  have MU : Hid (∀ w, Calls Try.prog 14 #[.int .i64 a, .int .i64 b] w fun e w' => e = .returned (.tuple #[.int .i64 s3, .bool t3]) ∧ w' = w) := gMU
  have P3 : Hid (∀ w, Calls Try.prog 15 #[iv ma VA, iv mb VB] w fun e w' => e = .returned (iv M3 R3) ∧ Below w.heap.size w w') := gP3
  have I3 : Hid (∀ w, Calls Try.prog 11 #[iv M3 R3] w fun e w' => e = .returned (.tuple #[.int .i64 s3, .bool t3]) ∧ Below w.heap.size w w') := gI3
  have UL : Hid (b < 1 → (∀ w, Calls Try.prog 16 #[.int .i64 a, .int .i64 b] w fun e w' => e = .returned (.tuple #[.int .i64 0, .bool false]) ∧ w' = w)) := gUL
  have UG : Hid (1 ≤ b → (∀ w, Calls Try.prog 16 #[.int .i64 a, .int .i64 b] w fun e w' => e = .returned (.tuple #[.int .i64 s4, .bool t4]) ∧ w' = w) ∧ (∀ w, Calls Try.prog 17 #[.int .i64 a, .int .i64 b] w fun e w' => e = .returned (iv M4 R4) ∧ Below w.heap.size w w') ∧ (∀ w, Calls Try.prog 11 #[iv M4 R4] w fun e w' => e = .returned (.tuple #[.int .i64 s4, .bool t4]) ∧ Below w.heap.size w w')) := gUG
  clear gFA gFB gAD gP1 gI1 gSU gN2 gP2 gI2 gMU gP3 gI3 gUL gUG
  unfold In64 at ha hb
  by_cases hl : b < 1
  · go_enter Try.func3, Try.ntmps3
    go_wp2_with (fail)
    refine (cfirst_any _).mono ?_
    rintro e w1 ⟨rfl, hw1⟩
    go_upto_region 3 with (fail)
    have F1 : Hid (Has w [] w1) := (Has.none w).later hw1
    clear hw1
    refine wp_region_lit ?_
    refine wpList_one fun K' hK' => ?_
    rw [if_pos (by rfl)]
    go_simp
    refine hK'.out _ _ ?_
    clear hK' K'
    refine wpList_one fun K' hK' => ?_
    rw [if_pos (by rfl)]
    go_simp
    refine (FA.out _).mono ?_
    rintro e w2 ⟨rfl, hw2⟩
    have F2 : Hid (Has w _ w2) := F1.out.later hw2
    clear F1 hw2
    (try go_wp2_with (fail))
    refine hK'.out _ _ ?_
    clear hK' K'
    refine wpList_one fun K' hK' => ?_
    rw [if_pos (by rfl)]
    go_simp
    refine hK'.out _ _ ?_
    clear hK' K'
    refine wpList_one fun K' hK' => ?_
    rw [if_pos (by rfl)]
    go_simp
    refine (FB.out _).mono ?_
    rintro e w3 ⟨rfl, hw3⟩
    have F3 : Hid (Has w _ w3) := F2.out.later hw3
    clear F2 hw3
    (try go_wp2_with (fail))
    refine hK'.out _ _ ?_
    clear hK' K'
    refine wpList_one fun K' hK' => ?_
    rw [if_pos (by rfl)]
    go_simp
    refine hK'.out _ _ ?_
    clear hK' K'
    refine wpList_one fun K' hK' => ?_
    rw [if_pos (by rfl)]
    go_simp
    refine hK'.out _ _ ?_
    clear hK' K'
    have hp := F3.out.2.1
    refine wpList_on (Pr := fun W => Hid (Has w [(w3.heap.size + 1, il false 0), (w3.heap.size, il false 0)] W)) ((F3.out.new (il false 0) _ _ rfl).new_at (il false 0) _ _ _ (by simp) rfl) ?_
    clear F3
    intro W4 F4
    generalize w3.heap.size = p at hp F4 ⊢
    refine int_store VA ma (F4.out.get p (il false 0) (by simp)) rfl _ _ rfl rfl rfl rfl ?_
    refine wpList_on (Pr := fun W => Hid (Has w [(p, il ma VA), (p + 1, il false 0)] W)) ((F4.out.part (ms := [(p, il false 0), (p + 1, il false 0)]) (by simp)).put _ (by simp [il_len]) hp (by simp)) ?_
    clear F4
    intro W5 F5
    refine int_store VB mb (F5.out.get (p + 1) (il false 0) (by simp)) rfl _ _ rfl rfl rfl rfl ?_
    refine wpList_on (Pr := fun W => Hid (Has w [(p + 1, il mb VB), (p, il ma VA)] W)) ((F5.out.part (ms := [(p + 1, il false 0), (p, il ma VA)]) (by simp)).put _ (by simp [il_len]) (by omega) (by simp)) ?_
    clear F5
    intro W6 F6
    go_wp2_with (fail)
    refine (AD.out _).mono ?_
    rintro e w' ⟨rfl, rfl⟩
    go_upto_region 5 with (fail)
    refine wp_region_lit ?_
    refine int_load (F6.out.get p (il ma VA) (by simp)) rfl _ rfl rfl ?_
    simp only [Act.put, List.setIfInBounds_toArray, List.set_cons_zero, List.set_cons_succ]
    refine int_load (F6.out.get (p + 1) (il mb VB) (by simp)) rfl _ rfl rfl ?_
    simp only [Act.put, List.setIfInBounds_toArray, List.set_cons_zero, List.set_cons_succ]
    refine wpList_one fun K' hK' => ?_
    rw [if_pos (by rfl)]
    go_simp
    refine (P1.out _).mono ?_
    rintro e w7 ⟨rfl, hw7⟩
    have G : Hid (Has w _ w7) := F6.out.later hw7
    clear F6 hw7
    (try go_wp2_with (fail))
    refine hK'.out _ _ ?_
    clear hK' K'
    refine wpList_one fun K' hK' => ?_
    rw [if_pos (by rfl)]
    go_simp
    refine (I1.out _).mono ?_
    rintro e w8 ⟨rfl, hw8⟩
    have F7 : Hid (Has w _ w8) := G.out.later hw8
    clear G hw8
    (try go_wp2_with (fail))
    refine hK'.out _ _ ?_
    clear hK' K'
    go_wp2_with (fail)
    refine (SU.out _).mono ?_
    rintro e w' ⟨rfl, rfl⟩
    go_upto_region 7 with (fail)
    refine wp_region_noPanic ?_
    refine wp_region_held_drew (S := fun w' => Row w' p (il ma VA) ∧ Row w' (p + 1) (il mb VB)) (by kernel_rfl) ?_ (fun hHeld => ?_)
    · exact ⟨F7.out.get p (il ma VA) (by simp), F7.out.get (p + 1) (il mb VB) (by simp)⟩
    refine wpAnyH_take (i := 0) (v := .agg (il ma VA).toArray) rfl (by kernel_rfl) (by kernel_rfl) (by kernel_rfl) (fun _ _ _ h => h) (yieldsIf_load_mid (by rfl) _ _ rfl (p) 0 rfl (il ma VA) _ (fun wS hSw => hSw.1.1) Try.underlying27 rfl (by rw [il_len]; exact int_info)) (by assumption) ?_
    change wpAnyH _ _ _ _ _ _ _ (Act.put _ (some 49) _) _
    simp only [Act.put, List.setIfInBounds_toArray, List.set_cons_zero, List.set_cons_succ]
    refine wpAnyH_take (i := 1) (v := .agg (il mb VB).toArray) rfl (by kernel_rfl) (by kernel_rfl) (by kernel_rfl) (fun _ _ _ h => h) (yieldsIf_load_mid (by rfl) _ _ rfl (p + 1) 0 rfl (il mb VB) _ (fun wS hSw => hSw.2.1) Try.underlying27 rfl (by rw [il_len]; exact int_info)) (by assumption) ?_
    change wpAnyH _ _ _ _ _ _ _ (Act.put _ (some 50) _) _
    simp only [Act.put, List.setIfInBounds_toArray, List.set_cons_zero, List.set_cons_succ]
    refine wpAnyH_named ?_
    intro A hA
    clear hHeld
    refine wpAnyH_inv (I := fun L a W => ∃ (c2 c3 c4 c5 c6 c7 c8 c9 : Bool) (s51 s52 s53 s48 s54 s55 s13 s14 : Value), L = #[true, true, c2, c3, c4, c5, c6, c7, c8, c9] ∧ a = ((((((((A.put (some 51) s51).put (some 52) s52).put (some 53) s53).put (some 48) s48).put (some 54) s54).put (some 55) s55).put (some 13) s13).put (some 14) s14) ∧ Hid (Has w [(p + 1, il mb VB), (p, il ma VA)] W) ∧ Hid (c2 = true → s51 = iv nb VB) ∧ Hid (c3 = true → s52 = iv M2 R2) ∧ Hid (c4 = true → s53 = .tuple #[.int .i64 s2, .bool t2]) ∧ Hid (c5 = true → s48 = .tuple #[.int .i64 s2, .bool t2]) ∧ Hid (c6 = true → s54 = .int .i64 s2) ∧ Hid (c7 = true → s55 = .bool t2) ∧ Hid (c8 = true → s13 = .int .i64 s2) ∧ Hid (c9 = true → s14 = .bool t2)) ?hS ?hz (by kernel_rfl) ?hsteps ?hend _ _ _ _ (by decide) ?h0
    case hS => rintro L a W ⟨c2, c3, c4, c5, c6, c7, c8, c9, s51, s52, s53, s48, s54, s55, s13, s14, -, -, K, -⟩; exact (fun h => h) (⟨K.out.get p (il ma VA) (by simp), K.out.get (p + 1) (il mb VB) (by simp)⟩)
    case hz => rintro L a W ⟨c2, c3, c4, c5, c6, c7, c8, c9, s51, s52, s53, s48, s54, s55, s13, s14, rfl, -⟩; rfl
    case h0 => exact ⟨false, false, false, false, false, false, false, false, A.eval (.tmp 51), A.eval (.tmp 52), A.eval (.tmp 53), A.eval (.tmp 48), A.eval (.tmp 54), A.eval (.tmp 55), A.eval (.tmp 13), A.eval (.tmp 14), rfl, by simp only [put_self], F7.out.drew, fun h => Bool.noConfusion h, fun h => Bool.noConfusion h, fun h => Bool.noConfusion h, fun h => Bool.noConfusion h, fun h => Bool.noConfusion h, fun h => Bool.noConfusion h, fun h => Bool.noConfusion h, fun h => Bool.noConfusion h⟩
    case hend =>
      rintro L a W ⟨c2, c3, c4, c5, c6, c7, c8, c9, s51, s52, s53, s48, s54, s55, s13, s14, rfl, rfl, K, k2, k3, k4, k5, k6, k7, k8, k9⟩ hall
      obtain rfl : c2 = true := hall 2
      obtain rfl : c3 = true := hall 3
      obtain rfl : c4 = true := hall 4
      obtain rfl : c5 = true := hall 5
      obtain rfl : c6 = true := hall 6
      obtain rfl : c7 = true := hall 7
      obtain rfl : c8 = true := hall 8
      obtain rfl : c9 = true := hall 9
      obtain rfl := k2.out rfl
      obtain rfl := k3.out rfl
      obtain rfl := k4.out rfl
      obtain rfl := k5.out rfl
      obtain rfl := k6.out rfl
      obtain rfl := k7.out rfl
      obtain rfl := k8.out rfl
      obtain rfl := k9.out rfl
      clear k2 k3 k4 k5 k6 k7 k8 k9
      refine NoPanic.normal ?_
      subst hA
      simp only [Act.put, List.setIfInBounds_toArray, List.set_cons_zero, List.set_cons_succ]
      have F8 : Hid (Has w [(p + 1, il mb VB), (p, il ma VA)] W) := K
      clear K
      go_wp2_with (fail)
      refine (MU.out _).mono ?_
      rintro e w' ⟨rfl, rfl⟩
      go_upto_region 9 with (fail)
      refine wp_region_lit ?_
      refine int_load (F8.out.get p (il ma VA) (by simp)) rfl _ rfl rfl ?_
      simp only [Act.put, List.setIfInBounds_toArray, List.set_cons_zero, List.set_cons_succ]
      refine int_load (F8.out.get (p + 1) (il mb VB) (by simp)) rfl _ rfl rfl ?_
      simp only [Act.put, List.setIfInBounds_toArray, List.set_cons_zero, List.set_cons_succ]
      refine wpList_one fun K' hK' => ?_
      rw [if_pos (by rfl)]
      go_simp
      refine (P3.out _).mono ?_
      rintro e w9 ⟨rfl, hw9⟩
      have G : Hid (Has w _ w9) := F8.out.later hw9
      clear F8 hw9
      (try go_wp2_with (fail))
      refine hK'.out _ _ ?_
      clear hK' K'
      refine wpList_one fun K' hK' => ?_
      rw [if_pos (by rfl)]
      go_simp
      refine (I3.out _).mono ?_
      rintro e w10 ⟨rfl, hw10⟩
      have F9 : Hid (Has w _ w10) := G.out.later hw10
      clear G hw10
      (try go_wp2_with (fail))
      refine hK'.out _ _ ?_
      clear hK' K'
      go_wp2_with (fail)
      refine (UL.out hl _).mono ?_
      rintro e w' ⟨rfl, rfl⟩
      have HB9 := F9.out.2.2
      clear F9
      go_wp2
      go_ret
      exact ⟨rfl, HB9⟩
    case hsteps =>
      refine StepsI.skip (i := 0) (by rintro L a W ⟨c2, c3, c4, c5, c6, c7, c8, c9, s51, s52, s53, s48, s54, s55, s13, s14, rfl, -⟩; rfl) ?_
      refine StepsI.skip (i := 1) (by rintro L a W ⟨c2, c3, c4, c5, c6, c7, c8, c9, s51, s52, s53, s48, s54, s55, s13, s14, rfl, -⟩; rfl) ?_
      refine StepsI.cons (i := 2) rfl ?_ ?_
      · rintro L a W ⟨c2, c3, c4, c5, c6, c7, c8, c9, s51, s52, s53, s48, s54, s55, s13, s14, rfl, rfl, K, k2, k3, k4, k5, k6, k7, k8, k9⟩ h0 hd KK hK
        obtain rfl : c2 = false := h0
        subst hA
        simp only [Act.put, List.setIfInBounds_toArray, List.set_cons_zero, List.set_cons_succ]
        clear hd
        go_simp
        refine (N2.out _).mono ?_
        rintro e w2 ⟨rfl, hw2⟩
        (try go_wp2_with (fail))
        exact hK.out _ _ ⟨true, c3, c4, c5, c6, c7, c8, c9, iv nb VB, s52, s53, s48, s54, s55, s13, s14, rfl, by simp only [Act.put, List.setIfInBounds_toArray, List.set_cons_zero, List.set_cons_succ], K.out.later hw2, fun _ => rfl, k3.out, k4.out, k5.out, k6.out, k7.out, k8.out, k9.out⟩
      refine StepsI.cons (i := 3) rfl ?_ ?_
      · rintro L a W ⟨c2, c3, c4, c5, c6, c7, c8, c9, s51, s52, s53, s48, s54, s55, s13, s14, rfl, rfl, K, k2, k3, k4, k5, k6, k7, k8, k9⟩ h0 hd KK hK
        obtain rfl : c3 = false := h0
        obtain rfl : c2 = true := hd ⟨2, .data⟩ (by simp) rfl
        have e2 := k2.out rfl
        subst e2
        subst hA
        simp only [Act.put, List.setIfInBounds_toArray, List.set_cons_zero, List.set_cons_succ]
        clear hd
        go_simp
        refine (P2.out _).mono ?_
        rintro e w2 ⟨rfl, hw2⟩
        (try go_wp2_with (fail))
        exact hK.out _ _ ⟨true, true, c4, c5, c6, c7, c8, c9, iv nb VB, iv M2 R2, s53, s48, s54, s55, s13, s14, rfl, by simp only [Act.put, List.setIfInBounds_toArray, List.set_cons_zero, List.set_cons_succ], K.out.later hw2, fun _ => rfl, fun _ => rfl, k4.out, k5.out, k6.out, k7.out, k8.out, k9.out⟩
      refine StepsI.cons (i := 4) rfl ?_ ?_
      · rintro L a W ⟨c2, c3, c4, c5, c6, c7, c8, c9, s51, s52, s53, s48, s54, s55, s13, s14, rfl, rfl, K, k2, k3, k4, k5, k6, k7, k8, k9⟩ h0 hd KK hK
        obtain rfl : c4 = false := h0
        obtain rfl : c3 = true := hd ⟨3, .data⟩ (by simp) rfl
        have e3 := k3.out rfl
        subst e3
        subst hA
        simp only [Act.put, List.setIfInBounds_toArray, List.set_cons_zero, List.set_cons_succ]
        clear hd
        go_simp
        refine (I2.out _).mono ?_
        rintro e w2 ⟨rfl, hw2⟩
        (try go_wp2_with (fail))
        exact hK.out _ _ ⟨c2, true, true, c5, c6, c7, c8, c9, s51, iv M2 R2, .tuple #[.int .i64 s2, .bool t2], s48, s54, s55, s13, s14, rfl, by simp only [Act.put, List.setIfInBounds_toArray, List.set_cons_zero, List.set_cons_succ], K.out.later hw2, k2.out, fun _ => rfl, fun _ => rfl, k5.out, k6.out, k7.out, k8.out, k9.out⟩
      refine StepsI.cons (i := 5) rfl ?_ ?_
      · rintro L a W ⟨c2, c3, c4, c5, c6, c7, c8, c9, s51, s52, s53, s48, s54, s55, s13, s14, rfl, rfl, K, k2, k3, k4, k5, k6, k7, k8, k9⟩ h0 hd KK hK
        obtain rfl : c5 = false := h0
        obtain rfl : c4 = true := hd ⟨4, .data⟩ (by simp) rfl
        have e4 := k4.out rfl
        subst e4
        subst hA
        simp only [Act.put, List.setIfInBounds_toArray, List.set_cons_zero, List.set_cons_succ]
        clear hd
        go_simp
        exact hK.out _ _ ⟨c2, c3, true, true, c6, c7, c8, c9, s51, s52, .tuple #[.int .i64 s2, .bool t2], .tuple #[.int .i64 s2, .bool t2], s54, s55, s13, s14, rfl, by simp only [Act.put, List.setIfInBounds_toArray, List.set_cons_zero, List.set_cons_succ], K, k2.out, k3.out, fun _ => rfl, fun _ => rfl, k6.out, k7.out, k8.out, k9.out⟩
      refine StepsI.cons (i := 6) rfl ?_ ?_
      · rintro L a W ⟨c2, c3, c4, c5, c6, c7, c8, c9, s51, s52, s53, s48, s54, s55, s13, s14, rfl, rfl, K, k2, k3, k4, k5, k6, k7, k8, k9⟩ h0 hd KK hK
        obtain rfl : c6 = false := h0
        obtain rfl : c5 = true := hd ⟨5, .data⟩ (by simp) rfl
        have e5 := k5.out rfl
        subst e5
        subst hA
        simp only [Act.put, List.setIfInBounds_toArray, List.set_cons_zero, List.set_cons_succ]
        clear hd
        go_simp
        exact hK.out _ _ ⟨c2, c3, c4, true, true, c7, c8, c9, s51, s52, s53, .tuple #[.int .i64 s2, .bool t2], .int .i64 s2, s55, s13, s14, rfl, by simp only [Act.put, List.setIfInBounds_toArray, List.set_cons_zero, List.set_cons_succ], K, k2.out, k3.out, k4.out, fun _ => rfl, fun _ => rfl, k7.out, k8.out, k9.out⟩
      refine StepsI.cons (i := 7) rfl ?_ ?_
      · rintro L a W ⟨c2, c3, c4, c5, c6, c7, c8, c9, s51, s52, s53, s48, s54, s55, s13, s14, rfl, rfl, K, k2, k3, k4, k5, k6, k7, k8, k9⟩ h0 hd KK hK
        obtain rfl : c7 = false := h0
        obtain rfl : c5 = true := hd ⟨5, .data⟩ (by simp) rfl
        have e5 := k5.out rfl
        subst e5
        subst hA
        simp only [Act.put, List.setIfInBounds_toArray, List.set_cons_zero, List.set_cons_succ]
        clear hd
        go_simp
        exact hK.out _ _ ⟨c2, c3, c4, true, c6, true, c8, c9, s51, s52, s53, .tuple #[.int .i64 s2, .bool t2], s54, .bool t2, s13, s14, rfl, by simp only [Act.put, List.setIfInBounds_toArray, List.set_cons_zero, List.set_cons_succ], K, k2.out, k3.out, k4.out, fun _ => rfl, k6.out, fun _ => rfl, k8.out, k9.out⟩
      refine StepsI.cons (i := 8) rfl ?_ ?_
      · rintro L a W ⟨c2, c3, c4, c5, c6, c7, c8, c9, s51, s52, s53, s48, s54, s55, s13, s14, rfl, rfl, K, k2, k3, k4, k5, k6, k7, k8, k9⟩ h0 hd KK hK
        obtain rfl : c8 = false := h0
        obtain rfl : c6 = true := hd ⟨6, .data⟩ (by simp) rfl
        have e6 := k6.out rfl
        subst e6
        subst hA
        simp only [Act.put, List.setIfInBounds_toArray, List.set_cons_zero, List.set_cons_succ]
        clear hd
        go_simp
        exact hK.out _ _ ⟨c2, c3, c4, c5, true, c7, true, c9, s51, s52, s53, s48, .int .i64 s2, s55, .int .i64 s2, s14, rfl, by simp only [Act.put, List.setIfInBounds_toArray, List.set_cons_zero, List.set_cons_succ], K, k2.out, k3.out, k4.out, k5.out, fun _ => rfl, k7.out, fun _ => rfl, k9.out⟩
      refine StepsI.cons (i := 9) rfl ?_ ?_
      · rintro L a W ⟨c2, c3, c4, c5, c6, c7, c8, c9, s51, s52, s53, s48, s54, s55, s13, s14, rfl, rfl, K, k2, k3, k4, k5, k6, k7, k8, k9⟩ h0 hd KK hK
        obtain rfl : c9 = false := h0
        obtain rfl : c7 = true := hd ⟨7, .data⟩ (by simp) rfl
        have e7 := k7.out rfl
        subst e7
        subst hA
        simp only [Act.put, List.setIfInBounds_toArray, List.set_cons_zero, List.set_cons_succ]
        clear hd
        go_simp
        exact hK.out _ _ ⟨c2, c3, c4, c5, c6, true, c8, true, s51, s52, s53, s48, s54, .bool t2, s13, .bool t2, rfl, by simp only [Act.put, List.setIfInBounds_toArray, List.set_cons_zero, List.set_cons_succ], K, k2.out, k3.out, k4.out, k5.out, k6.out, fun _ => rfl, k8.out, fun _ => rfl⟩
      exact StepsI.nil
  · have hl : 1 ≤ b := by omega
    go_enter Try.func3, Try.ntmps3
    go_wp2_with (fail)
    refine (cfirst_any _).mono ?_
    rintro e w1 ⟨rfl, hw1⟩
    go_upto_region 3 with (fail)
    have F1 : Hid (Has w [] w1) := (Has.none w).later hw1
    clear hw1
    refine wp_region_lit ?_
    refine wpList_one fun K' hK' => ?_
    rw [if_pos (by rfl)]
    go_simp
    refine hK'.out _ _ ?_
    clear hK' K'
    refine wpList_one fun K' hK' => ?_
    rw [if_pos (by rfl)]
    go_simp
    refine (FA.out _).mono ?_
    rintro e w2 ⟨rfl, hw2⟩
    have F2 : Hid (Has w _ w2) := F1.out.later hw2
    clear F1 hw2
    (try go_wp2_with (fail))
    refine hK'.out _ _ ?_
    clear hK' K'
    refine wpList_one fun K' hK' => ?_
    rw [if_pos (by rfl)]
    go_simp
    refine hK'.out _ _ ?_
    clear hK' K'
    refine wpList_one fun K' hK' => ?_
    rw [if_pos (by rfl)]
    go_simp
    refine (FB.out _).mono ?_
    rintro e w3 ⟨rfl, hw3⟩
    have F3 : Hid (Has w _ w3) := F2.out.later hw3
    clear F2 hw3
    (try go_wp2_with (fail))
    refine hK'.out _ _ ?_
    clear hK' K'
    refine wpList_one fun K' hK' => ?_
    rw [if_pos (by rfl)]
    go_simp
    refine hK'.out _ _ ?_
    clear hK' K'
    refine wpList_one fun K' hK' => ?_
    rw [if_pos (by rfl)]
    go_simp
    refine hK'.out _ _ ?_
    clear hK' K'
    have hp := F3.out.2.1
    refine wpList_on (Pr := fun W => Hid (Has w [(w3.heap.size + 1, il false 0), (w3.heap.size, il false 0)] W)) ((F3.out.new (il false 0) _ _ rfl).new_at (il false 0) _ _ _ (by simp) rfl) ?_
    clear F3
    intro W4 F4
    generalize w3.heap.size = p at hp F4 ⊢
    refine int_store VA ma (F4.out.get p (il false 0) (by simp)) rfl _ _ rfl rfl rfl rfl ?_
    refine wpList_on (Pr := fun W => Hid (Has w [(p, il ma VA), (p + 1, il false 0)] W)) ((F4.out.part (ms := [(p, il false 0), (p + 1, il false 0)]) (by simp)).put _ (by simp [il_len]) hp (by simp)) ?_
    clear F4
    intro W5 F5
    refine int_store VB mb (F5.out.get (p + 1) (il false 0) (by simp)) rfl _ _ rfl rfl rfl rfl ?_
    refine wpList_on (Pr := fun W => Hid (Has w [(p + 1, il mb VB), (p, il ma VA)] W)) ((F5.out.part (ms := [(p + 1, il false 0), (p, il ma VA)]) (by simp)).put _ (by simp [il_len]) (by omega) (by simp)) ?_
    clear F5
    intro W6 F6
    go_wp2_with (fail)
    refine (AD.out _).mono ?_
    rintro e w' ⟨rfl, rfl⟩
    go_upto_region 5 with (fail)
    refine wp_region_lit ?_
    refine int_load (F6.out.get p (il ma VA) (by simp)) rfl _ rfl rfl ?_
    simp only [Act.put, List.setIfInBounds_toArray, List.set_cons_zero, List.set_cons_succ]
    refine int_load (F6.out.get (p + 1) (il mb VB) (by simp)) rfl _ rfl rfl ?_
    simp only [Act.put, List.setIfInBounds_toArray, List.set_cons_zero, List.set_cons_succ]
    refine wpList_one fun K' hK' => ?_
    rw [if_pos (by rfl)]
    go_simp
    refine (P1.out _).mono ?_
    rintro e w7 ⟨rfl, hw7⟩
    have G : Hid (Has w _ w7) := F6.out.later hw7
    clear F6 hw7
    (try go_wp2_with (fail))
    refine hK'.out _ _ ?_
    clear hK' K'
    refine wpList_one fun K' hK' => ?_
    rw [if_pos (by rfl)]
    go_simp
    refine (I1.out _).mono ?_
    rintro e w8 ⟨rfl, hw8⟩
    have F7 : Hid (Has w _ w8) := G.out.later hw8
    clear G hw8
    (try go_wp2_with (fail))
    refine hK'.out _ _ ?_
    clear hK' K'
    go_wp2_with (fail)
    refine (SU.out _).mono ?_
    rintro e w' ⟨rfl, rfl⟩
    go_upto_region 7 with (fail)
    refine wp_region_noPanic ?_
    refine wp_region_held_drew (S := fun w' => Row w' p (il ma VA) ∧ Row w' (p + 1) (il mb VB)) (by kernel_rfl) ?_ (fun hHeld => ?_)
    · exact ⟨F7.out.get p (il ma VA) (by simp), F7.out.get (p + 1) (il mb VB) (by simp)⟩
    refine wpAnyH_take (i := 0) (v := .agg (il ma VA).toArray) rfl (by kernel_rfl) (by kernel_rfl) (by kernel_rfl) (fun _ _ _ h => h) (yieldsIf_load_mid (by rfl) _ _ rfl (p) 0 rfl (il ma VA) _ (fun wS hSw => hSw.1.1) Try.underlying27 rfl (by rw [il_len]; exact int_info)) (by assumption) ?_
    change wpAnyH _ _ _ _ _ _ _ (Act.put _ (some 49) _) _
    simp only [Act.put, List.setIfInBounds_toArray, List.set_cons_zero, List.set_cons_succ]
    refine wpAnyH_take (i := 1) (v := .agg (il mb VB).toArray) rfl (by kernel_rfl) (by kernel_rfl) (by kernel_rfl) (fun _ _ _ h => h) (yieldsIf_load_mid (by rfl) _ _ rfl (p + 1) 0 rfl (il mb VB) _ (fun wS hSw => hSw.2.1) Try.underlying27 rfl (by rw [il_len]; exact int_info)) (by assumption) ?_
    change wpAnyH _ _ _ _ _ _ _ (Act.put _ (some 50) _) _
    simp only [Act.put, List.setIfInBounds_toArray, List.set_cons_zero, List.set_cons_succ]
    refine wpAnyH_named ?_
    intro A hA
    clear hHeld
    refine wpAnyH_inv (I := fun L a W => ∃ (c2 c3 c4 c5 c6 c7 c8 c9 : Bool) (s51 s52 s53 s48 s54 s55 s13 s14 : Value), L = #[true, true, c2, c3, c4, c5, c6, c7, c8, c9] ∧ a = ((((((((A.put (some 51) s51).put (some 52) s52).put (some 53) s53).put (some 48) s48).put (some 54) s54).put (some 55) s55).put (some 13) s13).put (some 14) s14) ∧ Hid (Has w [(p + 1, il mb VB), (p, il ma VA)] W) ∧ Hid (c2 = true → s51 = iv nb VB) ∧ Hid (c3 = true → s52 = iv M2 R2) ∧ Hid (c4 = true → s53 = .tuple #[.int .i64 s2, .bool t2]) ∧ Hid (c5 = true → s48 = .tuple #[.int .i64 s2, .bool t2]) ∧ Hid (c6 = true → s54 = .int .i64 s2) ∧ Hid (c7 = true → s55 = .bool t2) ∧ Hid (c8 = true → s13 = .int .i64 s2) ∧ Hid (c9 = true → s14 = .bool t2)) ?hS ?hz (by kernel_rfl) ?hsteps ?hend _ _ _ _ (by decide) ?h0
    case hS => rintro L a W ⟨c2, c3, c4, c5, c6, c7, c8, c9, s51, s52, s53, s48, s54, s55, s13, s14, -, -, K, -⟩; exact (fun h => h) (⟨K.out.get p (il ma VA) (by simp), K.out.get (p + 1) (il mb VB) (by simp)⟩)
    case hz => rintro L a W ⟨c2, c3, c4, c5, c6, c7, c8, c9, s51, s52, s53, s48, s54, s55, s13, s14, rfl, -⟩; rfl
    case h0 => exact ⟨false, false, false, false, false, false, false, false, A.eval (.tmp 51), A.eval (.tmp 52), A.eval (.tmp 53), A.eval (.tmp 48), A.eval (.tmp 54), A.eval (.tmp 55), A.eval (.tmp 13), A.eval (.tmp 14), rfl, by simp only [put_self], F7.out.drew, fun h => Bool.noConfusion h, fun h => Bool.noConfusion h, fun h => Bool.noConfusion h, fun h => Bool.noConfusion h, fun h => Bool.noConfusion h, fun h => Bool.noConfusion h, fun h => Bool.noConfusion h, fun h => Bool.noConfusion h⟩
    case hend =>
      rintro L a W ⟨c2, c3, c4, c5, c6, c7, c8, c9, s51, s52, s53, s48, s54, s55, s13, s14, rfl, rfl, K, k2, k3, k4, k5, k6, k7, k8, k9⟩ hall
      obtain rfl : c2 = true := hall 2
      obtain rfl : c3 = true := hall 3
      obtain rfl : c4 = true := hall 4
      obtain rfl : c5 = true := hall 5
      obtain rfl : c6 = true := hall 6
      obtain rfl : c7 = true := hall 7
      obtain rfl : c8 = true := hall 8
      obtain rfl : c9 = true := hall 9
      obtain rfl := k2.out rfl
      obtain rfl := k3.out rfl
      obtain rfl := k4.out rfl
      obtain rfl := k5.out rfl
      obtain rfl := k6.out rfl
      obtain rfl := k7.out rfl
      obtain rfl := k8.out rfl
      obtain rfl := k9.out rfl
      clear k2 k3 k4 k5 k6 k7 k8 k9
      refine NoPanic.normal ?_
      subst hA
      simp only [Act.put, List.setIfInBounds_toArray, List.set_cons_zero, List.set_cons_succ]
      have F8 : Hid (Has w [(p + 1, il mb VB), (p, il ma VA)] W) := K
      clear K
      go_wp2_with (fail)
      refine (MU.out _).mono ?_
      rintro e w' ⟨rfl, rfl⟩
      go_upto_region 9 with (fail)
      refine wp_region_lit ?_
      refine int_load (F8.out.get p (il ma VA) (by simp)) rfl _ rfl rfl ?_
      simp only [Act.put, List.setIfInBounds_toArray, List.set_cons_zero, List.set_cons_succ]
      refine int_load (F8.out.get (p + 1) (il mb VB) (by simp)) rfl _ rfl rfl ?_
      simp only [Act.put, List.setIfInBounds_toArray, List.set_cons_zero, List.set_cons_succ]
      refine wpList_one fun K' hK' => ?_
      rw [if_pos (by rfl)]
      go_simp
      refine (P3.out _).mono ?_
      rintro e w9 ⟨rfl, hw9⟩
      have G : Hid (Has w _ w9) := F8.out.later hw9
      clear F8 hw9
      (try go_wp2_with (fail))
      refine hK'.out _ _ ?_
      clear hK' K'
      refine wpList_one fun K' hK' => ?_
      rw [if_pos (by rfl)]
      go_simp
      refine (I3.out _).mono ?_
      rintro e w10 ⟨rfl, hw10⟩
      have F9 : Hid (Has w _ w10) := G.out.later hw10
      clear G hw10
      (try go_wp2_with (fail))
      refine hK'.out _ _ ?_
      clear hK' K'
      go_wp2_with (fail)
      refine ((UG.out hl).1 _).mono ?_
      rintro e w' ⟨rfl, rfl⟩
      go_wp2_with (fail)
      refine ((UG.out hl).2.1 _).mono ?_
      rintro e w11 ⟨rfl, hw11⟩
      have F11 : Hid (Has w _ w11) := F9.out.later hw11
      clear F9 hw11
      go_wp2_with (fail)
      refine ((UG.out hl).2.2 _).mono ?_
      rintro e w12 ⟨rfl, hw12⟩
      have F12 : Hid (Has w _ w12) := F11.out.later hw12
      have HB12 := F12.out.2.2
      clear F11 F12 hw12
      go_wp2
      go_ret
      exact ⟨rfl, HB12⟩
    case hsteps =>
      refine StepsI.skip (i := 0) (by rintro L a W ⟨c2, c3, c4, c5, c6, c7, c8, c9, s51, s52, s53, s48, s54, s55, s13, s14, rfl, -⟩; rfl) ?_
      refine StepsI.skip (i := 1) (by rintro L a W ⟨c2, c3, c4, c5, c6, c7, c8, c9, s51, s52, s53, s48, s54, s55, s13, s14, rfl, -⟩; rfl) ?_
      refine StepsI.cons (i := 2) rfl ?_ ?_
      · rintro L a W ⟨c2, c3, c4, c5, c6, c7, c8, c9, s51, s52, s53, s48, s54, s55, s13, s14, rfl, rfl, K, k2, k3, k4, k5, k6, k7, k8, k9⟩ h0 hd KK hK
        obtain rfl : c2 = false := h0
        subst hA
        simp only [Act.put, List.setIfInBounds_toArray, List.set_cons_zero, List.set_cons_succ]
        clear hd
        go_simp
        refine (N2.out _).mono ?_
        rintro e w2 ⟨rfl, hw2⟩
        (try go_wp2_with (fail))
        exact hK.out _ _ ⟨true, c3, c4, c5, c6, c7, c8, c9, iv nb VB, s52, s53, s48, s54, s55, s13, s14, rfl, by simp only [Act.put, List.setIfInBounds_toArray, List.set_cons_zero, List.set_cons_succ], K.out.later hw2, fun _ => rfl, k3.out, k4.out, k5.out, k6.out, k7.out, k8.out, k9.out⟩
      refine StepsI.cons (i := 3) rfl ?_ ?_
      · rintro L a W ⟨c2, c3, c4, c5, c6, c7, c8, c9, s51, s52, s53, s48, s54, s55, s13, s14, rfl, rfl, K, k2, k3, k4, k5, k6, k7, k8, k9⟩ h0 hd KK hK
        obtain rfl : c3 = false := h0
        obtain rfl : c2 = true := hd ⟨2, .data⟩ (by simp) rfl
        have e2 := k2.out rfl
        subst e2
        subst hA
        simp only [Act.put, List.setIfInBounds_toArray, List.set_cons_zero, List.set_cons_succ]
        clear hd
        go_simp
        refine (P2.out _).mono ?_
        rintro e w2 ⟨rfl, hw2⟩
        (try go_wp2_with (fail))
        exact hK.out _ _ ⟨true, true, c4, c5, c6, c7, c8, c9, iv nb VB, iv M2 R2, s53, s48, s54, s55, s13, s14, rfl, by simp only [Act.put, List.setIfInBounds_toArray, List.set_cons_zero, List.set_cons_succ], K.out.later hw2, fun _ => rfl, fun _ => rfl, k4.out, k5.out, k6.out, k7.out, k8.out, k9.out⟩
      refine StepsI.cons (i := 4) rfl ?_ ?_
      · rintro L a W ⟨c2, c3, c4, c5, c6, c7, c8, c9, s51, s52, s53, s48, s54, s55, s13, s14, rfl, rfl, K, k2, k3, k4, k5, k6, k7, k8, k9⟩ h0 hd KK hK
        obtain rfl : c4 = false := h0
        obtain rfl : c3 = true := hd ⟨3, .data⟩ (by simp) rfl
        have e3 := k3.out rfl
        subst e3
        subst hA
        simp only [Act.put, List.setIfInBounds_toArray, List.set_cons_zero, List.set_cons_succ]
        clear hd
        go_simp
        refine (I2.out _).mono ?_
        rintro e w2 ⟨rfl, hw2⟩
        (try go_wp2_with (fail))
        exact hK.out _ _ ⟨c2, true, true, c5, c6, c7, c8, c9, s51, iv M2 R2, .tuple #[.int .i64 s2, .bool t2], s48, s54, s55, s13, s14, rfl, by simp only [Act.put, List.setIfInBounds_toArray, List.set_cons_zero, List.set_cons_succ], K.out.later hw2, k2.out, fun _ => rfl, fun _ => rfl, k5.out, k6.out, k7.out, k8.out, k9.out⟩
      refine StepsI.cons (i := 5) rfl ?_ ?_
      · rintro L a W ⟨c2, c3, c4, c5, c6, c7, c8, c9, s51, s52, s53, s48, s54, s55, s13, s14, rfl, rfl, K, k2, k3, k4, k5, k6, k7, k8, k9⟩ h0 hd KK hK
        obtain rfl : c5 = false := h0
        obtain rfl : c4 = true := hd ⟨4, .data⟩ (by simp) rfl
        have e4 := k4.out rfl
        subst e4
        subst hA
        simp only [Act.put, List.setIfInBounds_toArray, List.set_cons_zero, List.set_cons_succ]
        clear hd
        go_simp
        exact hK.out _ _ ⟨c2, c3, true, true, c6, c7, c8, c9, s51, s52, .tuple #[.int .i64 s2, .bool t2], .tuple #[.int .i64 s2, .bool t2], s54, s55, s13, s14, rfl, by simp only [Act.put, List.setIfInBounds_toArray, List.set_cons_zero, List.set_cons_succ], K, k2.out, k3.out, fun _ => rfl, fun _ => rfl, k6.out, k7.out, k8.out, k9.out⟩
      refine StepsI.cons (i := 6) rfl ?_ ?_
      · rintro L a W ⟨c2, c3, c4, c5, c6, c7, c8, c9, s51, s52, s53, s48, s54, s55, s13, s14, rfl, rfl, K, k2, k3, k4, k5, k6, k7, k8, k9⟩ h0 hd KK hK
        obtain rfl : c6 = false := h0
        obtain rfl : c5 = true := hd ⟨5, .data⟩ (by simp) rfl
        have e5 := k5.out rfl
        subst e5
        subst hA
        simp only [Act.put, List.setIfInBounds_toArray, List.set_cons_zero, List.set_cons_succ]
        clear hd
        go_simp
        exact hK.out _ _ ⟨c2, c3, c4, true, true, c7, c8, c9, s51, s52, s53, .tuple #[.int .i64 s2, .bool t2], .int .i64 s2, s55, s13, s14, rfl, by simp only [Act.put, List.setIfInBounds_toArray, List.set_cons_zero, List.set_cons_succ], K, k2.out, k3.out, k4.out, fun _ => rfl, fun _ => rfl, k7.out, k8.out, k9.out⟩
      refine StepsI.cons (i := 7) rfl ?_ ?_
      · rintro L a W ⟨c2, c3, c4, c5, c6, c7, c8, c9, s51, s52, s53, s48, s54, s55, s13, s14, rfl, rfl, K, k2, k3, k4, k5, k6, k7, k8, k9⟩ h0 hd KK hK
        obtain rfl : c7 = false := h0
        obtain rfl : c5 = true := hd ⟨5, .data⟩ (by simp) rfl
        have e5 := k5.out rfl
        subst e5
        subst hA
        simp only [Act.put, List.setIfInBounds_toArray, List.set_cons_zero, List.set_cons_succ]
        clear hd
        go_simp
        exact hK.out _ _ ⟨c2, c3, c4, true, c6, true, c8, c9, s51, s52, s53, .tuple #[.int .i64 s2, .bool t2], s54, .bool t2, s13, s14, rfl, by simp only [Act.put, List.setIfInBounds_toArray, List.set_cons_zero, List.set_cons_succ], K, k2.out, k3.out, k4.out, fun _ => rfl, k6.out, fun _ => rfl, k8.out, k9.out⟩
      refine StepsI.cons (i := 8) rfl ?_ ?_
      · rintro L a W ⟨c2, c3, c4, c5, c6, c7, c8, c9, s51, s52, s53, s48, s54, s55, s13, s14, rfl, rfl, K, k2, k3, k4, k5, k6, k7, k8, k9⟩ h0 hd KK hK
        obtain rfl : c8 = false := h0
        obtain rfl : c6 = true := hd ⟨6, .data⟩ (by simp) rfl
        have e6 := k6.out rfl
        subst e6
        subst hA
        simp only [Act.put, List.setIfInBounds_toArray, List.set_cons_zero, List.set_cons_succ]
        clear hd
        go_simp
        exact hK.out _ _ ⟨c2, c3, c4, c5, true, c7, true, c9, s51, s52, s53, s48, .int .i64 s2, s55, .int .i64 s2, s14, rfl, by simp only [Act.put, List.setIfInBounds_toArray, List.set_cons_zero, List.set_cons_succ], K, k2.out, k3.out, k4.out, k5.out, fun _ => rfl, k7.out, fun _ => rfl, k9.out⟩
      refine StepsI.cons (i := 9) rfl ?_ ?_
      · rintro L a W ⟨c2, c3, c4, c5, c6, c7, c8, c9, s51, s52, s53, s48, s54, s55, s13, s14, rfl, rfl, K, k2, k3, k4, k5, k6, k7, k8, k9⟩ h0 hd KK hK
        obtain rfl : c9 = false := h0
        obtain rfl : c7 = true := hd ⟨7, .data⟩ (by simp) rfl
        have e7 := k7.out rfl
        subst e7
        subst hA
        simp only [Act.put, List.setIfInBounds_toArray, List.set_cons_zero, List.set_cons_succ]
        clear hd
        go_simp
        exact hK.out _ _ ⟨c2, c3, c4, c5, c6, true, c8, true, s51, s52, s53, s48, s54, .bool t2, s13, .bool t2, rfl, by simp only [Act.put, List.setIfInBounds_toArray, List.set_cons_zero, List.set_cons_succ], K, k2.out, k3.out, k4.out, k5.out, k6.out, fun _ => rfl, k8.out, fun _ => rfl⟩
      exact StepsI.nil

end Go.Proofs.Ytfbkmifgnpapbaa
