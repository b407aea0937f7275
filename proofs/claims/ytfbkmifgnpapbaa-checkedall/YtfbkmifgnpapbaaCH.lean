/-
  The contract of the document's own Up (the least multiple of a unit that isn't below a number) at this program. Conditions: numbers of 64 bits, the unit 1 at least.
-/
import Derived.Test.YtfbkmifgnpapbaaCG
import Derived.Deep.CutRange
import Derived.Deep.DeepCutAuto
namespace Go.Proofs.Ytfbkmifgnpapbaa
open Go.RowKit

theorem Has.cons {w W : World} {ls : List (Nat × List Value)} {b : Nat} {vs : List Value} (h : Has w ls W) (r : Row W b vs) : Has w ((b, vs) :: ls) W := ⟨fun x hx => by
  rcases List.mem_cons.1 hx with rfl | hx
  · exact r
  · exact h.1 x hx, h.2⟩
theorem run_field_iv (m : Bool) (V : Int) (w : World) : (Instr.field 27 (iv m V) 1).run Try.prog w = .ok (dv V) w := by
  kernel_rfl
theorem int_wp_field {op : Oper} {a : Act} {w : World} {Q : Exit → Act → World → Prop} {K : Act → World → Prop} (m : Bool) (V : Int) (x : Operand) (ho : op.op = .field 27 x 1) (d : Option Nat) (hd : op.dst = d) (hx : a.eval x = iv m V)
    (hk : K (a.put d (dv V)) w) : op.wp Try.prog a w K Q := by
  subst hd
  unfold Oper.wp execOp
  simp only [ho, hx, Sem.run_bind, run_field_iv, Result.andThen_ok]
  exact hk
theorem of3_pos (u : Int) (w : World) (h : In64 u) (h0 : 0 ≤ u) :
    Calls Try.prog 8 #[.int .i64 u] w fun e w' => e = .returned (iv false u) ∧ Below w.heap.size w w' := by
  have := of3 u w h
  rwa [decide_eq_false (by omega), show ((u.natAbs : Nat) : Int) = u by omega] at this

/-- The multiple's size. -/
def upS (n u : Int) : Int := if (n.natAbs : Int) % u = 0 then n.natAbs else if n < 0 then n.natAbs - (n.natAbs : Int) % u else n.natAbs + u - (n.natAbs : Int) % u
theorem upS_sgn {n u : Int} (hu : 1 ≤ u) : sgn (decide (n < 0)) (upS n u) = upv n u := by
  unfold upS upv sgn
  have hneg : ∀ k : Int, (-k) % u = if u ∣ k then 0 else (u.natAbs : Int) - k % u := fun k => Int.neg_emod
  have hd : ∀ k : Int, u ∣ k ↔ k % u = 0 := fun k => Int.dvd_iff_emod_eq_zero
  by_cases hn : n < 0
  · rw [show ((n.natAbs : Nat) : Int) = -n by omega]
    simp only [hn, decide_true, if_true]
    split <;> omega
  · rw [show ((n.natAbs : Nat) : Int) = n by omega]
    simp only [hn, decide_false, if_false, Bool.false_eq_true]
    rw [hneg]
    split
    · rename_i h; rw [if_pos ((hd n).2 h)]; omega
    · rename_i h; rw [if_neg (fun g => h ((hd n).1 g))]; omega
theorem upS_bd {n u : Int} (hn : In64 n) (hu : In64 u) (u1 : 1 ≤ u) : 0 ≤ upS n u ∧ upS n u < 65536 ^ 20 := by
  have p20 := pow20
  unfold In64 at hn hu
  have h0 := Int.emod_nonneg (n.natAbs : Int) (show u ≠ 0 by omega)
  have h1 := Int.emod_lt_of_pos (n.natAbs : Int) (show 0 < u by omega)
  have h2 := emod_le_self (n := (n.natAbs : Int)) (u := u) (by omega) u1
  unfold upS
  split
  · omega
  · split <;> omega

set_option maxHeartbeats 8000000 in
set_option maxRecDepth 100000 in
theorem up3 (n u : Int) (w : World) (hn : In64 n) (hu : In64 u) (u1 : 1 ≤ u) :
    Calls Try.prog 17 #[.int .i64 n, .int .i64 u] w fun e w' => e = .returned (iv (decide (n < 0)) (upS n u)) ∧ Below w.heap.size w w' := by
  have HN : Hid (In64 n) := hn
  have HU : Hid (In64 u) := hu
  unfold In64 at hn hu
  have p20 := pow20
  obtain ⟨X, hX⟩ : ∃ X : Int, X = n.natAbs := ⟨_, rfl⟩
  obtain ⟨m, hm⟩ : ∃ m, m = decide (n < 0) := ⟨_, rfl⟩
  obtain ⟨r, hr⟩ : ∃ r, r = X % u := ⟨_, rfl⟩
  obtain ⟨q, hq⟩ : ∃ q, q = X / u := ⟨_, rfl⟩
  have hx0 : 0 ≤ X ∧ X ≤ 9223372036854775808 := by omega
  have hr0 : 0 ≤ r ∧ r < u ∧ r ≤ X := by
    rw [hr]
    exact ⟨Int.emod_nonneg _ (by omega), Int.emod_lt_of_pos _ (by omega), emod_le_self hx0.1 u1⟩
  have HR : Hid (r < 65536 ^ 20 ∧ X + u < 65536 ^ 20 ∧ X < 65536 ^ 20) := by unfold Hid; omega
  have OF : Hid (∀ w, Calls Try.prog 8 #[.int .i64 n] w fun e w' => e = .returned (iv m X) ∧ Below w.heap.size w w') := by
    unfold Hid
    intro w
    rw [hm, hX]
    exact of3 n w HN.out
  have BY : Hid (∀ w, Calls Try.prog 32 #[dv X, dv u] w fun x w' => x = .returned (.tuple #[dv q, dv r]) ∧ Below w.heap.size w w') := by
    unfold Hid
    intro w
    rw [hq, hr]
    exact by_dv X u w hx0.1 (by omega) (by omega) (by omega)
  have HC : Hid (upS n u = if r = 0 then X else if n < 0 then X - r else X + u - r) := by
    unfold Hid upS
    rw [← hX, ← hr]
  rw [← hm, HC.out]
  have HMD : Hid (m = decide (n < 0)) := hm
  clear p20 hX hr hq HC hm
  by_cases hz : r = 0
  · rw [if_pos hz]
    have HZ : Hid (r = 0) := hz
    clear hz
    go_enter Try.func17, Try.ntmps17
    go_upto_region 1 with (fail)
    refine wp_on (Pr := fun W => Hid (Has w [(w.heap.size, il false 0)] W)) ((Has.none w).new (il false 0) _ _ rfl) ?_
    intro W F
    refine wp_region_lit ?_
    refine wpList_one fun K' hK' => ?_
    rw [if_pos (by rfl)]
    go_simp
    refine hK'.out _ _ ?_
    clear hK' K'
    refine wpList_one fun K' hK' => ?_
    rw [if_pos (by rfl)]
    go_simp
    refine (OF.out _).mono ?_
    rintro e w2 ⟨rfl, hw2⟩
    have F2 : Hid (Has w _ w2) := F.out.later hw2
    clear F hw2
    (try go_wp2_with (fail))
    refine hK'.out _ _ ?_
    clear hK' K'
    have hp : w.heap.size < w2.heap.size := (F2.out.get w.heap.size (il false 0) (by simp)).2.2
    refine wpList_one fun K' hK' => ?_
    rw [if_pos (by rfl)]
    go_simp
    refine hK'.out _ _ ?_
    clear hK' K'
    have F3 : Hid (Has w ((w2.heap.size, il false 0) :: [(w.heap.size, il false 0)]) _) := F2.out.new (il false 0) 27 (il false 0).toArray rfl
    refine int_store X m (F3.out.get w2.heap.size (il false 0) (by simp)) rfl _ _ rfl rfl rfl rfl ?_
    refine wpList_on (Pr := fun W => Hid (Has w [(w2.heap.size, il m X), (w.heap.size, il false 0)] W)) (F3.out.put _ (by simp [il_len]) (by omega) (by simp; omega)) ?_
    clear F3 F2
    intro w3 F3
    generalize w2.heap.size = p at hp F3 ⊢
    go_upto_region 2 with (fail)
    refine wp_region_noPanic ?_
    refine wp_region_held_drew (S := fun w' => Row w' p (il m X)) (by kernel_rfl) ?_ (fun hHeld => ?_)
    · exact F3.out.get p (il m X) (by simp)
    refine wpAnyH_take (i := 0) (v := ?_) rfl (by kernel_rfl) (by kernel_rfl) (by kernel_rfl) (fun _ _ _ h => h) (Or.inl ⟨by rfl, ?_⟩) (by assumption) ?_
    rotate_left
    · (intro wS hSw; have g0 := hSw.cell 0 (.bool m) rfl; go_simp; try with_reducible rfl)
    change wpAnyH _ _ _ _ _ _ _ (Act.put _ (some 11) _) _
    simp only [Act.put, List.setIfInBounds_toArray, List.set_cons_zero, List.set_cons_succ]
    refine wpAnyH_take (i := 1) (v := .agg (dl (wd X)).toArray) rfl (by kernel_rfl) (by kernel_rfl) (by kernel_rfl) (fun _ _ _ h => h) (yieldsIf_load_mid (by rfl) _ _ rfl (p) 1 rfl (dl (wd X)) _ (fun wS hSw => hSw.size) Try.underlying25 rfl (by rw [dl_len]; exact dig_info)) (by assumption) ?_
    change wpAnyH _ _ _ _ _ _ _ (Act.put _ (some 12) _) _
    simp only [Act.put, List.setIfInBounds_toArray, List.set_cons_zero, List.set_cons_succ]
    refine wpAnyH_take (i := 2) (v := ?_) rfl (by kernel_rfl) (by kernel_rfl) (by kernel_rfl) (fun _ _ _ h => h) (Or.inl ⟨by rfl, ?_⟩) (by assumption) ?_
    rotate_left
    · (intro wS hSw; have g0 := hSw.cell 0 (.bool m) rfl; go_simp; try with_reducible rfl)
    change wpAnyH _ _ _ _ _ _ _ (Act.put _ (some 13) _) _
    simp only [Act.put, List.setIfInBounds_toArray, List.set_cons_zero, List.set_cons_succ]
    refine wpAnyH_named ?_
    intro A hA
    clear hHeld
    refine wpAnyH_inv (I := fun L a W => ∃ (c3 c4 c5 c6 c7 c8 c9 c10 c11 c12 : Bool) (s14 s15 s16 s10 s17 s18 s6 s7 : Value), L = #[true, true, true, c3, c4, c5, c6, c7, c8, c9, c10, c11, c12] ∧ a = ((((((((A.put (some 14) s14).put (some 15) s15).put (some 16) s16).put (some 10) s10).put (some 17) s17).put (some 18) s18).put (some 6) s6).put (some 7) s7) ∧ Hid (Below w3.heap.size w3.drew W) ∧ Hid (c3 = true → s14 = iv false u) ∧ Hid (c4 = true → s15 = dv u) ∧ Hid (c5 = true → s16 = .tuple #[dv q, dv r]) ∧ Hid (c6 = true → s10 = .tuple #[dv q, dv r]) ∧ Hid (c7 = true → s17 = dv q) ∧ Hid (c8 = true → s18 = dv r) ∧ Hid (MadeL w3.heap.size 20 c9 c11 s6 (dl (wd q)) W) ∧ Hid (MadeL w3.heap.size 20 c10 c12 s7 (dl (wd r)) W) ∧ Hid (c9 = true → c10 = true → s6 ≠ s7)) ?hS ?hz (by kernel_rfl) ?hsteps ?hend _ _ _ _ (by decide) ?h0
    case hS => rintro L a W ⟨c3, c4, c5, c6, c7, c8, c9, c10, c11, c12, s14, s15, s16, s10, s17, s18, s6, s7, -, -, K, -⟩; have hb := K.out; clear K; exact (fun h => h) ((F3.out.drew.later hb).get p (il m X) (by simp))
    case hz => rintro L a W ⟨c3, c4, c5, c6, c7, c8, c9, c10, c11, c12, s14, s15, s16, s10, s17, s18, s6, s7, rfl, -⟩; rfl
    case h0 => exact ⟨false, false, false, false, false, false, false, false, false, false, A.eval (.tmp 14), A.eval (.tmp 15), A.eval (.tmp 16), A.eval (.tmp 10), A.eval (.tmp 17), A.eval (.tmp 18), A.eval (.tmp 6), A.eval (.tmp 7), rfl, by simp only [put_self], Below.refl _ _, fun h => Bool.noConfusion h, fun h => Bool.noConfusion h, fun h => Bool.noConfusion h, fun h => Bool.noConfusion h, fun h => Bool.noConfusion h, fun h => Bool.noConfusion h, MadeL.not _ _ _ _ _, MadeL.not _ _ _ _ _, fun h => Bool.noConfusion h⟩
    case hend =>
      rintro L a W ⟨c3, c4, c5, c6, c7, c8, c9, c10, c11, c12, s14, s15, s16, s10, s17, s18, s6, s7, rfl, rfl, K, k3, k4, k5, k6, k7, k8, k9, k10, d9_10⟩ hall
      obtain rfl : c3 = true := hall 3
      obtain rfl : c4 = true := hall 4
      obtain rfl : c5 = true := hall 5
      obtain rfl : c6 = true := hall 6
      obtain rfl : c7 = true := hall 7
      obtain rfl : c8 = true := hall 8
      obtain rfl : c9 = true := hall 9
      obtain rfl : c10 = true := hall 10
      obtain rfl : c11 = true := hall 11
      obtain rfl : c12 = true := hall 12
      obtain ⟨p9, rfl, b9, z9, t9, r9'⟩ := k9.out.2 rfl
      have r9 := r9' rfl
      clear r9'
      obtain ⟨p10, rfl, b10, z10, t10, r10'⟩ := k10.out.2 rfl
      have r10 := r10' rfl
      clear r10'
      obtain rfl := k3.out rfl
      obtain rfl := k4.out rfl
      obtain rfl := k5.out rfl
      obtain rfl := k6.out rfl
      obtain rfl := k7.out rfl
      obtain rfl := k8.out rfl
      clear k3 k4 k5 k6 k7 k8 k9 k10 d9_10
      refine NoPanic.normal ?_
      subst hA
      simp only [Act.put, List.setIfInBounds_toArray, List.set_cons_zero, List.set_cons_succ]
      have F4 : Hid (Has w [(p, il m X), (w.heap.size, il false 0)] W) := F3.out.drew.later K.out
      have R4 : Hid (Row W p10 (dl (wd r))) := ⟨r10, by rw [dl_len]; exact t10, z10⟩
      have hp10 : p < p10 := by
        have := (F3.out.get p (il m X) (by simp)).2.2
        omega
      clear K r9 r10 t9 t10 z9 z10 b9 b10 F3
      have F5 : Hid (Has w [(w.heap.size, il false 0), (p10, dl (wd r)), (p, il m X)] W) := (((F4.out.part (ms := [(p, il m X)]) (by simp)).cons R4.out).cons (F4.out.get w.heap.size (il false 0) (by simp)))
      clear F4 R4
      go_upto_region 3 with (fail)
      refine wp_region_lit ?_
      refine digs_load (F5.out.get p10 (dl (wd r)) (by simp)) rfl _ rfl rfl ?_
      simp only [Act.put, List.setIfInBounds_toArray, List.set_cons_zero, List.set_cons_succ]
      refine wpList_one fun K' hK' => ?_
      rw [if_pos (by rfl)]
      go_simp
      rw [zero_dv]
      refine hK'.out _ _ ?_
      clear hK' K'
      refine wpList_one fun K' hK' => ?_
      rw [if_pos (by rfl)]
      unfold dv
      go_simp
      rw [run_equal_dv r 0 _ hr0.1 HR.out.1 (by omega) (by decide)]
      go_simp
      refine hK'.out _ _ ?_
      clear hK' K'
      rw [decide_eq_true HZ.out]
      go_upto_region 4 with (fail)
      refine wp_region_lit ?_
      refine int_load (F5.out.get p (il m X) (by simp)) rfl _ rfl rfl ?_
      simp only [Act.put, List.setIfInBounds_toArray, List.set_cons_zero, List.set_cons_succ]
      refine int_store (X) (m) (F5.out.get w.heap.size (il false 0) (by simp)) rfl _ _ rfl rfl rfl rfl ?_
      refine wpList_on (Pr := fun W => Hid (Has w [(w.heap.size, il (m) (X)), (p10, dl (wd r)), (p, il m X)] W)) (F5.out.put _ (by simp [il_len]) (Nat.le_refl _) (by simp; omega)) ?_
      clear F5
      intro W9 F9
      go_wp2_with (fail)
      refine bodyPost_ret (v := iv (m) (X)) ?_ rfl ⟨rfl, F9.out.2.2⟩
      have hl := int_back (F9.out.get (w.heap.size) (il (m) (X)) (by simp))
      simp [results, Try.results17, asAddr, hl]
    case hsteps =>
      refine StepsI.skip (i := 0) (by rintro L a W ⟨c3, c4, c5, c6, c7, c8, c9, c10, c11, c12, s14, s15, s16, s10, s17, s18, s6, s7, rfl, -⟩; rfl) ?_
      refine StepsI.skip (i := 1) (by rintro L a W ⟨c3, c4, c5, c6, c7, c8, c9, c10, c11, c12, s14, s15, s16, s10, s17, s18, s6, s7, rfl, -⟩; rfl) ?_
      refine StepsI.skip (i := 2) (by rintro L a W ⟨c3, c4, c5, c6, c7, c8, c9, c10, c11, c12, s14, s15, s16, s10, s17, s18, s6, s7, rfl, -⟩; rfl) ?_
      refine StepsI.cons (i := 3) rfl ?_ ?_
      · rintro L a W ⟨c3, c4, c5, c6, c7, c8, c9, c10, c11, c12, s14, s15, s16, s10, s17, s18, s6, s7, rfl, rfl, K, k3, k4, k5, k6, k7, k8, k9, k10, d9_10⟩ h0 hd KK hK
        obtain rfl : c3 = false := h0
        subst hA
        simp only [Act.put, List.setIfInBounds_toArray, List.set_cons_zero, List.set_cons_succ]
        clear hd
        go_simp
        refine (of3_pos u _ HU.out (by omega)).mono ?_
        rintro e w2 ⟨rfl, hw2⟩
        (try go_wp2_with (fail))
        exact hK.out _ _ ⟨true, c4, c5, c6, c7, c8, c9, c10, c11, c12, iv false u, s15, s16, s10, s17, s18, s6, s7, rfl, by simp only [Act.put, List.setIfInBounds_toArray, List.set_cons_zero, List.set_cons_succ], K.out.trans (hw2.mono K.out.size), fun _ => rfl, k4.out, k5.out, k6.out, k7.out, k8.out, k9.out.later hw2, k10.out.later hw2, d9_10.out⟩
      refine StepsI.cons (i := 4) rfl ?_ ?_
      · rintro L a W ⟨c3, c4, c5, c6, c7, c8, c9, c10, c11, c12, s14, s15, s16, s10, s17, s18, s6, s7, rfl, rfl, K, k3, k4, k5, k6, k7, k8, k9, k10, d9_10⟩ h0 hd KK hK
        obtain rfl : c4 = false := h0
        obtain rfl : c3 = true := hd ⟨3, .data⟩ (by simp) rfl
        have e3 := k3.out rfl
        subst e3
        subst hA
        simp only [Act.put, List.setIfInBounds_toArray, List.set_cons_zero, List.set_cons_succ]
        clear hd
        rw [if_pos (by rfl)]
        refine int_wp_field false u _ rfl (some 15) rfl rfl ?_
        simp only [Act.put, List.setIfInBounds_toArray, List.set_cons_zero, List.set_cons_succ]
        exact hK.out _ _ ⟨true, true, c5, c6, c7, c8, c9, c10, c11, c12, iv false u, dv u, s16, s10, s17, s18, s6, s7, rfl, by simp only [Act.put, List.setIfInBounds_toArray, List.set_cons_zero, List.set_cons_succ], K.out, fun _ => rfl, fun _ => rfl, k5.out, k6.out, k7.out, k8.out, k9.out, k10.out, d9_10.out⟩
      refine StepsI.cons (i := 5) rfl ?_ ?_
      · rintro L a W ⟨c3, c4, c5, c6, c7, c8, c9, c10, c11, c12, s14, s15, s16, s10, s17, s18, s6, s7, rfl, rfl, K, k3, k4, k5, k6, k7, k8, k9, k10, d9_10⟩ h0 hd KK hK
        obtain rfl : c5 = false := h0
        obtain rfl : c4 = true := hd ⟨4, .data⟩ (by simp) rfl
        have e4 := k4.out rfl
        subst e4
        subst hA
        simp only [Act.put, List.setIfInBounds_toArray, List.set_cons_zero, List.set_cons_succ]
        clear hd
        go_simp
        refine (BY.out _).mono ?_
        rintro e w2 ⟨rfl, hw2⟩
        (try go_wp2_with (fail))
        exact hK.out _ _ ⟨c3, true, true, c6, c7, c8, c9, c10, c11, c12, s14, dv u, .tuple #[dv q, dv r], s10, s17, s18, s6, s7, rfl, by simp only [Act.put, List.setIfInBounds_toArray, List.set_cons_zero, List.set_cons_succ], K.out.trans (hw2.mono K.out.size), k3.out, fun _ => rfl, fun _ => rfl, k6.out, k7.out, k8.out, k9.out.later hw2, k10.out.later hw2, d9_10.out⟩
      refine StepsI.cons (i := 6) rfl ?_ ?_
      · rintro L a W ⟨c3, c4, c5, c6, c7, c8, c9, c10, c11, c12, s14, s15, s16, s10, s17, s18, s6, s7, rfl, rfl, K, k3, k4, k5, k6, k7, k8, k9, k10, d9_10⟩ h0 hd KK hK
        obtain rfl : c6 = false := h0
        obtain rfl : c5 = true := hd ⟨5, .data⟩ (by simp) rfl
        have e5 := k5.out rfl
        subst e5
        subst hA
        simp only [Act.put, List.setIfInBounds_toArray, List.set_cons_zero, List.set_cons_succ]
        clear hd
        go_simp
        exact hK.out _ _ ⟨c3, c4, true, true, c7, c8, c9, c10, c11, c12, s14, s15, .tuple #[dv q, dv r], .tuple #[dv q, dv r], s17, s18, s6, s7, rfl, by simp only [Act.put, List.setIfInBounds_toArray, List.set_cons_zero, List.set_cons_succ], K.out, k3.out, k4.out, fun _ => rfl, fun _ => rfl, k7.out, k8.out, k9.out, k10.out, d9_10.out⟩
      refine StepsI.cons (i := 7) rfl ?_ ?_
      · rintro L a W ⟨c3, c4, c5, c6, c7, c8, c9, c10, c11, c12, s14, s15, s16, s10, s17, s18, s6, s7, rfl, rfl, K, k3, k4, k5, k6, k7, k8, k9, k10, d9_10⟩ h0 hd KK hK
        obtain rfl : c7 = false := h0
        obtain rfl : c6 = true := hd ⟨6, .data⟩ (by simp) rfl
        have e6 := k6.out rfl
        subst e6
        subst hA
        simp only [Act.put, List.setIfInBounds_toArray, List.set_cons_zero, List.set_cons_succ]
        clear hd
        go_simp
        exact hK.out _ _ ⟨c3, c4, c5, true, true, c8, c9, c10, c11, c12, s14, s15, s16, .tuple #[dv q, dv r], dv q, s18, s6, s7, rfl, by simp only [Act.put, List.setIfInBounds_toArray, List.set_cons_zero, List.set_cons_succ], K.out, k3.out, k4.out, k5.out, fun _ => rfl, fun _ => rfl, k8.out, k9.out, k10.out, d9_10.out⟩
      refine StepsI.cons (i := 8) rfl ?_ ?_
      · rintro L a W ⟨c3, c4, c5, c6, c7, c8, c9, c10, c11, c12, s14, s15, s16, s10, s17, s18, s6, s7, rfl, rfl, K, k3, k4, k5, k6, k7, k8, k9, k10, d9_10⟩ h0 hd KK hK
        obtain rfl : c8 = false := h0
        obtain rfl : c6 = true := hd ⟨6, .data⟩ (by simp) rfl
        have e6 := k6.out rfl
        subst e6
        subst hA
        simp only [Act.put, List.setIfInBounds_toArray, List.set_cons_zero, List.set_cons_succ]
        clear hd
        go_simp
        exact hK.out _ _ ⟨c3, c4, c5, true, c7, true, c9, c10, c11, c12, s14, s15, s16, .tuple #[dv q, dv r], s17, dv r, s6, s7, rfl, by simp only [Act.put, List.setIfInBounds_toArray, List.set_cons_zero, List.set_cons_succ], K.out, k3.out, k4.out, k5.out, fun _ => rfl, k7.out, fun _ => rfl, k9.out, k10.out, d9_10.out⟩
      refine StepsI.cons (i := 9) rfl ?_ ?_
      · rintro L a W ⟨c3, c4, c5, c6, c7, c8, c9, c10, c11, c12, s14, s15, s16, s10, s17, s18, s6, s7, rfl, rfl, K, k3, k4, k5, k6, k7, k8, k9, k10, d9_10⟩ h0 hd KK hK
        obtain rfl : c9 = false := h0
        subst hA
        simp only [Act.put, List.setIfInBounds_toArray, List.set_cons_zero, List.set_cons_succ]
        clear hd
        go_simp
        exact hK.out _ _ ⟨c3, c4, c5, c6, c7, c8, true, c10, c11, c12, s14, s15, s16, s10, s17, s18, .pointer (some ⟨W.heap.size, 0, none⟩), s7, rfl, by simp only [Act.put, List.setIfInBounds_toArray, List.set_cons_zero, List.set_cons_succ], K.out.alloc K.out.size _, k3.out, k4.out, k5.out, k6.out, k7.out, k8.out, k9.out.new K.out.size _ (by rfl), k10.out.alloc _, fun _ hc => by subst hc; exact k10.out.ne⟩
      refine StepsI.cons (i := 10) rfl ?_ ?_
      · rintro L a W ⟨c3, c4, c5, c6, c7, c8, c9, c10, c11, c12, s14, s15, s16, s10, s17, s18, s6, s7, rfl, rfl, K, k3, k4, k5, k6, k7, k8, k9, k10, d9_10⟩ h0 hd KK hK
        obtain rfl : c10 = false := h0
        subst hA
        simp only [Act.put, List.setIfInBounds_toArray, List.set_cons_zero, List.set_cons_succ]
        clear hd
        go_simp
        exact hK.out _ _ ⟨c3, c4, c5, c6, c7, c8, c9, true, c11, c12, s14, s15, s16, s10, s17, s18, s6, .pointer (some ⟨W.heap.size, 0, none⟩), rfl, by simp only [Act.put, List.setIfInBounds_toArray, List.set_cons_zero, List.set_cons_succ], K.out.alloc K.out.size _, k3.out, k4.out, k5.out, k6.out, k7.out, k8.out, k9.out.alloc _, k10.out.new K.out.size _ (by rfl), fun hc _ => by subst hc; exact k9.out.ne.symm⟩
      refine StepsI.cons (i := 11) rfl ?_ ?_
      · rintro L a W ⟨c3, c4, c5, c6, c7, c8, c9, c10, c11, c12, s14, s15, s16, s10, s17, s18, s6, s7, rfl, rfl, K, k3, k4, k5, k6, k7, k8, k9, k10, d9_10⟩ h0 hd KK hK
        obtain rfl : c11 = false := h0
        obtain rfl : c9 = true := hd ⟨9, .data⟩ (by simp) rfl
        obtain rfl : c7 = true := hd ⟨7, .data⟩ (by simp) rfl
        obtain rfl : c10 = true := hd ⟨10, .phase⟩ (by simp) rfl
        have e := k7.out rfl
        subst hA
        simp only [Act.put, List.setIfInBounds_toArray, List.set_cons_zero, List.set_cons_succ]
        clear hd
        rw [if_pos (by rfl)]
        refine MadeL.store k9.out _ _ _ rfl rfl (by rfl) e (dl_len _) dig_info (dl_each _) ?_
        exact hK.out _ _ ⟨c3, c4, c5, c6, true, c8, true, true, true, c12, s14, s15, s16, s10, s17, s18, s6, s7, rfl, by simp only [Act.put, List.setIfInBounds_toArray, List.set_cons_zero, List.set_cons_succ], below_cells _ k9.out.ge _ 0 K.out, k3.out, k4.out, k5.out, k6.out, k7.out, k8.out, k9.out.put (dl_len _), k10.out.beside k9.out _ (d9_10.out rfl rfl), d9_10.out⟩
      refine StepsI.cons (i := 12) rfl ?_ ?_
      · rintro L a W ⟨c3, c4, c5, c6, c7, c8, c9, c10, c11, c12, s14, s15, s16, s10, s17, s18, s6, s7, rfl, rfl, K, k3, k4, k5, k6, k7, k8, k9, k10, d9_10⟩ h0 hd KK hK
        obtain rfl : c12 = false := h0
        obtain rfl : c10 = true := hd ⟨10, .data⟩ (by simp) rfl
        obtain rfl : c8 = true := hd ⟨8, .data⟩ (by simp) rfl
        obtain rfl : c9 = true := hd ⟨9, .phase⟩ (by simp) rfl
        have e := k8.out rfl
        subst hA
        simp only [Act.put, List.setIfInBounds_toArray, List.set_cons_zero, List.set_cons_succ]
        clear hd
        rw [if_pos (by rfl)]
        refine MadeL.store k10.out _ _ _ rfl rfl (by rfl) e (dl_len _) dig_info (dl_each _) ?_
        exact hK.out _ _ ⟨c3, c4, c5, c6, c7, true, true, true, c11, true, s14, s15, s16, s10, s17, s18, s6, s7, rfl, by simp only [Act.put, List.setIfInBounds_toArray, List.set_cons_zero, List.set_cons_succ], below_cells _ k10.out.ge _ 0 K.out, k3.out, k4.out, k5.out, k6.out, k7.out, k8.out, k9.out.beside k10.out _ ((d9_10.out rfl rfl).symm), k10.out.put (dl_len _), d9_10.out⟩
      exact StepsI.nil
  · rw [if_neg hz]
    have HZ : Hid (¬ r = 0) := hz
    clear hz
    by_cases hl : n < 0
    · rw [if_pos hl]
      have HM : Hid (m = true) := by unfold Hid; rw [HMD.out]; exact decide_eq_true hl
      rw [HM.out]
      go_enter Try.func17, Try.ntmps17
      go_upto_region 1 with (fail)
      refine wp_on (Pr := fun W => Hid (Has w [(w.heap.size, il false 0)] W)) ((Has.none w).new (il false 0) _ _ rfl) ?_
      intro W F
      refine wp_region_lit ?_
      refine wpList_one fun K' hK' => ?_
      rw [if_pos (by rfl)]
      go_simp
      refine hK'.out _ _ ?_
      clear hK' K'
      refine wpList_one fun K' hK' => ?_
      rw [if_pos (by rfl)]
      go_simp
      refine (OF.out _).mono ?_
      rintro e w2 ⟨rfl, hw2⟩
      have F2 : Hid (Has w _ w2) := F.out.later hw2
      clear F hw2
      (try go_wp2_with (fail))
      refine hK'.out _ _ ?_
      clear hK' K'
      have hp : w.heap.size < w2.heap.size := (F2.out.get w.heap.size (il false 0) (by simp)).2.2
      refine wpList_one fun K' hK' => ?_
      rw [if_pos (by rfl)]
      go_simp
      refine hK'.out _ _ ?_
      clear hK' K'
      have F3 : Hid (Has w ((w2.heap.size, il false 0) :: [(w.heap.size, il false 0)]) _) := F2.out.new (il false 0) 27 (il false 0).toArray rfl
      refine int_store X m (F3.out.get w2.heap.size (il false 0) (by simp)) rfl _ _ rfl rfl rfl rfl ?_
      refine wpList_on (Pr := fun W => Hid (Has w [(w2.heap.size, il m X), (w.heap.size, il false 0)] W)) (F3.out.put _ (by simp [il_len]) (by omega) (by simp; omega)) ?_
      clear F3 F2
      intro w3 F3
      generalize w2.heap.size = p at hp F3 ⊢
      go_upto_region 2 with (fail)
      refine wp_region_noPanic ?_
      refine wp_region_held_drew (S := fun w' => Row w' p (il m X)) (by kernel_rfl) ?_ (fun hHeld => ?_)
      · exact F3.out.get p (il m X) (by simp)
      refine wpAnyH_take (i := 0) (v := ?_) rfl (by kernel_rfl) (by kernel_rfl) (by kernel_rfl) (fun _ _ _ h => h) (Or.inl ⟨by rfl, ?_⟩) (by assumption) ?_
      rotate_left
      · (intro wS hSw; have g0 := hSw.cell 0 (.bool m) rfl; go_simp; try with_reducible rfl)
      change wpAnyH _ _ _ _ _ _ _ (Act.put _ (some 11) _) _
      simp only [Act.put, List.setIfInBounds_toArray, List.set_cons_zero, List.set_cons_succ]
      refine wpAnyH_take (i := 1) (v := .agg (dl (wd X)).toArray) rfl (by kernel_rfl) (by kernel_rfl) (by kernel_rfl) (fun _ _ _ h => h) (yieldsIf_load_mid (by rfl) _ _ rfl (p) 1 rfl (dl (wd X)) _ (fun wS hSw => hSw.size) Try.underlying25 rfl (by rw [dl_len]; exact dig_info)) (by assumption) ?_
      change wpAnyH _ _ _ _ _ _ _ (Act.put _ (some 12) _) _
      simp only [Act.put, List.setIfInBounds_toArray, List.set_cons_zero, List.set_cons_succ]
      refine wpAnyH_take (i := 2) (v := ?_) rfl (by kernel_rfl) (by kernel_rfl) (by kernel_rfl) (fun _ _ _ h => h) (Or.inl ⟨by rfl, ?_⟩) (by assumption) ?_
      rotate_left
      · (intro wS hSw; have g0 := hSw.cell 0 (.bool m) rfl; go_simp; try with_reducible rfl)
      change wpAnyH _ _ _ _ _ _ _ (Act.put _ (some 13) _) _
      simp only [Act.put, List.setIfInBounds_toArray, List.set_cons_zero, List.set_cons_succ]
      refine wpAnyH_named ?_
      intro A hA
      clear hHeld
      refine wpAnyH_inv (I := fun L a W => ∃ (c3 c4 c5 c6 c7 c8 c9 c10 c11 c12 : Bool) (s14 s15 s16 s10 s17 s18 s6 s7 : Value), L = #[true, true, true, c3, c4, c5, c6, c7, c8, c9, c10, c11, c12] ∧ a = ((((((((A.put (some 14) s14).put (some 15) s15).put (some 16) s16).put (some 10) s10).put (some 17) s17).put (some 18) s18).put (some 6) s6).put (some 7) s7) ∧ Hid (Below w3.heap.size w3.drew W) ∧ Hid (c3 = true → s14 = iv false u) ∧ Hid (c4 = true → s15 = dv u) ∧ Hid (c5 = true → s16 = .tuple #[dv q, dv r]) ∧ Hid (c6 = true → s10 = .tuple #[dv q, dv r]) ∧ Hid (c7 = true → s17 = dv q) ∧ Hid (c8 = true → s18 = dv r) ∧ Hid (MadeL w3.heap.size 20 c9 c11 s6 (dl (wd q)) W) ∧ Hid (MadeL w3.heap.size 20 c10 c12 s7 (dl (wd r)) W) ∧ Hid (c9 = true → c10 = true → s6 ≠ s7)) ?hS ?hz (by kernel_rfl) ?hsteps ?hend _ _ _ _ (by decide) ?h0
      case hS => rintro L a W ⟨c3, c4, c5, c6, c7, c8, c9, c10, c11, c12, s14, s15, s16, s10, s17, s18, s6, s7, -, -, K, -⟩; have hb := K.out; clear K; exact (fun h => h) ((F3.out.drew.later hb).get p (il m X) (by simp))
      case hz => rintro L a W ⟨c3, c4, c5, c6, c7, c8, c9, c10, c11, c12, s14, s15, s16, s10, s17, s18, s6, s7, rfl, -⟩; rfl
      case h0 => exact ⟨false, false, false, false, false, false, false, false, false, false, A.eval (.tmp 14), A.eval (.tmp 15), A.eval (.tmp 16), A.eval (.tmp 10), A.eval (.tmp 17), A.eval (.tmp 18), A.eval (.tmp 6), A.eval (.tmp 7), rfl, by simp only [put_self], Below.refl _ _, fun h => Bool.noConfusion h, fun h => Bool.noConfusion h, fun h => Bool.noConfusion h, fun h => Bool.noConfusion h, fun h => Bool.noConfusion h, fun h => Bool.noConfusion h, MadeL.not _ _ _ _ _, MadeL.not _ _ _ _ _, fun h => Bool.noConfusion h⟩
      case hend =>
        rintro L a W ⟨c3, c4, c5, c6, c7, c8, c9, c10, c11, c12, s14, s15, s16, s10, s17, s18, s6, s7, rfl, rfl, K, k3, k4, k5, k6, k7, k8, k9, k10, d9_10⟩ hall
        obtain rfl : c3 = true := hall 3
        obtain rfl : c4 = true := hall 4
        obtain rfl : c5 = true := hall 5
        obtain rfl : c6 = true := hall 6
        obtain rfl : c7 = true := hall 7
        obtain rfl : c8 = true := hall 8
        obtain rfl : c9 = true := hall 9
        obtain rfl : c10 = true := hall 10
        obtain rfl : c11 = true := hall 11
        obtain rfl : c12 = true := hall 12
        obtain ⟨p9, rfl, b9, z9, t9, r9'⟩ := k9.out.2 rfl
        have r9 := r9' rfl
        clear r9'
        obtain ⟨p10, rfl, b10, z10, t10, r10'⟩ := k10.out.2 rfl
        have r10 := r10' rfl
        clear r10'
        obtain rfl := k3.out rfl
        obtain rfl := k4.out rfl
        obtain rfl := k5.out rfl
        obtain rfl := k6.out rfl
        obtain rfl := k7.out rfl
        obtain rfl := k8.out rfl
        clear k3 k4 k5 k6 k7 k8 k9 k10 d9_10
        refine NoPanic.normal ?_
        subst hA
        simp only [Act.put, List.setIfInBounds_toArray, List.set_cons_zero, List.set_cons_succ]
        have F4 : Hid (Has w [(p, il m X), (w.heap.size, il false 0)] W) := F3.out.drew.later K.out
        have R4 : Hid (Row W p10 (dl (wd r))) := ⟨r10, by rw [dl_len]; exact t10, z10⟩
        have hp10 : p < p10 := by
          have := (F3.out.get p (il m X) (by simp)).2.2
          omega
        clear K r9 r10 t9 t10 z9 z10 b9 b10 F3
        have F5 : Hid (Has w [(w.heap.size, il false 0), (p10, dl (wd r)), (p, il m X)] W) := (((F4.out.part (ms := [(p, il m X)]) (by simp)).cons R4.out).cons (F4.out.get w.heap.size (il false 0) (by simp)))
        clear F4 R4
        go_upto_region 3 with (fail)
        refine wp_region_lit ?_
        refine digs_load (F5.out.get p10 (dl (wd r)) (by simp)) rfl _ rfl rfl ?_
        simp only [Act.put, List.setIfInBounds_toArray, List.set_cons_zero, List.set_cons_succ]
        refine wpList_one fun K' hK' => ?_
        rw [if_pos (by rfl)]
        go_simp
        rw [zero_dv]
        refine hK'.out _ _ ?_
        clear hK' K'
        refine wpList_one fun K' hK' => ?_
        rw [if_pos (by rfl)]
        unfold dv
        go_simp
        rw [run_equal_dv r 0 _ hr0.1 HR.out.1 (by omega) (by decide)]
        go_simp
        refine hK'.out _ _ ?_
        clear hK' K'
        rw [decide_eq_false HZ.out]
        have f5 := (F5.out.get p (il m X) (by simp)).cell 0 (.bool m) rfl
        rw [HM.out] at f5
        go_upto_region 6 with (fail)
        refine wp_region_lit ?_
        refine wpList_one fun K' hK' => ?_
        rw [if_pos (by rfl)]
        go_simp
        refine hK'.out _ _ ?_
        clear hK' K'
        refine size_load (F5.out.get p (il m X) (by simp)) rfl _ rfl rfl ?_
        simp only [Act.put, List.setIfInBounds_toArray, List.set_cons_zero, List.set_cons_succ]
        refine digs_load (F5.out.get p10 (dl (wd r)) (by simp)) rfl _ rfl rfl ?_
        simp only [Act.put, List.setIfInBounds_toArray, List.set_cons_zero, List.set_cons_succ]
        refine wpList_one fun K' hK' => ?_
        rw [if_pos (by rfl)]
        go_simp
        refine (minus_dv X r _ hr0.1 hr0.2.2 HR.out.2.2).mono ?_
        rintro e w6 ⟨rfl, hw6⟩
        have F6 : Hid (Has w _ w6) := F5.out.later hw6
        clear F5 hw6 f5
        (try go_wp2_with (fail))
        refine hK'.out _ _ ?_
        clear hK' K'
        refine int_build true (X - r) rfl _ _ rfl rfl rfl ?_
        simp only [Act.put, List.setIfInBounds_toArray, List.set_cons_zero, List.set_cons_succ]
        refine int_store (X - r) (true) (F6.out.get w.heap.size (il false 0) (by simp)) rfl _ _ rfl rfl rfl rfl ?_
        refine wpList_on (Pr := fun W => Hid (Has w [(w.heap.size, il (true) (X - r)), (p10, dl (wd r)), (p, il m X)] W)) (F6.out.put _ (by simp [il_len]) (Nat.le_refl _) (by simp; omega)) ?_
        clear F6
        intro W9 F9
        go_wp2_with (fail)
        refine bodyPost_ret (v := iv (true) (X - r)) ?_ rfl ⟨rfl, F9.out.2.2⟩
        have hl := int_back (F9.out.get (w.heap.size) (il (true) (X - r)) (by simp))
        simp [results, Try.results17, asAddr, hl]
      case hsteps =>
        refine StepsI.skip (i := 0) (by rintro L a W ⟨c3, c4, c5, c6, c7, c8, c9, c10, c11, c12, s14, s15, s16, s10, s17, s18, s6, s7, rfl, -⟩; rfl) ?_
        refine StepsI.skip (i := 1) (by rintro L a W ⟨c3, c4, c5, c6, c7, c8, c9, c10, c11, c12, s14, s15, s16, s10, s17, s18, s6, s7, rfl, -⟩; rfl) ?_
        refine StepsI.skip (i := 2) (by rintro L a W ⟨c3, c4, c5, c6, c7, c8, c9, c10, c11, c12, s14, s15, s16, s10, s17, s18, s6, s7, rfl, -⟩; rfl) ?_
        refine StepsI.cons (i := 3) rfl ?_ ?_
        · rintro L a W ⟨c3, c4, c5, c6, c7, c8, c9, c10, c11, c12, s14, s15, s16, s10, s17, s18, s6, s7, rfl, rfl, K, k3, k4, k5, k6, k7, k8, k9, k10, d9_10⟩ h0 hd KK hK
          obtain rfl : c3 = false := h0
          subst hA
          simp only [Act.put, List.setIfInBounds_toArray, List.set_cons_zero, List.set_cons_succ]
          clear hd
          go_simp
          refine (of3_pos u _ HU.out (by omega)).mono ?_
          rintro e w2 ⟨rfl, hw2⟩
          (try go_wp2_with (fail))
          exact hK.out _ _ ⟨true, c4, c5, c6, c7, c8, c9, c10, c11, c12, iv false u, s15, s16, s10, s17, s18, s6, s7, rfl, by simp only [Act.put, List.setIfInBounds_toArray, List.set_cons_zero, List.set_cons_succ], K.out.trans (hw2.mono K.out.size), fun _ => rfl, k4.out, k5.out, k6.out, k7.out, k8.out, k9.out.later hw2, k10.out.later hw2, d9_10.out⟩
        refine StepsI.cons (i := 4) rfl ?_ ?_
        · rintro L a W ⟨c3, c4, c5, c6, c7, c8, c9, c10, c11, c12, s14, s15, s16, s10, s17, s18, s6, s7, rfl, rfl, K, k3, k4, k5, k6, k7, k8, k9, k10, d9_10⟩ h0 hd KK hK
          obtain rfl : c4 = false := h0
          obtain rfl : c3 = true := hd ⟨3, .data⟩ (by simp) rfl
          have e3 := k3.out rfl
          subst e3
          subst hA
          simp only [Act.put, List.setIfInBounds_toArray, List.set_cons_zero, List.set_cons_succ]
          clear hd
          rw [if_pos (by rfl)]
          refine int_wp_field false u _ rfl (some 15) rfl rfl ?_
          simp only [Act.put, List.setIfInBounds_toArray, List.set_cons_zero, List.set_cons_succ]
          exact hK.out _ _ ⟨true, true, c5, c6, c7, c8, c9, c10, c11, c12, iv false u, dv u, s16, s10, s17, s18, s6, s7, rfl, by simp only [Act.put, List.setIfInBounds_toArray, List.set_cons_zero, List.set_cons_succ], K.out, fun _ => rfl, fun _ => rfl, k5.out, k6.out, k7.out, k8.out, k9.out, k10.out, d9_10.out⟩
        refine StepsI.cons (i := 5) rfl ?_ ?_
        · rintro L a W ⟨c3, c4, c5, c6, c7, c8, c9, c10, c11, c12, s14, s15, s16, s10, s17, s18, s6, s7, rfl, rfl, K, k3, k4, k5, k6, k7, k8, k9, k10, d9_10⟩ h0 hd KK hK
          obtain rfl : c5 = false := h0
          obtain rfl : c4 = true := hd ⟨4, .data⟩ (by simp) rfl
          have e4 := k4.out rfl
          subst e4
          subst hA
          simp only [Act.put, List.setIfInBounds_toArray, List.set_cons_zero, List.set_cons_succ]
          clear hd
          go_simp
          refine (BY.out _).mono ?_
          rintro e w2 ⟨rfl, hw2⟩
          (try go_wp2_with (fail))
          exact hK.out _ _ ⟨c3, true, true, c6, c7, c8, c9, c10, c11, c12, s14, dv u, .tuple #[dv q, dv r], s10, s17, s18, s6, s7, rfl, by simp only [Act.put, List.setIfInBounds_toArray, List.set_cons_zero, List.set_cons_succ], K.out.trans (hw2.mono K.out.size), k3.out, fun _ => rfl, fun _ => rfl, k6.out, k7.out, k8.out, k9.out.later hw2, k10.out.later hw2, d9_10.out⟩
        refine StepsI.cons (i := 6) rfl ?_ ?_
        · rintro L a W ⟨c3, c4, c5, c6, c7, c8, c9, c10, c11, c12, s14, s15, s16, s10, s17, s18, s6, s7, rfl, rfl, K, k3, k4, k5, k6, k7, k8, k9, k10, d9_10⟩ h0 hd KK hK
          obtain rfl : c6 = false := h0
          obtain rfl : c5 = true := hd ⟨5, .data⟩ (by simp) rfl
          have e5 := k5.out rfl
          subst e5
          subst hA
          simp only [Act.put, List.setIfInBounds_toArray, List.set_cons_zero, List.set_cons_succ]
          clear hd
          go_simp
          exact hK.out _ _ ⟨c3, c4, true, true, c7, c8, c9, c10, c11, c12, s14, s15, .tuple #[dv q, dv r], .tuple #[dv q, dv r], s17, s18, s6, s7, rfl, by simp only [Act.put, List.setIfInBounds_toArray, List.set_cons_zero, List.set_cons_succ], K.out, k3.out, k4.out, fun _ => rfl, fun _ => rfl, k7.out, k8.out, k9.out, k10.out, d9_10.out⟩
        refine StepsI.cons (i := 7) rfl ?_ ?_
        · rintro L a W ⟨c3, c4, c5, c6, c7, c8, c9, c10, c11, c12, s14, s15, s16, s10, s17, s18, s6, s7, rfl, rfl, K, k3, k4, k5, k6, k7, k8, k9, k10, d9_10⟩ h0 hd KK hK
          obtain rfl : c7 = false := h0
          obtain rfl : c6 = true := hd ⟨6, .data⟩ (by simp) rfl
          have e6 := k6.out rfl
          subst e6
          subst hA
          simp only [Act.put, List.setIfInBounds_toArray, List.set_cons_zero, List.set_cons_succ]
          clear hd
          go_simp
          exact hK.out _ _ ⟨c3, c4, c5, true, true, c8, c9, c10, c11, c12, s14, s15, s16, .tuple #[dv q, dv r], dv q, s18, s6, s7, rfl, by simp only [Act.put, List.setIfInBounds_toArray, List.set_cons_zero, List.set_cons_succ], K.out, k3.out, k4.out, k5.out, fun _ => rfl, fun _ => rfl, k8.out, k9.out, k10.out, d9_10.out⟩
        refine StepsI.cons (i := 8) rfl ?_ ?_
        · rintro L a W ⟨c3, c4, c5, c6, c7, c8, c9, c10, c11, c12, s14, s15, s16, s10, s17, s18, s6, s7, rfl, rfl, K, k3, k4, k5, k6, k7, k8, k9, k10, d9_10⟩ h0 hd KK hK
          obtain rfl : c8 = false := h0
          obtain rfl : c6 = true := hd ⟨6, .data⟩ (by simp) rfl
          have e6 := k6.out rfl
          subst e6
          subst hA
          simp only [Act.put, List.setIfInBounds_toArray, List.set_cons_zero, List.set_cons_succ]
          clear hd
          go_simp
          exact hK.out _ _ ⟨c3, c4, c5, true, c7, true, c9, c10, c11, c12, s14, s15, s16, .tuple #[dv q, dv r], s17, dv r, s6, s7, rfl, by simp only [Act.put, List.setIfInBounds_toArray, List.set_cons_zero, List.set_cons_succ], K.out, k3.out, k4.out, k5.out, fun _ => rfl, k7.out, fun _ => rfl, k9.out, k10.out, d9_10.out⟩
        refine StepsI.cons (i := 9) rfl ?_ ?_
        · rintro L a W ⟨c3, c4, c5, c6, c7, c8, c9, c10, c11, c12, s14, s15, s16, s10, s17, s18, s6, s7, rfl, rfl, K, k3, k4, k5, k6, k7, k8, k9, k10, d9_10⟩ h0 hd KK hK
          obtain rfl : c9 = false := h0
          subst hA
          simp only [Act.put, List.setIfInBounds_toArray, List.set_cons_zero, List.set_cons_succ]
          clear hd
          go_simp
          exact hK.out _ _ ⟨c3, c4, c5, c6, c7, c8, true, c10, c11, c12, s14, s15, s16, s10, s17, s18, .pointer (some ⟨W.heap.size, 0, none⟩), s7, rfl, by simp only [Act.put, List.setIfInBounds_toArray, List.set_cons_zero, List.set_cons_succ], K.out.alloc K.out.size _, k3.out, k4.out, k5.out, k6.out, k7.out, k8.out, k9.out.new K.out.size _ (by rfl), k10.out.alloc _, fun _ hc => by subst hc; exact k10.out.ne⟩
        refine StepsI.cons (i := 10) rfl ?_ ?_
        · rintro L a W ⟨c3, c4, c5, c6, c7, c8, c9, c10, c11, c12, s14, s15, s16, s10, s17, s18, s6, s7, rfl, rfl, K, k3, k4, k5, k6, k7, k8, k9, k10, d9_10⟩ h0 hd KK hK
          obtain rfl : c10 = false := h0
          subst hA
          simp only [Act.put, List.setIfInBounds_toArray, List.set_cons_zero, List.set_cons_succ]
          clear hd
          go_simp
          exact hK.out _ _ ⟨c3, c4, c5, c6, c7, c8, c9, true, c11, c12, s14, s15, s16, s10, s17, s18, s6, .pointer (some ⟨W.heap.size, 0, none⟩), rfl, by simp only [Act.put, List.setIfInBounds_toArray, List.set_cons_zero, List.set_cons_succ], K.out.alloc K.out.size _, k3.out, k4.out, k5.out, k6.out, k7.out, k8.out, k9.out.alloc _, k10.out.new K.out.size _ (by rfl), fun hc _ => by subst hc; exact k9.out.ne.symm⟩
        refine StepsI.cons (i := 11) rfl ?_ ?_
        · rintro L a W ⟨c3, c4, c5, c6, c7, c8, c9, c10, c11, c12, s14, s15, s16, s10, s17, s18, s6, s7, rfl, rfl, K, k3, k4, k5, k6, k7, k8, k9, k10, d9_10⟩ h0 hd KK hK
          obtain rfl : c11 = false := h0
          obtain rfl : c9 = true := hd ⟨9, .data⟩ (by simp) rfl
          obtain rfl : c7 = true := hd ⟨7, .data⟩ (by simp) rfl
          obtain rfl : c10 = true := hd ⟨10, .phase⟩ (by simp) rfl
          have e := k7.out rfl
          subst hA
          simp only [Act.put, List.setIfInBounds_toArray, List.set_cons_zero, List.set_cons_succ]
          clear hd
          rw [if_pos (by rfl)]
          refine MadeL.store k9.out _ _ _ rfl rfl (by rfl) e (dl_len _) dig_info (dl_each _) ?_
          exact hK.out _ _ ⟨c3, c4, c5, c6, true, c8, true, true, true, c12, s14, s15, s16, s10, s17, s18, s6, s7, rfl, by simp only [Act.put, List.setIfInBounds_toArray, List.set_cons_zero, List.set_cons_succ], below_cells _ k9.out.ge _ 0 K.out, k3.out, k4.out, k5.out, k6.out, k7.out, k8.out, k9.out.put (dl_len _), k10.out.beside k9.out _ (d9_10.out rfl rfl), d9_10.out⟩
        refine StepsI.cons (i := 12) rfl ?_ ?_
        · rintro L a W ⟨c3, c4, c5, c6, c7, c8, c9, c10, c11, c12, s14, s15, s16, s10, s17, s18, s6, s7, rfl, rfl, K, k3, k4, k5, k6, k7, k8, k9, k10, d9_10⟩ h0 hd KK hK
          obtain rfl : c12 = false := h0
          obtain rfl : c10 = true := hd ⟨10, .data⟩ (by simp) rfl
          obtain rfl : c8 = true := hd ⟨8, .data⟩ (by simp) rfl
          obtain rfl : c9 = true := hd ⟨9, .phase⟩ (by simp) rfl
          have e := k8.out rfl
          subst hA
          simp only [Act.put, List.setIfInBounds_toArray, List.set_cons_zero, List.set_cons_succ]
          clear hd
          rw [if_pos (by rfl)]
          refine MadeL.store k10.out _ _ _ rfl rfl (by rfl) e (dl_len _) dig_info (dl_each _) ?_
          exact hK.out _ _ ⟨c3, c4, c5, c6, c7, true, true, true, c11, true, s14, s15, s16, s10, s17, s18, s6, s7, rfl, by simp only [Act.put, List.setIfInBounds_toArray, List.set_cons_zero, List.set_cons_succ], below_cells _ k10.out.ge _ 0 K.out, k3.out, k4.out, k5.out, k6.out, k7.out, k8.out, k9.out.beside k10.out _ ((d9_10.out rfl rfl).symm), k10.out.put (dl_len _), d9_10.out⟩
        exact StepsI.nil
    · rw [if_neg hl]
      have HM : Hid (m = false) := by unfold Hid; rw [HMD.out]; exact decide_eq_false hl
      rw [HM.out]
      go_enter Try.func17, Try.ntmps17
      go_upto_region 1 with (fail)
      refine wp_on (Pr := fun W => Hid (Has w [(w.heap.size, il false 0)] W)) ((Has.none w).new (il false 0) _ _ rfl) ?_
      intro W F
      refine wp_region_lit ?_
      refine wpList_one fun K' hK' => ?_
      rw [if_pos (by rfl)]
      go_simp
      refine hK'.out _ _ ?_
      clear hK' K'
      refine wpList_one fun K' hK' => ?_
      rw [if_pos (by rfl)]
      go_simp
      refine (OF.out _).mono ?_
      rintro e w2 ⟨rfl, hw2⟩
      have F2 : Hid (Has w _ w2) := F.out.later hw2
      clear F hw2
      (try go_wp2_with (fail))
      refine hK'.out _ _ ?_
      clear hK' K'
      have hp : w.heap.size < w2.heap.size := (F2.out.get w.heap.size (il false 0) (by simp)).2.2
      refine wpList_one fun K' hK' => ?_
      rw [if_pos (by rfl)]
      go_simp
      refine hK'.out _ _ ?_
      clear hK' K'
      have F3 : Hid (Has w ((w2.heap.size, il false 0) :: [(w.heap.size, il false 0)]) _) := F2.out.new (il false 0) 27 (il false 0).toArray rfl
      refine int_store X m (F3.out.get w2.heap.size (il false 0) (by simp)) rfl _ _ rfl rfl rfl rfl ?_
      refine wpList_on (Pr := fun W => Hid (Has w [(w2.heap.size, il m X), (w.heap.size, il false 0)] W)) (F3.out.put _ (by simp [il_len]) (by omega) (by simp; omega)) ?_
      clear F3 F2
      intro w3 F3
      generalize w2.heap.size = p at hp F3 ⊢
      go_upto_region 2 with (fail)
      refine wp_region_noPanic ?_
      refine wp_region_held_drew (S := fun w' => Row w' p (il m X)) (by kernel_rfl) ?_ (fun hHeld => ?_)
      · exact F3.out.get p (il m X) (by simp)
      refine wpAnyH_take (i := 0) (v := ?_) rfl (by kernel_rfl) (by kernel_rfl) (by kernel_rfl) (fun _ _ _ h => h) (Or.inl ⟨by rfl, ?_⟩) (by assumption) ?_
      rotate_left
      · (intro wS hSw; have g0 := hSw.cell 0 (.bool m) rfl; go_simp; try with_reducible rfl)
      change wpAnyH _ _ _ _ _ _ _ (Act.put _ (some 11) _) _
      simp only [Act.put, List.setIfInBounds_toArray, List.set_cons_zero, List.set_cons_succ]
      refine wpAnyH_take (i := 1) (v := .agg (dl (wd X)).toArray) rfl (by kernel_rfl) (by kernel_rfl) (by kernel_rfl) (fun _ _ _ h => h) (yieldsIf_load_mid (by rfl) _ _ rfl (p) 1 rfl (dl (wd X)) _ (fun wS hSw => hSw.size) Try.underlying25 rfl (by rw [dl_len]; exact dig_info)) (by assumption) ?_
      change wpAnyH _ _ _ _ _ _ _ (Act.put _ (some 12) _) _
      simp only [Act.put, List.setIfInBounds_toArray, List.set_cons_zero, List.set_cons_succ]
      refine wpAnyH_take (i := 2) (v := ?_) rfl (by kernel_rfl) (by kernel_rfl) (by kernel_rfl) (fun _ _ _ h => h) (Or.inl ⟨by rfl, ?_⟩) (by assumption) ?_
      rotate_left
      · (intro wS hSw; have g0 := hSw.cell 0 (.bool m) rfl; go_simp; try with_reducible rfl)
      change wpAnyH _ _ _ _ _ _ _ (Act.put _ (some 13) _) _
      simp only [Act.put, List.setIfInBounds_toArray, List.set_cons_zero, List.set_cons_succ]
      refine wpAnyH_named ?_
      intro A hA
      clear hHeld
      refine wpAnyH_inv (I := fun L a W => ∃ (c3 c4 c5 c6 c7 c8 c9 c10 c11 c12 : Bool) (s14 s15 s16 s10 s17 s18 s6 s7 : Value), L = #[true, true, true, c3, c4, c5, c6, c7, c8, c9, c10, c11, c12] ∧ a = ((((((((A.put (some 14) s14).put (some 15) s15).put (some 16) s16).put (some 10) s10).put (some 17) s17).put (some 18) s18).put (some 6) s6).put (some 7) s7) ∧ Hid (Below w3.heap.size w3.drew W) ∧ Hid (c3 = true → s14 = iv false u) ∧ Hid (c4 = true → s15 = dv u) ∧ Hid (c5 = true → s16 = .tuple #[dv q, dv r]) ∧ Hid (c6 = true → s10 = .tuple #[dv q, dv r]) ∧ Hid (c7 = true → s17 = dv q) ∧ Hid (c8 = true → s18 = dv r) ∧ Hid (MadeL w3.heap.size 20 c9 c11 s6 (dl (wd q)) W) ∧ Hid (MadeL w3.heap.size 20 c10 c12 s7 (dl (wd r)) W) ∧ Hid (c9 = true → c10 = true → s6 ≠ s7)) ?hS ?hz (by kernel_rfl) ?hsteps ?hend _ _ _ _ (by decide) ?h0
      case hS => rintro L a W ⟨c3, c4, c5, c6, c7, c8, c9, c10, c11, c12, s14, s15, s16, s10, s17, s18, s6, s7, -, -, K, -⟩; have hb := K.out; clear K; exact (fun h => h) ((F3.out.drew.later hb).get p (il m X) (by simp))
      case hz => rintro L a W ⟨c3, c4, c5, c6, c7, c8, c9, c10, c11, c12, s14, s15, s16, s10, s17, s18, s6, s7, rfl, -⟩; rfl
      case h0 => exact ⟨false, false, false, false, false, false, false, false, false, false, A.eval (.tmp 14), A.eval (.tmp 15), A.eval (.tmp 16), A.eval (.tmp 10), A.eval (.tmp 17), A.eval (.tmp 18), A.eval (.tmp 6), A.eval (.tmp 7), rfl, by simp only [put_self], Below.refl _ _, fun h => Bool.noConfusion h, fun h => Bool.noConfusion h, fun h => Bool.noConfusion h, fun h => Bool.noConfusion h, fun h => Bool.noConfusion h, fun h => Bool.noConfusion h, MadeL.not _ _ _ _ _, MadeL.not _ _ _ _ _, fun h => Bool.noConfusion h⟩
      case hend =>
        rintro L a W ⟨c3, c4, c5, c6, c7, c8, c9, c10, c11, c12, s14, s15, s16, s10, s17, s18, s6, s7, rfl, rfl, K, k3, k4, k5, k6, k7, k8, k9, k10, d9_10⟩ hall
        obtain rfl : c3 = true := hall 3
        obtain rfl : c4 = true := hall 4
        obtain rfl : c5 = true := hall 5
        obtain rfl : c6 = true := hall 6
        obtain rfl : c7 = true := hall 7
        obtain rfl : c8 = true := hall 8
        obtain rfl : c9 = true := hall 9
        obtain rfl : c10 = true := hall 10
        obtain rfl : c11 = true := hall 11
        obtain rfl : c12 = true := hall 12
        obtain ⟨p9, rfl, b9, z9, t9, r9'⟩ := k9.out.2 rfl
        have r9 := r9' rfl
        clear r9'
        obtain ⟨p10, rfl, b10, z10, t10, r10'⟩ := k10.out.2 rfl
        have r10 := r10' rfl
        clear r10'
        obtain rfl := k3.out rfl
        obtain rfl := k4.out rfl
        obtain rfl := k5.out rfl
        obtain rfl := k6.out rfl
        obtain rfl := k7.out rfl
        obtain rfl := k8.out rfl
        clear k3 k4 k5 k6 k7 k8 k9 k10 d9_10
        refine NoPanic.normal ?_
        subst hA
        simp only [Act.put, List.setIfInBounds_toArray, List.set_cons_zero, List.set_cons_succ]
        have F4 : Hid (Has w [(p, il m X), (w.heap.size, il false 0)] W) := F3.out.drew.later K.out
        have R4 : Hid (Row W p10 (dl (wd r))) := ⟨r10, by rw [dl_len]; exact t10, z10⟩
        have hp10 : p < p10 := by
          have := (F3.out.get p (il m X) (by simp)).2.2
          omega
        clear K r9 r10 t9 t10 z9 z10 b9 b10 F3
        have F5 : Hid (Has w [(w.heap.size, il false 0), (p10, dl (wd r)), (p, il m X)] W) := (((F4.out.part (ms := [(p, il m X)]) (by simp)).cons R4.out).cons (F4.out.get w.heap.size (il false 0) (by simp)))
        clear F4 R4
        go_upto_region 3 with (fail)
        refine wp_region_lit ?_
        refine digs_load (F5.out.get p10 (dl (wd r)) (by simp)) rfl _ rfl rfl ?_
        simp only [Act.put, List.setIfInBounds_toArray, List.set_cons_zero, List.set_cons_succ]
        refine wpList_one fun K' hK' => ?_
        rw [if_pos (by rfl)]
        go_simp
        rw [zero_dv]
        refine hK'.out _ _ ?_
        clear hK' K'
        refine wpList_one fun K' hK' => ?_
        rw [if_pos (by rfl)]
        unfold dv
        go_simp
        rw [run_equal_dv r 0 _ hr0.1 HR.out.1 (by omega) (by decide)]
        go_simp
        refine hK'.out _ _ ?_
        clear hK' K'
        rw [decide_eq_false HZ.out]
        have f5 := (F5.out.get p (il m X) (by simp)).cell 0 (.bool m) rfl
        rw [HM.out] at f5
        go_upto_region 7 with (fail)
        clear f5
        refine wp_region_noPanic ?_
        refine wp_region_held_drew (S := fun w' => Row w' p (il m X) ∧ Row w' p10 (dl (wd r))) (by kernel_rfl) ?_ (fun hHeld => ?_)
        · exact ⟨F5.out.get p (il m X) (by simp), F5.out.get p10 (dl (wd r)) (by simp)⟩
        refine wpAnyH_take (i := 0) (v := ?_) rfl (by kernel_rfl) (by kernel_rfl) (by kernel_rfl) (fun _ _ _ h => h) (Or.inl ⟨by rfl, ?_⟩) (by assumption) ?_
        rotate_left
        · (intro wS hSw; have g0 := hSw.1.cell 0 (.bool m) rfl; go_simp; try with_reducible rfl)
        change wpAnyH _ _ _ _ _ _ _ (Act.put _ (some 30) _) _
        simp only [Act.put, List.setIfInBounds_toArray, List.set_cons_zero, List.set_cons_succ]
        refine wpAnyH_take (i := 1) (v := .agg (dl (wd X)).toArray) rfl (by kernel_rfl) (by kernel_rfl) (by kernel_rfl) (fun _ _ _ h => h) (yieldsIf_load_mid (by rfl) _ _ rfl (p) 1 rfl (dl (wd X)) _ (fun wS hSw => hSw.1.size) Try.underlying25 rfl (by rw [dl_len]; exact dig_info)) (by assumption) ?_
        change wpAnyH _ _ _ _ _ _ _ (Act.put _ (some 31) _) _
        simp only [Act.put, List.setIfInBounds_toArray, List.set_cons_zero, List.set_cons_succ]
        refine wpAnyH_take (i := 2) (v := ?_) rfl (by kernel_rfl) (by kernel_rfl) (by kernel_rfl) (fun _ _ _ h => h) (Or.inl ⟨by rfl, ?_⟩) (by assumption) ?_
        rotate_left
        · (intro wS hSw; have g0 := hSw.1.cell 0 (.bool m) rfl; go_simp; try with_reducible rfl)
        change wpAnyH _ _ _ _ _ _ _ (Act.put _ (some 32) _) _
        simp only [Act.put, List.setIfInBounds_toArray, List.set_cons_zero, List.set_cons_succ]
        refine wpAnyH_take (i := 6) (v := .agg (dl (wd r)).toArray) rfl (by kernel_rfl) (by kernel_rfl) (by kernel_rfl) (fun _ _ _ h => h) (yieldsIf_load_mid (by rfl) _ _ rfl (p10) 0 rfl (dl (wd r)) _ (fun wS hSw => hSw.2.1) Try.underlying25 rfl (by rw [dl_len]; exact dig_info)) (by assumption) ?_
        change wpAnyH _ _ _ _ _ _ _ (Act.put _ (some 36) _) _
        simp only [Act.put, List.setIfInBounds_toArray, List.set_cons_zero, List.set_cons_succ]
        refine wpAnyH_named ?_
        intro A hA
        clear hHeld
        refine wpAnyH_inv (I := fun L a W => ∃ (c3 c4 c5 c7 c8 c9 : Bool) (s33 s34 s35 s37 s38 : Value), L = #[true, true, true, c3, c4, c5, true, c7, c8, c9] ∧ a = (((((A.put (some 33) s33).put (some 34) s34).put (some 35) s35).put (some 37) s37).put (some 38) s38) ∧ Hid (Has w [(w.heap.size, bif c9 then il false (X + u - r) else il false 0), (p10, dl (wd r)), (p, il m X)] W) ∧ Hid (c3 = true → s33 = iv false u) ∧ Hid (c4 = true → s34 = dv u) ∧ Hid (c5 = true → s35 = dv (X + u)) ∧ Hid (c7 = true → s37 = dv (X + u - r)) ∧ Hid (c8 = true → s38 = iv false (X + u - r))) ?gS ?gz (by kernel_rfl) ?gsteps ?gend _ _ _ _ (by decide) ?g9
        case gS => rintro L a W ⟨c3, c4, c5, c7, c8, c9, s33, s34, s35, s37, s38, -, -, K, -⟩; exact (fun h => h) (⟨K.out.get p (il m X) (by simp), K.out.get p10 (dl (wd r)) (by simp)⟩)
        case gz => rintro L a W ⟨c3, c4, c5, c7, c8, c9, s33, s34, s35, s37, s38, rfl, -⟩; rfl
        case g9 => exact ⟨false, false, false, false, false, false, A.eval (.tmp 33), A.eval (.tmp 34), A.eval (.tmp 35), A.eval (.tmp 37), A.eval (.tmp 38), rfl, by simp only [put_self], F5.out.drew, fun h => Bool.noConfusion h, fun h => Bool.noConfusion h, fun h => Bool.noConfusion h, fun h => Bool.noConfusion h, fun h => Bool.noConfusion h⟩
        case gend =>
          rintro L a W ⟨c3, c4, c5, c7, c8, c9, s33, s34, s35, s37, s38, rfl, rfl, K, k3, k4, k5, k7, k8⟩ hall
          obtain rfl : c3 = true := hall 3
          obtain rfl : c4 = true := hall 4
          obtain rfl : c5 = true := hall 5
          obtain rfl : c7 = true := hall 7
          obtain rfl : c8 = true := hall 8
          obtain rfl : c9 = true := hall 9
          obtain rfl := k3.out rfl
          obtain rfl := k4.out rfl
          obtain rfl := k5.out rfl
          obtain rfl := k7.out rfl
          obtain rfl := k8.out rfl
          clear k3 k4 k5 k7 k8
          refine NoPanic.normal ?_
          subst hA
          simp only [Act.put, List.setIfInBounds_toArray, List.set_cons_zero, List.set_cons_succ]
          have F9 : Hid (Has w [(w.heap.size, il false (X + u - r)), (p10, dl (wd r)), (p, il m X)] W) := K
          clear K
          go_wp2_with (fail)
          refine bodyPost_ret (v := iv (false) (X + u - r)) ?_ rfl ⟨rfl, F9.out.2.2⟩
          have hl := int_back (F9.out.get (w.heap.size) (il (false) (X + u - r)) (by simp))
          simp [results, Try.results17, asAddr, hl]
        case gsteps =>
          refine StepsI.skip (i := 0) (by rintro L a W ⟨c3, c4, c5, c7, c8, c9, s33, s34, s35, s37, s38, rfl, -⟩; rfl) ?_
          refine StepsI.skip (i := 1) (by rintro L a W ⟨c3, c4, c5, c7, c8, c9, s33, s34, s35, s37, s38, rfl, -⟩; rfl) ?_
          refine StepsI.skip (i := 2) (by rintro L a W ⟨c3, c4, c5, c7, c8, c9, s33, s34, s35, s37, s38, rfl, -⟩; rfl) ?_
          refine StepsI.cons (i := 3) rfl ?_ ?_
          · rintro L a W ⟨c3, c4, c5, c7, c8, c9, s33, s34, s35, s37, s38, rfl, rfl, K, k3, k4, k5, k7, k8⟩ h0 hd KK hK
            obtain rfl : c3 = false := h0
            subst hA
            simp only [Act.put, List.setIfInBounds_toArray, List.set_cons_zero, List.set_cons_succ]
            clear hd
            go_simp
            refine (of3_pos u _ HU.out (by omega)).mono ?_
            rintro e w2 ⟨rfl, hw2⟩
            (try go_wp2_with (fail))
            exact hK.out _ _ ⟨true, c4, c5, c7, c8, c9, iv false u, s34, s35, s37, s38, rfl, by simp only [Act.put, List.setIfInBounds_toArray, List.set_cons_zero, List.set_cons_succ], K.out.later hw2, fun _ => rfl, k4.out, k5.out, k7.out, k8.out⟩
          refine StepsI.cons (i := 4) rfl ?_ ?_
          · rintro L a W ⟨c3, c4, c5, c7, c8, c9, s33, s34, s35, s37, s38, rfl, rfl, K, k3, k4, k5, k7, k8⟩ h0 hd KK hK
            obtain rfl : c4 = false := h0
            obtain rfl : c3 = true := hd ⟨3, .data⟩ (by simp) rfl
            have e3 := k3.out rfl
            subst e3
            subst hA
            simp only [Act.put, List.setIfInBounds_toArray, List.set_cons_zero, List.set_cons_succ]
            clear hd
            rw [if_pos (by rfl)]
            refine int_wp_field false u _ rfl (some 34) rfl rfl ?_
            simp only [Act.put, List.setIfInBounds_toArray, List.set_cons_zero, List.set_cons_succ]
            exact hK.out _ _ ⟨true, true, c5, c7, c8, c9, iv false u, dv u, s35, s37, s38, rfl, by simp only [Act.put, List.setIfInBounds_toArray, List.set_cons_zero, List.set_cons_succ], K, fun _ => rfl, fun _ => rfl, k5.out, k7.out, k8.out⟩
          refine StepsI.cons (i := 5) rfl ?_ ?_
          · rintro L a W ⟨c3, c4, c5, c7, c8, c9, s33, s34, s35, s37, s38, rfl, rfl, K, k3, k4, k5, k7, k8⟩ h0 hd KK hK
            obtain rfl : c5 = false := h0
            obtain rfl : c4 = true := hd ⟨4, .data⟩ (by simp) rfl
            have e4 := k4.out rfl
            subst e4
            subst hA
            simp only [Act.put, List.setIfInBounds_toArray, List.set_cons_zero, List.set_cons_succ]
            clear hd
            go_simp
            refine (plus_dv X u _ hx0.1 (by omega) HR.out.2.1).mono ?_
            rintro e w2 ⟨rfl, hw2⟩
            (try go_wp2_with (fail))
            exact hK.out _ _ ⟨c3, true, true, c7, c8, c9, s33, dv u, dv (X + u), s37, s38, rfl, by simp only [Act.put, List.setIfInBounds_toArray, List.set_cons_zero, List.set_cons_succ], K.out.later hw2, k3.out, fun _ => rfl, fun _ => rfl, k7.out, k8.out⟩
          refine StepsI.skip (i := 6) (by rintro L a W ⟨c3, c4, c5, c7, c8, c9, s33, s34, s35, s37, s38, rfl, -⟩; rfl) ?_
          refine StepsI.cons (i := 7) rfl ?_ ?_
          · rintro L a W ⟨c3, c4, c5, c7, c8, c9, s33, s34, s35, s37, s38, rfl, rfl, K, k3, k4, k5, k7, k8⟩ h0 hd KK hK
            obtain rfl : c7 = false := h0
            obtain rfl : c5 = true := hd ⟨5, .data⟩ (by simp) rfl
            have e5 := k5.out rfl
            subst e5
            subst hA
            simp only [Act.put, List.setIfInBounds_toArray, List.set_cons_zero, List.set_cons_succ]
            clear hd
            go_simp
            refine (minus_dv (X + u) r _ hr0.1 (by omega) HR.out.2.1).mono ?_
            rintro e w2 ⟨rfl, hw2⟩
            (try go_wp2_with (fail))
            exact hK.out _ _ ⟨c3, c4, true, true, c8, c9, s33, s34, dv (X + u), dv (X + u - r), s38, rfl, by simp only [Act.put, List.setIfInBounds_toArray, List.set_cons_zero, List.set_cons_succ], K.out.later hw2, k3.out, k4.out, fun _ => rfl, fun _ => rfl, k8.out⟩
          refine StepsI.cons (i := 8) rfl ?_ ?_
          · rintro L a W ⟨c3, c4, c5, c7, c8, c9, s33, s34, s35, s37, s38, rfl, rfl, K, k3, k4, k5, k7, k8⟩ h0 hd KK hK
            obtain rfl : c8 = false := h0
            obtain rfl : c7 = true := hd ⟨7, .data⟩ (by simp) rfl
            have e7 := k7.out rfl
            subst e7
            subst hA
            simp only [Act.put, List.setIfInBounds_toArray, List.set_cons_zero, List.set_cons_succ]
            clear hd
            rw [if_pos (by rfl)]
            refine int_wp_build false (X + u - r) _ _ rfl (some 38) rfl rfl rfl ?_
            simp only [Act.put, List.setIfInBounds_toArray, List.set_cons_zero, List.set_cons_succ]
            exact hK.out _ _ ⟨c3, c4, c5, true, true, c9, s33, s34, s35, dv (X + u - r), iv false (X + u - r), rfl, by simp only [Act.put, List.setIfInBounds_toArray, List.set_cons_zero, List.set_cons_succ], K, k3.out, k4.out, k5.out, fun _ => rfl, fun _ => rfl⟩
          refine StepsI.cons (i := 9) rfl ?_ ?_
          · rintro L a W ⟨c3, c4, c5, c7, c8, c9, s33, s34, s35, s37, s38, rfl, rfl, K, k3, k4, k5, k7, k8⟩ h0 hd KK hK
            obtain rfl : c9 = false := h0
            obtain rfl : c8 = true := hd ⟨8, .data⟩ (by simp) rfl
            have e8 := k8.out rfl
            subst e8
            subst hA
            simp only [Act.put, List.setIfInBounds_toArray, List.set_cons_zero, List.set_cons_succ]
            clear hd
            rw [if_pos (by rfl)]
            refine int_wp_store (X + u - r) false (K.out.get w.heap.size _ (List.mem_cons_self ..)) (bif_len _ _ _ _ _) _ _ rfl rfl rfl rfl ?_
            exact hK.out _ _ ⟨c3, c4, c5, c7, true, true, s33, s34, s35, s37, iv false (X + u - r), rfl, by simp only [Act.put, List.setIfInBounds_toArray, List.set_cons_zero, List.set_cons_succ], K.out.put _ (by simp [il_len]) (Nat.le_refl _) (by simp; omega), k3.out, k4.out, k5.out, k7.out, fun _ => rfl⟩
          exact StepsI.nil
      case hsteps =>
        refine StepsI.skip (i := 0) (by rintro L a W ⟨c3, c4, c5, c6, c7, c8, c9, c10, c11, c12, s14, s15, s16, s10, s17, s18, s6, s7, rfl, -⟩; rfl) ?_
        refine StepsI.skip (i := 1) (by rintro L a W ⟨c3, c4, c5, c6, c7, c8, c9, c10, c11, c12, s14, s15, s16, s10, s17, s18, s6, s7, rfl, -⟩; rfl) ?_
        refine StepsI.skip (i := 2) (by rintro L a W ⟨c3, c4, c5, c6, c7, c8, c9, c10, c11, c12, s14, s15, s16, s10, s17, s18, s6, s7, rfl, -⟩; rfl) ?_
        refine StepsI.cons (i := 3) rfl ?_ ?_
        · rintro L a W ⟨c3, c4, c5, c6, c7, c8, c9, c10, c11, c12, s14, s15, s16, s10, s17, s18, s6, s7, rfl, rfl, K, k3, k4, k5, k6, k7, k8, k9, k10, d9_10⟩ h0 hd KK hK
          obtain rfl : c3 = false := h0
          subst hA
          simp only [Act.put, List.setIfInBounds_toArray, List.set_cons_zero, List.set_cons_succ]
          clear hd
          go_simp
          refine (of3_pos u _ HU.out (by omega)).mono ?_
          rintro e w2 ⟨rfl, hw2⟩
          (try go_wp2_with (fail))
          exact hK.out _ _ ⟨true, c4, c5, c6, c7, c8, c9, c10, c11, c12, iv false u, s15, s16, s10, s17, s18, s6, s7, rfl, by simp only [Act.put, List.setIfInBounds_toArray, List.set_cons_zero, List.set_cons_succ], K.out.trans (hw2.mono K.out.size), fun _ => rfl, k4.out, k5.out, k6.out, k7.out, k8.out, k9.out.later hw2, k10.out.later hw2, d9_10.out⟩
        refine StepsI.cons (i := 4) rfl ?_ ?_
        · rintro L a W ⟨c3, c4, c5, c6, c7, c8, c9, c10, c11, c12, s14, s15, s16, s10, s17, s18, s6, s7, rfl, rfl, K, k3, k4, k5, k6, k7, k8, k9, k10, d9_10⟩ h0 hd KK hK
          obtain rfl : c4 = false := h0
          obtain rfl : c3 = true := hd ⟨3, .data⟩ (by simp) rfl
          have e3 := k3.out rfl
          subst e3
          subst hA
          simp only [Act.put, List.setIfInBounds_toArray, List.set_cons_zero, List.set_cons_succ]
          clear hd
          rw [if_pos (by rfl)]
          refine int_wp_field false u _ rfl (some 15) rfl rfl ?_
          simp only [Act.put, List.setIfInBounds_toArray, List.set_cons_zero, List.set_cons_succ]
          exact hK.out _ _ ⟨true, true, c5, c6, c7, c8, c9, c10, c11, c12, iv false u, dv u, s16, s10, s17, s18, s6, s7, rfl, by simp only [Act.put, List.setIfInBounds_toArray, List.set_cons_zero, List.set_cons_succ], K.out, fun _ => rfl, fun _ => rfl, k5.out, k6.out, k7.out, k8.out, k9.out, k10.out, d9_10.out⟩
        refine StepsI.cons (i := 5) rfl ?_ ?_
        · rintro L a W ⟨c3, c4, c5, c6, c7, c8, c9, c10, c11, c12, s14, s15, s16, s10, s17, s18, s6, s7, rfl, rfl, K, k3, k4, k5, k6, k7, k8, k9, k10, d9_10⟩ h0 hd KK hK
          obtain rfl : c5 = false := h0
          obtain rfl : c4 = true := hd ⟨4, .data⟩ (by simp) rfl
          have e4 := k4.out rfl
          subst e4
          subst hA
          simp only [Act.put, List.setIfInBounds_toArray, List.set_cons_zero, List.set_cons_succ]
          clear hd
          go_simp
          refine (BY.out _).mono ?_
          rintro e w2 ⟨rfl, hw2⟩
          (try go_wp2_with (fail))
          exact hK.out _ _ ⟨c3, true, true, c6, c7, c8, c9, c10, c11, c12, s14, dv u, .tuple #[dv q, dv r], s10, s17, s18, s6, s7, rfl, by simp only [Act.put, List.setIfInBounds_toArray, List.set_cons_zero, List.set_cons_succ], K.out.trans (hw2.mono K.out.size), k3.out, fun _ => rfl, fun _ => rfl, k6.out, k7.out, k8.out, k9.out.later hw2, k10.out.later hw2, d9_10.out⟩
        refine StepsI.cons (i := 6) rfl ?_ ?_
        · rintro L a W ⟨c3, c4, c5, c6, c7, c8, c9, c10, c11, c12, s14, s15, s16, s10, s17, s18, s6, s7, rfl, rfl, K, k3, k4, k5, k6, k7, k8, k9, k10, d9_10⟩ h0 hd KK hK
          obtain rfl : c6 = false := h0
          obtain rfl : c5 = true := hd ⟨5, .data⟩ (by simp) rfl
          have e5 := k5.out rfl
          subst e5
          subst hA
          simp only [Act.put, List.setIfInBounds_toArray, List.set_cons_zero, List.set_cons_succ]
          clear hd
          go_simp
          exact hK.out _ _ ⟨c3, c4, true, true, c7, c8, c9, c10, c11, c12, s14, s15, .tuple #[dv q, dv r], .tuple #[dv q, dv r], s17, s18, s6, s7, rfl, by simp only [Act.put, List.setIfInBounds_toArray, List.set_cons_zero, List.set_cons_succ], K.out, k3.out, k4.out, fun _ => rfl, fun _ => rfl, k7.out, k8.out, k9.out, k10.out, d9_10.out⟩
        refine StepsI.cons (i := 7) rfl ?_ ?_
        · rintro L a W ⟨c3, c4, c5, c6, c7, c8, c9, c10, c11, c12, s14, s15, s16, s10, s17, s18, s6, s7, rfl, rfl, K, k3, k4, k5, k6, k7, k8, k9, k10, d9_10⟩ h0 hd KK hK
          obtain rfl : c7 = false := h0
          obtain rfl : c6 = true := hd ⟨6, .data⟩ (by simp) rfl
          have e6 := k6.out rfl
          subst e6
          subst hA
          simp only [Act.put, List.setIfInBounds_toArray, List.set_cons_zero, List.set_cons_succ]
          clear hd
          go_simp
          exact hK.out _ _ ⟨c3, c4, c5, true, true, c8, c9, c10, c11, c12, s14, s15, s16, .tuple #[dv q, dv r], dv q, s18, s6, s7, rfl, by simp only [Act.put, List.setIfInBounds_toArray, List.set_cons_zero, List.set_cons_succ], K.out, k3.out, k4.out, k5.out, fun _ => rfl, fun _ => rfl, k8.out, k9.out, k10.out, d9_10.out⟩
        refine StepsI.cons (i := 8) rfl ?_ ?_
        · rintro L a W ⟨c3, c4, c5, c6, c7, c8, c9, c10, c11, c12, s14, s15, s16, s10, s17, s18, s6, s7, rfl, rfl, K, k3, k4, k5, k6, k7, k8, k9, k10, d9_10⟩ h0 hd KK hK
          obtain rfl : c8 = false := h0
          obtain rfl : c6 = true := hd ⟨6, .data⟩ (by simp) rfl
          have e6 := k6.out rfl
          subst e6
          subst hA
          simp only [Act.put, List.setIfInBounds_toArray, List.set_cons_zero, List.set_cons_succ]
          clear hd
          go_simp
          exact hK.out _ _ ⟨c3, c4, c5, true, c7, true, c9, c10, c11, c12, s14, s15, s16, .tuple #[dv q, dv r], s17, dv r, s6, s7, rfl, by simp only [Act.put, List.setIfInBounds_toArray, List.set_cons_zero, List.set_cons_succ], K.out, k3.out, k4.out, k5.out, fun _ => rfl, k7.out, fun _ => rfl, k9.out, k10.out, d9_10.out⟩
        refine StepsI.cons (i := 9) rfl ?_ ?_
        · rintro L a W ⟨c3, c4, c5, c6, c7, c8, c9, c10, c11, c12, s14, s15, s16, s10, s17, s18, s6, s7, rfl, rfl, K, k3, k4, k5, k6, k7, k8, k9, k10, d9_10⟩ h0 hd KK hK
          obtain rfl : c9 = false := h0
          subst hA
          simp only [Act.put, List.setIfInBounds_toArray, List.set_cons_zero, List.set_cons_succ]
          clear hd
          go_simp
          exact hK.out _ _ ⟨c3, c4, c5, c6, c7, c8, true, c10, c11, c12, s14, s15, s16, s10, s17, s18, .pointer (some ⟨W.heap.size, 0, none⟩), s7, rfl, by simp only [Act.put, List.setIfInBounds_toArray, List.set_cons_zero, List.set_cons_succ], K.out.alloc K.out.size _, k3.out, k4.out, k5.out, k6.out, k7.out, k8.out, k9.out.new K.out.size _ (by rfl), k10.out.alloc _, fun _ hc => by subst hc; exact k10.out.ne⟩
        refine StepsI.cons (i := 10) rfl ?_ ?_
        · rintro L a W ⟨c3, c4, c5, c6, c7, c8, c9, c10, c11, c12, s14, s15, s16, s10, s17, s18, s6, s7, rfl, rfl, K, k3, k4, k5, k6, k7, k8, k9, k10, d9_10⟩ h0 hd KK hK
          obtain rfl : c10 = false := h0
          subst hA
          simp only [Act.put, List.setIfInBounds_toArray, List.set_cons_zero, List.set_cons_succ]
          clear hd
          go_simp
          exact hK.out _ _ ⟨c3, c4, c5, c6, c7, c8, c9, true, c11, c12, s14, s15, s16, s10, s17, s18, s6, .pointer (some ⟨W.heap.size, 0, none⟩), rfl, by simp only [Act.put, List.setIfInBounds_toArray, List.set_cons_zero, List.set_cons_succ], K.out.alloc K.out.size _, k3.out, k4.out, k5.out, k6.out, k7.out, k8.out, k9.out.alloc _, k10.out.new K.out.size _ (by rfl), fun hc _ => by subst hc; exact k9.out.ne.symm⟩
        refine StepsI.cons (i := 11) rfl ?_ ?_
        · rintro L a W ⟨c3, c4, c5, c6, c7, c8, c9, c10, c11, c12, s14, s15, s16, s10, s17, s18, s6, s7, rfl, rfl, K, k3, k4, k5, k6, k7, k8, k9, k10, d9_10⟩ h0 hd KK hK
          obtain rfl : c11 = false := h0
          obtain rfl : c9 = true := hd ⟨9, .data⟩ (by simp) rfl
          obtain rfl : c7 = true := hd ⟨7, .data⟩ (by simp) rfl
          obtain rfl : c10 = true := hd ⟨10, .phase⟩ (by simp) rfl
          have e := k7.out rfl
          subst hA
          simp only [Act.put, List.setIfInBounds_toArray, List.set_cons_zero, List.set_cons_succ]
          clear hd
          rw [if_pos (by rfl)]
          refine MadeL.store k9.out _ _ _ rfl rfl (by rfl) e (dl_len _) dig_info (dl_each _) ?_
          exact hK.out _ _ ⟨c3, c4, c5, c6, true, c8, true, true, true, c12, s14, s15, s16, s10, s17, s18, s6, s7, rfl, by simp only [Act.put, List.setIfInBounds_toArray, List.set_cons_zero, List.set_cons_succ], below_cells _ k9.out.ge _ 0 K.out, k3.out, k4.out, k5.out, k6.out, k7.out, k8.out, k9.out.put (dl_len _), k10.out.beside k9.out _ (d9_10.out rfl rfl), d9_10.out⟩
        refine StepsI.cons (i := 12) rfl ?_ ?_
        · rintro L a W ⟨c3, c4, c5, c6, c7, c8, c9, c10, c11, c12, s14, s15, s16, s10, s17, s18, s6, s7, rfl, rfl, K, k3, k4, k5, k6, k7, k8, k9, k10, d9_10⟩ h0 hd KK hK
          obtain rfl : c12 = false := h0
          obtain rfl : c10 = true := hd ⟨10, .data⟩ (by simp) rfl
          obtain rfl : c8 = true := hd ⟨8, .data⟩ (by simp) rfl
          obtain rfl : c9 = true := hd ⟨9, .phase⟩ (by simp) rfl
          have e := k8.out rfl
          subst hA
          simp only [Act.put, List.setIfInBounds_toArray, List.set_cons_zero, List.set_cons_succ]
          clear hd
          rw [if_pos (by rfl)]
          refine MadeL.store k10.out _ _ _ rfl rfl (by rfl) e (dl_len _) dig_info (dl_each _) ?_
          exact hK.out _ _ ⟨c3, c4, c5, c6, c7, true, true, true, c11, true, s14, s15, s16, s10, s17, s18, s6, s7, rfl, by simp only [Act.put, List.setIfInBounds_toArray, List.set_cons_zero, List.set_cons_succ], below_cells _ k10.out.ge _ 0 K.out, k3.out, k4.out, k5.out, k6.out, k7.out, k8.out, k9.out.beside k10.out _ ((d9_10.out rfl rfl).symm), k10.out.put (dl_len _), d9_10.out⟩
        exact StepsI.nil

end Go.Proofs.Ytfbkmifgnpapbaa
