/-
  Contracts of the document's own Plus and Times of numbers with a sign at this program. Conditions: the sizes, and what comes of them, have at most twenty digits.
-/
import Derived.Test.YtfbkmifgnpapbaaCE
import Derived.Deep.RegionHeld3
import Derived.Deep.RegionWith
namespace Go.Proofs.Ytfbkmifgnpapbaa
open Go.RowKit

section
variable {op : Oper} {a : Act} {w : World} {Q : Exit → Act → World → Prop} {K : Act → World → Prop} {b : Nat}
theorem int_wp_build (m : Bool) (V : Int) (x y : Operand) (ho : op.op = .build 27 #[(0, x), (1, y)]) (d : Option Nat) (hd : op.dst = d) (hx : a.eval x = .bool m) (hy : a.eval y = dv V)
    (hk : K (a.put d (iv m V)) w) : op.wp Try.prog a w K Q := by
  subst hd
  refine wp_build _ _ ho ?_ ?_
  · simp only [List.map_toArray, List.map_cons, List.map_nil, hx, hy, built_iv]; rfl
  · simp only [List.map_toArray, List.map_cons, List.map_nil, hx, hy, built_iv]; exact hk
theorem int_wp_store (U : Int) (k : Bool) {vs : List Value} (h : Row w b vs) (hl : vs.length = 21) (x y : Operand) (ho : op.op = .store 27 x y) (hd : op.dst = none) (hx : a.eval x = .pointer (some ⟨b, 0, none⟩))
    (hy : a.eval y = iv k U) (hk : K a (w.setCells b 0 (il k U))) : op.wp Try.prog a w K Q :=
  wp_store_mid _ x y ho b 0 (il k U).toArray hx hy (by rw [List.size_toArray, il_len]; have := h.2.1; rwa [hl] at this) (by rw [List.size_toArray, il_len]; exact int_info) (all_oneCell_toArray (il_each _ _)) (by rw [hd, List.toList_toArray]; exact hk)
end

theorem bif_len (c : Bool) (m k : Bool) (V U : Int) : (bif c then il m V else il k U).length = 21 := by cases c <;> simp [il_len]

/-- The sum's sign and size. -/
def plusM (m1 : Bool) (V1 : Int) (m2 : Bool) (V2 : Int) : Bool := if m1 = m2 then m1 else if V1 < V2 then m2 else m1
def plusV (m1 : Bool) (V1 : Int) (m2 : Bool) (V2 : Int) : Int := if m1 = m2 then V1 + V2 else if V1 < V2 then V2 - V1 else V1 - V2
theorem plus_sgn (m1 : Bool) (V1 : Int) (m2 : Bool) (V2 : Int) : sgn (plusM m1 V1 m2 V2) (plusV m1 V1 m2 V2) = sgn m1 V1 + sgn m2 V2 := by
  unfold plusM plusV sgn
  cases m1 <;> cases m2 <;> simp <;> (first | omega | (split <;> simp <;> omega))
theorem plus_bd {m1 : Bool} {V1 : Int} {m2 : Bool} {V2 B : Int} (h1 : 0 ≤ V1) (h2 : 0 ≤ V2) (hb : V1 + V2 < B) : 0 ≤ plusV m1 V1 m2 V2 ∧ plusV m1 V1 m2 V2 < B := by
  unfold plusV
  split
  · omega
  · split <;> omega

set_option maxHeartbeats 4000000 in
set_option maxRecDepth 100000 in
theorem plus3 (m1 : Bool) (V1 : Int) (m2 : Bool) (V2 : Int) (w : World) (h1 : 0 ≤ V1) (h2 : 0 ≤ V2) (hs : V1 + V2 < 65536 ^ 20) :
    Calls Try.prog 10 #[iv m1 V1, iv m2 V2] w fun e w' => e = .returned (iv (plusM m1 V1 m2 V2) (plusV m1 V1 m2 V2)) ∧ Below w.heap.size w w' := by
  have HS : Hid (V1 + V2 < 65536 ^ 20) := hs
  clear hs
  by_cases hm : m1 = m2
  · have hb : (m1 == m2) = true := by simp [hm]
    rw [show plusM m1 V1 m2 V2 = m1 by simp [plusM, hm], show plusV m1 V1 m2 V2 = V1 + V2 by simp [plusV, hm]]
    clear hm
    go_enter Try.func10, Try.ntmps10
    go_upto_region 1 with (fail)
    refine wp_on (Pr := fun W => Hid (Has w [(w.heap.size + 2, il false 0), (w.heap.size + 1, il m2 V2), (w.heap.size, il m1 V1)] W)) ((((Has.none w).new (il m1 V1) _ _ rfl).new_at (il m2 V2) _ _ _ (by simp) rfl).new_at (il false 0) _ _ _ (by simp) rfl) ?_
    intro W F
    have f0 := (F.out.get w.heap.size (il m1 V1) (by simp)).cell 0 (.bool m1) rfl
    have f1 := (F.out.get (w.heap.size + 1) (il m2 V2) (by simp)).cell 0 (.bool m2) rfl
    go_upto_region 2 with (fail)
    clear f0 f1 hb
    refine wp_region_noPanic ?_
    refine wp_region_held_drew (S := fun w' => Row w' w.heap.size (il m1 V1) ∧ Row w' (w.heap.size + 1) (il m2 V2)) (by kernel_rfl) ?_ (fun hHeld => ?_)
    · exact ⟨F.out.get w.heap.size (il m1 V1) (by simp), F.out.get (w.heap.size + 1) (il m2 V2) (by simp)⟩
    refine wpAnyH_take (i := 0) (v := ?_) rfl (by kernel_rfl) (by kernel_rfl) (by kernel_rfl) (fun _ _ _ h => h) (Or.inl ⟨by rfl, ?_⟩) (by assumption) ?_
    rotate_left
    · (intro wS hSw; have g0 := hSw.1.cell 0 (.bool m1) rfl; have g1 := hSw.2.cell 0 (.bool m2) rfl; go_simp; try with_reducible rfl)
    change wpAnyH _ _ _ _ _ _ _ (Act.put _ (some 10) _) _
    simp only [Act.put, List.setIfInBounds_toArray, List.set_cons_zero, List.set_cons_succ]
    refine wpAnyH_take (i := 1) (v := ?_) rfl (by kernel_rfl) (by kernel_rfl) (by kernel_rfl) (fun _ _ _ h => h) (Or.inl ⟨by rfl, ?_⟩) (by assumption) ?_
    rotate_left
    · (intro wS hSw; have g0 := hSw.1.cell 0 (.bool m1) rfl; have g1 := hSw.2.cell 0 (.bool m2) rfl; go_simp; try with_reducible rfl)
    change wpAnyH _ _ _ _ _ _ _ (Act.put _ (some 11) _) _
    simp only [Act.put, List.setIfInBounds_toArray, List.set_cons_zero, List.set_cons_succ]
    refine wpAnyH_take (i := 2) (v := ?_) rfl (by kernel_rfl) (by kernel_rfl) (by kernel_rfl) (fun _ _ _ h => h) (Or.inl ⟨by rfl, ?_⟩) (by assumption) ?_
    rotate_left
    · (intro wS hSw; have g0 := hSw.1.cell 0 (.bool m1) rfl; have g1 := hSw.2.cell 0 (.bool m2) rfl; go_simp; try with_reducible rfl)
    change wpAnyH _ _ _ _ _ _ _ (Act.put _ (some 12) _) _
    simp only [Act.put, List.setIfInBounds_toArray, List.set_cons_zero, List.set_cons_succ]
    refine wpAnyH_take (i := 3) (v := .agg (dl (wd V1)).toArray) rfl (by kernel_rfl) (by kernel_rfl) (by kernel_rfl) (fun _ _ _ h => h) (yieldsIf_load_mid (by rfl) _ _ rfl (w.heap.size) 1 rfl (dl (wd V1)) _ (fun wS hSw => hSw.1.size) Try.underlying25 rfl (by rw [dl_len]; exact dig_info)) (by assumption) ?_
    change wpAnyH _ _ _ _ _ _ _ (Act.put _ (some 13) _) _
    simp only [Act.put, List.setIfInBounds_toArray, List.set_cons_zero, List.set_cons_succ]
    refine wpAnyH_take (i := 4) (v := ?_) rfl (by kernel_rfl) (by kernel_rfl) (by kernel_rfl) (fun _ _ _ h => h) (Or.inl ⟨by rfl, ?_⟩) (by assumption) ?_
    rotate_left
    · (intro wS hSw; have g0 := hSw.1.cell 0 (.bool m1) rfl; have g1 := hSw.2.cell 0 (.bool m2) rfl; go_simp; try with_reducible rfl)
    change wpAnyH _ _ _ _ _ _ _ (Act.put _ (some 14) _) _
    simp only [Act.put, List.setIfInBounds_toArray, List.set_cons_zero, List.set_cons_succ]
    refine wpAnyH_take (i := 5) (v := .agg (dl (wd V2)).toArray) rfl (by kernel_rfl) (by kernel_rfl) (by kernel_rfl) (fun _ _ _ h => h) (yieldsIf_load_mid (by rfl) _ _ rfl (w.heap.size + 1) 1 rfl (dl (wd V2)) _ (fun wS hSw => hSw.2.size) Try.underlying25 rfl (by rw [dl_len]; exact dig_info)) (by assumption) ?_
    change wpAnyH _ _ _ _ _ _ _ (Act.put _ (some 15) _) _
    simp only [Act.put, List.setIfInBounds_toArray, List.set_cons_zero, List.set_cons_succ]
    refine wpAnyH_named ?_
    intro A hA
    clear hHeld
    refine wpAnyH_inv (I := fun L a W => ∃ (c6 c7 c8 : Bool) (s16 s17 : Value), L = #[true, true, true, true, true, true, c6, c7, c8] ∧ a = ((A.put (some 16) s16).put (some 17) s17) ∧ Hid (Has w [(w.heap.size + 2, bif c8 then il (m1) (V1 + V2) else il false 0), (w.heap.size + 1, il m2 V2), (w.heap.size, il m1 V1)] W) ∧ Hid (c6 = true → s16 = dv (V1 + V2)) ∧ Hid (c7 = true → s17 = iv (m1) (V1 + V2))) ?hS ?hz (by kernel_rfl) ?hsteps ?hend _ _ _ _ (by decide) ?h0
    case hS => rintro L a W ⟨c6, c7, c8, s16, s17, -, -, K, -⟩; exact (fun h => h) (⟨K.out.get w.heap.size (il m1 V1) (by simp), K.out.get (w.heap.size + 1) (il m2 V2) (by simp)⟩)
    case hz => rintro L a W ⟨c6, c7, c8, s16, s17, rfl, -⟩; rfl
    case h0 => exact ⟨false, false, false, A.eval (.tmp 16), A.eval (.tmp 17), rfl, by simp only [put_self], F.out.drew, fun h => Bool.noConfusion h, fun h => Bool.noConfusion h⟩
    case hend =>
      rintro L a W ⟨c6, c7, c8, s16, s17, rfl, rfl, K, k6, k7⟩ hall
      obtain rfl : c6 = true := hall 6
      obtain rfl : c7 = true := hall 7
      obtain rfl : c8 = true := hall 8
      obtain rfl := k6.out rfl
      obtain rfl := k7.out rfl
      clear k6 k7
      refine NoPanic.normal ?_
      subst hA
      simp only [Act.put, List.setIfInBounds_toArray, List.set_cons_zero, List.set_cons_succ]
      have F9 : Hid (Has w [(w.heap.size + 2, il (m1) (V1 + V2)), (w.heap.size + 1, il m2 V2), (w.heap.size, il m1 V1)] W) := K
      clear K
      go_wp2_with (fail)
      refine bodyPost_ret (v := iv (m1) (V1 + V2)) ?_ rfl ⟨rfl, F9.out.2.2⟩
      have hl := int_back (F9.out.get (w.heap.size + 2) (il (m1) (V1 + V2)) (by simp))
      simp [results, Try.results10, asAddr, hl]
    case hsteps =>
      refine StepsI.skip (i := 0) (by rintro L a W ⟨c6, c7, c8, s16, s17, rfl, -⟩; rfl) ?_
      refine StepsI.skip (i := 1) (by rintro L a W ⟨c6, c7, c8, s16, s17, rfl, -⟩; rfl) ?_
      refine StepsI.skip (i := 2) (by rintro L a W ⟨c6, c7, c8, s16, s17, rfl, -⟩; rfl) ?_
      refine StepsI.skip (i := 3) (by rintro L a W ⟨c6, c7, c8, s16, s17, rfl, -⟩; rfl) ?_
      refine StepsI.skip (i := 4) (by rintro L a W ⟨c6, c7, c8, s16, s17, rfl, -⟩; rfl) ?_
      refine StepsI.skip (i := 5) (by rintro L a W ⟨c6, c7, c8, s16, s17, rfl, -⟩; rfl) ?_
      refine StepsI.cons (i := 6) rfl ?_ ?_
      · rintro L a W ⟨c6, c7, c8, s16, s17, rfl, rfl, K, k6, k7⟩ h0 hd KK hK
        obtain rfl : c6 = false := h0
        subst hA
        simp only [Act.put, List.setIfInBounds_toArray, List.set_cons_zero, List.set_cons_succ]
        clear hd
        go_simp
        refine (plus_dv V1 V2 _ h1 h2 HS.out).mono ?_
        rintro e w2 ⟨rfl, hw2⟩
        (try go_wp2_with (fail))
        exact hK.out _ _ ⟨true, c7, c8, dv (V1 + V2), s17, rfl, by simp only [Act.put, List.setIfInBounds_toArray, List.set_cons_zero, List.set_cons_succ], K.out.later hw2, fun _ => rfl, k7.out⟩
      refine StepsI.cons (i := 7) rfl ?_ ?_
      · rintro L a W ⟨c6, c7, c8, s16, s17, rfl, rfl, K, k6, k7⟩ h0 hd KK hK
        obtain rfl : c7 = false := h0
        obtain rfl : c6 = true := hd ⟨6, .data⟩ (by simp) rfl
        have e6 := k6.out rfl
        subst e6
        subst hA
        simp only [Act.put, List.setIfInBounds_toArray, List.set_cons_zero, List.set_cons_succ]
        clear hd
        rw [if_pos (by rfl)]
        refine int_wp_build (m1) (V1 + V2) _ _ rfl (some 17) rfl rfl rfl ?_
        simp only [Act.put, List.setIfInBounds_toArray, List.set_cons_zero, List.set_cons_succ]
        exact hK.out _ _ ⟨true, true, c8, dv (V1 + V2), iv (m1) (V1 + V2), rfl, by simp only [Act.put, List.setIfInBounds_toArray, List.set_cons_zero, List.set_cons_succ], K, fun _ => rfl, fun _ => rfl⟩
      refine StepsI.cons (i := 8) rfl ?_ ?_
      · rintro L a W ⟨c6, c7, c8, s16, s17, rfl, rfl, K, k6, k7⟩ h0 hd KK hK
        obtain rfl : c8 = false := h0
        obtain rfl : c7 = true := hd ⟨7, .data⟩ (by simp) rfl
        have e7 := k7.out rfl
        subst e7
        subst hA
        simp only [Act.put, List.setIfInBounds_toArray, List.set_cons_zero, List.set_cons_succ]
        clear hd
        rw [if_pos (by rfl)]
        refine int_wp_store (V1 + V2) (m1) (K.out.get (w.heap.size + 2) _ (List.mem_cons_self ..)) (bif_len _ _ _ _ _) _ _ rfl rfl rfl rfl ?_
        exact hK.out _ _ ⟨c6, true, true, s16, iv (m1) (V1 + V2), rfl, by simp only [Act.put, List.setIfInBounds_toArray, List.set_cons_zero, List.set_cons_succ], K.out.put _ (by simp [il_len]) (by omega) (by simp), k6.out, fun _ => rfl⟩
      exact StepsI.nil
  · have hb : (m1 == m2) = false := by simp [hm]
    have HX : Hid (V1 < 65536 ^ 20 ∧ V2 < 65536 ^ 20) := by have := HS.out; unfold Hid; omega
    by_cases hl : V1 < V2
    · rw [show plusM m1 V1 m2 V2 = m2 by simp [plusM, hm, hl], show plusV m1 V1 m2 V2 = V2 - V1 by simp [plusV, hm, hl]]
      clear hm
      go_enter Try.func10, Try.ntmps10
      go_upto_region 1 with (fail)
      refine wp_on (Pr := fun W => Hid (Has w [(w.heap.size + 2, il false 0), (w.heap.size + 1, il m2 V2), (w.heap.size, il m1 V1)] W)) ((((Has.none w).new (il m1 V1) _ _ rfl).new_at (il m2 V2) _ _ _ (by simp) rfl).new_at (il false 0) _ _ _ (by simp) rfl) ?_
      intro W F
      have f0 := (F.out.get w.heap.size (il m1 V1) (by simp)).cell 0 (.bool m1) rfl
      have f1 := (F.out.get (w.heap.size + 1) (il m2 V2) (by simp)).cell 0 (.bool m2) rfl
      go_upto_region 3 with (fail)
      clear f0 f1 hb
      refine wp_region_lit ?_
      refine wpList_one fun K' hK' => ?_
      rw [if_pos (by rfl)]
      go_simp
      refine hK'.out _ _ ?_
      clear hK' K'
      refine size_load (F.out.get w.heap.size (il m1 V1) (by simp)) rfl _ rfl rfl ?_
      simp only [Act.put, List.setIfInBounds_toArray, List.set_cons_zero, List.set_cons_succ]
      refine wpList_one fun K' hK' => ?_
      rw [if_pos (by rfl)]
      go_simp
      refine hK'.out _ _ ?_
      clear hK' K'
      refine size_load (F.out.get (w.heap.size + 1) (il m2 V2) (by simp)) rfl _ rfl rfl ?_
      simp only [Act.put, List.setIfInBounds_toArray, List.set_cons_zero, List.set_cons_succ]
      refine wpList_one fun K' hK' => ?_
      rw [if_pos (by rfl)]
      go_simp
      refine (less_dv V1 V2 _ h1 HX.out.1 h2 HX.out.2).mono ?_
      rintro e w5 ⟨rfl, hw5⟩
      have F5 : Hid (Has w _ w5) := F.out.later hw5
      clear F hw5
      (try go_wp2_with (fail))
      refine hK'.out _ _ ?_
      clear hK' K'
      go_upto_region 4 with (fail)
      refine wp_region_noPanic ?_
      refine wp_region_held_drew (S := fun w' => Row w' w.heap.size (il m1 V1) ∧ Row w' (w.heap.size + 1) (il m2 V2)) (by kernel_rfl) ?_ (fun hHeld => ?_)
      · exact ⟨F5.out.get w.heap.size (il m1 V1) (by simp), F5.out.get (w.heap.size + 1) (il m2 V2) (by simp)⟩
      refine wpAnyH_take (i := 0) (v := ?_) rfl (by kernel_rfl) (by kernel_rfl) (by kernel_rfl) (fun _ _ _ h => h) (Or.inl ⟨by rfl, ?_⟩) (by assumption) ?_
      rotate_left
      · (intro wS hSw; have g0 := hSw.1.cell 0 (.bool m1) rfl; have g1 := hSw.2.cell 0 (.bool m2) rfl; go_simp; try with_reducible rfl)
      change wpAnyH _ _ _ _ _ _ _ (Act.put _ (some 23) _) _
      simp only [Act.put, List.setIfInBounds_toArray, List.set_cons_zero, List.set_cons_succ]
      refine wpAnyH_take (i := 1) (v := ?_) rfl (by kernel_rfl) (by kernel_rfl) (by kernel_rfl) (fun _ _ _ h => h) (Or.inl ⟨by rfl, ?_⟩) (by assumption) ?_
      rotate_left
      · (intro wS hSw; have g0 := hSw.1.cell 0 (.bool m1) rfl; have g1 := hSw.2.cell 0 (.bool m2) rfl; go_simp; try with_reducible rfl)
      change wpAnyH _ _ _ _ _ _ _ (Act.put _ (some 24) _) _
      simp only [Act.put, List.setIfInBounds_toArray, List.set_cons_zero, List.set_cons_succ]
      refine wpAnyH_take (i := 2) (v := ?_) rfl (by kernel_rfl) (by kernel_rfl) (by kernel_rfl) (fun _ _ _ h => h) (Or.inl ⟨by rfl, ?_⟩) (by assumption) ?_
      rotate_left
      · (intro wS hSw; have g0 := hSw.1.cell 0 (.bool m1) rfl; have g1 := hSw.2.cell 0 (.bool m2) rfl; go_simp; try with_reducible rfl)
      change wpAnyH _ _ _ _ _ _ _ (Act.put _ (some 25) _) _
      simp only [Act.put, List.setIfInBounds_toArray, List.set_cons_zero, List.set_cons_succ]
      refine wpAnyH_take (i := 3) (v := .agg (dl (wd V2)).toArray) rfl (by kernel_rfl) (by kernel_rfl) (by kernel_rfl) (fun _ _ _ h => h) (yieldsIf_load_mid (by rfl) _ _ rfl (w.heap.size + 1) 1 rfl (dl (wd V2)) _ (fun wS hSw => hSw.2.size) Try.underlying25 rfl (by rw [dl_len]; exact dig_info)) (by assumption) ?_
      change wpAnyH _ _ _ _ _ _ _ (Act.put _ (some 26) _) _
      simp only [Act.put, List.setIfInBounds_toArray, List.set_cons_zero, List.set_cons_succ]
      refine wpAnyH_take (i := 4) (v := ?_) rfl (by kernel_rfl) (by kernel_rfl) (by kernel_rfl) (fun _ _ _ h => h) (Or.inl ⟨by rfl, ?_⟩) (by assumption) ?_
      rotate_left
      · (intro wS hSw; have g0 := hSw.1.cell 0 (.bool m1) rfl; have g1 := hSw.2.cell 0 (.bool m2) rfl; go_simp; try with_reducible rfl)
      change wpAnyH _ _ _ _ _ _ _ (Act.put _ (some 27) _) _
      simp only [Act.put, List.setIfInBounds_toArray, List.set_cons_zero, List.set_cons_succ]
      refine wpAnyH_take (i := 5) (v := .agg (dl (wd V1)).toArray) rfl (by kernel_rfl) (by kernel_rfl) (by kernel_rfl) (fun _ _ _ h => h) (yieldsIf_load_mid (by rfl) _ _ rfl (w.heap.size) 1 rfl (dl (wd V1)) _ (fun wS hSw => hSw.1.size) Try.underlying25 rfl (by rw [dl_len]; exact dig_info)) (by assumption) ?_
      change wpAnyH _ _ _ _ _ _ _ (Act.put _ (some 28) _) _
      simp only [Act.put, List.setIfInBounds_toArray, List.set_cons_zero, List.set_cons_succ]
      refine wpAnyH_named ?_
      intro A hA
      clear hHeld
      refine wpAnyH_inv (I := fun L a W => ∃ (c6 c7 c8 : Bool) (s29 s30 : Value), L = #[true, true, true, true, true, true, c6, c7, c8] ∧ a = ((A.put (some 29) s29).put (some 30) s30) ∧ Hid (Has w [(w.heap.size + 2, bif c8 then il (m2) (V2 - V1) else il false 0), (w.heap.size + 1, il m2 V2), (w.heap.size, il m1 V1)] W) ∧ Hid (c6 = true → s29 = dv (V2 - V1)) ∧ Hid (c7 = true → s30 = iv (m2) (V2 - V1))) ?hS ?hz (by kernel_rfl) ?hsteps ?hend _ _ _ _ (by decide) ?h0
      case hS => rintro L a W ⟨c6, c7, c8, s29, s30, -, -, K, -⟩; exact (fun h => h) (⟨K.out.get w.heap.size (il m1 V1) (by simp), K.out.get (w.heap.size + 1) (il m2 V2) (by simp)⟩)
      case hz => rintro L a W ⟨c6, c7, c8, s29, s30, rfl, -⟩; rfl
      case h0 => exact ⟨false, false, false, A.eval (.tmp 29), A.eval (.tmp 30), rfl, by simp only [put_self], F5.out.drew, fun h => Bool.noConfusion h, fun h => Bool.noConfusion h⟩
      case hend =>
        rintro L a W ⟨c6, c7, c8, s29, s30, rfl, rfl, K, k6, k7⟩ hall
        obtain rfl : c6 = true := hall 6
        obtain rfl : c7 = true := hall 7
        obtain rfl : c8 = true := hall 8
        obtain rfl := k6.out rfl
        obtain rfl := k7.out rfl
        clear k6 k7
        refine NoPanic.normal ?_
        subst hA
        simp only [Act.put, List.setIfInBounds_toArray, List.set_cons_zero, List.set_cons_succ]
        have F9 : Hid (Has w [(w.heap.size + 2, il (m2) (V2 - V1)), (w.heap.size + 1, il m2 V2), (w.heap.size, il m1 V1)] W) := K
        clear K
        go_wp2_with (fail)
        refine bodyPost_ret (v := iv (m2) (V2 - V1)) ?_ rfl ⟨rfl, F9.out.2.2⟩
        have hl := int_back (F9.out.get (w.heap.size + 2) (il (m2) (V2 - V1)) (by simp))
        simp [results, Try.results10, asAddr, hl]
      case hsteps =>
        refine StepsI.skip (i := 0) (by rintro L a W ⟨c6, c7, c8, s29, s30, rfl, -⟩; rfl) ?_
        refine StepsI.skip (i := 1) (by rintro L a W ⟨c6, c7, c8, s29, s30, rfl, -⟩; rfl) ?_
        refine StepsI.skip (i := 2) (by rintro L a W ⟨c6, c7, c8, s29, s30, rfl, -⟩; rfl) ?_
        refine StepsI.skip (i := 3) (by rintro L a W ⟨c6, c7, c8, s29, s30, rfl, -⟩; rfl) ?_
        refine StepsI.skip (i := 4) (by rintro L a W ⟨c6, c7, c8, s29, s30, rfl, -⟩; rfl) ?_
        refine StepsI.skip (i := 5) (by rintro L a W ⟨c6, c7, c8, s29, s30, rfl, -⟩; rfl) ?_
        refine StepsI.cons (i := 6) rfl ?_ ?_
        · rintro L a W ⟨c6, c7, c8, s29, s30, rfl, rfl, K, k6, k7⟩ h0 hd KK hK
          obtain rfl : c6 = false := h0
          subst hA
          simp only [Act.put, List.setIfInBounds_toArray, List.set_cons_zero, List.set_cons_succ]
          clear hd
          go_simp
          refine (minus_dv V2 V1 _ h1 (by omega) HX.out.2).mono ?_
          rintro e w2 ⟨rfl, hw2⟩
          (try go_wp2_with (fail))
          exact hK.out _ _ ⟨true, c7, c8, dv (V2 - V1), s30, rfl, by simp only [Act.put, List.setIfInBounds_toArray, List.set_cons_zero, List.set_cons_succ], K.out.later hw2, fun _ => rfl, k7.out⟩
        refine StepsI.cons (i := 7) rfl ?_ ?_
        · rintro L a W ⟨c6, c7, c8, s29, s30, rfl, rfl, K, k6, k7⟩ h0 hd KK hK
          obtain rfl : c7 = false := h0
          obtain rfl : c6 = true := hd ⟨6, .data⟩ (by simp) rfl
          have e6 := k6.out rfl
          subst e6
          subst hA
          simp only [Act.put, List.setIfInBounds_toArray, List.set_cons_zero, List.set_cons_succ]
          clear hd
          rw [if_pos (by rfl)]
          refine int_wp_build (m2) (V2 - V1) _ _ rfl (some 30) rfl rfl rfl ?_
          simp only [Act.put, List.setIfInBounds_toArray, List.set_cons_zero, List.set_cons_succ]
          exact hK.out _ _ ⟨true, true, c8, dv (V2 - V1), iv (m2) (V2 - V1), rfl, by simp only [Act.put, List.setIfInBounds_toArray, List.set_cons_zero, List.set_cons_succ], K, fun _ => rfl, fun _ => rfl⟩
        refine StepsI.cons (i := 8) rfl ?_ ?_
        · rintro L a W ⟨c6, c7, c8, s29, s30, rfl, rfl, K, k6, k7⟩ h0 hd KK hK
          obtain rfl : c8 = false := h0
          obtain rfl : c7 = true := hd ⟨7, .data⟩ (by simp) rfl
          have e7 := k7.out rfl
          subst e7
          subst hA
          simp only [Act.put, List.setIfInBounds_toArray, List.set_cons_zero, List.set_cons_succ]
          clear hd
          rw [if_pos (by rfl)]
          refine int_wp_store (V2 - V1) (m2) (K.out.get (w.heap.size + 2) _ (List.mem_cons_self ..)) (bif_len _ _ _ _ _) _ _ rfl rfl rfl rfl ?_
          exact hK.out _ _ ⟨c6, true, true, s29, iv (m2) (V2 - V1), rfl, by simp only [Act.put, List.setIfInBounds_toArray, List.set_cons_zero, List.set_cons_succ], K.out.put _ (by simp [il_len]) (by omega) (by simp), k6.out, fun _ => rfl⟩
        exact StepsI.nil
    · rw [show plusM m1 V1 m2 V2 = m1 by simp [plusM, hm, hl], show plusV m1 V1 m2 V2 = V1 - V2 by simp [plusV, hm, hl]]
      clear hm
      go_enter Try.func10, Try.ntmps10
      go_upto_region 1 with (fail)
      refine wp_on (Pr := fun W => Hid (Has w [(w.heap.size + 2, il false 0), (w.heap.size + 1, il m2 V2), (w.heap.size, il m1 V1)] W)) ((((Has.none w).new (il m1 V1) _ _ rfl).new_at (il m2 V2) _ _ _ (by simp) rfl).new_at (il false 0) _ _ _ (by simp) rfl) ?_
      intro W F
      have f0 := (F.out.get w.heap.size (il m1 V1) (by simp)).cell 0 (.bool m1) rfl
      have f1 := (F.out.get (w.heap.size + 1) (il m2 V2) (by simp)).cell 0 (.bool m2) rfl
      go_upto_region 3 with (fail)
      clear f0 f1 hb
      refine wp_region_lit ?_
      refine wpList_one fun K' hK' => ?_
      rw [if_pos (by rfl)]
      go_simp
      refine hK'.out _ _ ?_
      clear hK' K'
      refine size_load (F.out.get w.heap.size (il m1 V1) (by simp)) rfl _ rfl rfl ?_
      simp only [Act.put, List.setIfInBounds_toArray, List.set_cons_zero, List.set_cons_succ]
      refine wpList_one fun K' hK' => ?_
      rw [if_pos (by rfl)]
      go_simp
      refine hK'.out _ _ ?_
      clear hK' K'
      refine size_load (F.out.get (w.heap.size + 1) (il m2 V2) (by simp)) rfl _ rfl rfl ?_
      simp only [Act.put, List.setIfInBounds_toArray, List.set_cons_zero, List.set_cons_succ]
      refine wpList_one fun K' hK' => ?_
      rw [if_pos (by rfl)]
      go_simp
      refine (less_dv V1 V2 _ h1 HX.out.1 h2 HX.out.2).mono ?_
      rintro e w5 ⟨rfl, hw5⟩
      have F5 : Hid (Has w _ w5) := F.out.later hw5
      clear F hw5
      (try go_wp2_with (fail))
      refine hK'.out _ _ ?_
      clear hK' K'
      go_upto_region 5 with (fail)
      refine wp_region_noPanic ?_
      refine wp_region_held_drew (S := fun w' => Row w' w.heap.size (il m1 V1) ∧ Row w' (w.heap.size + 1) (il m2 V2)) (by kernel_rfl) ?_ (fun hHeld => ?_)
      · exact ⟨F5.out.get w.heap.size (il m1 V1) (by simp), F5.out.get (w.heap.size + 1) (il m2 V2) (by simp)⟩
      refine wpAnyH_take (i := 0) (v := ?_) rfl (by kernel_rfl) (by kernel_rfl) (by kernel_rfl) (fun _ _ _ h => h) (Or.inl ⟨by rfl, ?_⟩) (by assumption) ?_
      rotate_left
      · (intro wS hSw; have g0 := hSw.1.cell 0 (.bool m1) rfl; have g1 := hSw.2.cell 0 (.bool m2) rfl; go_simp; try with_reducible rfl)
      change wpAnyH _ _ _ _ _ _ _ (Act.put _ (some 31) _) _
      simp only [Act.put, List.setIfInBounds_toArray, List.set_cons_zero, List.set_cons_succ]
      refine wpAnyH_take (i := 1) (v := ?_) rfl (by kernel_rfl) (by kernel_rfl) (by kernel_rfl) (fun _ _ _ h => h) (Or.inl ⟨by rfl, ?_⟩) (by assumption) ?_
      rotate_left
      · (intro wS hSw; have g0 := hSw.1.cell 0 (.bool m1) rfl; have g1 := hSw.2.cell 0 (.bool m2) rfl; go_simp; try with_reducible rfl)
      change wpAnyH _ _ _ _ _ _ _ (Act.put _ (some 32) _) _
      simp only [Act.put, List.setIfInBounds_toArray, List.set_cons_zero, List.set_cons_succ]
      refine wpAnyH_take (i := 2) (v := ?_) rfl (by kernel_rfl) (by kernel_rfl) (by kernel_rfl) (fun _ _ _ h => h) (Or.inl ⟨by rfl, ?_⟩) (by assumption) ?_
      rotate_left
      · (intro wS hSw; have g0 := hSw.1.cell 0 (.bool m1) rfl; have g1 := hSw.2.cell 0 (.bool m2) rfl; go_simp; try with_reducible rfl)
      change wpAnyH _ _ _ _ _ _ _ (Act.put _ (some 33) _) _
      simp only [Act.put, List.setIfInBounds_toArray, List.set_cons_zero, List.set_cons_succ]
      refine wpAnyH_take (i := 3) (v := .agg (dl (wd V1)).toArray) rfl (by kernel_rfl) (by kernel_rfl) (by kernel_rfl) (fun _ _ _ h => h) (yieldsIf_load_mid (by rfl) _ _ rfl (w.heap.size) 1 rfl (dl (wd V1)) _ (fun wS hSw => hSw.1.size) Try.underlying25 rfl (by rw [dl_len]; exact dig_info)) (by assumption) ?_
      change wpAnyH _ _ _ _ _ _ _ (Act.put _ (some 34) _) _
      simp only [Act.put, List.setIfInBounds_toArray, List.set_cons_zero, List.set_cons_succ]
      refine wpAnyH_take (i := 4) (v := ?_) rfl (by kernel_rfl) (by kernel_rfl) (by kernel_rfl) (fun _ _ _ h => h) (Or.inl ⟨by rfl, ?_⟩) (by assumption) ?_
      rotate_left
      · (intro wS hSw; have g0 := hSw.1.cell 0 (.bool m1) rfl; have g1 := hSw.2.cell 0 (.bool m2) rfl; go_simp; try with_reducible rfl)
      change wpAnyH _ _ _ _ _ _ _ (Act.put _ (some 35) _) _
      simp only [Act.put, List.setIfInBounds_toArray, List.set_cons_zero, List.set_cons_succ]
      refine wpAnyH_take (i := 5) (v := .agg (dl (wd V2)).toArray) rfl (by kernel_rfl) (by kernel_rfl) (by kernel_rfl) (fun _ _ _ h => h) (yieldsIf_load_mid (by rfl) _ _ rfl (w.heap.size + 1) 1 rfl (dl (wd V2)) _ (fun wS hSw => hSw.2.size) Try.underlying25 rfl (by rw [dl_len]; exact dig_info)) (by assumption) ?_
      change wpAnyH _ _ _ _ _ _ _ (Act.put _ (some 36) _) _
      simp only [Act.put, List.setIfInBounds_toArray, List.set_cons_zero, List.set_cons_succ]
      refine wpAnyH_named ?_
      intro A hA
      clear hHeld
      refine wpAnyH_inv (I := fun L a W => ∃ (c6 c7 c8 : Bool) (s37 s38 : Value), L = #[true, true, true, true, true, true, c6, c7, c8] ∧ a = ((A.put (some 37) s37).put (some 38) s38) ∧ Hid (Has w [(w.heap.size + 2, bif c8 then il (m1) (V1 - V2) else il false 0), (w.heap.size + 1, il m2 V2), (w.heap.size, il m1 V1)] W) ∧ Hid (c6 = true → s37 = dv (V1 - V2)) ∧ Hid (c7 = true → s38 = iv (m1) (V1 - V2))) ?hS ?hz (by kernel_rfl) ?hsteps ?hend _ _ _ _ (by decide) ?h0
      case hS => rintro L a W ⟨c6, c7, c8, s37, s38, -, -, K, -⟩; exact (fun h => h) (⟨K.out.get w.heap.size (il m1 V1) (by simp), K.out.get (w.heap.size + 1) (il m2 V2) (by simp)⟩)
      case hz => rintro L a W ⟨c6, c7, c8, s37, s38, rfl, -⟩; rfl
      case h0 => exact ⟨false, false, false, A.eval (.tmp 37), A.eval (.tmp 38), rfl, by simp only [put_self], F5.out.drew, fun h => Bool.noConfusion h, fun h => Bool.noConfusion h⟩
      case hend =>
        rintro L a W ⟨c6, c7, c8, s37, s38, rfl, rfl, K, k6, k7⟩ hall
        obtain rfl : c6 = true := hall 6
        obtain rfl : c7 = true := hall 7
        obtain rfl : c8 = true := hall 8
        obtain rfl := k6.out rfl
        obtain rfl := k7.out rfl
        clear k6 k7
        refine NoPanic.normal ?_
        subst hA
        simp only [Act.put, List.setIfInBounds_toArray, List.set_cons_zero, List.set_cons_succ]
        have F9 : Hid (Has w [(w.heap.size + 2, il (m1) (V1 - V2)), (w.heap.size + 1, il m2 V2), (w.heap.size, il m1 V1)] W) := K
        clear K
        go_wp2_with (fail)
        refine bodyPost_ret (v := iv (m1) (V1 - V2)) ?_ rfl ⟨rfl, F9.out.2.2⟩
        have hl := int_back (F9.out.get (w.heap.size + 2) (il (m1) (V1 - V2)) (by simp))
        simp [results, Try.results10, asAddr, hl]
      case hsteps =>
        refine StepsI.skip (i := 0) (by rintro L a W ⟨c6, c7, c8, s37, s38, rfl, -⟩; rfl) ?_
        refine StepsI.skip (i := 1) (by rintro L a W ⟨c6, c7, c8, s37, s38, rfl, -⟩; rfl) ?_
        refine StepsI.skip (i := 2) (by rintro L a W ⟨c6, c7, c8, s37, s38, rfl, -⟩; rfl) ?_
        refine StepsI.skip (i := 3) (by rintro L a W ⟨c6, c7, c8, s37, s38, rfl, -⟩; rfl) ?_
        refine StepsI.skip (i := 4) (by rintro L a W ⟨c6, c7, c8, s37, s38, rfl, -⟩; rfl) ?_
        refine StepsI.skip (i := 5) (by rintro L a W ⟨c6, c7, c8, s37, s38, rfl, -⟩; rfl) ?_
        refine StepsI.cons (i := 6) rfl ?_ ?_
        · rintro L a W ⟨c6, c7, c8, s37, s38, rfl, rfl, K, k6, k7⟩ h0 hd KK hK
          obtain rfl : c6 = false := h0
          subst hA
          simp only [Act.put, List.setIfInBounds_toArray, List.set_cons_zero, List.set_cons_succ]
          clear hd
          go_simp
          refine (minus_dv V1 V2 _ h2 (by omega) HX.out.1).mono ?_
          rintro e w2 ⟨rfl, hw2⟩
          (try go_wp2_with (fail))
          exact hK.out _ _ ⟨true, c7, c8, dv (V1 - V2), s38, rfl, by simp only [Act.put, List.setIfInBounds_toArray, List.set_cons_zero, List.set_cons_succ], K.out.later hw2, fun _ => rfl, k7.out⟩
        refine StepsI.cons (i := 7) rfl ?_ ?_
        · rintro L a W ⟨c6, c7, c8, s37, s38, rfl, rfl, K, k6, k7⟩ h0 hd KK hK
          obtain rfl : c7 = false := h0
          obtain rfl : c6 = true := hd ⟨6, .data⟩ (by simp) rfl
          have e6 := k6.out rfl
          subst e6
          subst hA
          simp only [Act.put, List.setIfInBounds_toArray, List.set_cons_zero, List.set_cons_succ]
          clear hd
          rw [if_pos (by rfl)]
          refine int_wp_build (m1) (V1 - V2) _ _ rfl (some 38) rfl rfl rfl ?_
          simp only [Act.put, List.setIfInBounds_toArray, List.set_cons_zero, List.set_cons_succ]
          exact hK.out _ _ ⟨true, true, c8, dv (V1 - V2), iv (m1) (V1 - V2), rfl, by simp only [Act.put, List.setIfInBounds_toArray, List.set_cons_zero, List.set_cons_succ], K, fun _ => rfl, fun _ => rfl⟩
        refine StepsI.cons (i := 8) rfl ?_ ?_
        · rintro L a W ⟨c6, c7, c8, s37, s38, rfl, rfl, K, k6, k7⟩ h0 hd KK hK
          obtain rfl : c8 = false := h0
          obtain rfl : c7 = true := hd ⟨7, .data⟩ (by simp) rfl
          have e7 := k7.out rfl
          subst e7
          subst hA
          simp only [Act.put, List.setIfInBounds_toArray, List.set_cons_zero, List.set_cons_succ]
          clear hd
          rw [if_pos (by rfl)]
          refine int_wp_store (V1 - V2) (m1) (K.out.get (w.heap.size + 2) _ (List.mem_cons_self ..)) (bif_len _ _ _ _ _) _ _ rfl rfl rfl rfl ?_
          exact hK.out _ _ ⟨c6, true, true, s37, iv (m1) (V1 - V2), rfl, by simp only [Act.put, List.setIfInBounds_toArray, List.set_cons_zero, List.set_cons_succ], K.out.put _ (by simp [il_len]) (by omega) (by simp), k6.out, fun _ => rfl⟩
        exact StepsI.nil

set_option maxHeartbeats 4000000 in
set_option maxRecDepth 100000 in
theorem times3 (m1 : Bool) (V1 : Int) (m2 : Bool) (V2 : Int) (w : World) (h1 : 0 ≤ V1) (h2 : 0 ≤ V2) (h3 : V1 < 340282366920938463463374607431768211456) (h4 : V2 < 340282366920938463463374607431768211456) :
    Calls Try.prog 15 #[iv m1 V1, iv m2 V2] w fun e w' => e = .returned (iv (m1 != m2) (V1 * V2)) ∧ Below w.heap.size w w' := by
  go_enter Try.func15, Try.ntmps15
  go_upto_region 1 with (fail)
  refine wp_on (Pr := fun W => Hid (Has w [(w.heap.size + 2, il false 0), (w.heap.size + 1, il m2 V2), (w.heap.size, il m1 V1)] W)) ((((Has.none w).new (il m1 V1) _ _ rfl).new_at (il m2 V2) _ _ _ (by simp) rfl).new_at (il false 0) _ _ _ (by simp) rfl) ?_
  intro W F
  refine wp_region_noPanic ?_
  refine wp_region_held_drew (S := fun w' => Row w' w.heap.size (il m1 V1) ∧ Row w' (w.heap.size + 1) (il m2 V2)) (by kernel_rfl) ?_ (fun hHeld => ?_)
  · exact ⟨F.out.get w.heap.size (il m1 V1) (by simp), F.out.get (w.heap.size + 1) (il m2 V2) (by simp)⟩
  refine wpAnyH_take (i := 0) (v := ?_) rfl (by kernel_rfl) (by kernel_rfl) (by kernel_rfl) (fun _ _ _ h => h) (Or.inl ⟨by rfl, ?_⟩) (by assumption) ?_
  rotate_left
  · (intro wS hSw; have g0 := hSw.1.cell 0 (.bool m1) rfl; have g1 := hSw.2.cell 0 (.bool m2) rfl; go_simp; try with_reducible rfl)
  change wpAnyH _ _ _ _ _ _ _ (Act.put _ (some 5) _) _
  simp only [Act.put, List.setIfInBounds_toArray, List.set_cons_zero, List.set_cons_succ]
  refine wpAnyH_take (i := 1) (v := ?_) rfl (by kernel_rfl) (by kernel_rfl) (by kernel_rfl) (fun _ _ _ h => h) (Or.inl ⟨by rfl, ?_⟩) (by assumption) ?_
  rotate_left
  · (intro wS hSw; have g0 := hSw.1.cell 0 (.bool m1) rfl; have g1 := hSw.2.cell 0 (.bool m2) rfl; go_simp; try with_reducible rfl)
  change wpAnyH _ _ _ _ _ _ _ (Act.put _ (some 6) _) _
  simp only [Act.put, List.setIfInBounds_toArray, List.set_cons_zero, List.set_cons_succ]
  refine wpAnyH_take (i := 2) (v := ?_) rfl (by kernel_rfl) (by kernel_rfl) (by kernel_rfl) (fun _ _ _ h => h) (Or.inl ⟨by rfl, ?_⟩) (by assumption) ?_
  rotate_left
  · (intro wS hSw; have g0 := hSw.1.cell 0 (.bool m1) rfl; have g1 := hSw.2.cell 0 (.bool m2) rfl; go_simp; try with_reducible rfl)
  change wpAnyH _ _ _ _ _ _ _ (Act.put _ (some 7) _) _
  simp only [Act.put, List.setIfInBounds_toArray, List.set_cons_zero, List.set_cons_succ]
  refine wpAnyH_take (i := 3) (v := ?_) rfl (by kernel_rfl) (by kernel_rfl) (by kernel_rfl) (fun _ _ _ h => h) (Or.inl ⟨by rfl, ?_⟩) (by assumption) ?_
  rotate_left
  · (intro wS hSw; have g0 := hSw.1.cell 0 (.bool m1) rfl; have g1 := hSw.2.cell 0 (.bool m2) rfl; go_simp; try with_reducible rfl)
  change wpAnyH _ _ _ _ _ _ _ (Act.put _ (some 8) _) _
  simp only [Act.put, List.setIfInBounds_toArray, List.set_cons_zero, List.set_cons_succ]
  refine wpAnyH_take (i := 4) (v := ?_) rfl (by kernel_rfl) (by kernel_rfl) (by kernel_rfl) (fun _ _ _ h => h) (Or.inl ⟨by rfl, ?_⟩) (by assumption) ?_
  rotate_left
  · (intro wS hSw; have g0 := hSw.1.cell 0 (.bool m1) rfl; have g1 := hSw.2.cell 0 (.bool m2) rfl; go_simp; try with_reducible rfl)
  change wpAnyH _ _ _ _ _ _ _ (Act.put _ (some 9) _) _
  simp only [Act.put, List.setIfInBounds_toArray, List.set_cons_zero, List.set_cons_succ]
  refine wpAnyH_take (i := 5) (v := ?_) rfl (by kernel_rfl) (by kernel_rfl) (by kernel_rfl) (fun _ _ _ h => h) (Or.inl ⟨by rfl, ?_⟩) (by assumption) ?_
  rotate_left
  · (intro wS hSw; have g0 := hSw.1.cell 0 (.bool m1) rfl; have g1 := hSw.2.cell 0 (.bool m2) rfl; go_simp; try with_reducible rfl)
  change wpAnyH _ _ _ _ _ _ _ (Act.put _ (some 10) _) _
  simp only [Act.put, List.setIfInBounds_toArray, List.set_cons_zero, List.set_cons_succ]
  refine wpAnyH_take (i := 6) (v := .agg (dl (wd V1)).toArray) rfl (by kernel_rfl) (by kernel_rfl) (by kernel_rfl) (fun _ _ _ h => h) (yieldsIf_load_mid (by rfl) _ _ rfl (w.heap.size) 1 rfl (dl (wd V1)) _ (fun wS hSw => hSw.1.size) Try.underlying25 rfl (by rw [dl_len]; exact dig_info)) (by assumption) ?_
  change wpAnyH _ _ _ _ _ _ _ (Act.put _ (some 11) _) _
  simp only [Act.put, List.setIfInBounds_toArray, List.set_cons_zero, List.set_cons_succ]
  refine wpAnyH_take (i := 7) (v := ?_) rfl (by kernel_rfl) (by kernel_rfl) (by kernel_rfl) (fun _ _ _ h => h) (Or.inl ⟨by rfl, ?_⟩) (by assumption) ?_
  rotate_left
  · (intro wS hSw; have g0 := hSw.1.cell 0 (.bool m1) rfl; have g1 := hSw.2.cell 0 (.bool m2) rfl; go_simp; try with_reducible rfl)
  change wpAnyH _ _ _ _ _ _ _ (Act.put _ (some 12) _) _
  simp only [Act.put, List.setIfInBounds_toArray, List.set_cons_zero, List.set_cons_succ]
  refine wpAnyH_take (i := 8) (v := .agg (dl (wd V2)).toArray) rfl (by kernel_rfl) (by kernel_rfl) (by kernel_rfl) (fun _ _ _ h => h) (yieldsIf_load_mid (by rfl) _ _ rfl (w.heap.size + 1) 1 rfl (dl (wd V2)) _ (fun wS hSw => hSw.2.size) Try.underlying25 rfl (by rw [dl_len]; exact dig_info)) (by assumption) ?_
  change wpAnyH _ _ _ _ _ _ _ (Act.put _ (some 13) _) _
  simp only [Act.put, List.setIfInBounds_toArray, List.set_cons_zero, List.set_cons_succ]
  refine wpAnyH_named ?_
  intro A hA
  clear hHeld
  refine wpAnyH_inv (I := fun L a W => ∃ (c9 c10 c11 : Bool) (s14 s15 : Value), L = #[true, true, true, true, true, true, true, true, true, c9, c10, c11] ∧ a = ((A.put (some 14) s14).put (some 15) s15) ∧ Hid (Has w [(w.heap.size + 2, bif c11 then il (m1 != m2) (V1 * V2) else il false 0), (w.heap.size + 1, il m2 V2), (w.heap.size, il m1 V1)] W) ∧ Hid (c9 = true → s14 = dv (V1 * V2)) ∧ Hid (c10 = true → s15 = iv (m1 != m2) (V1 * V2))) ?hS ?hz (by kernel_rfl) ?hsteps ?hend _ _ _ _ (by decide) ?h0
  case hS => rintro L a W ⟨c9, c10, c11, s14, s15, -, -, K, -⟩; exact (fun h => h) (⟨K.out.get w.heap.size (il m1 V1) (by simp), K.out.get (w.heap.size + 1) (il m2 V2) (by simp)⟩)
  case hz => rintro L a W ⟨c9, c10, c11, s14, s15, rfl, -⟩; rfl
  case h0 => exact ⟨false, false, false, A.eval (.tmp 14), A.eval (.tmp 15), rfl, by simp only [put_self], F.out.drew, fun h => Bool.noConfusion h, fun h => Bool.noConfusion h⟩
  case hend =>
    rintro L a W ⟨c9, c10, c11, s14, s15, rfl, rfl, K, k9, k10⟩ hall
    obtain rfl : c9 = true := hall 9
    obtain rfl : c10 = true := hall 10
    obtain rfl : c11 = true := hall 11
    obtain rfl := k9.out rfl
    obtain rfl := k10.out rfl
    clear k9 k10
    refine NoPanic.normal ?_
    subst hA
    simp only [Act.put, List.setIfInBounds_toArray, List.set_cons_zero, List.set_cons_succ]
    have F9 : Hid (Has w [(w.heap.size + 2, il (m1 != m2) (V1 * V2)), (w.heap.size + 1, il m2 V2), (w.heap.size, il m1 V1)] W) := K
    clear K
    go_wp2_with (fail)
    refine bodyPost_ret (v := iv (m1 != m2) (V1 * V2)) ?_ rfl ⟨rfl, F9.out.2.2⟩
    have hl := int_back (F9.out.get (w.heap.size + 2) (il (m1 != m2) (V1 * V2)) (by simp))
    simp [results, Try.results15, asAddr, hl]
  case hsteps =>
    refine StepsI.skip (i := 0) (by rintro L a W ⟨c9, c10, c11, s14, s15, rfl, -⟩; rfl) ?_
    refine StepsI.skip (i := 1) (by rintro L a W ⟨c9, c10, c11, s14, s15, rfl, -⟩; rfl) ?_
    refine StepsI.skip (i := 2) (by rintro L a W ⟨c9, c10, c11, s14, s15, rfl, -⟩; rfl) ?_
    refine StepsI.skip (i := 3) (by rintro L a W ⟨c9, c10, c11, s14, s15, rfl, -⟩; rfl) ?_
    refine StepsI.skip (i := 4) (by rintro L a W ⟨c9, c10, c11, s14, s15, rfl, -⟩; rfl) ?_
    refine StepsI.skip (i := 5) (by rintro L a W ⟨c9, c10, c11, s14, s15, rfl, -⟩; rfl) ?_
    refine StepsI.skip (i := 6) (by rintro L a W ⟨c9, c10, c11, s14, s15, rfl, -⟩; rfl) ?_
    refine StepsI.skip (i := 7) (by rintro L a W ⟨c9, c10, c11, s14, s15, rfl, -⟩; rfl) ?_
    refine StepsI.skip (i := 8) (by rintro L a W ⟨c9, c10, c11, s14, s15, rfl, -⟩; rfl) ?_
    refine StepsI.cons (i := 9) rfl ?_ ?_
    · rintro L a W ⟨c9, c10, c11, s14, s15, rfl, rfl, K, k9, k10⟩ h0 hd KK hK
      obtain rfl : c9 = false := h0
      subst hA
      simp only [Act.put, List.setIfInBounds_toArray, List.set_cons_zero, List.set_cons_succ]
      clear hd
      go_simp
      refine (times_dv V1 V2 _ h1 h3 h2 h4).mono ?_
      rintro e w2 ⟨rfl, hw2⟩
      (try go_wp2_with (fail))
      exact hK.out _ _ ⟨true, c10, c11, dv (V1 * V2), s15, rfl, by simp only [Act.put, List.setIfInBounds_toArray, List.set_cons_zero, List.set_cons_succ], K.out.later hw2, fun _ => rfl, k10.out⟩
    refine StepsI.cons (i := 10) rfl ?_ ?_
    · rintro L a W ⟨c9, c10, c11, s14, s15, rfl, rfl, K, k9, k10⟩ h0 hd KK hK
      obtain rfl : c10 = false := h0
      obtain rfl : c9 = true := hd ⟨9, .data⟩ (by simp) rfl
      have e9 := k9.out rfl
      subst e9
      subst hA
      simp only [Act.put, List.setIfInBounds_toArray, List.set_cons_zero, List.set_cons_succ]
      clear hd
      rw [if_pos (by rfl)]
      refine int_wp_build (m1 != m2) (V1 * V2) _ _ rfl (some 15) rfl rfl rfl ?_
      simp only [Act.put, List.setIfInBounds_toArray, List.set_cons_zero, List.set_cons_succ]
      exact hK.out _ _ ⟨true, true, c11, dv (V1 * V2), iv (m1 != m2) (V1 * V2), rfl, by simp only [Act.put, List.setIfInBounds_toArray, List.set_cons_zero, List.set_cons_succ], K, fun _ => rfl, fun _ => rfl⟩
    refine StepsI.cons (i := 11) rfl ?_ ?_
    · rintro L a W ⟨c9, c10, c11, s14, s15, rfl, rfl, K, k9, k10⟩ h0 hd KK hK
      obtain rfl : c11 = false := h0
      obtain rfl : c10 = true := hd ⟨10, .data⟩ (by simp) rfl
      have e10 := k10.out rfl
      subst e10
      subst hA
      simp only [Act.put, List.setIfInBounds_toArray, List.set_cons_zero, List.set_cons_succ]
      clear hd
      rw [if_pos (by rfl)]
      refine int_wp_store (V1 * V2) (m1 != m2) (K.out.get (w.heap.size + 2) _ (List.mem_cons_self ..)) (bif_len _ _ _ _ _) _ _ rfl rfl rfl rfl ?_
      exact hK.out _ _ ⟨c9, true, true, s14, iv (m1 != m2) (V1 * V2), rfl, by simp only [Act.put, List.setIfInBounds_toArray, List.set_cons_zero, List.set_cons_succ], K.out.put _ (by simp [il_len]) (by omega) (by simp), k9.out, fun _ => rfl⟩
    exact StepsI.nil

end Go.Proofs.Ytfbkmifgnpapbaa
