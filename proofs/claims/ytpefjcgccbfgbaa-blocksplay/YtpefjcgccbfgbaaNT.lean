/-
  What the laws ask ahead of everything else (first), at this program. Conditions: none.
-/
import Derived.Test.YtpefjcgccbfgbaaNS
import Derived.Test.YtpefjcgccbfgbaaNQ
import Derived.Deep.RegionHeld3
import Derived.Deep.RegionWith
namespace Go.Proofs.Ytpefjcgccbfgbaa.Bk
open Go.RowKit

abbrev tP : ByteArray := ⟨#[112]⟩
abbrev tA : ByteArray := ⟨#[97]⟩
abbrev tB : ByteArray := ⟨#[98]⟩
def lst (l : List Int) : Nat → Int := fun i => l.getD i 0
def zF : List Zn := [⟨10, 4, 2, 0⟩, ⟨5, 0, 0, 0⟩]
def rA : Rw := ⟨tP, tA, 0, lst [6, 5]⟩
def rB : Rw := ⟨tP, tB, 0, lst [2]⟩
theorem fitF : fits zF = true := by decide +kernel
theorem befAB : bef tP tB 0 tP tA 0 = false := by
  unfold bef
  rw [if_pos (eqS_refl _), if_neg (by decide +kernel), ltS_is]
  decide +kernel
theorem putF1 : putE zF [] tP tA 0 (lst [6, 5]) = 0 ∧ putL zF [] tP tA 0 (lst [6, 5]) = [rA] := by
  have e : putE zF [] tP tA 0 (lst [6, 5]) = 0 := by decide +kernel
  refine ⟨e, ?_⟩
  unfold putL putR
  rw [if_pos e, if_neg (by decide +kernel)]
  rfl
theorem putF2 : putE zF [rA] tP tB 0 (lst [3]) = 20 ∧ putL zF [rA] tP tB 0 (lst [3]) = [rA] := by
  have e : putE zF [rA] tP tB 0 (lst [3]) = 20 := by decide +kernel
  refine ⟨e, ?_⟩
  unfold putL
  rw [if_neg (by rw [e]; decide)]
theorem putF3 : putE zF [rA] tP tB 0 (lst [2]) = 0 ∧ putL zF [rA] tP tB 0 (lst [2]) = [rA, rB] := by
  have e : putE zF [rA] tP tB 0 (lst [2]) = 0 := by decide +kernel
  refine ⟨e, ?_⟩
  unfold putL putR
  rw [if_pos e, if_neg (by decide +kernel), show wth tP tB 0 [rA] = [rA] by
    unfold wth
    rw [List.filter_cons, if_pos (by decide +kernel)]
    rfl]
  show (if bef tP tB 0 tP tA 0 = true then _ else _) = _
  rw [befAB, if_neg (by simp)]
  rfl
theorem relF : Bk.rel tP [rA, rB] = [] := by
  unfold Bk.rel
  rw [List.filter_cons, if_neg (by decide +kernel), List.filter_cons, if_neg (by decide +kernel)]
  rfl
theorem freF : freT zF [] 0 0 = 8 ∧ freT zF [rA, rB] 0 0 = 0 ∧ roomV zF 0 1 = 4 := by decide +kernel
theorem hldF : hld tP tA 0 [rA, rB] = lst [6, 5] := by
  show (if _ then _ else _) = _
  rw [if_pos (by decide +kernel)]
  rfl
theorem sumF : sumTo (lst [6, 5]) 8 = 11 := by decide +kernel
theorem sameF : sameM [] [rA, rB] = false := rfl
theorem gdF (c : ByteArray) (h : c.size ≤ 100) : GdK tP c 0 := ⟨⟨by unfold maxLen; decide, by unfold maxLen; omega⟩, by decide⟩
theorem ordF1 : Ord zF [rA] := by have := (Ord.nil (fits_all fitF)).put tP tA 0 (lst [6, 5]); rwa [putF1.2] at this
theorem ordF3 : Ord zF [rA, rB] := by have := ordF1.put tP tB 0 (lst [2]); rwa [putF3.2] at this
theorem rdF {W : World} {b : Nat} (h : Cs W b [.int .i64 10, .int .i64 4, .int .i64 2, .int .i64 0, .int .i64 5, .int .i64 0, .int .i64 0, .int .i64 0]) : RdZ W (.slice (some ⟨b, 0, none⟩) 2 2) zF := by
  refine ⟨some ⟨b, 0, none⟩, 2, rfl, by decide, by unfold maxLen; decide, fun j z hj => ?_⟩
  rcases j with _ | _ | j
  · cases hj
    exact ⟨b, 0, rfl, h.1 0 _ rfl, h.1 1 _ rfl, h.1 2 _ rfl, h.1 3 _ rfl⟩
  · cases hj
    exact ⟨b, 0, rfl, h.1 4 _ rfl, h.1 5 _ rfl, h.1 6 _ rfl, h.1 7 _ rfl⟩
  · simp [zF] at hj
theorem rdN (W : World) : RdZ W (.slice none 0 0) [] := ⟨none, 0, rfl, by simp, by unfold maxLen; omega, fun j z hj => by simp at hj⟩

set_option maxHeartbeats 4000000 in
set_option maxRecDepth 100000 in
theorem first_is (w : World) : Calls Try.prog 6 #[] w fun e w' => e = .returned (.bool true) ∧ Below w.heap.size w w' := by
  have N2 : Hid (∀ w1, Calls Try.prog 8 #[.slice none 0 0] w1 fun e w' => e = .returned (.tuple #[.pointer none, .int .i64 2]) ∧ Below w1.heap.size w1 w') := fun w1 => (new_is w1 (rdN w1)).mono fun e w' ⟨hb, h⟩ => by
    rcases h with ⟨h, -⟩ | ⟨-, h⟩
    · exact absurd h (by decide)
    · exact ⟨h, hb⟩
  go_enter Try.func6, Try.ntmps6
  go_wp2_with (fail)
  have q1 : Cs (w.alloc (.cells #[.int .i64 10, .int .i64 4, .int .i64 2, .int .i64 0, .int .i64 5, .int .i64 0, .int .i64 0, .int .i64 0] 35)) w.heap.size [.int .i64 10, .int .i64 4, .int .i64 2, .int .i64 0, .int .i64 5, .int .i64 0, .int .i64 0, .int .i64 0] := Cs.new _ _ _ _ rfl
  have B0 : Below w.heap.size w (w.alloc (.cells #[.int .i64 10, .int .i64 4, .int .i64 2, .int .i64 0, .int .i64 5, .int .i64 0, .int .i64 0, .int .i64 0] 35)) := by go_grown
  refine (new_is _ (rdF q1)).mono ?_
  rintro e w1 ⟨hb, (⟨-, b, m, rfl, T1, lb, lm⟩ | ⟨hf, -⟩)⟩
  case inr => exact absurd hf (by rw [fitF]; simp)
  have HB1 := B0.trans (hb.mono B0.size)
  have LM : Hid (w.heap.size ≤ m) := Nat.le_trans B0.size lm
  clear q1 B0 hb lb lm
  go_wp2_with (fail)
  refine (N2.out _).mono ?_
  rintro e w2 ⟨rfl, hb⟩
  have T2 := Tb.later hb T1
  have HB2 := HB1.trans (hb.mono HB1.size)
  clear T1 HB1 hb N2
  go_upto_region 4 with (fail)
  have qa : Cs ((w2.alloc (.cells #[.string ⟨#[112]⟩, .string ⟨#[97]⟩, .int .i64 0] 45)).alloc (.cells #[.string ⟨#[112]⟩, .string ⟨#[98]⟩, .int .i64 0] 45)) w2.heap.size [.string ⟨#[112]⟩, .string ⟨#[97]⟩, .int .i64 0] := Cs.alloc (Cs.new _ _ _ _ rfl) _
  have qb : Cs ((w2.alloc (.cells #[.string ⟨#[112]⟩, .string ⟨#[97]⟩, .int .i64 0] 45)).alloc (.cells #[.string ⟨#[112]⟩, .string ⟨#[98]⟩, .int .i64 0] 45)) (w2.heap.size + 1) [.string ⟨#[112]⟩, .string ⟨#[98]⟩, .int .i64 0] := Cs.new _ _ _ _ (by simp)
  have T3 := (T2.alloc (.cells #[.string ⟨#[112]⟩, .string ⟨#[97]⟩, .int .i64 0] 45)).alloc (.cells #[.string ⟨#[112]⟩, .string ⟨#[98]⟩, .int .i64 0] 45)
  have HB3 : Below w.heap.size w ((w2.alloc (.cells #[.string ⟨#[112]⟩, .string ⟨#[97]⟩, .int .i64 0] 45)).alloc (.cells #[.string ⟨#[112]⟩, .string ⟨#[98]⟩, .int .i64 0] 45)) := (HB2.alloc HB2.size _).alloc (Nat.le_trans HB2.size (by rw [World.size_alloc]; exact Nat.le_succ _)) _
  obtain ⟨pa, hpa⟩ : ∃ pa, pa = w2.heap.size := ⟨_, rfl⟩
  obtain ⟨pb, hpb⟩ : ∃ pb, pb = w2.heap.size + 1 := ⟨_, rfl⟩
  rw [← hpb] at qb ⊢
  rw [← hpa] at qa ⊢
  clear hpa hpb T2 HB2
  generalize (w2.alloc (.cells #[.string ⟨#[112]⟩, .string ⟨#[97]⟩, .int .i64 0] 45)).alloc (.cells #[.string ⟨#[112]⟩, .string ⟨#[98]⟩, .int .i64 0] 45) = W3 at *
  have P1 : Calls Try.prog 16 #[tbV b, ownV tP tA 0, .agg #[.int .i64 6, .int .i64 5, .int .i64 0, .int .i64 0, .int .i64 0, .int .i64 0, .int .i64 0, .int .i64 0]] W3 fun e w' => e = .returned (.int .i64 0) ∧ Tb w' b m zF [rA] ∧ W3.grownBy w' (some m) := by
    have := put_is tP tA 0 (lst [6, 5]) W3 T3 (Ord.nil (fits_all fitF)).sound (gdF tA (by decide)) (by unfold maxLen; decide)
    rwa [putF1.1, putF1.2] at this
  have oa0 := qa.1 0 _ rfl
  have oa1 := qa.1 1 _ rfl
  have oa2 := qa.1 2 _ rfl
  go_wp2_with (fail)
  refine P1.mono ?_
  rintro e w4 ⟨rfl, T4, hg⟩
  have na := T3.map.ne (qa.1 0 _ rfl)
  have nb := T3.map.ne (qb.1 0 _ rfl)
  have qa4 := qa.grown hg (fun e => na (by cases e; rfl))
  have qb4 := qb.grown hg (fun e => nb (by cases e; rfl))
  have HB4 := HB3.grown hg HB3.size (fun k e => by cases e; exact LM.out)
  clear P1 oa0 oa1 oa2 hg na nb qa qb HB3 T3
  have P2 : Calls Try.prog 16 #[tbV b, ownV tP tB 0, .agg #[.int .i64 3, .int .i64 0, .int .i64 0, .int .i64 0, .int .i64 0, .int .i64 0, .int .i64 0, .int .i64 0]] w4 fun e w' => e = .returned (.int .i64 20) ∧ Tb w' b m zF [rA] ∧ w4.grownBy w' (some m) := by
    have := put_is tP tB 0 (lst [3]) w4 T4 ordF1.sound (gdF tB (by decide)) (by unfold maxLen; decide)
    rwa [putF2.1, putF2.2] at this
  have oa0 := qb4.1 0 _ rfl
  have oa1 := qb4.1 1 _ rfl
  have oa2 := qb4.1 2 _ rfl
  go_wp2_with (fail)
  refine P2.mono ?_
  rintro e w5 ⟨rfl, T5, hg⟩
  have na := T4.map.ne (qa4.1 0 _ rfl)
  have nb := T4.map.ne (qb4.1 0 _ rfl)
  have qa5 := qa4.grown hg (fun e => na (by cases e; rfl))
  have qb5 := qb4.grown hg (fun e => nb (by cases e; rfl))
  have HB5 := HB4.grown hg HB4.size (fun k e => by cases e; exact LM.out)
  clear P2 oa0 oa1 oa2 hg na nb qa4 qb4 HB4 T4
  have P3 : Calls Try.prog 16 #[tbV b, ownV tP tB 0, .agg #[.int .i64 2, .int .i64 0, .int .i64 0, .int .i64 0, .int .i64 0, .int .i64 0, .int .i64 0, .int .i64 0]] w5 fun e w' => e = .returned (.int .i64 0) ∧ Tb w' b m zF [rA, rB] ∧ w5.grownBy w' (some m) := by
    have := put_is tP tB 0 (lst [2]) w5 T5 ordF1.sound (gdF tB (by decide)) (by unfold maxLen; decide)
    rwa [putF3.1, putF3.2] at this
  have oa0 := qb5.1 0 _ rfl
  have oa1 := qb5.1 1 _ rfl
  have oa2 := qb5.1 2 _ rfl
  go_wp2_with (fail)
  refine P3.mono ?_
  rintro e w6 ⟨rfl, T6, hg⟩
  have na := T5.map.ne (qa5.1 0 _ rfl)
  have nb := T5.map.ne (qb5.1 0 _ rfl)
  have qa6 := qa5.grown hg (fun e => na (by cases e; rfl))
  have qb6 := qb5.grown hg (fun e => nb (by cases e; rfl))
  have HB6 := HB5.grown hg HB5.size (fun k e => by cases e; exact LM.out)
  clear P3 oa0 oa1 oa2 hg na nb qa5 qb5 HB5 T5
  have C9 : Calls Try.prog 15 #[tbV b, .int .i64 9] w6 fun e W' => ∃ v, e = .returned v ∧ RdW W' v [rA, rB] ∧ Below w6.heap.size w6 W' := lawrows_is 9 (by omega) w6 T6 ordF3.sorted (by decide)
  go_wp2_with (fail)
  refine C9.mono ?_
  rintro e w7 ⟨rv, rfl, rd, hb⟩
  obtain ⟨ra, rcap, rfl, rc1, rc2, rc3⟩ := rd
  obtain ⟨-, rb, ro, rfl, R0⟩ := rc3 0 rA rfl
  have T7 := Tb.later hb T6
  have qa7 := Cs.later hb qa6
  have HB7 := HB6.trans (hb.mono HB6.size)
  clear C9 T6 qa6 qb6 HB6 hb rc3
  go_wp2_with (fail)
  refine (clone_is w7 T7).mono ?_
  rintro e w8 ⟨b', m', rfl, T8', lb', lm', hb⟩
  have T8 := Tb.later hb T7
  have qa8 := Cs.later hb qa7
  have R8 := R0.later hb
  have HB8 := HB7.trans (hb.mono HB7.size)
  have MM : Hid (m' ≠ m) := fun e => by have := T7.map.lt; omega
  clear T7 qa7 R0 HB7 hb lb' lm'
  go_wp2_with (fail)
  refine (release_is tP w8 T8 (by decide)).mono ?_
  rintro e w9 ⟨rfl, T9, hg⟩
  rw [relF] at T9
  have T9' := T8'.other T8.map MM.out hg
  have qa9 := qa8.grown hg (fun e => T8.map.ne (qa8.1 0 _ rfl) (by cases e; rfl))
  have R9 : El w9 rb (ro + 0 * 11) rA := R8.same (hg.block rb (by have := World.block_lt_of_cell? _ _ R8.1; simpa using this) (fun e => T8.map.ne R8.1 (by cases e; rfl)))
  have HB9 := HB8.grown hg HB8.size (fun k e => by cases e; exact LM.out)
  clear T8 T8' qa8 R8 HB8 hg MM LM
  simp only [relF]
  go_upto_region 10 with (fail)
  have R9' : El w9 rb ro rA := by simpa using R9
  have F1 : Hid (∀ w1, Below w9.heap.size w9 w1 → Calls Try.prog 13 #[tbV b, .int .i64 0, .int .i64 0] w1 fun e w' => e = .returned (.int .i64 8) ∧ Below w1.heap.size w1 w') := fun w1 hb => by have := free_is 0 0 w1 (Tb.later hb T9) (Ord.nil (fits_all fitF)).sound; rwa [freF.1] at this
  have F2 : Hid (∀ w1, Below w9.heap.size w9 w1 → Calls Try.prog 13 #[tbV b', .int .i64 0, .int .i64 0] w1 fun e w' => e = .returned (.int .i64 0) ∧ Below w1.heap.size w1 w') := fun w1 hb => by have := free_is 0 0 w1 (Tb.later hb T9') ordF3.sound; rwa [freF.2.1] at this
  have F3 : Hid (∀ w1, Below w9.heap.size w9 w1 → Calls Try.prog 20 #[tbV b, tbV b'] w1 fun e w' => e = .returned (.bool false) ∧ Below w1.heap.size w1 w') := fun w1 hb => same_is w1 (Tb.later hb T9) (Tb.later hb T9')
  have F4 : Hid (∀ w1, Below w9.heap.size w9 w1 → Calls Try.prog 17 #[tbV b', ownV tP tA 0] w1 fun e w' => e = .returned (spV (lst [6, 5])) ∧ Below w1.heap.size w1 w') := fun w1 hb => by have := held_is tP tA 0 w1 (Tb.later hb T9') (gdF tA (by decide)); rwa [hldF] at this
  have F5 : Hid (∀ w1, Calls Try.prog 27 #[spV (lst [6, 5])] w1 fun e w' => e = .returned (.int .i64 11) ∧ Below w1.heap.size w1 w') := fun w1 => by
    have := sum_is (lst [6, 5]) (fun i hi => by rcases (show i = 0 ∨ i = 1 ∨ i = 2 ∨ i = 3 ∨ i = 4 ∨ i = 5 ∨ i = 6 ∨ i = 7 by omega) with rfl | rfl | rfl | rfl | rfl | rfl | rfl | rfl <;> decide) w1
    rwa [sumF] at this
  have F6 : Hid (∀ w1, Below w9.heap.size w9 w1 → Calls Try.prog 12 #[tbV b', .int .i64 0, .int .i64 1] w1 fun e w' => e = .returned (.int .i64 4) ∧ Below w1.heap.size w1 w') := fun w1 hb => by have := troom_is 0 1 w1 (Tb.later hb T9'); rwa [freF.2.2] at this
  clear T9 T9' R9
  have BW : Hid (Below w9.heap.size w9 _) := Below.drew (Below.refl _ _)
  refine wp_region_noPanic ?_
  refine wp_region_held_drew (S := fun w' => Cs w' pa [.string ⟨#[112]⟩, .string ⟨#[97]⟩, .int .i64 0] ∧ El w' rb ro rA) (by kernel_rfl) ?_ (fun hHeld => ?_)
  · exact ⟨Cs.later BW.out qa9, (R9' : El w9 rb ro rA).later BW.out⟩
  generalize World.drew _ = wd0 at *
  refine wpAnyH_take (i := 0) (v := ?_) rfl (by kernel_rfl) (by kernel_rfl) (by kernel_rfl) (fun _ _ _ h => h) (Or.inl ⟨by rfl, ?_⟩) (by assumption) ?_
  rotate_left
  · (intro wS hSw; have a0 := hSw.1.1 0 _ rfl; have a1 := hSw.1.1 1 _ rfl; have a2 := hSw.1.1 2 _ rfl; have e0 : wS.cell? ⟨rb, ro, none⟩ = some (.string ⟨#[112]⟩) := hSw.2.1; have e1 : wS.cell? ⟨rb, ro + 1, none⟩ = some (.string ⟨#[97]⟩) := hSw.2.2.1; have e2 : wS.cell? ⟨rb, ro + 2, none⟩ = some (.int .i64 0) := hSw.2.2.2.1; go_simp; try with_reducible rfl)
  change wpAnyH _ _ _ _ _ _ _ (Act.put _ (some 47) _) _
  simp only [Act.put, List.setIfInBounds_toArray, List.set_cons_zero, List.set_cons_succ]
  refine wpAnyH_take (i := 1) (v := ?_) rfl (by kernel_rfl) (by kernel_rfl) (by kernel_rfl) (fun _ _ _ h => h) (Or.inl ⟨by rfl, ?_⟩) (by assumption) ?_
  rotate_left
  · (intro wS hSw; have a0 := hSw.1.1 0 _ rfl; have a1 := hSw.1.1 1 _ rfl; have a2 := hSw.1.1 2 _ rfl; have e0 : wS.cell? ⟨rb, ro, none⟩ = some (.string ⟨#[112]⟩) := hSw.2.1; have e1 : wS.cell? ⟨rb, ro + 1, none⟩ = some (.string ⟨#[97]⟩) := hSw.2.2.1; have e2 : wS.cell? ⟨rb, ro + 2, none⟩ = some (.int .i64 0) := hSw.2.2.2.1; go_simp; try with_reducible rfl)
  change wpAnyH _ _ _ _ _ _ _ (Act.put _ (some 48) _) _
  simp only [Act.put, List.setIfInBounds_toArray, List.set_cons_zero, List.set_cons_succ]
  refine wpAnyH_take (i := 2) (v := ?_) rfl (by kernel_rfl) (by kernel_rfl) (by kernel_rfl) (fun _ _ _ h => h) (Or.inl ⟨by rfl, ?_⟩) (by assumption) ?_
  rotate_left
  · (intro wS hSw; have a0 := hSw.1.1 0 _ rfl; have a1 := hSw.1.1 1 _ rfl; have a2 := hSw.1.1 2 _ rfl; have e0 : wS.cell? ⟨rb, ro, none⟩ = some (.string ⟨#[112]⟩) := hSw.2.1; have e1 : wS.cell? ⟨rb, ro + 1, none⟩ = some (.string ⟨#[97]⟩) := hSw.2.2.1; have e2 : wS.cell? ⟨rb, ro + 2, none⟩ = some (.int .i64 0) := hSw.2.2.2.1; go_simp; try with_reducible rfl)
  change wpAnyH _ _ _ _ _ _ _ (Act.put _ (some 49) _) _
  simp only [Act.put, List.setIfInBounds_toArray, List.set_cons_zero, List.set_cons_succ]
  refine wpAnyH_take (i := 3) (v := ?_) rfl (by kernel_rfl) (by kernel_rfl) (by kernel_rfl) (fun _ _ _ h => h) (Or.inl ⟨by rfl, ?_⟩) (by assumption) ?_
  rotate_left
  · (intro wS hSw; have a0 := hSw.1.1 0 _ rfl; have a1 := hSw.1.1 1 _ rfl; have a2 := hSw.1.1 2 _ rfl; have e0 : wS.cell? ⟨rb, ro, none⟩ = some (.string ⟨#[112]⟩) := hSw.2.1; have e1 : wS.cell? ⟨rb, ro + 1, none⟩ = some (.string ⟨#[97]⟩) := hSw.2.2.1; have e2 : wS.cell? ⟨rb, ro + 2, none⟩ = some (.int .i64 0) := hSw.2.2.2.1; go_simp; try with_reducible rfl)
  change wpAnyH _ _ _ _ _ _ _ (Act.put _ (some 50) _) _
  simp only [Act.put, List.setIfInBounds_toArray, List.set_cons_zero, List.set_cons_succ]
  refine wpAnyH_take (i := 4) (v := ?_) rfl (by kernel_rfl) (by kernel_rfl) (by kernel_rfl) (fun _ _ _ h => h) (Or.inl ⟨by rfl, ?_⟩) (by assumption) ?_
  rotate_left
  · (intro wS hSw; have a0 := hSw.1.1 0 _ rfl; have a1 := hSw.1.1 1 _ rfl; have a2 := hSw.1.1 2 _ rfl; have e0 : wS.cell? ⟨rb, ro, none⟩ = some (.string ⟨#[112]⟩) := hSw.2.1; have e1 : wS.cell? ⟨rb, ro + 1, none⟩ = some (.string ⟨#[97]⟩) := hSw.2.2.1; have e2 : wS.cell? ⟨rb, ro + 2, none⟩ = some (.int .i64 0) := hSw.2.2.2.1; go_simp; try with_reducible rfl)
  change wpAnyH _ _ _ _ _ _ _ (Act.put _ (some 51) _) _
  simp only [Act.put, List.setIfInBounds_toArray, List.set_cons_zero, List.set_cons_succ]
  refine wpAnyH_take (i := 5) (v := ?_) rfl (by kernel_rfl) (by kernel_rfl) (by kernel_rfl) (fun _ _ _ h => h) (Or.inl ⟨by rfl, ?_⟩) (by assumption) ?_
  rotate_left
  · (intro wS hSw; have a0 := hSw.1.1 0 _ rfl; have a1 := hSw.1.1 1 _ rfl; have a2 := hSw.1.1 2 _ rfl; have e0 : wS.cell? ⟨rb, ro, none⟩ = some (.string ⟨#[112]⟩) := hSw.2.1; have e1 : wS.cell? ⟨rb, ro + 1, none⟩ = some (.string ⟨#[97]⟩) := hSw.2.2.1; have e2 : wS.cell? ⟨rb, ro + 2, none⟩ = some (.int .i64 0) := hSw.2.2.2.1; go_simp; try with_reducible rfl)
  change wpAnyH _ _ _ _ _ _ _ (Act.put _ (some 52) _) _
  simp only [Act.put, List.setIfInBounds_toArray, List.set_cons_zero, List.set_cons_succ]
  refine wpAnyH_take (i := 6) (v := ?_) rfl (by kernel_rfl) (by kernel_rfl) (by kernel_rfl) (fun _ _ _ h => h) (Or.inl ⟨by rfl, ?_⟩) (by assumption) ?_
  rotate_left
  · (intro wS hSw; have a0 := hSw.1.1 0 _ rfl; have a1 := hSw.1.1 1 _ rfl; have a2 := hSw.1.1 2 _ rfl; have e0 : wS.cell? ⟨rb, ro, none⟩ = some (.string ⟨#[112]⟩) := hSw.2.1; have e1 : wS.cell? ⟨rb, ro + 1, none⟩ = some (.string ⟨#[97]⟩) := hSw.2.2.1; have e2 : wS.cell? ⟨rb, ro + 2, none⟩ = some (.int .i64 0) := hSw.2.2.2.1; go_simp; try with_reducible rfl)
  change wpAnyH _ _ _ _ _ _ _ (Act.put _ (some 53) _) _
  simp only [Act.put, List.setIfInBounds_toArray, List.set_cons_zero, List.set_cons_succ]
  refine wpAnyH_take (i := 7) (v := ?_) rfl (by kernel_rfl) (by kernel_rfl) (by kernel_rfl) (fun _ _ _ h => h) (Or.inl ⟨by rfl, ?_⟩) (by assumption) ?_
  rotate_left
  · (intro wS hSw; have a0 := hSw.1.1 0 _ rfl; have a1 := hSw.1.1 1 _ rfl; have a2 := hSw.1.1 2 _ rfl; have e0 : wS.cell? ⟨rb, ro, none⟩ = some (.string ⟨#[112]⟩) := hSw.2.1; have e1 : wS.cell? ⟨rb, ro + 1, none⟩ = some (.string ⟨#[97]⟩) := hSw.2.2.1; have e2 : wS.cell? ⟨rb, ro + 2, none⟩ = some (.int .i64 0) := hSw.2.2.2.1; go_simp; try with_reducible rfl)
  change wpAnyH _ _ _ _ _ _ _ (Act.put _ (some 54) _) _
  simp only [Act.put, List.setIfInBounds_toArray, List.set_cons_zero, List.set_cons_succ]
  refine wpAnyH_take (i := 8) (v := ?_) rfl (by kernel_rfl) (by kernel_rfl) (by kernel_rfl) (fun _ _ _ h => h) (Or.inl ⟨by rfl, ?_⟩) (by assumption) ?_
  rotate_left
  · (intro wS hSw; have a0 := hSw.1.1 0 _ rfl; have a1 := hSw.1.1 1 _ rfl; have a2 := hSw.1.1 2 _ rfl; have e0 : wS.cell? ⟨rb, ro, none⟩ = some (.string ⟨#[112]⟩) := hSw.2.1; have e1 : wS.cell? ⟨rb, ro + 1, none⟩ = some (.string ⟨#[97]⟩) := hSw.2.2.1; have e2 : wS.cell? ⟨rb, ro + 2, none⟩ = some (.int .i64 0) := hSw.2.2.2.1; go_simp; try with_reducible rfl)
  change wpAnyH _ _ _ _ _ _ _ (Act.put _ (some 55) _) _
  simp only [Act.put, List.setIfInBounds_toArray, List.set_cons_zero, List.set_cons_succ]
  refine wpAnyH_take (i := 9) (v := ?_) rfl (by kernel_rfl) (by kernel_rfl) (by kernel_rfl) (fun _ _ _ h => h) (Or.inl ⟨by rfl, ?_⟩) (by assumption) ?_
  rotate_left
  · (intro wS hSw; have a0 := hSw.1.1 0 _ rfl; have a1 := hSw.1.1 1 _ rfl; have a2 := hSw.1.1 2 _ rfl; have e0 : wS.cell? ⟨rb, ro, none⟩ = some (.string ⟨#[112]⟩) := hSw.2.1; have e1 : wS.cell? ⟨rb, ro + 1, none⟩ = some (.string ⟨#[97]⟩) := hSw.2.2.1; have e2 : wS.cell? ⟨rb, ro + 2, none⟩ = some (.int .i64 0) := hSw.2.2.2.1; go_simp; try with_reducible rfl)
  change wpAnyH _ _ _ _ _ _ _ (Act.put _ (some 56) _) _
  simp only [Act.put, List.setIfInBounds_toArray, List.set_cons_zero, List.set_cons_succ]
  refine wpAnyH_take (i := 10) (v := ?_) rfl (by kernel_rfl) (by kernel_rfl) (by kernel_rfl) (fun _ _ _ h => h) (Or.inl ⟨by rfl, ?_⟩) (by assumption) ?_
  rotate_left
  · (intro wS hSw; have a0 := hSw.1.1 0 _ rfl; have a1 := hSw.1.1 1 _ rfl; have a2 := hSw.1.1 2 _ rfl; have e0 : wS.cell? ⟨rb, ro, none⟩ = some (.string ⟨#[112]⟩) := hSw.2.1; have e1 : wS.cell? ⟨rb, ro + 1, none⟩ = some (.string ⟨#[97]⟩) := hSw.2.2.1; have e2 : wS.cell? ⟨rb, ro + 2, none⟩ = some (.int .i64 0) := hSw.2.2.2.1; go_simp; try with_reducible rfl)
  change wpAnyH _ _ _ _ _ _ _ (Act.put _ (some 57) _) _
  simp only [Act.put, List.setIfInBounds_toArray, List.set_cons_zero, List.set_cons_succ]
  refine wpAnyH_take (i := 11) (v := ?_) rfl (by kernel_rfl) (by kernel_rfl) (by kernel_rfl) (fun _ _ _ h => h) (Or.inl ⟨by rfl, ?_⟩) (by assumption) ?_
  rotate_left
  · (intro wS hSw; have a0 := hSw.1.1 0 _ rfl; have a1 := hSw.1.1 1 _ rfl; have a2 := hSw.1.1 2 _ rfl; have e0 : wS.cell? ⟨rb, ro, none⟩ = some (.string ⟨#[112]⟩) := hSw.2.1; have e1 : wS.cell? ⟨rb, ro + 1, none⟩ = some (.string ⟨#[97]⟩) := hSw.2.2.1; have e2 : wS.cell? ⟨rb, ro + 2, none⟩ = some (.int .i64 0) := hSw.2.2.2.1; go_simp; try with_reducible rfl)
  change wpAnyH _ _ _ _ _ _ _ (Act.put _ (some 58) _) _
  simp only [Act.put, List.setIfInBounds_toArray, List.set_cons_zero, List.set_cons_succ]
  refine wpAnyH_take (i := 12) (v := ?_) rfl (by kernel_rfl) (by kernel_rfl) (by kernel_rfl) (fun _ _ _ h => h) (Or.inl ⟨by rfl, ?_⟩) (by assumption) ?_
  rotate_left
  · (intro wS hSw; have a0 := hSw.1.1 0 _ rfl; have a1 := hSw.1.1 1 _ rfl; have a2 := hSw.1.1 2 _ rfl; have e0 : wS.cell? ⟨rb, ro, none⟩ = some (.string ⟨#[112]⟩) := hSw.2.1; have e1 : wS.cell? ⟨rb, ro + 1, none⟩ = some (.string ⟨#[97]⟩) := hSw.2.2.1; have e2 : wS.cell? ⟨rb, ro + 2, none⟩ = some (.int .i64 0) := hSw.2.2.2.1; go_simp; try with_reducible rfl)
  change wpAnyH _ _ _ _ _ _ _ (Act.put _ (some 59) _) _
  simp only [Act.put, List.setIfInBounds_toArray, List.set_cons_zero, List.set_cons_succ]
  refine wpAnyH_take (i := 13) (v := ?_) rfl (by kernel_rfl) (by kernel_rfl) (by kernel_rfl) (fun _ _ _ h => h) (Or.inl ⟨by rfl, ?_⟩) (by assumption) ?_
  rotate_left
  · (intro wS hSw; have a0 := hSw.1.1 0 _ rfl; have a1 := hSw.1.1 1 _ rfl; have a2 := hSw.1.1 2 _ rfl; have e0 : wS.cell? ⟨rb, ro, none⟩ = some (.string ⟨#[112]⟩) := hSw.2.1; have e1 : wS.cell? ⟨rb, ro + 1, none⟩ = some (.string ⟨#[97]⟩) := hSw.2.2.1; have e2 : wS.cell? ⟨rb, ro + 2, none⟩ = some (.int .i64 0) := hSw.2.2.2.1; go_simp; try with_reducible rfl)
  change wpAnyH _ _ _ _ _ _ _ (Act.put _ (some 60) _) _
  simp only [Act.put, List.setIfInBounds_toArray, List.set_cons_zero, List.set_cons_succ]
  refine wpAnyH_take (i := 14) (v := ?_) rfl (by kernel_rfl) (by kernel_rfl) (by kernel_rfl) (fun _ _ _ h => h) (Or.inl ⟨by rfl, ?_⟩) (by assumption) ?_
  rotate_left
  · (intro wS hSw; have a0 := hSw.1.1 0 _ rfl; have a1 := hSw.1.1 1 _ rfl; have a2 := hSw.1.1 2 _ rfl; have e0 : wS.cell? ⟨rb, ro, none⟩ = some (.string ⟨#[112]⟩) := hSw.2.1; have e1 : wS.cell? ⟨rb, ro + 1, none⟩ = some (.string ⟨#[97]⟩) := hSw.2.2.1; have e2 : wS.cell? ⟨rb, ro + 2, none⟩ = some (.int .i64 0) := hSw.2.2.2.1; go_simp; try with_reducible rfl)
  change wpAnyH _ _ _ _ _ _ _ (Act.put _ (some 61) _) _
  simp only [Act.put, List.setIfInBounds_toArray, List.set_cons_zero, List.set_cons_succ]
  refine wpAnyH_take (i := 15) (v := ?_) rfl (by kernel_rfl) (by kernel_rfl) (by kernel_rfl) (fun _ _ _ h => h) (Or.inl ⟨by rfl, ?_⟩) (by assumption) ?_
  rotate_left
  · (intro wS hSw; have a0 := hSw.1.1 0 _ rfl; have a1 := hSw.1.1 1 _ rfl; have a2 := hSw.1.1 2 _ rfl; have e0 : wS.cell? ⟨rb, ro, none⟩ = some (.string ⟨#[112]⟩) := hSw.2.1; have e1 : wS.cell? ⟨rb, ro + 1, none⟩ = some (.string ⟨#[97]⟩) := hSw.2.2.1; have e2 : wS.cell? ⟨rb, ro + 2, none⟩ = some (.int .i64 0) := hSw.2.2.2.1; go_simp; try with_reducible rfl)
  change wpAnyH _ _ _ _ _ _ _ (Act.put _ (some 62) _) _
  simp only [Act.put, List.setIfInBounds_toArray, List.set_cons_zero, List.set_cons_succ]
  refine wpAnyH_take (i := 16) (v := ?_) rfl (by kernel_rfl) (by kernel_rfl) (by kernel_rfl) (fun _ _ _ h => h) (Or.inl ⟨by rfl, ?_⟩) (by assumption) ?_
  rotate_left
  · (intro wS hSw; have a0 := hSw.1.1 0 _ rfl; have a1 := hSw.1.1 1 _ rfl; have a2 := hSw.1.1 2 _ rfl; have e0 : wS.cell? ⟨rb, ro, none⟩ = some (.string ⟨#[112]⟩) := hSw.2.1; have e1 : wS.cell? ⟨rb, ro + 1, none⟩ = some (.string ⟨#[97]⟩) := hSw.2.2.1; have e2 : wS.cell? ⟨rb, ro + 2, none⟩ = some (.int .i64 0) := hSw.2.2.2.1; go_simp; try with_reducible rfl)
  change wpAnyH _ _ _ _ _ _ _ (Act.put _ (some 63) _) _
  simp only [Act.put, List.setIfInBounds_toArray, List.set_cons_zero, List.set_cons_succ]
  refine wpAnyH_take (i := 17) (v := ?_) rfl (by kernel_rfl) (by kernel_rfl) (by kernel_rfl) (fun _ _ _ h => h) (Or.inl ⟨by rfl, ?_⟩) (by assumption) ?_
  rotate_left
  · (intro wS hSw; have a0 := hSw.1.1 0 _ rfl; have a1 := hSw.1.1 1 _ rfl; have a2 := hSw.1.1 2 _ rfl; have e0 : wS.cell? ⟨rb, ro, none⟩ = some (.string ⟨#[112]⟩) := hSw.2.1; have e1 : wS.cell? ⟨rb, ro + 1, none⟩ = some (.string ⟨#[97]⟩) := hSw.2.2.1; have e2 : wS.cell? ⟨rb, ro + 2, none⟩ = some (.int .i64 0) := hSw.2.2.2.1; go_simp; try with_reducible rfl)
  change wpAnyH _ _ _ _ _ _ _ (Act.put _ (some 64) _) _
  simp only [Act.put, List.setIfInBounds_toArray, List.set_cons_zero, List.set_cons_succ]
  refine wpAnyH_take (i := 18) (v := ?_) rfl (by kernel_rfl) (by kernel_rfl) (by kernel_rfl) (fun _ _ _ h => h) (Or.inl ⟨by rfl, ?_⟩) (by assumption) ?_
  rotate_left
  · (intro wS hSw; have a0 := hSw.1.1 0 _ rfl; have a1 := hSw.1.1 1 _ rfl; have a2 := hSw.1.1 2 _ rfl; have e0 : wS.cell? ⟨rb, ro, none⟩ = some (.string ⟨#[112]⟩) := hSw.2.1; have e1 : wS.cell? ⟨rb, ro + 1, none⟩ = some (.string ⟨#[97]⟩) := hSw.2.2.1; have e2 : wS.cell? ⟨rb, ro + 2, none⟩ = some (.int .i64 0) := hSw.2.2.2.1; go_simp; try with_reducible rfl)
  change wpAnyH _ _ _ _ _ _ _ (Act.put _ (some 65) _) _
  simp only [Act.put, List.setIfInBounds_toArray, List.set_cons_zero, List.set_cons_succ]
  refine wpAnyH_take (i := 19) (v := ?_) rfl (by kernel_rfl) (by kernel_rfl) (by kernel_rfl) (fun _ _ _ h => h) (Or.inl ⟨by rfl, ?_⟩) (by assumption) ?_
  rotate_left
  · (intro wS hSw; have a0 := hSw.1.1 0 _ rfl; have a1 := hSw.1.1 1 _ rfl; have a2 := hSw.1.1 2 _ rfl; have e0 : wS.cell? ⟨rb, ro, none⟩ = some (.string ⟨#[112]⟩) := hSw.2.1; have e1 : wS.cell? ⟨rb, ro + 1, none⟩ = some (.string ⟨#[97]⟩) := hSw.2.2.1; have e2 : wS.cell? ⟨rb, ro + 2, none⟩ = some (.int .i64 0) := hSw.2.2.2.1; go_simp; try with_reducible rfl)
  change wpAnyH _ _ _ _ _ _ _ (Act.put _ (some 66) _) _
  simp only [Act.put, List.setIfInBounds_toArray, List.set_cons_zero, List.set_cons_succ]
  refine wpAnyH_take (i := 20) (v := ?_) rfl (by kernel_rfl) (by kernel_rfl) (by kernel_rfl) (fun _ _ _ h => h) (Or.inl ⟨by rfl, ?_⟩) (by assumption) ?_
  rotate_left
  · (intro wS hSw; have a0 := hSw.1.1 0 _ rfl; have a1 := hSw.1.1 1 _ rfl; have a2 := hSw.1.1 2 _ rfl; have e0 : wS.cell? ⟨rb, ro, none⟩ = some (.string ⟨#[112]⟩) := hSw.2.1; have e1 : wS.cell? ⟨rb, ro + 1, none⟩ = some (.string ⟨#[97]⟩) := hSw.2.2.1; have e2 : wS.cell? ⟨rb, ro + 2, none⟩ = some (.int .i64 0) := hSw.2.2.2.1; go_simp; try with_reducible rfl)
  change wpAnyH _ _ _ _ _ _ _ (Act.put _ (some 67) _) _
  simp only [Act.put, List.setIfInBounds_toArray, List.set_cons_zero, List.set_cons_succ]
  refine wpAnyH_take (i := 21) (v := ?_) rfl (by kernel_rfl) (by kernel_rfl) (by kernel_rfl) (fun _ _ _ h => h) (Or.inl ⟨by rfl, ?_⟩) (by assumption) ?_
  rotate_left
  · (intro wS hSw; have a0 := hSw.1.1 0 _ rfl; have a1 := hSw.1.1 1 _ rfl; have a2 := hSw.1.1 2 _ rfl; have e0 : wS.cell? ⟨rb, ro, none⟩ = some (.string ⟨#[112]⟩) := hSw.2.1; have e1 : wS.cell? ⟨rb, ro + 1, none⟩ = some (.string ⟨#[97]⟩) := hSw.2.2.1; have e2 : wS.cell? ⟨rb, ro + 2, none⟩ = some (.int .i64 0) := hSw.2.2.2.1; go_simp; try with_reducible rfl)
  change wpAnyH _ _ _ _ _ _ _ (Act.put _ (some 68) _) _
  simp only [Act.put, List.setIfInBounds_toArray, List.set_cons_zero, List.set_cons_succ]
  refine wpAnyH_take (i := 22) (v := ?_) rfl (by kernel_rfl) (by kernel_rfl) (by kernel_rfl) (fun _ _ _ h => h) (Or.inl ⟨by rfl, ?_⟩) (by assumption) ?_
  rotate_left
  · (intro wS hSw; have a0 := hSw.1.1 0 _ rfl; have a1 := hSw.1.1 1 _ rfl; have a2 := hSw.1.1 2 _ rfl; have e0 : wS.cell? ⟨rb, ro, none⟩ = some (.string ⟨#[112]⟩) := hSw.2.1; have e1 : wS.cell? ⟨rb, ro + 1, none⟩ = some (.string ⟨#[97]⟩) := hSw.2.2.1; have e2 : wS.cell? ⟨rb, ro + 2, none⟩ = some (.int .i64 0) := hSw.2.2.2.1; go_simp; try with_reducible rfl)
  change wpAnyH _ _ _ _ _ _ _ (Act.put _ (some 69) _) _
  simp only [Act.put, List.setIfInBounds_toArray, List.set_cons_zero, List.set_cons_succ]
  refine wpAnyH_take (i := 23) (v := ?_) rfl (by kernel_rfl) (by kernel_rfl) (by kernel_rfl) (fun _ _ _ h => h) (Or.inl ⟨by rfl, ?_⟩) (by assumption) ?_
  rotate_left
  · (intro wS hSw; have a0 := hSw.1.1 0 _ rfl; have a1 := hSw.1.1 1 _ rfl; have a2 := hSw.1.1 2 _ rfl; have e0 : wS.cell? ⟨rb, ro, none⟩ = some (.string ⟨#[112]⟩) := hSw.2.1; have e1 : wS.cell? ⟨rb, ro + 1, none⟩ = some (.string ⟨#[97]⟩) := hSw.2.2.1; have e2 : wS.cell? ⟨rb, ro + 2, none⟩ = some (.int .i64 0) := hSw.2.2.2.1; go_simp; try with_reducible rfl)
  change wpAnyH _ _ _ _ _ _ _ (Act.put _ (some 70) _) _
  simp only [Act.put, List.setIfInBounds_toArray, List.set_cons_zero, List.set_cons_succ]
  refine wpAnyH_take (i := 24) (v := ?_) rfl (by kernel_rfl) (by kernel_rfl) (by kernel_rfl) (fun _ _ _ h => h) (Or.inl ⟨by rfl, ?_⟩) (by assumption) ?_
  rotate_left
  · (intro wS hSw; have a0 := hSw.1.1 0 _ rfl; have a1 := hSw.1.1 1 _ rfl; have a2 := hSw.1.1 2 _ rfl; have e0 : wS.cell? ⟨rb, ro, none⟩ = some (.string ⟨#[112]⟩) := hSw.2.1; have e1 : wS.cell? ⟨rb, ro + 1, none⟩ = some (.string ⟨#[97]⟩) := hSw.2.2.1; have e2 : wS.cell? ⟨rb, ro + 2, none⟩ = some (.int .i64 0) := hSw.2.2.2.1; go_simp; try with_reducible rfl)
  change wpAnyH _ _ _ _ _ _ _ (Act.put _ (some 71) _) _
  simp only [Act.put, List.setIfInBounds_toArray, List.set_cons_zero, List.set_cons_succ]
  refine wpAnyH_take (i := 25) (v := ?_) rfl (by kernel_rfl) (by kernel_rfl) (by kernel_rfl) (fun _ _ _ h => h) (Or.inl ⟨by rfl, ?_⟩) (by assumption) ?_
  rotate_left
  · (intro wS hSw; have a0 := hSw.1.1 0 _ rfl; have a1 := hSw.1.1 1 _ rfl; have a2 := hSw.1.1 2 _ rfl; have e0 : wS.cell? ⟨rb, ro, none⟩ = some (.string ⟨#[112]⟩) := hSw.2.1; have e1 : wS.cell? ⟨rb, ro + 1, none⟩ = some (.string ⟨#[97]⟩) := hSw.2.2.1; have e2 : wS.cell? ⟨rb, ro + 2, none⟩ = some (.int .i64 0) := hSw.2.2.2.1; go_simp; try with_reducible rfl)
  change wpAnyH _ _ _ _ _ _ _ (Act.put _ (some 72) _) _
  simp only [Act.put, List.setIfInBounds_toArray, List.set_cons_zero, List.set_cons_succ]
  refine wpAnyH_take (i := 26) (v := ?_) rfl (by kernel_rfl) (by kernel_rfl) (by kernel_rfl) (fun _ _ _ h => h) (Or.inl ⟨by rfl, ?_⟩) (by assumption) ?_
  rotate_left
  · (intro wS hSw; have a0 := hSw.1.1 0 _ rfl; have a1 := hSw.1.1 1 _ rfl; have a2 := hSw.1.1 2 _ rfl; have e0 : wS.cell? ⟨rb, ro, none⟩ = some (.string ⟨#[112]⟩) := hSw.2.1; have e1 : wS.cell? ⟨rb, ro + 1, none⟩ = some (.string ⟨#[97]⟩) := hSw.2.2.1; have e2 : wS.cell? ⟨rb, ro + 2, none⟩ = some (.int .i64 0) := hSw.2.2.2.1; go_simp; try with_reducible rfl)
  change wpAnyH _ _ _ _ _ _ _ (Act.put _ (some 73) _) _
  simp only [Act.put, List.setIfInBounds_toArray, List.set_cons_zero, List.set_cons_succ]
  refine wpAnyH_take (i := 27) (v := ?_) rfl (by kernel_rfl) (by kernel_rfl) (by kernel_rfl) (fun _ _ _ h => h) (Or.inl ⟨by rfl, ?_⟩) (by assumption) ?_
  rotate_left
  · (intro wS hSw; have a0 := hSw.1.1 0 _ rfl; have a1 := hSw.1.1 1 _ rfl; have a2 := hSw.1.1 2 _ rfl; have e0 : wS.cell? ⟨rb, ro, none⟩ = some (.string ⟨#[112]⟩) := hSw.2.1; have e1 : wS.cell? ⟨rb, ro + 1, none⟩ = some (.string ⟨#[97]⟩) := hSw.2.2.1; have e2 : wS.cell? ⟨rb, ro + 2, none⟩ = some (.int .i64 0) := hSw.2.2.2.1; go_simp; try with_reducible rfl)
  change wpAnyH _ _ _ _ _ _ _ (Act.put _ (some 74) _) _
  simp only [Act.put, List.setIfInBounds_toArray, List.set_cons_zero, List.set_cons_succ]
  refine wpAnyH_take (i := 28) (v := ?_) rfl (by kernel_rfl) (by kernel_rfl) (by kernel_rfl) (fun _ _ _ h => h) (Or.inl ⟨by rfl, ?_⟩) (by assumption) ?_
  rotate_left
  · (intro wS hSw; have a0 := hSw.1.1 0 _ rfl; have a1 := hSw.1.1 1 _ rfl; have a2 := hSw.1.1 2 _ rfl; have e0 : wS.cell? ⟨rb, ro, none⟩ = some (.string ⟨#[112]⟩) := hSw.2.1; have e1 : wS.cell? ⟨rb, ro + 1, none⟩ = some (.string ⟨#[97]⟩) := hSw.2.2.1; have e2 : wS.cell? ⟨rb, ro + 2, none⟩ = some (.int .i64 0) := hSw.2.2.2.1; go_simp; try with_reducible rfl)
  change wpAnyH _ _ _ _ _ _ _ (Act.put _ (some 75) _) _
  simp only [Act.put, List.setIfInBounds_toArray, List.set_cons_zero, List.set_cons_succ]
  refine wpAnyH_take (i := 29) (v := ?_) rfl (by kernel_rfl) (by kernel_rfl) (by kernel_rfl) (fun _ _ _ h => h) (Or.inl ⟨by rfl, ?_⟩) (by assumption) ?_
  rotate_left
  · (intro wS hSw; have a0 := hSw.1.1 0 _ rfl; have a1 := hSw.1.1 1 _ rfl; have a2 := hSw.1.1 2 _ rfl; have e0 : wS.cell? ⟨rb, ro, none⟩ = some (.string ⟨#[112]⟩) := hSw.2.1; have e1 : wS.cell? ⟨rb, ro + 1, none⟩ = some (.string ⟨#[97]⟩) := hSw.2.2.1; have e2 : wS.cell? ⟨rb, ro + 2, none⟩ = some (.int .i64 0) := hSw.2.2.2.1; go_simp; try with_reducible rfl)
  change wpAnyH _ _ _ _ _ _ _ (Act.put _ (some 76) _) _
  simp only [Act.put, List.setIfInBounds_toArray, List.set_cons_zero, List.set_cons_succ]
  refine wpAnyH_take (i := 30) (v := ?_) rfl (by kernel_rfl) (by kernel_rfl) (by kernel_rfl) (fun _ _ _ h => h) (Or.inl ⟨by rfl, ?_⟩) (by assumption) ?_
  rotate_left
  · (intro wS hSw; have a0 := hSw.1.1 0 _ rfl; have a1 := hSw.1.1 1 _ rfl; have a2 := hSw.1.1 2 _ rfl; have e0 : wS.cell? ⟨rb, ro, none⟩ = some (.string ⟨#[112]⟩) := hSw.2.1; have e1 : wS.cell? ⟨rb, ro + 1, none⟩ = some (.string ⟨#[97]⟩) := hSw.2.2.1; have e2 : wS.cell? ⟨rb, ro + 2, none⟩ = some (.int .i64 0) := hSw.2.2.2.1; go_simp; try with_reducible rfl)
  change wpAnyH _ _ _ _ _ _ _ (Act.put _ (some 77) _) _
  simp only [Act.put, List.setIfInBounds_toArray, List.set_cons_zero, List.set_cons_succ]
  refine wpAnyH_take (i := 31) (v := ?_) rfl (by kernel_rfl) (by kernel_rfl) (by kernel_rfl) (fun _ _ _ h => h) (Or.inl ⟨by rfl, ?_⟩) (by assumption) ?_
  rotate_left
  · (intro wS hSw; have a0 := hSw.1.1 0 _ rfl; have a1 := hSw.1.1 1 _ rfl; have a2 := hSw.1.1 2 _ rfl; have e0 : wS.cell? ⟨rb, ro, none⟩ = some (.string ⟨#[112]⟩) := hSw.2.1; have e1 : wS.cell? ⟨rb, ro + 1, none⟩ = some (.string ⟨#[97]⟩) := hSw.2.2.1; have e2 : wS.cell? ⟨rb, ro + 2, none⟩ = some (.int .i64 0) := hSw.2.2.2.1; go_simp; try with_reducible rfl)
  change wpAnyH _ _ _ _ _ _ _ (Act.put _ (some 78) _) _
  simp only [Act.put, List.setIfInBounds_toArray, List.set_cons_zero, List.set_cons_succ]
  refine wpAnyH_take (i := 32) (v := ?_) rfl (by kernel_rfl) (by kernel_rfl) (by kernel_rfl) (fun _ _ _ h => h) (Or.inl ⟨by rfl, ?_⟩) (by assumption) ?_
  rotate_left
  · (intro wS hSw; have a0 := hSw.1.1 0 _ rfl; have a1 := hSw.1.1 1 _ rfl; have a2 := hSw.1.1 2 _ rfl; have e0 : wS.cell? ⟨rb, ro, none⟩ = some (.string ⟨#[112]⟩) := hSw.2.1; have e1 : wS.cell? ⟨rb, ro + 1, none⟩ = some (.string ⟨#[97]⟩) := hSw.2.2.1; have e2 : wS.cell? ⟨rb, ro + 2, none⟩ = some (.int .i64 0) := hSw.2.2.2.1; go_simp; try with_reducible rfl)
  change wpAnyH _ _ _ _ _ _ _ (Act.put _ (some 79) _) _
  simp only [Act.put, List.setIfInBounds_toArray, List.set_cons_zero, List.set_cons_succ]
  refine wpAnyH_take (i := 33) (v := ?_) rfl (by kernel_rfl) (by kernel_rfl) (by kernel_rfl) (fun _ _ _ h => h) (Or.inl ⟨by rfl, ?_⟩) (by assumption) ?_
  rotate_left
  · (intro wS hSw; have a0 := hSw.1.1 0 _ rfl; have a1 := hSw.1.1 1 _ rfl; have a2 := hSw.1.1 2 _ rfl; have e0 : wS.cell? ⟨rb, ro, none⟩ = some (.string ⟨#[112]⟩) := hSw.2.1; have e1 : wS.cell? ⟨rb, ro + 1, none⟩ = some (.string ⟨#[97]⟩) := hSw.2.2.1; have e2 : wS.cell? ⟨rb, ro + 2, none⟩ = some (.int .i64 0) := hSw.2.2.2.1; go_simp; try with_reducible rfl)
  change wpAnyH _ _ _ _ _ _ _ (Act.put _ (some 80) _) _
  simp only [Act.put, List.setIfInBounds_toArray, List.set_cons_zero, List.set_cons_succ]
  refine wpAnyH_take (i := 34) (v := ?_) rfl (by kernel_rfl) (by kernel_rfl) (by kernel_rfl) (fun _ _ _ h => h) (Or.inl ⟨by rfl, ?_⟩) (by assumption) ?_
  rotate_left
  · (intro wS hSw; have a0 := hSw.1.1 0 _ rfl; have a1 := hSw.1.1 1 _ rfl; have a2 := hSw.1.1 2 _ rfl; have e0 : wS.cell? ⟨rb, ro, none⟩ = some (.string ⟨#[112]⟩) := hSw.2.1; have e1 : wS.cell? ⟨rb, ro + 1, none⟩ = some (.string ⟨#[97]⟩) := hSw.2.2.1; have e2 : wS.cell? ⟨rb, ro + 2, none⟩ = some (.int .i64 0) := hSw.2.2.2.1; go_simp; try with_reducible rfl)
  change wpAnyH _ _ _ _ _ _ _ (Act.put _ (some 81) _) _
  simp only [Act.put, List.setIfInBounds_toArray, List.set_cons_zero, List.set_cons_succ]
  refine wpAnyH_take (i := 35) (v := ?_) rfl (by kernel_rfl) (by kernel_rfl) (by kernel_rfl) (fun _ _ _ h => h) (Or.inl ⟨by rfl, ?_⟩) (by assumption) ?_
  rotate_left
  · (intro wS hSw; have a0 := hSw.1.1 0 _ rfl; have a1 := hSw.1.1 1 _ rfl; have a2 := hSw.1.1 2 _ rfl; have e0 : wS.cell? ⟨rb, ro, none⟩ = some (.string ⟨#[112]⟩) := hSw.2.1; have e1 : wS.cell? ⟨rb, ro + 1, none⟩ = some (.string ⟨#[97]⟩) := hSw.2.2.1; have e2 : wS.cell? ⟨rb, ro + 2, none⟩ = some (.int .i64 0) := hSw.2.2.2.1; go_simp; try with_reducible rfl)
  change wpAnyH _ _ _ _ _ _ _ (Act.put _ (some 82) _) _
  simp only [Act.put, List.setIfInBounds_toArray, List.set_cons_zero, List.set_cons_succ]
  refine wpAnyH_take (i := 36) (v := ?_) rfl (by kernel_rfl) (by kernel_rfl) (by kernel_rfl) (fun _ _ _ h => h) (Or.inl ⟨by rfl, ?_⟩) (by assumption) ?_
  rotate_left
  · (intro wS hSw; have a0 := hSw.1.1 0 _ rfl; have a1 := hSw.1.1 1 _ rfl; have a2 := hSw.1.1 2 _ rfl; have e0 : wS.cell? ⟨rb, ro, none⟩ = some (.string ⟨#[112]⟩) := hSw.2.1; have e1 : wS.cell? ⟨rb, ro + 1, none⟩ = some (.string ⟨#[97]⟩) := hSw.2.2.1; have e2 : wS.cell? ⟨rb, ro + 2, none⟩ = some (.int .i64 0) := hSw.2.2.2.1; go_simp; try with_reducible rfl)
  change wpAnyH _ _ _ _ _ _ _ (Act.put _ (some 83) _) _
  simp only [Act.put, List.setIfInBounds_toArray, List.set_cons_zero, List.set_cons_succ]
  refine wpAnyH_ready (rs := [37]) (by kernel_rfl) (by simp) ?_
  refine AllReadyH.cons rfl (fun K hK => ?_) AllReadyH.nil
  go_simp
  refine (F1.out _ BW.out).mono ?_
  rintro e v1 ⟨rfl, hv1⟩
  have BW' : Hid (Below w9.heap.size w9 v1) := BW.out.trans (hv1.mono BW.out.size)
  clear hv1 BW
  have BW := BW'
  clear BW'
  (try go_wp2_with (fail))
  refine hK.out _ _ ?_ (fun hHeld => ?_)
  · exact ⟨Cs.later BW.out qa9, (R9' : El w9 rb ro rA).later BW.out⟩
  clear hK K
  refine wpAnyH_take (i := 38) (v := ?_) rfl (by kernel_rfl) (by kernel_rfl) (by kernel_rfl) (fun _ _ _ h => h) (Or.inl ⟨by rfl, ?_⟩) (by assumption) ?_
  rotate_left
  · (intro wS hSw; have a0 := hSw.1.1 0 _ rfl; have a1 := hSw.1.1 1 _ rfl; have a2 := hSw.1.1 2 _ rfl; have e0 : wS.cell? ⟨rb, ro, none⟩ = some (.string ⟨#[112]⟩) := hSw.2.1; have e1 : wS.cell? ⟨rb, ro + 1, none⟩ = some (.string ⟨#[97]⟩) := hSw.2.2.1; have e2 : wS.cell? ⟨rb, ro + 2, none⟩ = some (.int .i64 0) := hSw.2.2.2.1; go_simp; try with_reducible rfl)
  change wpAnyH _ _ _ _ _ _ _ (Act.put _ (some 85) _) _
  simp only [Act.put, List.setIfInBounds_toArray, List.set_cons_zero, List.set_cons_succ]
  refine wpAnyH_take (i := 39) (v := ?_) rfl (by kernel_rfl) (by kernel_rfl) (by kernel_rfl) (fun _ _ _ h => h) (Or.inl ⟨by rfl, ?_⟩) (by assumption) ?_
  rotate_left
  · (intro wS hSw; have a0 := hSw.1.1 0 _ rfl; have a1 := hSw.1.1 1 _ rfl; have a2 := hSw.1.1 2 _ rfl; have e0 : wS.cell? ⟨rb, ro, none⟩ = some (.string ⟨#[112]⟩) := hSw.2.1; have e1 : wS.cell? ⟨rb, ro + 1, none⟩ = some (.string ⟨#[97]⟩) := hSw.2.2.1; have e2 : wS.cell? ⟨rb, ro + 2, none⟩ = some (.int .i64 0) := hSw.2.2.2.1; go_simp; try with_reducible rfl)
  change wpAnyH _ _ _ _ _ _ _ (Act.put _ (some 86) _) _
  simp only [Act.put, List.setIfInBounds_toArray, List.set_cons_zero, List.set_cons_succ]
  refine wpAnyH_take (i := 40) (v := ?_) rfl (by kernel_rfl) (by kernel_rfl) (by kernel_rfl) (fun _ _ _ h => h) (Or.inl ⟨by rfl, ?_⟩) (by assumption) ?_
  rotate_left
  · (intro wS hSw; have a0 := hSw.1.1 0 _ rfl; have a1 := hSw.1.1 1 _ rfl; have a2 := hSw.1.1 2 _ rfl; have e0 : wS.cell? ⟨rb, ro, none⟩ = some (.string ⟨#[112]⟩) := hSw.2.1; have e1 : wS.cell? ⟨rb, ro + 1, none⟩ = some (.string ⟨#[97]⟩) := hSw.2.2.1; have e2 : wS.cell? ⟨rb, ro + 2, none⟩ = some (.int .i64 0) := hSw.2.2.2.1; go_simp; try with_reducible rfl)
  change wpAnyH _ _ _ _ _ _ _ (Act.put _ (some 87) _) _
  simp only [Act.put, List.setIfInBounds_toArray, List.set_cons_zero, List.set_cons_succ]
  refine wpAnyH_take (i := 41) (v := ?_) rfl (by kernel_rfl) (by kernel_rfl) (by kernel_rfl) (fun _ _ _ h => h) (Or.inl ⟨by rfl, ?_⟩) (by assumption) ?_
  rotate_left
  · (intro wS hSw; have a0 := hSw.1.1 0 _ rfl; have a1 := hSw.1.1 1 _ rfl; have a2 := hSw.1.1 2 _ rfl; have e0 : wS.cell? ⟨rb, ro, none⟩ = some (.string ⟨#[112]⟩) := hSw.2.1; have e1 : wS.cell? ⟨rb, ro + 1, none⟩ = some (.string ⟨#[97]⟩) := hSw.2.2.1; have e2 : wS.cell? ⟨rb, ro + 2, none⟩ = some (.int .i64 0) := hSw.2.2.2.1; go_simp; try with_reducible rfl)
  change wpAnyH _ _ _ _ _ _ _ (Act.put _ (some 88) _) _
  simp only [Act.put, List.setIfInBounds_toArray, List.set_cons_zero, List.set_cons_succ]
  refine wpAnyH_ready (rs := [42]) (by kernel_rfl) (by simp) ?_
  refine AllReadyH.cons rfl (fun K hK => ?_) AllReadyH.nil
  go_simp
  refine (F2.out _ BW.out).mono ?_
  rintro e v2 ⟨rfl, hv2⟩
  have BW' : Hid (Below w9.heap.size w9 v2) := BW.out.trans (hv2.mono BW.out.size)
  clear hv2 BW
  have BW := BW'
  clear BW'
  (try go_wp2_with (fail))
  refine hK.out _ _ ?_ (fun hHeld => ?_)
  · exact ⟨Cs.later BW.out qa9, (R9' : El w9 rb ro rA).later BW.out⟩
  clear hK K
  refine wpAnyH_take (i := 43) (v := ?_) rfl (by kernel_rfl) (by kernel_rfl) (by kernel_rfl) (fun _ _ _ h => h) (Or.inl ⟨by rfl, ?_⟩) (by assumption) ?_
  rotate_left
  · (intro wS hSw; have a0 := hSw.1.1 0 _ rfl; have a1 := hSw.1.1 1 _ rfl; have a2 := hSw.1.1 2 _ rfl; have e0 : wS.cell? ⟨rb, ro, none⟩ = some (.string ⟨#[112]⟩) := hSw.2.1; have e1 : wS.cell? ⟨rb, ro + 1, none⟩ = some (.string ⟨#[97]⟩) := hSw.2.2.1; have e2 : wS.cell? ⟨rb, ro + 2, none⟩ = some (.int .i64 0) := hSw.2.2.2.1; go_simp; try with_reducible rfl)
  change wpAnyH _ _ _ _ _ _ _ (Act.put _ (some 90) _) _
  simp only [Act.put, List.setIfInBounds_toArray, List.set_cons_zero, List.set_cons_succ]
  refine wpAnyH_take (i := 44) (v := ?_) rfl (by kernel_rfl) (by kernel_rfl) (by kernel_rfl) (fun _ _ _ h => h) (Or.inl ⟨by rfl, ?_⟩) (by assumption) ?_
  rotate_left
  · (intro wS hSw; have a0 := hSw.1.1 0 _ rfl; have a1 := hSw.1.1 1 _ rfl; have a2 := hSw.1.1 2 _ rfl; have e0 : wS.cell? ⟨rb, ro, none⟩ = some (.string ⟨#[112]⟩) := hSw.2.1; have e1 : wS.cell? ⟨rb, ro + 1, none⟩ = some (.string ⟨#[97]⟩) := hSw.2.2.1; have e2 : wS.cell? ⟨rb, ro + 2, none⟩ = some (.int .i64 0) := hSw.2.2.2.1; go_simp; try with_reducible rfl)
  change wpAnyH _ _ _ _ _ _ _ (Act.put _ (some 91) _) _
  simp only [Act.put, List.setIfInBounds_toArray, List.set_cons_zero, List.set_cons_succ]
  refine wpAnyH_take (i := 45) (v := ?_) rfl (by kernel_rfl) (by kernel_rfl) (by kernel_rfl) (fun _ _ _ h => h) (Or.inl ⟨by rfl, ?_⟩) (by assumption) ?_
  rotate_left
  · (intro wS hSw; have a0 := hSw.1.1 0 _ rfl; have a1 := hSw.1.1 1 _ rfl; have a2 := hSw.1.1 2 _ rfl; have e0 : wS.cell? ⟨rb, ro, none⟩ = some (.string ⟨#[112]⟩) := hSw.2.1; have e1 : wS.cell? ⟨rb, ro + 1, none⟩ = some (.string ⟨#[97]⟩) := hSw.2.2.1; have e2 : wS.cell? ⟨rb, ro + 2, none⟩ = some (.int .i64 0) := hSw.2.2.2.1; go_simp; try with_reducible rfl)
  change wpAnyH _ _ _ _ _ _ _ (Act.put _ (some 92) _) _
  simp only [Act.put, List.setIfInBounds_toArray, List.set_cons_zero, List.set_cons_succ]
  refine wpAnyH_take (i := 46) (v := ?_) rfl (by kernel_rfl) (by kernel_rfl) (by kernel_rfl) (fun _ _ _ h => h) (Or.inl ⟨by rfl, ?_⟩) (by assumption) ?_
  rotate_left
  · (intro wS hSw; have a0 := hSw.1.1 0 _ rfl; have a1 := hSw.1.1 1 _ rfl; have a2 := hSw.1.1 2 _ rfl; have e0 : wS.cell? ⟨rb, ro, none⟩ = some (.string ⟨#[112]⟩) := hSw.2.1; have e1 : wS.cell? ⟨rb, ro + 1, none⟩ = some (.string ⟨#[97]⟩) := hSw.2.2.1; have e2 : wS.cell? ⟨rb, ro + 2, none⟩ = some (.int .i64 0) := hSw.2.2.2.1; go_simp; try with_reducible rfl)
  change wpAnyH _ _ _ _ _ _ _ (Act.put _ (some 93) _) _
  simp only [Act.put, List.setIfInBounds_toArray, List.set_cons_zero, List.set_cons_succ]
  refine wpAnyH_take (i := 47) (v := ?_) rfl (by kernel_rfl) (by kernel_rfl) (by kernel_rfl) (fun _ _ _ h => h) (Or.inl ⟨by rfl, ?_⟩) (by assumption) ?_
  rotate_left
  · (intro wS hSw; have a0 := hSw.1.1 0 _ rfl; have a1 := hSw.1.1 1 _ rfl; have a2 := hSw.1.1 2 _ rfl; have e0 : wS.cell? ⟨rb, ro, none⟩ = some (.string ⟨#[112]⟩) := hSw.2.1; have e1 : wS.cell? ⟨rb, ro + 1, none⟩ = some (.string ⟨#[97]⟩) := hSw.2.2.1; have e2 : wS.cell? ⟨rb, ro + 2, none⟩ = some (.int .i64 0) := hSw.2.2.2.1; go_simp; try with_reducible rfl)
  change wpAnyH _ _ _ _ _ _ _ (Act.put _ (some 94) _) _
  simp only [Act.put, List.setIfInBounds_toArray, List.set_cons_zero, List.set_cons_succ]
  refine wpAnyH_ready (rs := [48]) (by kernel_rfl) (by simp) ?_
  refine AllReadyH.cons rfl (fun K hK => ?_) AllReadyH.nil
  go_simp
  refine (F3.out _ BW.out).mono ?_
  rintro e v3 ⟨rfl, hv3⟩
  have BW' : Hid (Below w9.heap.size w9 v3) := BW.out.trans (hv3.mono BW.out.size)
  clear hv3 BW
  have BW := BW'
  clear BW'
  (try go_wp2_with (fail))
  refine hK.out _ _ ?_ (fun hHeld => ?_)
  · exact ⟨Cs.later BW.out qa9, (R9' : El w9 rb ro rA).later BW.out⟩
  clear hK K
  refine wpAnyH_take (i := 49) (v := ?_) rfl (by kernel_rfl) (by kernel_rfl) (by kernel_rfl) (fun _ _ _ h => h) (Or.inl ⟨by rfl, ?_⟩) (by assumption) ?_
  rotate_left
  · (intro wS hSw; have a0 := hSw.1.1 0 _ rfl; have a1 := hSw.1.1 1 _ rfl; have a2 := hSw.1.1 2 _ rfl; have e0 : wS.cell? ⟨rb, ro, none⟩ = some (.string ⟨#[112]⟩) := hSw.2.1; have e1 : wS.cell? ⟨rb, ro + 1, none⟩ = some (.string ⟨#[97]⟩) := hSw.2.2.1; have e2 : wS.cell? ⟨rb, ro + 2, none⟩ = some (.int .i64 0) := hSw.2.2.2.1; go_simp; try with_reducible rfl)
  change wpAnyH _ _ _ _ _ _ _ (Act.put _ (some 96) _) _
  simp only [Act.put, List.setIfInBounds_toArray, List.set_cons_zero, List.set_cons_succ]
  refine wpAnyH_take (i := 50) (v := ?_) rfl (by kernel_rfl) (by kernel_rfl) (by kernel_rfl) (fun _ _ _ h => h) (Or.inl ⟨by rfl, ?_⟩) (by assumption) ?_
  rotate_left
  · (intro wS hSw; have a0 := hSw.1.1 0 _ rfl; have a1 := hSw.1.1 1 _ rfl; have a2 := hSw.1.1 2 _ rfl; have e0 : wS.cell? ⟨rb, ro, none⟩ = some (.string ⟨#[112]⟩) := hSw.2.1; have e1 : wS.cell? ⟨rb, ro + 1, none⟩ = some (.string ⟨#[97]⟩) := hSw.2.2.1; have e2 : wS.cell? ⟨rb, ro + 2, none⟩ = some (.int .i64 0) := hSw.2.2.2.1; go_simp; try with_reducible rfl)
  change wpAnyH _ _ _ _ _ _ _ (Act.put _ (some 97) _) _
  simp only [Act.put, List.setIfInBounds_toArray, List.set_cons_zero, List.set_cons_succ]
  refine wpAnyH_take (i := 51) (v := ?_) rfl (by kernel_rfl) (by kernel_rfl) (by kernel_rfl) (fun _ _ _ h => h) (Or.inl ⟨by rfl, ?_⟩) (by assumption) ?_
  rotate_left
  · (intro wS hSw; have a0 := hSw.1.1 0 _ rfl; have a1 := hSw.1.1 1 _ rfl; have a2 := hSw.1.1 2 _ rfl; have e0 : wS.cell? ⟨rb, ro, none⟩ = some (.string ⟨#[112]⟩) := hSw.2.1; have e1 : wS.cell? ⟨rb, ro + 1, none⟩ = some (.string ⟨#[97]⟩) := hSw.2.2.1; have e2 : wS.cell? ⟨rb, ro + 2, none⟩ = some (.int .i64 0) := hSw.2.2.2.1; go_simp; try with_reducible rfl)
  change wpAnyH _ _ _ _ _ _ _ (Act.put _ (some 98) _) _
  simp only [Act.put, List.setIfInBounds_toArray, List.set_cons_zero, List.set_cons_succ]
  refine wpAnyH_take (i := 52) (v := ?_) rfl (by kernel_rfl) (by kernel_rfl) (by kernel_rfl) (fun _ _ _ h => h) (Or.inl ⟨by rfl, ?_⟩) (by assumption) ?_
  rotate_left
  · (intro wS hSw; have a0 := hSw.1.1 0 _ rfl; have a1 := hSw.1.1 1 _ rfl; have a2 := hSw.1.1 2 _ rfl; have e0 : wS.cell? ⟨rb, ro, none⟩ = some (.string ⟨#[112]⟩) := hSw.2.1; have e1 : wS.cell? ⟨rb, ro + 1, none⟩ = some (.string ⟨#[97]⟩) := hSw.2.2.1; have e2 : wS.cell? ⟨rb, ro + 2, none⟩ = some (.int .i64 0) := hSw.2.2.2.1; go_simp; try with_reducible rfl)
  change wpAnyH _ _ _ _ _ _ _ (Act.put _ (some 99) _) _
  simp only [Act.put, List.setIfInBounds_toArray, List.set_cons_zero, List.set_cons_succ]
  refine wpAnyH_take (i := 53) (v := ?_) rfl (by kernel_rfl) (by kernel_rfl) (by kernel_rfl) (fun _ _ _ h => h) (Or.inl ⟨by rfl, ?_⟩) (by assumption) ?_
  rotate_left
  · (intro wS hSw; have a0 := hSw.1.1 0 _ rfl; have a1 := hSw.1.1 1 _ rfl; have a2 := hSw.1.1 2 _ rfl; have e0 : wS.cell? ⟨rb, ro, none⟩ = some (.string ⟨#[112]⟩) := hSw.2.1; have e1 : wS.cell? ⟨rb, ro + 1, none⟩ = some (.string ⟨#[97]⟩) := hSw.2.2.1; have e2 : wS.cell? ⟨rb, ro + 2, none⟩ = some (.int .i64 0) := hSw.2.2.2.1; go_simp; try with_reducible rfl)
  change wpAnyH _ _ _ _ _ _ _ (Act.put _ (some 100) _) _
  simp only [Act.put, List.setIfInBounds_toArray, List.set_cons_zero, List.set_cons_succ]
  refine wpAnyH_ready (rs := [54]) (by kernel_rfl) (by simp) ?_
  refine AllReadyH.cons rfl (fun K hK => ?_) AllReadyH.nil
  go_simp
  refine (F4.out _ BW.out).mono ?_
  rintro e v4 ⟨rfl, hv4⟩
  have BW' : Hid (Below w9.heap.size w9 v4) := BW.out.trans (hv4.mono BW.out.size)
  clear hv4 BW
  have BW := BW'
  clear BW'
  (try go_wp2_with (fail))
  refine hK.out _ _ ?_ (fun hHeld => ?_)
  · exact ⟨Cs.later BW.out qa9, (R9' : El w9 rb ro rA).later BW.out⟩
  clear hK K
  refine wpAnyH_ready (rs := [55]) (by kernel_rfl) (by simp) ?_
  refine AllReadyH.cons rfl (fun K hK => ?_) AllReadyH.nil
  go_simp
  refine (F5.out _).mono ?_
  rintro e v5 ⟨rfl, hv5⟩
  have BW' : Hid (Below w9.heap.size w9 v5) := BW.out.trans (hv5.mono BW.out.size)
  clear hv5 BW
  have BW := BW'
  clear BW'
  (try go_wp2_with (fail))
  refine hK.out _ _ ?_ (fun hHeld => ?_)
  · exact ⟨Cs.later BW.out qa9, (R9' : El w9 rb ro rA).later BW.out⟩
  clear hK K
  refine wpAnyH_take (i := 56) (v := ?_) rfl (by kernel_rfl) (by kernel_rfl) (by kernel_rfl) (fun _ _ _ h => h) (Or.inl ⟨by rfl, ?_⟩) (by assumption) ?_
  rotate_left
  · (intro wS hSw; have a0 := hSw.1.1 0 _ rfl; have a1 := hSw.1.1 1 _ rfl; have a2 := hSw.1.1 2 _ rfl; have e0 : wS.cell? ⟨rb, ro, none⟩ = some (.string ⟨#[112]⟩) := hSw.2.1; have e1 : wS.cell? ⟨rb, ro + 1, none⟩ = some (.string ⟨#[97]⟩) := hSw.2.2.1; have e2 : wS.cell? ⟨rb, ro + 2, none⟩ = some (.int .i64 0) := hSw.2.2.2.1; go_simp; try with_reducible rfl)
  change wpAnyH _ _ _ _ _ _ _ (Act.put _ (some 103) _) _
  simp only [Act.put, List.setIfInBounds_toArray, List.set_cons_zero, List.set_cons_succ]
  refine wpAnyH_take (i := 57) (v := ?_) rfl (by kernel_rfl) (by kernel_rfl) (by kernel_rfl) (fun _ _ _ h => h) (Or.inl ⟨by rfl, ?_⟩) (by assumption) ?_
  rotate_left
  · (intro wS hSw; have a0 := hSw.1.1 0 _ rfl; have a1 := hSw.1.1 1 _ rfl; have a2 := hSw.1.1 2 _ rfl; have e0 : wS.cell? ⟨rb, ro, none⟩ = some (.string ⟨#[112]⟩) := hSw.2.1; have e1 : wS.cell? ⟨rb, ro + 1, none⟩ = some (.string ⟨#[97]⟩) := hSw.2.2.1; have e2 : wS.cell? ⟨rb, ro + 2, none⟩ = some (.int .i64 0) := hSw.2.2.2.1; go_simp; try with_reducible rfl)
  change wpAnyH _ _ _ _ _ _ _ (Act.put _ (some 104) _) _
  simp only [Act.put, List.setIfInBounds_toArray, List.set_cons_zero, List.set_cons_succ]
  refine wpAnyH_take (i := 58) (v := ?_) rfl (by kernel_rfl) (by kernel_rfl) (by kernel_rfl) (fun _ _ _ h => h) (Or.inl ⟨by rfl, ?_⟩) (by assumption) ?_
  rotate_left
  · (intro wS hSw; have a0 := hSw.1.1 0 _ rfl; have a1 := hSw.1.1 1 _ rfl; have a2 := hSw.1.1 2 _ rfl; have e0 : wS.cell? ⟨rb, ro, none⟩ = some (.string ⟨#[112]⟩) := hSw.2.1; have e1 : wS.cell? ⟨rb, ro + 1, none⟩ = some (.string ⟨#[97]⟩) := hSw.2.2.1; have e2 : wS.cell? ⟨rb, ro + 2, none⟩ = some (.int .i64 0) := hSw.2.2.2.1; go_simp; try with_reducible rfl)
  change wpAnyH _ _ _ _ _ _ _ (Act.put _ (some 105) _) _
  simp only [Act.put, List.setIfInBounds_toArray, List.set_cons_zero, List.set_cons_succ]
  refine wpAnyH_take (i := 59) (v := ?_) rfl (by kernel_rfl) (by kernel_rfl) (by kernel_rfl) (fun _ _ _ h => h) (Or.inl ⟨by rfl, ?_⟩) (by assumption) ?_
  rotate_left
  · (intro wS hSw; have a0 := hSw.1.1 0 _ rfl; have a1 := hSw.1.1 1 _ rfl; have a2 := hSw.1.1 2 _ rfl; have e0 : wS.cell? ⟨rb, ro, none⟩ = some (.string ⟨#[112]⟩) := hSw.2.1; have e1 : wS.cell? ⟨rb, ro + 1, none⟩ = some (.string ⟨#[97]⟩) := hSw.2.2.1; have e2 : wS.cell? ⟨rb, ro + 2, none⟩ = some (.int .i64 0) := hSw.2.2.2.1; go_simp; try with_reducible rfl)
  change wpAnyH _ _ _ _ _ _ _ (Act.put _ (some 106) _) _
  simp only [Act.put, List.setIfInBounds_toArray, List.set_cons_zero, List.set_cons_succ]
  refine wpAnyH_ready (rs := [60]) (by kernel_rfl) (by simp) ?_
  refine AllReadyH.cons rfl (fun K hK => ?_) AllReadyH.nil
  go_simp
  refine (F6.out _ BW.out).mono ?_
  rintro e v6 ⟨rfl, hv6⟩
  have BW' : Hid (Below w9.heap.size w9 v6) := BW.out.trans (hv6.mono BW.out.size)
  clear hv6 BW
  have BW := BW'
  clear BW'
  (try go_wp2_with (fail))
  refine hK.out _ _ ?_ (fun hHeld => ?_)
  · exact ⟨Cs.later BW.out qa9, (R9' : El w9 rb ro rA).later BW.out⟩
  clear hK K
  refine wpAnyH_take (i := 61) (v := ?_) rfl (by kernel_rfl) (by kernel_rfl) (by kernel_rfl) (fun _ _ _ h => h) (Or.inl ⟨by rfl, ?_⟩) (by assumption) ?_
  rotate_left
  · (intro wS hSw; have a0 := hSw.1.1 0 _ rfl; have a1 := hSw.1.1 1 _ rfl; have a2 := hSw.1.1 2 _ rfl; have e0 : wS.cell? ⟨rb, ro, none⟩ = some (.string ⟨#[112]⟩) := hSw.2.1; have e1 : wS.cell? ⟨rb, ro + 1, none⟩ = some (.string ⟨#[97]⟩) := hSw.2.2.1; have e2 : wS.cell? ⟨rb, ro + 2, none⟩ = some (.int .i64 0) := hSw.2.2.2.1; go_simp; try with_reducible rfl)
  change wpAnyH _ _ _ _ _ _ _ (Act.put _ (some 108) _) _
  simp only [Act.put, List.setIfInBounds_toArray, List.set_cons_zero, List.set_cons_succ]
  refine wpAnyH_take (i := 62) (v := ?_) rfl (by kernel_rfl) (by kernel_rfl) (by kernel_rfl) (fun _ _ _ h => h) (Or.inl ⟨by rfl, ?_⟩) (by assumption) ?_
  rotate_left
  · (intro wS hSw; have a0 := hSw.1.1 0 _ rfl; have a1 := hSw.1.1 1 _ rfl; have a2 := hSw.1.1 2 _ rfl; have e0 : wS.cell? ⟨rb, ro, none⟩ = some (.string ⟨#[112]⟩) := hSw.2.1; have e1 : wS.cell? ⟨rb, ro + 1, none⟩ = some (.string ⟨#[97]⟩) := hSw.2.2.1; have e2 : wS.cell? ⟨rb, ro + 2, none⟩ = some (.int .i64 0) := hSw.2.2.2.1; go_simp; try with_reducible rfl)
  change wpAnyH _ _ _ _ _ _ _ (Act.put _ (some 109) _) _
  simp only [Act.put, List.setIfInBounds_toArray, List.set_cons_zero, List.set_cons_succ]
  refine wpAnyH_take (i := 63) (v := ?_) rfl (by kernel_rfl) (by kernel_rfl) (by kernel_rfl) (fun _ _ _ h => h) (Or.inl ⟨by rfl, ?_⟩) (by assumption) ?_
  rotate_left
  · (intro wS hSw; have a0 := hSw.1.1 0 _ rfl; have a1 := hSw.1.1 1 _ rfl; have a2 := hSw.1.1 2 _ rfl; have e0 : wS.cell? ⟨rb, ro, none⟩ = some (.string ⟨#[112]⟩) := hSw.2.1; have e1 : wS.cell? ⟨rb, ro + 1, none⟩ = some (.string ⟨#[97]⟩) := hSw.2.2.1; have e2 : wS.cell? ⟨rb, ro + 2, none⟩ = some (.int .i64 0) := hSw.2.2.2.1; go_simp; try with_reducible rfl)
  change wpAnyH _ _ _ _ _ _ _ (Act.put _ (some 0) _) _
  simp only [Act.put, List.setIfInBounds_toArray, List.set_cons_zero]
  refine wpAnyH_done (by kernel_rfl) ?_ _
  refine NoPanic.normal ?_
  go_wp2
  go_ret
  exact ⟨rfl, HB9.trans (BW.out.mono HB9.size)⟩

end Go.Proofs.Ytpefjcgccbfgbaa.Bk
