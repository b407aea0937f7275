/-
  A table's clone at this program: all its blocks are new ones. Conditions: the table is one.
-/
import Derived.Test.YtpefjcgccbfgbaaNT
import Derived.Deep.RegionHeld3
import Derived.Deep.RegionWith
namespace Go.Proofs.Ytpefjcgccbfgbaa.Bk
open Go.RowKit

/-- A table's blocks lie from a place on. -/
def Fresh (W : World) (n b m : Nat) : Prop := n ≤ b ∧ n ≤ m ∧ ∃ (zb k cap : Nat), W.cell? ⟨b, 0, none⟩ = some (.slice (some ⟨zb, 0, none⟩) k cap) ∧ n ≤ zb
theorem Fresh.later {W w1 : World} {n b m : Nat} (h : Fresh W n b m) (hb : Below W.heap.size W w1) : Fresh w1 n b m := by
  obtain ⟨h1, h2, zb, k, cap, h3, h4⟩ := h
  exact ⟨h1, h2, zb, k, cap, cell_later hb h3, h4⟩
/-- Kept by what turns a block that lies ahead. -/
theorem Tb.beside {W w1 : World} {n b m r : Nat} {zs : List Zn} {ls : List Rw} (h : Tb W b m zs ls) (hf : Fresh W n b m) (hr : r < n) (hg : W.grownBy w1 (some r)) : Tb w1 b m zs ls :=
  h.kept hg fun x e => by
    cases e
    obtain ⟨h1, h2, zb, k, cap, h3, h4⟩ := hf
    refine ⟨by omega, by omega, fun zb' zo n' cap' hc => ?_⟩
    rw [h3] at hc
    injection hc with hc
    injection hc with e1 e2 e3
    injection e1 with e1
    injection e1 with e1 e4 e5
    omega
theorem cloneZ_new {zb zo cap : Nat} {zs : List Zn} (w : World) (h : RdZ w (.slice (some ⟨zb, zo, none⟩) zs.length cap) zs) (hl : zs.length ≤ 1099511627776) (h0 : 0 < zs.length) :
    Calls Try.prog 29 #[.slice (some ⟨zb, zo, none⟩) zs.length cap] w fun e w' => ∃ zb' cap' : Nat, e = .returned (.slice (some ⟨zb', 0, none⟩) zs.length cap') ∧ RdZ w' (.slice (some ⟨zb', 0, none⟩) zs.length cap') zs ∧ w.heap.size ≤ zb' ∧ Below w.heap.size w w' := by
  obtain ⟨i0, hi, hz0, hz1, hz2⟩ := info_parts zoneInfo
  have hcon := AnyE.slices_Clone Try.cloneZ i0 _ 4 32 hi hz0 hz1 hz2 rfl (by decide) Try.sizeOf35 zb zo zs.length cap (zs.map znL).flatten w (flatZ_len zs) (by unfold maxLen; omega) (by omega) h.cells (flatZ_one zs)
  change Calls Try.prog 29 _ _ _ at hcon
  refine hcon.mono ?_
  rintro e w' ⟨v', rfl, own, hn, hb⟩
  have hge := fun b hb => (World.ownsRow.lt own b hb).1
  obtain ⟨zb', cap', rfl, hr⟩ := ownZ_read own hn
  exact ⟨zb', cap', rfl, hr, hge zb' rfl, hb⟩

set_option maxHeartbeats 2000000 in
set_option maxRecDepth 100000 in
theorem clone_new {b m : Nat} {zs : List Zn} {ls : List Rw} (w : World) (h : Tb w b m zs ls) :
    Calls Try.prog 19 #[tbV b] w fun e w' => ∃ b' m', e = .returned (tbV b') ∧ Tb w' b' m' zs ls ∧ Fresh w' w.heap.size b' m' ∧ Below w.heap.size w w' := by
  have HT : Hid (Tb w b m zs ls) := h
  have FT := h.fit
  have zl := (fits_len FT).2
  have z0 := (fits_len FT).1
  obtain ⟨⟨zb, zo, cap, c0, hz⟩, c1, hm, -⟩ := h
  have RZ : Hid (∀ w1, Below w.heap.size w w1 → w1.cell? ⟨b, 0, none⟩ = some (.slice (some ⟨zb, zo, none⟩) zs.length cap) ∧ RdZ w1 (.slice (some ⟨zb, zo, none⟩) zs.length cap) zs ∧ w1.cell? ⟨b, 1, none⟩ = some (.map (some m)) ∧ MapW w1 m ls) := fun w1 hb => ⟨cell_later hb c0, RdZ.later hz hb, cell_later hb c1, MapW.later hb hm⟩
  clear HT c0 hz c1 hm
  go_enter Try.func19, Try.ntmps19
  go_upto_region 3 with (fail)
  have BW : Hid (Below w.heap.size w _) := Below.drew (Below.refl _ _)
  refine wp_region_noPanic ?_
  refine wp_region_held_drew (S := fun w' => w'.cell? ⟨b, 0, none⟩ = some (.slice (some ⟨zb, zo, none⟩) zs.length cap) ∧ w'.cell? ⟨b, 1, none⟩ = some (.map (some m))) (by kernel_rfl) ?_ (fun hHeld => ?_)
  · exact ⟨(RZ.out _ BW.out).1, (RZ.out _ BW.out).2.2.1⟩
  generalize World.drew _ = wd0 at *
  refine wpAnyH_take (i := 0) (v := ?_) rfl (by kernel_rfl) (by kernel_rfl) (by kernel_rfl) (fun _ _ _ h => h) (Or.inl ⟨by rfl, ?_⟩) (by assumption) ?_
  rotate_left
  · (intro wS hSw; have cb0 := hSw.1; have cb1 := hSw.2; go_simp; try with_reducible rfl)
  change wpAnyH _ _ _ _ _ _ _ (Act.put _ (some 5) _) _
  simp only [Act.put, List.setIfInBounds_toArray, List.set_cons_zero, List.set_cons_succ]
  refine wpAnyH_take (i := 1) (v := ?_) rfl (by kernel_rfl) (by kernel_rfl) (by kernel_rfl) (fun _ _ _ h => h) (Or.inl ⟨by rfl, ?_⟩) (by assumption) ?_
  rotate_left
  · (intro wS hSw; have cb0 := hSw.1; have cb1 := hSw.2; go_simp; try with_reducible rfl)
  change wpAnyH _ _ _ _ _ _ _ (Act.put _ (some 6) _) _
  simp only [Act.put, List.setIfInBounds_toArray, List.set_cons_zero, List.set_cons_succ]
  refine wpAnyH_take (i := 2) (v := ?_) rfl (by kernel_rfl) (by kernel_rfl) (by kernel_rfl) (fun _ _ _ h => h) (Or.inl ⟨by rfl, ?_⟩) (by assumption) ?_
  rotate_left
  · (intro wS hSw; have cb0 := hSw.1; have cb1 := hSw.2; go_simp; try with_reducible rfl)
  change wpAnyH _ _ _ _ _ _ _ (Act.put _ (some 7) _) _
  simp only [Act.put, List.setIfInBounds_toArray, List.set_cons_zero, List.set_cons_succ]
  refine wpAnyH_take (i := 3) (v := ?_) rfl (by kernel_rfl) (by kernel_rfl) (by kernel_rfl) (fun _ _ _ h => h) (Or.inl ⟨by rfl, ?_⟩) (by assumption) ?_
  rotate_left
  · (intro wS hSw; have cb0 := hSw.1; have cb1 := hSw.2; go_simp; try with_reducible rfl)
  change wpAnyH _ _ _ _ _ _ _ (Act.put _ (some 8) _) _
  simp only [Act.put, List.setIfInBounds_toArray, List.set_cons_zero, List.set_cons_succ]
  refine wpAnyH_take (i := 5) (v := ?_) rfl (by kernel_rfl) (by kernel_rfl) (by kernel_rfl) (fun _ _ _ h => h) (Or.inl ⟨by rfl, ?_⟩) (by assumption) ?_
  rotate_left
  · (intro wS hSw; have cb0 := hSw.1; have cb1 := hSw.2; go_simp; try with_reducible rfl)
  change wpAnyH _ _ _ _ _ _ _ (Act.put _ (some 10) _) _
  simp only [Act.put, List.setIfInBounds_toArray, List.set_cons_zero, List.set_cons_succ]
  refine wpAnyH_take (i := 6) (v := ?_) rfl (by kernel_rfl) (by kernel_rfl) (by kernel_rfl) (fun _ _ _ h => h) (Or.inl ⟨by rfl, ?_⟩) (by assumption) ?_
  rotate_left
  · (intro wS hSw; have cb0 := hSw.1; have cb1 := hSw.2; go_simp; try with_reducible rfl)
  change wpAnyH _ _ _ _ _ _ _ (Act.put _ (some 11) _) _
  simp only [Act.put, List.setIfInBounds_toArray, List.set_cons_zero, List.set_cons_succ]
  refine wpAnyH_take (i := 7) (v := ?_) rfl (by kernel_rfl) (by kernel_rfl) (by kernel_rfl) (fun _ _ _ h => h) (Or.inl ⟨by rfl, ?_⟩) (by assumption) ?_
  rotate_left
  · (intro wS hSw; have cb0 := hSw.1; have cb1 := hSw.2; go_simp; try with_reducible rfl)
  change wpAnyH _ _ _ _ _ _ _ (Act.put _ (some 12) _) _
  simp only [Act.put, List.setIfInBounds_toArray, List.set_cons_zero, List.set_cons_succ]
  refine wpAnyH_take (i := 8) (v := ?_) rfl (by kernel_rfl) (by kernel_rfl) (by kernel_rfl) (fun _ _ _ h => h) (Or.inl ⟨by rfl, ?_⟩) (by assumption) ?_
  rotate_left
  · (intro wS hSw; have cb0 := hSw.1; have cb1 := hSw.2; go_simp; try with_reducible rfl)
  change wpAnyH _ _ _ _ _ _ _ (Act.put _ (some 13) _) _
  simp only [Act.put, List.setIfInBounds_toArray, List.set_cons_zero, List.set_cons_succ]
  refine wpAnyH_ready (rs := [4]) (by kernel_rfl) (by simp) ?_
  refine AllReadyH.cons rfl (fun K hK => ?_) AllReadyH.nil
  go_simp
  refine (cloneZ_new _ (RZ.out _ BW.out).2.1 (by omega) z0).mono ?_
  rintro e v1 ⟨zb', zc', rfl, rz, hzn, hv1⟩
  have BW' : Hid (Below w.heap.size w v1) := BW.out.trans (hv1.mono BW.out.size)
  have RN' : Hid (RdZ v1 (.slice (some ⟨zb', 0, none⟩) zs.length zc') zs) := rz
  have ZN' : Hid (w.heap.size ≤ zb') := Nat.le_trans BW.out.size hzn
  clear hv1 BW
  have BW := BW'
  clear BW'
  have RN := RN'
  clear RN'
  have ZN := ZN'
  clear ZN'
  (try go_wp2_with (fail))
  refine hK.out _ _ ?_ (fun hHeld => ?_)
  · exact ⟨(RZ.out _ BW.out).1, (RZ.out _ BW.out).2.2.1⟩
  clear hK K
  refine wpAnyH_ready (rs := [9]) (by kernel_rfl) (by simp) ?_
  refine AllReadyH.cons rfl (fun K hK => ?_) AllReadyH.nil
  go_simp
  refine (cloneM_is _ (RZ.out _ BW.out).2.2.2).mono ?_
  rintro e v2 ⟨rfl, mn, hv2⟩
  have BW' : Hid (Below w.heap.size w v2) := BW.out.trans (hv2.mono BW.out.size)
  have RN' : Hid (RdZ v2 (.slice (some ⟨zb', 0, none⟩) zs.length zc') zs) := RdZ.later RN.out hv2
  have ZN' : Hid (w.heap.size ≤ zb') := ZN.out
  have MN' : Hid (MapW v2 v1.heap.size ls ∧ w.heap.size ≤ v1.heap.size) := ⟨mn, BW.out.size⟩
  clear hv2 BW RN ZN
  have BW := BW'
  clear BW'
  have RN := RN'
  clear RN'
  have ZN := ZN'
  clear ZN'
  have MN := MN'
  clear MN'
  (try go_wp2_with (fail))
  refine hK.out _ _ ?_ (fun hHeld => ?_)
  · exact ⟨(RZ.out _ BW.out).1, (RZ.out _ BW.out).2.2.1⟩
  clear hK K
  refine wpAnyH_take (i := 10) (v := ?_) rfl (by kernel_rfl) (by kernel_rfl) (by kernel_rfl) (fun _ _ _ h => h) (Or.inl ⟨by rfl, ?_⟩) (by assumption) ?_
  rotate_left
  · (intro wS hSw; have cb0 := hSw.1; have cb1 := hSw.2; go_simp; try with_reducible rfl)
  change wpAnyH _ _ _ _ _ _ _ (Act.put _ (some 15) _) _
  simp only [Act.put, List.setIfInBounds_toArray, List.set_cons_zero, List.set_cons_succ]
  refine wpAnyH_ready (rs := [11]) (by kernel_rfl) (by simp) ?_
  refine AllReadyH.cons rfl (fun K hK => ?_) AllReadyH.nil
  go_simp
  have q1 : Cs (v2.alloc (.cells #[.slice (some ⟨zb', 0, none⟩) zs.length zc', .map (some v1.heap.size)] 74)) v2.heap.size [.slice (some ⟨zb', 0, none⟩) zs.length zc', .map (some v1.heap.size)] := Cs.new _ _ _ _ rfl
  have BB := BW.out.alloc BW.out.size (.cells #[.slice (some ⟨zb', 0, none⟩) zs.length zc', .map (some v1.heap.size)] 74)
  have TT : Tb (v2.alloc (.cells #[.slice (some ⟨zb', 0, none⟩) zs.length zc', .map (some v1.heap.size)] 74)) v2.heap.size v1.heap.size zs ls := ⟨⟨zb', 0, zc', q1.1 0 _ rfl, RdZ.later RN.out ((Below.refl _ _).alloc (Nat.le_refl _) _)⟩, q1.1 1 _ rfl, MN.out.1.alloc _, FT⟩
  have FR : Fresh (v2.alloc (.cells #[.slice (some ⟨zb', 0, none⟩) zs.length zc', .map (some v1.heap.size)] 74)) w.heap.size v2.heap.size v1.heap.size := ⟨BW.out.size, MN.out.2, zb', zs.length, zc', q1.1 0 _ rfl, ZN.out⟩
  refine hK.out _ _ ?_ (fun hHeld => ?_)
  · exact ⟨(RZ.out _ BB).1, (RZ.out _ BB).2.2.1⟩
  clear hK K q1
  refine wpAnyH_take (i := 12) (v := ?_) rfl (by kernel_rfl) (by kernel_rfl) (by kernel_rfl) (fun _ _ _ h => h) (Or.inl ⟨by rfl, ?_⟩) (by assumption) ?_
  rotate_left
  · (intro wS hSw; have cb0 := hSw.1; have cb1 := hSw.2; go_simp; try with_reducible rfl)
  change wpAnyH _ _ _ _ _ _ _ (Act.put _ (some 2) _) _
  simp only [Act.put, List.setIfInBounds_toArray, List.set_cons_zero, List.set_cons_succ]
  refine wpAnyH_done (by kernel_rfl) ?_ _
  refine NoPanic.normal ?_
  go_wp2
  go_ret
  exact ⟨_, _, rfl, TT, FR, BB⟩

end Go.Proofs.Ytpefjcgccbfgbaa.Bk
