/-
  Owners compared (byOwner), and rows sorted by their owners, at this program. Conditions: the slice is one of one's own that holds these rows.
-/
import Derived.Test.YtpefjcgccbfgbaaNL
import Derived.Test.YtpefjcgccbfgbaaSh
import Derived.Deep.RegionHeld3
import Derived.Deep.RegionWith
namespace Go.Proofs.Ytpefjcgccbfgbaa.Bk
open Go.RowKit Go.Sort Go.Shelf

theorem cmpO_or (p c : ByteArray) (k : Int) (p' c' : ByteArray) (k' : Int) : or3 (cmpS p p') (cmpS c c') (cmpI k k') = cmpO p c k p' c' k' := rfl
set_option maxHeartbeats 2000000 in
set_option maxRecDepth 100000 in
theorem byOwner_is (p c p' c' : ByteArray) (k k' : Int) (w : World) : Calls Try.prog 46 #[ownV p c k, ownV p' c' k'] w fun e w' => e = .returned (.int .i64 (cmpO p c k p' c' k')) ∧ Gr w w' := by
  rw [← cmpO_or]
  obtain ⟨x, hx⟩ : ∃ x, x = cmpS p p' := ⟨_, rfl⟩
  obtain ⟨y, hy⟩ : ∃ y, y = cmpS c c' := ⟨_, rfl⟩
  obtain ⟨z, hz⟩ : ∃ z, z = cmpI k k' := ⟨_, rfl⟩
  have C1 : Hid (∀ w1, Calls Try.prog 51 #[.string p, .string p'] w1 fun e w' => e = .returned (.int .i64 x) ∧ w' = w1) := fun w1 => by rw [hx]; exact compareS_is p p' w1
  have C2 : Hid (∀ w1, Calls Try.prog 51 #[.string c, .string c'] w1 fun e w' => e = .returned (.int .i64 y) ∧ w' = w1) := fun w1 => by rw [hy]; exact compareS_is c c' w1
  have C3 : Hid (∀ w1, Calls Try.prog 52 #[.int .i64 k, .int .i64 k'] w1 fun e w' => e = .returned (.int .i64 z) ∧ w' = w1) := fun w1 => by rw [hz]; exact compareI_is k k' w1
  rw [← hx, ← hy, ← hz]
  clear hx hy hz
  go_enter Try.func46, Try.ntmps46
  go_upto_region 1 with (fail)
  have q1 : Cs ((w.alloc (.cells #[.string p, .string c, .int .i64 k] 45)).alloc (.cells #[.string p', .string c', .int .i64 k'] 45)) w.heap.size [.string p, .string c, .int .i64 k] := Cs.alloc (Cs.new _ _ _ _ rfl) _
  have q2 : Cs ((w.alloc (.cells #[.string p, .string c, .int .i64 k] 45)).alloc (.cells #[.string p', .string c', .int .i64 k'] 45)) (w.heap.size + 1) [.string p', .string c', .int .i64 k'] := Cs.new _ _ _ _ (by simp)
  have G0 : Gr w ((w.alloc (.cells #[.string p, .string c, .int .i64 k] 45)).alloc (.cells #[.string p', .string c', .int .i64 k'] 45)) := ((Gr.refl w).alloc _).alloc _
  generalize (w.alloc (.cells #[.string p, .string c, .int .i64 k] 45)).alloc (.cells #[.string p', .string c', .int .i64 k'] 45) = W0 at *
  have GW : Hid (Gr W0 _) := (Gr.refl _).drew
  refine wp_region_noPanic ?_
  refine wp_region_held_drew (S := fun w' => Cs w' w.heap.size [.string p, .string c, .int .i64 k] ∧ Cs w' (w.heap.size + 1) [.string p', .string c', .int .i64 k']) (by kernel_rfl) ?_ (fun hHeld => ?_)
  · exact ⟨Cs.later GW.out.below q1, Cs.later GW.out.below q2⟩
  generalize World.drew _ = wd0 at *
  refine wpAnyH_take (i := 0) (v := ?_) rfl (by kernel_rfl) (by kernel_rfl) (by kernel_rfl) (fun _ _ _ h => h) (Or.inl ⟨by rfl, ?_⟩) (by assumption) ?_
  rotate_left
  · (intro wS hSw; have a0 := hSw.1.1 0 _ rfl; have a1 := hSw.1.1 1 _ rfl; have a2 := hSw.1.1 2 _ rfl; have b0 := hSw.2.1 0 _ rfl; have b1 := hSw.2.1 1 _ rfl; have b2 := hSw.2.1 2 _ rfl; go_simp; try with_reducible rfl)
  change wpAnyH _ _ _ _ _ _ _ (Act.put _ (some 5) _) _
  simp only [Act.put, List.setIfInBounds_toArray, List.set_cons_zero, List.set_cons_succ]
  refine wpAnyH_take (i := 1) (v := ?_) rfl (by kernel_rfl) (by kernel_rfl) (by kernel_rfl) (fun _ _ _ h => h) (Or.inl ⟨by rfl, ?_⟩) (by assumption) ?_
  rotate_left
  · (intro wS hSw; have a0 := hSw.1.1 0 _ rfl; have a1 := hSw.1.1 1 _ rfl; have a2 := hSw.1.1 2 _ rfl; have b0 := hSw.2.1 0 _ rfl; have b1 := hSw.2.1 1 _ rfl; have b2 := hSw.2.1 2 _ rfl; go_simp; try with_reducible rfl)
  change wpAnyH _ _ _ _ _ _ _ (Act.put _ (some 6) _) _
  simp only [Act.put, List.setIfInBounds_toArray, List.set_cons_zero, List.set_cons_succ]
  refine wpAnyH_take (i := 2) (v := ?_) rfl (by kernel_rfl) (by kernel_rfl) (by kernel_rfl) (fun _ _ _ h => h) (Or.inl ⟨by rfl, ?_⟩) (by assumption) ?_
  rotate_left
  · (intro wS hSw; have a0 := hSw.1.1 0 _ rfl; have a1 := hSw.1.1 1 _ rfl; have a2 := hSw.1.1 2 _ rfl; have b0 := hSw.2.1 0 _ rfl; have b1 := hSw.2.1 1 _ rfl; have b2 := hSw.2.1 2 _ rfl; go_simp; try with_reducible rfl)
  change wpAnyH _ _ _ _ _ _ _ (Act.put _ (some 7) _) _
  simp only [Act.put, List.setIfInBounds_toArray, List.set_cons_zero, List.set_cons_succ]
  refine wpAnyH_take (i := 3) (v := ?_) rfl (by kernel_rfl) (by kernel_rfl) (by kernel_rfl) (fun _ _ _ h => h) (Or.inl ⟨by rfl, ?_⟩) (by assumption) ?_
  rotate_left
  · (intro wS hSw; have a0 := hSw.1.1 0 _ rfl; have a1 := hSw.1.1 1 _ rfl; have a2 := hSw.1.1 2 _ rfl; have b0 := hSw.2.1 0 _ rfl; have b1 := hSw.2.1 1 _ rfl; have b2 := hSw.2.1 2 _ rfl; go_simp; try with_reducible rfl)
  change wpAnyH _ _ _ _ _ _ _ (Act.put _ (some 8) _) _
  simp only [Act.put, List.setIfInBounds_toArray, List.set_cons_zero, List.set_cons_succ]
  refine wpAnyH_take (i := 5) (v := ?_) rfl (by kernel_rfl) (by kernel_rfl) (by kernel_rfl) (fun _ _ _ h => h) (Or.inl ⟨by rfl, ?_⟩) (by assumption) ?_
  rotate_left
  · (intro wS hSw; have a0 := hSw.1.1 0 _ rfl; have a1 := hSw.1.1 1 _ rfl; have a2 := hSw.1.1 2 _ rfl; have b0 := hSw.2.1 0 _ rfl; have b1 := hSw.2.1 1 _ rfl; have b2 := hSw.2.1 2 _ rfl; go_simp; try with_reducible rfl)
  change wpAnyH _ _ _ _ _ _ _ (Act.put _ (some 10) _) _
  simp only [Act.put, List.setIfInBounds_toArray, List.set_cons_zero, List.set_cons_succ]
  refine wpAnyH_take (i := 6) (v := ?_) rfl (by kernel_rfl) (by kernel_rfl) (by kernel_rfl) (fun _ _ _ h => h) (Or.inl ⟨by rfl, ?_⟩) (by assumption) ?_
  rotate_left
  · (intro wS hSw; have a0 := hSw.1.1 0 _ rfl; have a1 := hSw.1.1 1 _ rfl; have a2 := hSw.1.1 2 _ rfl; have b0 := hSw.2.1 0 _ rfl; have b1 := hSw.2.1 1 _ rfl; have b2 := hSw.2.1 2 _ rfl; go_simp; try with_reducible rfl)
  change wpAnyH _ _ _ _ _ _ _ (Act.put _ (some 11) _) _
  simp only [Act.put, List.setIfInBounds_toArray, List.set_cons_zero, List.set_cons_succ]
  refine wpAnyH_take (i := 7) (v := ?_) rfl (by kernel_rfl) (by kernel_rfl) (by kernel_rfl) (fun _ _ _ h => h) (Or.inl ⟨by rfl, ?_⟩) (by assumption) ?_
  rotate_left
  · (intro wS hSw; have a0 := hSw.1.1 0 _ rfl; have a1 := hSw.1.1 1 _ rfl; have a2 := hSw.1.1 2 _ rfl; have b0 := hSw.2.1 0 _ rfl; have b1 := hSw.2.1 1 _ rfl; have b2 := hSw.2.1 2 _ rfl; go_simp; try with_reducible rfl)
  change wpAnyH _ _ _ _ _ _ _ (Act.put _ (some 12) _) _
  simp only [Act.put, List.setIfInBounds_toArray, List.set_cons_zero, List.set_cons_succ]
  refine wpAnyH_take (i := 8) (v := ?_) rfl (by kernel_rfl) (by kernel_rfl) (by kernel_rfl) (fun _ _ _ h => h) (Or.inl ⟨by rfl, ?_⟩) (by assumption) ?_
  rotate_left
  · (intro wS hSw; have a0 := hSw.1.1 0 _ rfl; have a1 := hSw.1.1 1 _ rfl; have a2 := hSw.1.1 2 _ rfl; have b0 := hSw.2.1 0 _ rfl; have b1 := hSw.2.1 1 _ rfl; have b2 := hSw.2.1 2 _ rfl; go_simp; try with_reducible rfl)
  change wpAnyH _ _ _ _ _ _ _ (Act.put _ (some 13) _) _
  simp only [Act.put, List.setIfInBounds_toArray, List.set_cons_zero, List.set_cons_succ]
  refine wpAnyH_take (i := 10) (v := ?_) rfl (by kernel_rfl) (by kernel_rfl) (by kernel_rfl) (fun _ _ _ h => h) (Or.inl ⟨by rfl, ?_⟩) (by assumption) ?_
  rotate_left
  · (intro wS hSw; have a0 := hSw.1.1 0 _ rfl; have a1 := hSw.1.1 1 _ rfl; have a2 := hSw.1.1 2 _ rfl; have b0 := hSw.2.1 0 _ rfl; have b1 := hSw.2.1 1 _ rfl; have b2 := hSw.2.1 2 _ rfl; go_simp; try with_reducible rfl)
  change wpAnyH _ _ _ _ _ _ _ (Act.put _ (some 15) _) _
  simp only [Act.put, List.setIfInBounds_toArray, List.set_cons_zero, List.set_cons_succ]
  refine wpAnyH_take (i := 11) (v := ?_) rfl (by kernel_rfl) (by kernel_rfl) (by kernel_rfl) (fun _ _ _ h => h) (Or.inl ⟨by rfl, ?_⟩) (by assumption) ?_
  rotate_left
  · (intro wS hSw; have a0 := hSw.1.1 0 _ rfl; have a1 := hSw.1.1 1 _ rfl; have a2 := hSw.1.1 2 _ rfl; have b0 := hSw.2.1 0 _ rfl; have b1 := hSw.2.1 1 _ rfl; have b2 := hSw.2.1 2 _ rfl; go_simp; try with_reducible rfl)
  change wpAnyH _ _ _ _ _ _ _ (Act.put _ (some 16) _) _
  simp only [Act.put, List.setIfInBounds_toArray, List.set_cons_zero, List.set_cons_succ]
  refine wpAnyH_take (i := 12) (v := ?_) rfl (by kernel_rfl) (by kernel_rfl) (by kernel_rfl) (fun _ _ _ h => h) (Or.inl ⟨by rfl, ?_⟩) (by assumption) ?_
  rotate_left
  · (intro wS hSw; have a0 := hSw.1.1 0 _ rfl; have a1 := hSw.1.1 1 _ rfl; have a2 := hSw.1.1 2 _ rfl; have b0 := hSw.2.1 0 _ rfl; have b1 := hSw.2.1 1 _ rfl; have b2 := hSw.2.1 2 _ rfl; go_simp; try with_reducible rfl)
  change wpAnyH _ _ _ _ _ _ _ (Act.put _ (some 17) _) _
  simp only [Act.put, List.setIfInBounds_toArray, List.set_cons_zero, List.set_cons_succ]
  refine wpAnyH_take (i := 13) (v := ?_) rfl (by kernel_rfl) (by kernel_rfl) (by kernel_rfl) (fun _ _ _ h => h) (Or.inl ⟨by rfl, ?_⟩) (by assumption) ?_
  rotate_left
  · (intro wS hSw; have a0 := hSw.1.1 0 _ rfl; have a1 := hSw.1.1 1 _ rfl; have a2 := hSw.1.1 2 _ rfl; have b0 := hSw.2.1 0 _ rfl; have b1 := hSw.2.1 1 _ rfl; have b2 := hSw.2.1 2 _ rfl; go_simp; try with_reducible rfl)
  change wpAnyH _ _ _ _ _ _ _ (Act.put _ (some 18) _) _
  simp only [Act.put, List.setIfInBounds_toArray, List.set_cons_zero, List.set_cons_succ]
  refine wpAnyH_ready (rs := [4]) (by kernel_rfl) (by simp) ?_
  refine AllReadyH.cons rfl (fun K hK => ?_) AllReadyH.nil
  go_simp
  refine (C1.out _).mono ?_
  rintro e v1 ⟨rfl, hv1⟩
  have GW' : Hid (Gr W0 v1) := by rw [hv1]; exact GW.out
  clear hv1 GW
  have GW := GW'
  clear GW'
  (try go_wp2_with (fail))
  refine hK.out _ _ ?_ (fun hHeld => ?_)
  · exact ⟨Cs.later GW.out.below q1, Cs.later GW.out.below q2⟩
  clear hK K
  refine wpAnyH_ready (rs := [9]) (by kernel_rfl) (by simp) ?_
  refine AllReadyH.cons rfl (fun K hK => ?_) AllReadyH.nil
  go_simp
  refine (C2.out _).mono ?_
  rintro e v2 ⟨rfl, hv2⟩
  have GW' : Hid (Gr W0 v2) := by rw [hv2]; exact GW.out
  clear hv2 GW
  have GW := GW'
  clear GW'
  (try go_wp2_with (fail))
  refine hK.out _ _ ?_ (fun hHeld => ?_)
  · exact ⟨Cs.later GW.out.below q1, Cs.later GW.out.below q2⟩
  clear hK K
  refine wpAnyH_ready (rs := [14]) (by kernel_rfl) (by simp) ?_
  refine AllReadyH.cons rfl (fun K hK => ?_) AllReadyH.nil
  go_simp
  refine (C3.out _).mono ?_
  rintro e v3 ⟨rfl, hv3⟩
  have GW' : Hid (Gr W0 v3) := by rw [hv3]; exact GW.out
  clear hv3 GW
  have GW := GW'
  clear GW'
  (try go_wp2_with (fail))
  refine hK.out _ _ ?_ (fun hHeld => ?_)
  · exact ⟨Cs.later GW.out.below q1, Cs.later GW.out.below q2⟩
  clear hK K
  refine wpAnyH_ready (rs := [15]) (by kernel_rfl) (by simp) ?_
  refine AllReadyH.cons rfl (fun K hK => ?_) AllReadyH.nil
  go_simp
  have NB : Cs (v3.alloc (.cells #[.int .i64 x, .int .i64 y, .int .i64 z] 3)) v3.heap.size [.int .i64 x, .int .i64 y, .int .i64 z] := Cs.new _ _ _ _ rfl
  have GW' : Hid (Gr W0 (v3.alloc (.cells #[.int .i64 x, .int .i64 y, .int .i64 z] 3))) := GW.out.alloc _
  clear GW
  have GW := GW'
  clear GW'
  refine hK.out _ _ ?_ (fun hHeld => ?_)
  · exact ⟨Cs.later GW.out.below q1, Cs.later GW.out.below q2⟩
  clear hK K
  generalize v3.alloc (.cells #[.int .i64 x, .int .i64 y, .int .i64 z] 3) = wB at *
  refine wpAnyH_ready (rs := [16]) (by kernel_rfl) (by simp) ?_
  refine AllReadyH.cons rfl (fun K hK => ?_) AllReadyH.nil
  go_simp
  refine (or_is x y z _ _ NB).mono ?_
  rintro e v5 ⟨rfl, hv5⟩
  have GW' : Hid (Gr W0 v5) := by rw [hv5]; exact GW.out
  clear hv5 GW
  have GW := GW'
  clear GW'
  (try go_wp2_with (fail))
  refine hK.out _ _ ?_ (fun hHeld => ?_)
  · exact ⟨Cs.later GW.out.below q1, Cs.later GW.out.below q2⟩
  clear hK K
  refine wpAnyH_take (i := 17) (v := ?_) rfl (by kernel_rfl) (by kernel_rfl) (by kernel_rfl) (fun _ _ _ h => h) (Or.inl ⟨by rfl, ?_⟩) (by assumption) ?_
  rotate_left
  · (intro wS hSw; have a0 := hSw.1.1 0 _ rfl; have a1 := hSw.1.1 1 _ rfl; have a2 := hSw.1.1 2 _ rfl; have b0 := hSw.2.1 0 _ rfl; have b1 := hSw.2.1 1 _ rfl; have b2 := hSw.2.1 2 _ rfl; go_simp; try with_reducible rfl)
  change wpAnyH _ _ _ _ _ _ _ (Act.put _ (some 4) _) _
  simp only [Act.put, List.setIfInBounds_toArray, List.set_cons_zero, List.set_cons_succ]
  refine wpAnyH_done (by kernel_rfl) ?_ _
  refine NoPanic.normal ?_
  go_wp2
  go_ret
  exact ⟨rfl, G0.trans GW.out⟩

/-- A row's value. -/
theorem rowV_is (r : Rw) : (.agg (rowL r).toArray : Value) = rowV r := rfl
set_option maxHeartbeats 2000000 in
set_option maxRecDepth 100000 in
theorem closure_is (r q : Rw) (w : World) : Calls Try.prog 45 #[rowV r, rowV q] w fun e w' => e = .returned (.int .i64 (cmpO r.p r.c r.k q.p q.c q.k)) ∧ Gr w w' := by
  have C1 : Hid (∀ w1, Calls Try.prog 46 #[ownV r.p r.c r.k, ownV q.p q.c q.k] w1 fun e w' => e = .returned (.int .i64 (cmpO r.p r.c r.k q.p q.c q.k)) ∧ Gr w1 w') := fun w1 => byOwner_is r.p r.c q.p q.c r.k q.k w1
  generalize cmpO r.p r.c r.k q.p q.c q.k = R at *
  go_enter Try.func45, Try.ntmps45
  go_wp2_with (fail)
  refine (C1.out _).mono ?_
  rintro e w1 ⟨rfl, G1⟩
  have G2 : Gr w w1 := Gr.trans (((Gr.refl w).alloc _).alloc _) G1
  clear C1 G1
  go_wp2
  go_ret
  exact ⟨rfl, G2⟩

def cfR (r q : Rw) : Int := cmpO r.p r.c r.k q.p q.c q.k
theorem ltR (r q : Rw) : ltOf cfR r q = befR r q := cmpO_bef r q
theorem swoR : SWO (ltOf cfR) where
  irrefl x := by rw [ltR, befR_irr]
  trans x y z h1 h2 := by rw [ltR] at *; exact befR_tr h1 h2
  ntrans x y z h1 h2 := by
    rw [ltR] at *
    rcases befR_tot y x with h | h | h
    · rcases befR_tot z y with k | k | k
      · exact befR_asy (befR_tr k h)
      · rw [(befR_same k).2]; exact befR_asy h
      · rw [h2] at k; cases k
    · rw [← (befR_same h).1]; exact h2
    · rw [h1] at h; cases h
theorem sorted_one {ls ms : List Rw} (hp : ms.Perm ls) (hs : ls.Pairwise fun r q => befR r q = true) (hm : ms.Pairwise fun r q => befR q r = false) : ms = ls := by
  have hs' : ls.Pairwise fun r q => befR q r = false := hs.imp fun h => befR_asy h
  refine List.Perm.eq_of_pairwise (le := fun r q => befR q r = false) (fun a b ha hb h1 h2 => ?_) hm hs' hp
  rcases befR_tot a b with h | h | h
  · rw [h2] at h; cases h
  · have ha' : a ∈ ls := hp.mem_iff.1 ha
    by_cases e : a = b
    · exact e
    · exfalso
      obtain ⟨i, hi, rfl⟩ := List.getElem_of_mem ha'
      obtain ⟨j, hj, rfl⟩ := List.getElem_of_mem hb
      have hij : i ≠ j := fun e' => e (by subst e'; rfl)
      rcases Nat.lt_or_gt_of_ne hij with l | l
      · have := List.pairwise_iff_getElem.1 hs i j hi hj l
        rw [sameR_no h] at this; cases this
      · have := List.pairwise_iff_getElem.1 hs j i hj hi l
        rw [(befR_same h).2, befR_irr] at this; cases this
  · rw [h1] at h; cases h
section
variable [Inhabited Rw]
theorem cmpLays (blk off size : Nat) (w : World) : CmpLays Try.prog 45 #[] rowL 11 cfR blk off size w := fun _ _ _ _ x y => closure_is x y _
theorem heldK {W : World} {base g cap : Nat} {xs : List Rw} {T : TypeId} (h : W.ownsRow base T 11 (.slice (some ⟨g, 0, none⟩) xs.length cap) xs.length (xs.map rowL).flatten) : HoldsK rowL 11 W g 0 xs.toArray ∧ g < W.heap.size := by
  have hc := World.ownsRow.cells (g := g) h rfl
  obtain ⟨-, ⟨e, e'⟩ | ⟨g', cap', cur, e, -, hb, h1, h2, h3, h4⟩⟩ := h
  · cases e
  · cases e
    refine ⟨fun t ht => ⟨?_, by simp [World.frozen?, hb]⟩, (Array.getElem?_eq_some_iff.1 hb).1⟩
    have ht' : t < xs.length * 11 := by simpa using ht
    have hx : t / 11 < xs.length := by omega
    have e1 := get_flatK rowL 11 xs.toArray t (by simpa using ht')
    have hr : xs[t / 11]? = some xs[t / 11] := List.getElem?_eq_getElem hx
    have hi : t % 11 < 11 := Nat.mod_lt _ (by omega)
    have hv : (rowL xs[t / 11])[t % 11]? = some ((rowL xs[t / 11])[t % 11]'hi) := List.getElem?_eq_getElem hi
    have := hc t _ (by have := flatW_at hr hv; rwa [show t / 11 * 11 + t % 11 = t by omega] at this)
    rw [Addr.add_lit] at this
    rw [show (0 + t) = 0 + t from rfl, this, e1]
    simp only [id, List.getElem!_toArray]
    rw [getElem!_pos xs (t / 11) hx, getElem!_pos (rowL xs[t / 11]) (t % 11) hi]
theorem rd_sorted {W : World} {g n cap : Nat} {d : Array Rw} (h : HoldsK rowL 11 W g 0 d) (hn : d.size ≤ cap) (hc : cap ≤ maxLen) (hm : ∀ r ∈ d.toList, r.p.size ≤ maxLen ∧ r.c.size ≤ maxLen) (e : n = d.size) : RdW W (.slice (some ⟨g, 0, none⟩) n cap) d.toList := by
  subst e
  refine ⟨some ⟨g, 0, none⟩, cap, by simp, by simpa using hn, hc, fun j r hj => ⟨hm r (List.mem_of_getElem? hj), g, 0, rfl, ?_⟩⟩
  have hj' : j < d.size := by simpa using (List.getElem?_eq_some_iff.1 hj).1
  have er : d[j]! = r := by
    rw [getElem!_pos d j hj']
    have := (List.getElem?_eq_some_iff.1 hj).2
    simpa using this
  have c : ∀ i v, i < 11 → (rowL r)[i]? = some v → W.cell? ⟨g, 0 + j * 11 + i, none⟩ = some v := fun i v hi hv => by
    have := (HoldsK.cell h hj' hi).1
    rw [er, getElem!_pos (rowL r) i (show i < (rowL r).length from hi), (List.getElem?_eq_some_iff.1 hv).2] at this
    exact this
  exact ⟨c 0 _ (by omega) rfl, c 1 _ (by omega) rfl, c 2 _ (by omega) rfl, c 3 _ (by omega) rfl, c 4 _ (by omega) rfl, c 5 _ (by omega) rfl, c 6 _ (by omega) rfl, c 7 _ (by omega) rfl, c 8 _ (by omega) rfl, c 9 _ (by omega) rfl, c 10 _ (by omega) rfl⟩
theorem grown_sorted {w : World} {g n : Nat} {os : Array Obj} (d : Array Rw) : w.grownBy (sortWorldK rowL 11 w g 0 n d os) (some g) := by
  refine ⟨rfl, rfl, rfl, by simp [sortWorldK, putRowK], fun k hk hne => ?_⟩
  unfold sortWorldK
  rw [heap_grow_old _ _ (by simpa [putRowK] using hk)]
  have : g ≠ k := fun e => hne (by rw [e])
  simp [putRowK, putRow, mapBlock, Sort.ahead, Array.getElem?_modify, this]
end

set_option maxHeartbeats 2000000 in
set_option maxRecDepth 100000 in
/-- slices.SortFunc at rows of one's own: the rows in order. -/
theorem sort_is {W : World} {base g cap : Nat} {ls xs : List Rw} {T : TypeId} (h : W.ownsRow base T 11 (.slice (some ⟨g, 0, none⟩) xs.length cap) xs.length (xs.map rowL).flatten) (hp : xs.Perm ls) (hs : ls.Pairwise fun r q => befR r q = true) (hm : ∀ r ∈ ls, r.p.size ≤ maxLen ∧ r.c.size ≤ maxLen)
    (hH : xs ≠ [] ∨ g < W.heap.size) (hc : xs.length ≤ cap ∧ cap ≤ maxLen) (hn : xs.length ≤ 1099511627776) :
    Calls Try.prog 44 #[.slice (some ⟨g, 0, none⟩) xs.length cap, .func (.func 45) #[] #[]] W fun e w' => e = .returned (.tuple #[]) ∧ RdW w' (.slice (some ⟨g, 0, none⟩) xs.length cap) ls ∧ W.grownBy w' (some g) := by
  haveI : Inhabited Rw := ⟨⟨ByteArray.empty, ByteArray.empty, 0, fun _ => 0⟩⟩
  have hk : HoldsK rowL 11 W g 0 xs.toArray ∧ g < W.heap.size := by
    by_cases h0 : xs = []
    · subst h0
      refine ⟨fun t ht => ?_, hH.resolve_left (fun h => h rfl)⟩
      simp at ht
    · exact heldK h
  have eg : ∀ args w, (callFunc 45 args).run Try.prog w = .ok (.enter 45 args) w := enters_of Try.func45 (by kernel_rfl) rfl
  have hl : xs.toArray.size < 4611686018427387904 := by simp; omega
  have hcon := AnyQ.slices_SortFunc Try.sortH 11 Try.isAgg91 Try.sizeOf91 rowL (fun _ => rfl) rowL_one cfR swoR 45 #[] g 0 cap xs.toArray W eg (cmpLays g 0 _ W) hk.1 hk.2 hl
  change Calls Try.prog 44 _ _ _ at hcon
  rw [List.size_toArray] at hcon
  refine hcon.mono ?_
  rintro e w' ⟨he, d', n, os, h1, h2, rfl⟩
  have p1 : d'.toList.Perm xs := by
    obtain ⟨e1, -, e3⟩ := h1
    have f1 : d'.extract 0 xs.length = d' := by rw [show xs.length = d'.size by rw [e1]; simp]; simp
    have f2 : xs.toArray.extract 0 xs.length = xs.toArray := by simp
    rw [f1, f2] at e3
    simpa using e3
  have s1 : d'.toList.Pairwise fun r q => befR q r = false := by
    rw [List.pairwise_iff_getElem]
    intro i j hi hj hij
    have hj' : j < d'.size := by simpa using hj
    have hi' : i < d'.size := by simpa using hi
    have := h2 i j (Nat.zero_le _) hij (by have := h1.1; simp at this; omega)
    rw [ltR, getElem!_pos d' j hj', getElem!_pos d' i hi'] at this
    simpa using this
  have e1 := sorted_one (p1.trans hp) hs s1
  refine ⟨he, ?_, grown_sorted d'⟩
  have hd : d'.size = xs.length := by have := h1.1; simpa using this
  have := rd_sorted (n := xs.length) (cap := cap) (holdsK_sortWorldK_c rowL 11 W g 0 xs.toArray d' n os hk.1 hk.2 (by rw [hd]; simp)) (by omega) hc.2 (by rw [e1]; exact hm) hd.symm
  rwa [e1] at this

end Go.Proofs.Ytpefjcgccbfgbaa.Bk
