/-
  What an owner holds of a table (Held), and a pod's rows taken off it (Release), at this program. Conditions: the table is one; the texts are within the reach.
-/
import Derived.Test.YtpefjcgccbfgbaaNI
import Derived.Deep.RegionHeld3
import Derived.Deep.RegionWith
import Derived.Deep.CutRange
import Derived.Deep.DeepCutAuto
import Derived.Deep.CutBlock
namespace Go.Proofs.Ytpefjcgccbfgbaa.Bk
open Go.RowKit

set_option maxHeartbeats 2000000 in
set_option maxRecDepth 100000 in
theorem held_is {b m : Nat} {zs : List Zn} {ls : List Rw} (p c : ByteArray) (k : Int) (w : World) (h : Tb w b m zs ls) (hg : GdK p c k) :
    Calls Try.prog 17 #[tbV b, ownV p c k] w fun e w' => e = .returned (spV (hld p c k ls)) ∧ Below w.heap.size w w' := by
  obtain ⟨H, hH⟩ : ∃ H, H = hld p c k ls := ⟨_, rfl⟩
  rw [← hH]
  have LK : Hid (∀ w1, MapW w1 m ls → Sem.run Try.prog (Instr.lookup tMap (.map (some m)) (ownV p c k) false) w1 = .ok (spV H) w1) := fun w1 h1 => by rw [hH]; exact h1.look hg
  have HT : Hid (Tb w b m zs ls) := h
  clear h hg hH
  go_enter Try.func17, Try.ntmps17
  go_upto_region 3 with (fail)
  have q1 : Cs ((w.alloc (.cells #[.string p, .string c, .int .i64 k] 45)).alloc (.cells #[.int .i64 0, .int .i64 0, .int .i64 0, .int .i64 0, .int .i64 0, .int .i64 0, .int .i64 0, .int .i64 0] 47)) w.heap.size [.string p, .string c, .int .i64 k] := Cs.alloc (Cs.new _ _ _ _ rfl) _
  have q2 : Cs ((w.alloc (.cells #[.string p, .string c, .int .i64 k] 45)).alloc (.cells #[.int .i64 0, .int .i64 0, .int .i64 0, .int .i64 0, .int .i64 0, .int .i64 0, .int .i64 0, .int .i64 0] 47)) (w.heap.size + 1) (spL nought) := Cs.new _ _ _ _ (by simp)
  have B1 : Below w.heap.size w ((w.alloc (.cells #[.string p, .string c, .int .i64 k] 45)).alloc (.cells #[.int .i64 0, .int .i64 0, .int .i64 0, .int .i64 0, .int .i64 0, .int .i64 0, .int .i64 0, .int .i64 0] 47)) := by go_grown
  obtain ⟨pr, hpr⟩ : ∃ pr, pr = w.heap.size + 1 := ⟨_, rfl⟩
  have HP : Hid (w.heap.size < pr) := by show w.heap.size < pr; omega
  rw [← hpr] at q2 ⊢
  clear hpr
  generalize (w.alloc (.cells #[.string p, .string c, .int .i64 k] 45)).alloc (.cells #[.int .i64 0, .int .i64 0, .int .i64 0, .int .i64 0, .int .i64 0, .int .i64 0, .int .i64 0, .int .i64 0] 47) = W0 at *
  have T1 := Tb.later B1 HT.out
  have HTB : Hid (∀ w1, Below w.heap.size w w1 → Tb w1 b m zs ls) := fun w1 hb => Tb.later hb HT.out
  clear HT
  have BW : Hid (Below W0.heap.size W0 _) := Below.drew (Below.refl _ _)
  refine wp_region_noPanic ?_
  refine wp_region_held_drew (S := fun w' => Cs w' w.heap.size [.string p, .string c, .int .i64 k] ∧ w'.cell? ⟨b, 1, none⟩ = some (.map (some m)) ∧ Sem.run Try.prog (Instr.lookup tMap (.map (some m)) (ownV p c k) false) w' = .ok (spV H) w') (by kernel_rfl) ?_ (fun hHeld => ?_)
  · exact ⟨Cs.later BW.out q1, (Tb.later BW.out T1).held, LK.out _ (Tb.later BW.out T1).map⟩
  generalize World.drew _ = wd0 at *
  refine wpAnyH_take (i := 0) (v := ?_) rfl (by kernel_rfl) (by kernel_rfl) (by kernel_rfl) (fun _ _ _ h => h) (Or.inl ⟨by rfl, ?_⟩) (by assumption) ?_
  rotate_left
  · (intro wS hSw; have o0 := hSw.1.1 0 _ rfl; have o1 := hSw.1.1 1 _ rfl; have o2 := hSw.1.1 2 _ rfl; have cb := hSw.2.1; have lk := hSw.2.2; go_simp; try with_reducible rfl)
  change wpAnyH _ _ _ _ _ _ _ (Act.put _ (some 8) _) _
  simp only [Act.put, List.setIfInBounds_toArray, List.set_cons_zero, List.set_cons_succ]
  refine wpAnyH_take (i := 1) (v := ?_) rfl (by kernel_rfl) (by kernel_rfl) (by kernel_rfl) (fun _ _ _ h => h) (Or.inl ⟨by rfl, ?_⟩) (by assumption) ?_
  rotate_left
  · (intro wS hSw; have o0 := hSw.1.1 0 _ rfl; have o1 := hSw.1.1 1 _ rfl; have o2 := hSw.1.1 2 _ rfl; have cb := hSw.2.1; have lk := hSw.2.2; go_simp; try with_reducible rfl)
  change wpAnyH _ _ _ _ _ _ _ (Act.put _ (some 9) _) _
  simp only [Act.put, List.setIfInBounds_toArray, List.set_cons_zero, List.set_cons_succ]
  refine wpAnyH_take (i := 2) (v := ?_) rfl (by kernel_rfl) (by kernel_rfl) (by kernel_rfl) (fun _ _ _ h => h) (Or.inl ⟨by rfl, ?_⟩) (by assumption) ?_
  rotate_left
  · (intro wS hSw; have o0 := hSw.1.1 0 _ rfl; have o1 := hSw.1.1 1 _ rfl; have o2 := hSw.1.1 2 _ rfl; have cb := hSw.2.1; have lk := hSw.2.2; go_simp; try with_reducible rfl)
  change wpAnyH _ _ _ _ _ _ _ (Act.put _ (some 10) _) _
  simp only [Act.put, List.setIfInBounds_toArray, List.set_cons_zero, List.set_cons_succ]
  refine wpAnyH_take (i := 3) (v := ?_) rfl (by kernel_rfl) (by kernel_rfl) (by kernel_rfl) (fun _ _ _ h => h) (Or.inl ⟨by rfl, ?_⟩) (by assumption) ?_
  rotate_left
  · (intro wS hSw; have o0 := hSw.1.1 0 _ rfl; have o1 := hSw.1.1 1 _ rfl; have o2 := hSw.1.1 2 _ rfl; have cb := hSw.2.1; have lk := hSw.2.2; go_simp; try with_reducible rfl)
  change wpAnyH _ _ _ _ _ _ _ (Act.put _ (some 11) _) _
  simp only [Act.put, List.setIfInBounds_toArray, List.set_cons_zero, List.set_cons_succ]
  refine wpAnyH_take (i := 4) (v := ?_) rfl (by kernel_rfl) (by kernel_rfl) (by kernel_rfl) (fun _ _ _ h => h) (Or.inl ⟨by rfl, ?_⟩) (by assumption) ?_
  rotate_left
  · (intro wS hSw; have o0 := hSw.1.1 0 _ rfl; have o1 := hSw.1.1 1 _ rfl; have o2 := hSw.1.1 2 _ rfl; have cb := hSw.2.1; have lk := hSw.2.2; go_simp; try with_reducible rfl)
  change wpAnyH _ _ _ _ _ _ _ (Act.put _ (some 12) _) _
  simp only [Act.put, List.setIfInBounds_toArray, List.set_cons_zero, List.set_cons_succ]
  refine wpAnyH_take (i := 5) (v := ?_) rfl (by kernel_rfl) (by kernel_rfl) (by kernel_rfl) (fun _ _ _ h => h) (Or.inl ⟨by rfl, ?_⟩) (by assumption) ?_
  rotate_left
  · (intro wS hSw; have o0 := hSw.1.1 0 _ rfl; have o1 := hSw.1.1 1 _ rfl; have o2 := hSw.1.1 2 _ rfl; have cb := hSw.2.1; have lk := hSw.2.2; go_simp; try with_reducible rfl)
  change wpAnyH _ _ _ _ _ _ _ (Act.put _ (some 13) _) _
  simp only [Act.put, List.setIfInBounds_toArray, List.set_cons_zero, List.set_cons_succ]
  refine wpAnyH_ready (rs := [6]) (by kernel_rfl) (by simp) ?_
  refine AllReadyH.cons rfl (fun K hK => ?_) AllReadyH.nil
  have c0 := (Cs.later BW.out q2).1 0 _ rfl
  have c1 := (Cs.later BW.out q2).1 1 _ rfl
  have c2 := (Cs.later BW.out q2).1 2 _ rfl
  have c3 := (Cs.later BW.out q2).1 3 _ rfl
  have c4 := (Cs.later BW.out q2).1 4 _ rfl
  have c5 := (Cs.later BW.out q2).1 5 _ rfl
  have c6 := (Cs.later BW.out q2).1 6 _ rfl
  have c7 := (Cs.later BW.out q2).1 7 _ rfl
  have f0 := (Cs.later BW.out q2).2.1 0 (by show 0 < 8; omega)
  have f1 := (Cs.later BW.out q2).2.1 1 (by show 1 < 8; omega)
  have f2 := (Cs.later BW.out q2).2.1 2 (by show 2 < 8; omega)
  have f3 := (Cs.later BW.out q2).2.1 3 (by show 3 < 8; omega)
  have f4 := (Cs.later BW.out q2).2.1 4 (by show 4 < 8; omega)
  have f5 := (Cs.later BW.out q2).2.1 5 (by show 5 < 8; omega)
  have f6 := (Cs.later BW.out q2).2.1 6 (by show 6 < 8; omega)
  have f7 := (Cs.later BW.out q2).2.1 7 (by show 7 < 8; omega)
  have A := Tb.later BW.out T1
  have gs := own_set8 wd0 pr H
  have bl : Hid (Below w.heap.size w (((((((((wd0.setCell ⟨pr, 0, none⟩ (.int .i64 (H 0))).setCell ⟨pr, 1, none⟩ (.int .i64 (H 1))).setCell ⟨pr, 2, none⟩ (.int .i64 (H 2))).setCell ⟨pr, 3, none⟩ (.int .i64 (H 3))).setCell ⟨pr, 4, none⟩ (.int .i64 (H 4))).setCell ⟨pr, 5, none⟩ (.int .i64 (H 5))).setCell ⟨pr, 6, none⟩ (.int .i64 (H 6))).setCell ⟨pr, 7, none⟩ (.int .i64 (H 7))))) := below_put8 (B1.trans (BW.out.mono B1.size)) (Nat.le_of_lt HP.out) H
  have qn := cs_put8 (Cs.later BW.out q2) H
  clear A gs
  go_wp2_with (fail)
  refine hK.out _ _ ?_ (fun hHeld => ?_)
  · exact ⟨cs_beside8 (Cs.later BW.out q1) (show w.heap.size ≠ pr by have := HP.out; omega) H, (HTB.out _ bl.out).held, LK.out _ (HTB.out _ bl.out).map⟩
  clear hK K BW c0 f0 c1 f1 c2 f2 c3 f3 c4 f4 c5 f5 c6 f6 c7 f7
  generalize ((((((((wd0.setCell ⟨pr, 0, none⟩ (.int .i64 (H 0))).setCell ⟨pr, 1, none⟩ (.int .i64 (H 1))).setCell ⟨pr, 2, none⟩ (.int .i64 (H 2))).setCell ⟨pr, 3, none⟩ (.int .i64 (H 3))).setCell ⟨pr, 4, none⟩ (.int .i64 (H 4))).setCell ⟨pr, 5, none⟩ (.int .i64 (H 5))).setCell ⟨pr, 6, none⟩ (.int .i64 (H 6))).setCell ⟨pr, 7, none⟩ (.int .i64 (H 7))) = wS at *
  refine wpAnyH_done (by kernel_rfl) ?_ _
  refine NoPanic.normal ?_
  have r0 := qn.1 0 _ rfl
  have r1 := qn.1 1 _ rfl
  have r2 := qn.1 2 _ rfl
  have r3 := qn.1 3 _ rfl
  have r4 := qn.1 4 _ rfl
  have r5 := qn.1 5 _ rfl
  have r6 := qn.1 6 _ rfl
  have r7 := qn.1 7 _ rfl
  go_wp2_with (fail)
  refine bodyPost_ret (v := spV H) (by simp [results, Try.results17, go_sem, r0, r1, r2, r3, r4, r5, r6, r7]) rfl ⟨rfl, bl.out⟩

theorem El.same {W w1 : World} {b o : Nat} {r : Rw} (e : w1.heap[b]? = W.heap[b]?) (h : El W b o r) : El w1 b o r := by
  have k : ∀ i, w1.cell? ⟨b, i, none⟩ = W.cell? ⟨b, i, none⟩ := fun i => by simp only [World.cell?, e]
  obtain ⟨h0, h1, h2, h3, h4, h5, h6, h7, h8, h9, h10⟩ := h
  exact ⟨(k _).trans h0, (k _).trans h1, (k _).trans h2, (k _).trans h3, (k _).trans h4, (k _).trans h5, (k _).trans h6, (k _).trans h7, (k _).trans h8, (k _).trans h9, (k _).trans h10⟩
theorem rel_app (p : ByteArray) (l m : List Rw) : rel p (l ++ m) = rel p l ++ rel p m := List.filter_append ..
theorem rel_perm {p : ByteArray} {l m : List Rw} (h : l.Perm m) : (rel p l).Perm (rel p m) := h.filter _

set_option maxHeartbeats 4000000 in
set_option maxRecDepth 100000 in
theorem release_is {b m : Nat} {zs : List Zn} {ls : List Rw} (p : ByteArray) (w : World) (h : Tb w b m zs ls) (hn : ls.length ≤ 1099511627776) :
    Calls Try.prog 14 #[tbV b, .string p] w fun e w' => e = .returned (.int .i64 ((ls.length : Int) - (rel p ls).length)) ∧ Tb w' b m zs (rel p ls) ∧ w.grownBy w' (some m) := by
  have HT : Hid (Tb w b m zs ls) := h
  have mw := h.map
  have cb := h.held
  have HN : Hid (ls.length ≤ 1099511627776) := hn
  have ML : Hid (m < w.heap.size ∧ b < w.heap.size) := ⟨h.map.lt, h.b_lt⟩
  have TK : Hid (∀ w1, w.grownBy w1 (some m) → MapW w1 m (rel p ls) → Tb w1 b m zs (rel p ls)) := fun w1 hg hm => h.turned hg hm
  have CK : Hid (∀ w1, w.grownBy w1 (some m) → w1.cell? ⟨b, 1, none⟩ = some (.map (some m))) := fun w1 hg => by
    have e : w1.heap[b]? = w.heap[b]? := hg.block b h.b_lt (fun e => (h.apart h.map).1 (by cases e; rfl))
    simp only [World.cell?, e] at cb ⊢
    exact cb
  clear h hn
  go_enter Try.func14, Try.ntmps14
  go_wp2_with (first
    | (at_range; refine wpList_range_tab _ rfl _ rfl m ls rfl mw ?_; intro w2 hrg0 hw2 hs2)
    | go_in)
  go_frame
  have G0 : w.grownBy w2 (some m) := (below_grown hw2).but _
  obtain ⟨it, hit⟩ : ∃ it, it = w.heap.size := ⟨_, rfl⟩
  have HI : Hid (w.heap.size ≤ it) := by show w.heap.size ≤ it; omega
  rw [← hit] at hrg0 ⊢
  clear hit hw2 hs2 mw cb
  go_loopw [5, 14] (fun n _ wr => ∃ (gone kept todo : List Rw), Hid ((gone ++ kept ++ todo).Perm ls) ∧ Rng wr m it kept todo ∧ n = .int .i64 (gone.length : Int) ∧ Hid (rel p gone = [] ∧ rel p kept = kept) ∧ w.grownBy wr (some m)) (fun _ _ wr => wr.rangeLeft m it)
  case atStart => exact ⟨[], [], ls, List.Perm.refl _, hrg0, rfl, ⟨rfl, rfl⟩, G0⟩
  case round =>
    clear hrg0 G0
    obtain ⟨gone, kept, todo, HPm, hrg, rfl, HR, G⟩ := hrel
    have HL : Hid (gone.length ≤ 1099511627776) := by
      have e1 := HPm.out.length_eq
      have e2 := HN.out
      rw [List.length_append, List.length_append] at e1
      show gone.length ≤ _
      omega
    have hl1 := HL.out
    go_wp2_with (first
      | (at_next; refine wpList_next_tab _ rfl _ rfl m it kept todo rfl hrg ?_ ?_)
      | go_in)
    · intro h0
      subst h0
      have P1 : (gone ++ kept).Perm ls := by have := HPm.out; rwa [List.append_nil] at this
      have P2 : (rel p ls).Perm kept := by
        have := rel_perm (p := p) P1
        rw [rel_app, HR.out.1, HR.out.2, List.nil_append] at this
        exact this.symm
      have X : Hid ((ls.length : Int) - (rel p ls).length = gone.length) := by
        have e1 := P1.length_eq
        have e2 := P2.length_eq
        simp at e1
        show (ls.length : Int) - (rel p ls).length = gone.length
        omega
      have TT : Hid (Tb wr b m zs (rel p ls)) := TK.out wr G ((by have := hrg.map; rwa [List.append_nil] at this : MapW wr m kept).perm P2.symm)
      clear hrg HPm HR P1 P2 HN
      go_wp2
      go_ret
      exact ⟨by rw [X.out]; rfl, TT.out, G⟩
    · intro r todo' w1 hp hg hrg1 hlt hgr hsz hen
      obtain ⟨L, hL⟩ : ∃ L, L = wr.rangeLeft m it := ⟨_, rfl⟩
      have HLt : Hid (∀ n, n < L → n < wr.rangeLeft m it) := fun n h => by rw [← hL]; exact h
      rw [← hL] at hlt
      have G1 : w.grownBy w1 (some m) := G.andThen hgr (fun j e => by cases e; exact .inl HI.out)
      have c1 := CK.out w1 G1
      have q1 : Cs (w1.alloc (.cells #[.string r.p, .string r.c, .int .i64 r.k] 45)) w1.heap.size [.string r.p, .string r.c, .int .i64 r.k] := Cs.new _ _ _ _ rfl
      have G2 : w.grownBy (w1.alloc (.cells #[.string r.p, .string r.c, .int .i64 r.k] 45)) (some m) := G1.andThen (World.grownBy_alloc w1 _ none) (fun j e => by cases e)
      have R2 := hrg1.alloc (.cells #[.string r.p, .string r.c, .int .i64 r.k] 45)
      have L2 : Hid (World.rangeLeft (w1.alloc (.cells #[.string r.p, .string r.c, .int .i64 r.k] 45)) m it < L) := by
        unfold Hid
        rw [Rng.left_later hrg1 ((Below.refl _ _).alloc (Nat.le_refl _) _)]
        exact hlt
      have P3 : Hid ((gone ++ (kept ++ [r]) ++ todo').Perm ls ∧ (gone ++ [r] ++ kept ++ todo').Perm ls) := by
        have h1 : (gone ++ kept ++ (r :: todo')).Perm ls := ((hp.append_left _).symm).trans HPm.out
        have h2 : gone ++ kept ++ (r :: todo') = gone ++ (kept ++ [r]) ++ todo' := by simp
        have h3 : (gone ++ [r] ++ kept ++ todo').Perm (gone ++ (kept ++ [r]) ++ todo') := by
          have : ([r] ++ kept).Perm (kept ++ [r]) := List.perm_append_comm
          have := (this.append_left gone).append_right todo'
          simpa using this
        exact ⟨h2 ▸ h1, h3.trans (h2 ▸ h1)⟩
      have e1 := eqS_l r.p p
      obtain ⟨g, hgg⟩ : ∃ g, g = eqS r.p p := ⟨_, rfl⟩
      have R3 : Hid ((g = true → rel p (gone ++ [r]) = []) ∧ (g = false → rel p (kept ++ [r]) = kept ++ [r])) := by
        refine ⟨fun e => ?_, fun e => ?_⟩
        · rw [rel_app, HR.out.1, rel, List.filter_cons, ← hgg, e]; rfl
        · rw [rel_app, HR.out.2, rel, List.filter_cons, ← hgg, e]; rfl
      rw [← hgg] at e1
      have q0 := q1.1 0 _ rfl
      clear hL hrg G hgr hsz G1 hrg1 hlt hp HPm hgg hg
      cases g with
      | false =>
        have R4 : Hid (rel p (kept ++ [r]) = kept ++ [r]) := R3.out.2 rfl
        clear R3
        go_wp2
        go_roundw
        case rel => exact ⟨gone, kept ++ [r], todo', P3.out.1, R2, rfl, ⟨HR.out.1, R4.out⟩, G2⟩
        case measure => exact HLt.out _ L2.out
      | true =>
        have R4 : Hid (rel p (gone ++ [r]) = []) := R3.out.1 rfl
        clear q0 R3
        go_upto_region 8 with (fail)
        obtain ⟨po, hpo⟩ : ∃ po, po = w1.heap.size := ⟨_, rfl⟩
        rw [← hpo] at q1 ⊢
        clear hpo hen c1 e1
        generalize w1.alloc (.cells #[.string r.p, .string r.c, .int .i64 r.k] 45) = W2 at *
        have FF : Hid (Below W2.heap.size W2 _) := Below.drew (Below.refl _ _)
        refine wp_region_noPanic ?_
        refine wp_region_held_drew (S := fun w' => Cs w' po [.string r.p, .string r.c, .int .i64 r.k] ∧ w'.cell? ⟨b, 1, none⟩ = some (.map (some m))) (by kernel_rfl) ?_ (fun hHeld => ?_)
        · exact ⟨Cs.later FF.out q1, CK.out _ (G2.andThen (below_grown FF.out) (fun j e => by cases e))⟩
        generalize World.drew _ = wd0 at *
        refine wpAnyH_take (i := 0) (v := ?_) rfl (by kernel_rfl) (by kernel_rfl) (by kernel_rfl) (fun _ _ _ h => h) (Or.inl ⟨by rfl, ?_⟩) (by assumption) ?_
        rotate_left
        · (intro wS hSw; have o0 := hSw.1.1 0 _ rfl; have o1 := hSw.1.1 1 _ rfl; have o2 := hSw.1.1 2 _ rfl; have cb := hSw.2; go_simp; try with_reducible rfl)
        change wpAnyH _ _ _ _ _ _ _ (Act.put _ (some 22) _) _
        simp only [Act.put, List.setIfInBounds_toArray, List.set_cons_zero, List.set_cons_succ]
        refine wpAnyH_take (i := 1) (v := ?_) rfl (by kernel_rfl) (by kernel_rfl) (by kernel_rfl) (fun _ _ _ h => h) (Or.inl ⟨by rfl, ?_⟩) (by assumption) ?_
        rotate_left
        · (intro wS hSw; have o0 := hSw.1.1 0 _ rfl; have o1 := hSw.1.1 1 _ rfl; have o2 := hSw.1.1 2 _ rfl; have cb := hSw.2; go_simp; try with_reducible rfl)
        change wpAnyH _ _ _ _ _ _ _ (Act.put _ (some 23) _) _
        simp only [Act.put, List.setIfInBounds_toArray, List.set_cons_zero, List.set_cons_succ]
        refine wpAnyH_take (i := 2) (v := ?_) rfl (by kernel_rfl) (by kernel_rfl) (by kernel_rfl) (fun _ _ _ h => h) (Or.inl ⟨by rfl, ?_⟩) (by assumption) ?_
        rotate_left
        · (intro wS hSw; have o0 := hSw.1.1 0 _ rfl; have o1 := hSw.1.1 1 _ rfl; have o2 := hSw.1.1 2 _ rfl; have cb := hSw.2; go_simp; try with_reducible rfl)
        change wpAnyH _ _ _ _ _ _ _ (Act.put _ (some 24) _) _
        simp only [Act.put, List.setIfInBounds_toArray, List.set_cons_zero, List.set_cons_succ]
        refine wpAnyH_take (i := 3) (v := ?_) rfl (by kernel_rfl) (by kernel_rfl) (by kernel_rfl) (fun _ _ _ h => h) (Or.inl ⟨by rfl, ?_⟩) (by assumption) ?_
        rotate_left
        · (intro wS hSw; have o0 := hSw.1.1 0 _ rfl; have o1 := hSw.1.1 1 _ rfl; have o2 := hSw.1.1 2 _ rfl; have cb := hSw.2; go_simp; try with_reducible rfl)
        change wpAnyH _ _ _ _ _ _ _ (Act.put _ (some 25) _) _
        simp only [Act.put, List.setIfInBounds_toArray, List.set_cons_zero, List.set_cons_succ]
        refine wpAnyH_take (i := 4) (v := ?_) rfl (by kernel_rfl) (by kernel_rfl) (by kernel_rfl) (fun _ _ _ h => h) (Or.inl ⟨by rfl, ?_⟩) (by assumption) ?_
        rotate_left
        · (intro wS hSw; have o0 := hSw.1.1 0 _ rfl; have o1 := hSw.1.1 1 _ rfl; have o2 := hSw.1.1 2 _ rfl; have cb := hSw.2; go_simp; try with_reducible rfl)
        change wpAnyH _ _ _ _ _ _ _ (Act.put _ (some 26) _) _
        simp only [Act.put, List.setIfInBounds_toArray, List.set_cons_zero, List.set_cons_succ]
        refine wpAnyH_ready (rs := [5]) (by kernel_rfl) (by simp) ?_
        refine AllReadyH.cons rfl (fun K hK => ?_) AllReadyH.nil
        obtain ⟨w9, hrun, R9, le9, T9⟩ := (R2.later FF.out).drop 0
        have L9 : Hid (w9.rangeLeft m it < L) := by unfold Hid; rw [R2.left_later FF.out] at le9; have := L2.out; omega
        have G9 : w.grownBy w9 (some m) := (G2.andThen (below_grown FF.out) (fun j e => by cases e)).andThen T9.grown (fun j e => by cases e; exact .inr rfl)
        have K1 := (Cs.later FF.out q1).grown T9.grown (fun e => (R2.later FF.out).map.ne ((Cs.later FF.out q1).1 0 _ rfl) (by cases e; rfl))
        have K2 := CK.out _ G9
        clear le9 T9 R2 L2 G2
        go_wp2_with (fail)
        refine hK.out _ _ ?_ (fun hHeld => ?_)
        · exact ⟨K1, K2⟩
        clear hK K K1 K2 hrun q1
        refine wpAnyH_done (by kernel_rfl) ?_ _
        refine NoPanic.normal ?_
        go_wp2
        go_roundw
        case rel => exact ⟨gone ++ [r], kept, todo', P3.out.2, R9, by simp, ⟨R4.out, HR.out.2⟩, G9⟩
        case measure => exact HLt.out _ L9.out

set_option maxHeartbeats 2000000 in
theorem put_nil (p c : ByteArray) (k : Int) (s : Nat → Int) (w : World) : Calls Try.prog 16 #[.pointer none, ownV p c k, spV s] w fun e w' => e = .returned (.int .i64 1) ∧ Below w.heap.size w w' := by
  go_enter Try.func16, Try.ntmps16
  go_wp2
  go_ret
  exact ⟨rfl, by go_grown⟩
set_option maxHeartbeats 2000000 in
theorem held_nil (p c : ByteArray) (k : Int) (w : World) : Calls Try.prog 17 #[.pointer none, ownV p c k] w fun e w' => e = .returned (spV nought) ∧ Below w.heap.size w w' := by
  go_enter Try.func17, Try.ntmps17
  go_wp2
  refine bodyPost_ret (v := spV nought) (by simp [results, Try.results17, go_sem, nought]) rfl ⟨rfl, by go_grown⟩
set_option maxHeartbeats 2000000 in
theorem release_nil (p : ByteArray) (w : World) : Calls Try.prog 14 #[.pointer none, .string p] w fun e w' => e = .returned (.int .i64 0) ∧ Below w.heap.size w w' := by
  go_enter Try.func14, Try.ntmps14
  go_wp2
  go_ret
  exact ⟨rfl, by go_grown⟩

end Go.Proofs.Ytpefjcgccbfgbaa.Bk
