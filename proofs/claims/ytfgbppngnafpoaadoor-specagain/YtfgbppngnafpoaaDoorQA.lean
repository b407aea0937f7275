/-
  SpecKeeps of this program: true for every pod and every list of changes. Conditions: the tables of the program lie as its text lays them; the containers and the changes read as lists; the names' lengths fit the machine.
-/
import Derived.Test.YtfgbppngnafpoaaDoorPW
import Derived.Test.YtfgbppngnafpoaaDoorPY
import Derived.Test.YtfgbppngnafpoaaDoorPZ
namespace Go.Proofs.YtfgbppngnafpoaaDoor.Sp
open Go.RowKit

/-- A pod ahead of a resize and one behind it. -/
def KQ (w : World) (bs : List (Nat × List Value)) (pb : Nat) (pv : List Value) (u v : Value) (out zs : List Ct) (W : World) : Prop := Lies w bs W ∧ LaidS W ∧ Cs W pb pv ∧ RdC W u out ∧ RdC W v zs
theorem KQ.later {w W w1 : World} {bs : List (Nat × List Value)} {pb : Nat} {pv : List Value} {u v : Value} {out zs : List Ct} (h : KQ w bs pb pv u v out zs W) (hb : Below W.heap.size W w1) : KQ w bs pb pv u v out zs w1 := ⟨h.1.later hb, h.2.1.later hb, Cs.later hb h.2.2.1, h.2.2.2.1.later hb, h.2.2.2.2.later hb⟩
theorem KQ.drew {w W : World} {bs : List (Nat × List Value)} {pb : Nat} {pv : List Value} {u v : Value} {out zs : List Ct} (h : KQ w bs pb pv u v out zs W) : KQ w bs pb pv u v out zs W.drew := h.later (Below.refl _ _).drew
theorem Lies.set {w W : World} {b : Nat} {vs : List Value} {bs : List (Nat × List Value)} (h : Lies w ((b, vs) :: bs) W) (i : Nat) (x : Value) (hi : i < vs.length) (hb : w.heap.size ≤ b) (hn : ∀ y ∈ bs, y.1 ≠ b) : Lies w ((b, vs.set i x) :: bs) (W.setCell ⟨b, i, none⟩ x) :=
  ⟨fun y hy => by
    rcases List.mem_cons.1 hy with rfl | hy
    · exact Cs.set (h.1 (b, vs) (by simp)) i x hi
    · exact Cs.beside (h.1 y (by simp [hy])) i x (hn y hy), h.2.setCell hb x⟩

theorem keep_p {pn : ByteArray} {pr po : Int} {zs : List Ct} {v : Value} (h : podB pn pr po zs = true) (hm : pn.size ≤ maxLen) (w : World) (hL : LaidS w) (hz : RdC w v zs) : Calls Tryd.prog 18 #[.agg #[.string pn, .int .i64 pr, .int .i64 po, v]] w fun e w' => e = .returned (.bool true) ∧ Below w.heap.size w w' := by
  have := pod_is pn pr po hm w hL hz
  rwa [h] at this
theorem keep_c {pn : ByteArray} {pr po c : Int} {zs : List Ct} {v : Value} (h : classI zs = c) (w : World) (hL : LaidS w) (hz : RdC w v zs) : Calls Tryd.prog 20 #[.agg #[.string pn, .int .i64 pr, .int .i64 po, v]] w fun e w' => e = .returned (.int .i64 c) ∧ Below w.heap.size w w' := by
  have := class_is pn pr po w hL hz
  rwa [h] at this

set_option maxHeartbeats 8000000 in
set_option maxRecDepth 100000 in
theorem specKeeps_any {v u : Value} {zs : List Ct} {l : List Ch} (pn : ByteArray) (pr po : Int) (hm : pn.size ≤ maxLen) (w : World) (hL : LaidS w) (h : RdC w v zs) (k : RdX w u l) :
    Calls Tryd.prog 6 #[.agg #[.string pn, .int .i64 pr, .int .i64 po, v], u] w fun e w' => e = .returned (.bool true) ∧ Below w.heap.size w w' := by
  have HL : Hid (LaidS w) := hL
  have HZ : Hid (RdC w v zs) := h
  have HX : Hid (RdX w u l) := k
  have HM : Hid (pn.size ≤ maxLen) := hm
  clear hL hm
  obtain ⟨sa, cap, rfl, h1, h2, -⟩ := h
  obtain ⟨sx, capx, rfl, k1, k2, k3⟩ := k
  have K3 : Hid (∀ (j : Nat) (c : Ch), l[j]? = some c → c.n.size ≤ maxLen ∧ ∃ b off : Nat, sx = some ⟨b, off, none⟩ ∧ Svn w b (off + j * 7) c) := k3
  clear k3
  have zl : zs.length ≤ maxLen := by omega
  have ll : l.length ≤ maxLen := by omega
  unfold maxLen at zl ll
  go_enter Tryd.func6, Tryd.ntmps6
  go_wp2_with (fail)
  refine (sfirst_is _ (HL.out.alloc _)).mono ?_
  rintro e w1 ⟨rfl, hw1⟩
  have HBw1 : Below w.heap.size w w1 := Below.trans (by go_grown) (hw1.mono (by first | omega | (simp; done) | (simp; omega)))
  have p_p : Cs w1 (w.heap.size) [.string pn, .int .i64 pr, .int .i64 po, .slice sa zs.length cap] := Cs.later hw1 (by repeat (first | assumption | (refine Cs.new _ _ _ _ ?_; simp; done) | refine Cs.alloc ?_ _ | refine Cs.drew ?_ | (refine Cs.beside ?_ _ _ (by omega))))
  have q_p := p_p
  have p0 : w1.cell? ⟨w.heap.size, 0, none⟩ = some (.string pn) := p_p.1 0 _ rfl
  have p1 : w1.cell? ⟨w.heap.size, 1, none⟩ = some (.int .i64 pr) := p_p.1 1 _ rfl
  have p2 : w1.cell? ⟨w.heap.size, 2, none⟩ = some (.int .i64 po) := p_p.1 2 _ rfl
  have p3 : w1.cell? ⟨w.heap.size, 3, none⟩ = some (.slice sa zs.length cap) := p_p.1 3 _ rfl
  have pz : w.heap.size < w1.heap.size := p_p.2.2
  clear p_p
  have hsw1 := hw1.size
  (try simp at hsw1)
  clear hw1
  go_wp2_with (fail)
  refine (great_is pn pr po _ (HZ.out.later HBw1)).mono ?_
  rintro e w2 ⟨gr, rfl, -, hw2⟩
  have HBw2 : Below w.heap.size w w2 := Below.trans (by go_grown) (hw2.mono (by first | omega | (simp; done) | (simp; omega)))
  have p_p : Cs w2 (w.heap.size) [.string pn, .int .i64 pr, .int .i64 po, .slice sa zs.length cap] := Cs.later hw2 (by repeat (first | assumption | (refine Cs.new _ _ _ _ ?_; simp; done) | refine Cs.alloc ?_ _ | refine Cs.drew ?_ | (refine Cs.beside ?_ _ _ (by omega))))
  clear q_p p0 p1 p2 p3 pz
  have q_p := p_p
  have p0 : w2.cell? ⟨w.heap.size, 0, none⟩ = some (.string pn) := p_p.1 0 _ rfl
  have p1 : w2.cell? ⟨w.heap.size, 1, none⟩ = some (.int .i64 pr) := p_p.1 1 _ rfl
  have p2 : w2.cell? ⟨w.heap.size, 2, none⟩ = some (.int .i64 po) := p_p.1 2 _ rfl
  have p3 : w2.cell? ⟨w.heap.size, 3, none⟩ = some (.slice sa zs.length cap) := p_p.1 3 _ rfl
  have pz : w.heap.size < w2.heap.size := p_p.2.2
  clear p_p
  have hsw2 := hw2.size
  (try simp at hsw2)
  clear hw2
  by_cases l1 : (2000 : Int) < gr
  · go_wp2
    go_ret
    exact ⟨rfl, HBw2⟩
  by_cases l2 : (30 : Int) < (l.length : Int)
  · go_wp2
    go_ret
    exact ⟨rfl, HBw2⟩
  clear HBw1
  go_wp2_with (fail)
  refine (resize_is pn pr po HM.out _ (HL.out.later HBw2) (HZ.out.later HBw2) (HX.out.later HBw2)).mono ?_
  rintro e w3 ⟨vq, rfl, rd, hw3⟩
  obtain ⟨⟨er, out⟩, hres⟩ : ∃ x, resV pn pr po zs l = x := ⟨_, rfl⟩
  rw [hres] at rd ⊢
  have RV : Hid (resV pn pr po zs l = (er, out)) := hres
  dsimp only at rd ⊢
  have HBw3 : Below w.heap.size w w3 := Below.trans (by go_grown) (hw3.mono (by first | omega | (simp; done) | (simp; omega)))
  have p_p : Cs w3 (w.heap.size) [.string pn, .int .i64 pr, .int .i64 po, .slice sa zs.length cap] := Cs.later hw3 (by repeat (first | assumption | (refine Cs.new _ _ _ _ ?_; simp; done) | refine Cs.alloc ?_ _ | refine Cs.drew ?_ | (refine Cs.beside ?_ _ _ (by omega))))
  clear q_p p0 p1 p2 p3 pz
  have q_p := p_p
  have p0 : w3.cell? ⟨w.heap.size, 0, none⟩ = some (.string pn) := p_p.1 0 _ rfl
  have p1 : w3.cell? ⟨w.heap.size, 1, none⟩ = some (.int .i64 pr) := p_p.1 1 _ rfl
  have p2 : w3.cell? ⟨w.heap.size, 2, none⟩ = some (.int .i64 po) := p_p.1 2 _ rfl
  have p3 : w3.cell? ⟨w.heap.size, 3, none⟩ = some (.slice sa zs.length cap) := p_p.1 3 _ rfl
  have pz : w.heap.size < w3.heap.size := p_p.2.2
  clear p_p
  have hsw3 := hw3.size
  (try simp at hsw3)
  clear hw3
  clear hres HBw2 l1 l2
  by_cases e0 : er = 0
  case neg =>
    have OE : Hid (out = []) := by
      unfold Hid
      have := RV.out
      by_cases a : podB pn pr po zs = true ∧ 0 < l.length
      · obtain ⟨⟨f, o'⟩, g⟩ : ∃ x, resGo zs zs [] l = x := ⟨_, rfl⟩
        by_cases f0 : f = 0
        · subst f0
          cases p : podB pn pr po o' with
          | false => rw [resV_pod a g p] at this; injection this with _ this; exact this.symm
          | true =>
            by_cases c : classI o' = classI zs
            · rw [resV_ok a g p c] at this
              injection this with this _
              exact absurd this.symm e0
            · rw [resV_class a g p c] at this
              injection this with _ this; exact this.symm
        · rw [resV_err a g f0] at this
          injection this with _ this; exact this.symm
      · rw [resV_arg a] at this
        injection this with _ this; exact this.symm
    rw [OE.out] at rd
    obtain ⟨sq, capq, rfl, -⟩ := id rd
    have en : (er != 0) = true := by simp [e0]
    unfold resP
    rw [if_neg e0, if_neg e0, if_neg e0]
    clear rd OE RV e0
    go_wp2
    go_ret
    exact ⟨rfl, by go_grown⟩
  subst e0
  have KE := resV_keeps RV.out
  have KP := resV_done RV.out
  obtain ⟨sq, capq, rfl, -⟩ := id rd
  rw [KE.1] at rd ⊢
  have K4 : Hid (KQ w3 [(w3.heap.size, [.string pn, .int .i64 pr, .int .i64 po, .slice sq zs.length capq])] w.heap.size [.string pn, .int .i64 pr, .int .i64 po, .slice sa zs.length cap] (.slice sq zs.length capq) (.slice sa zs.length cap) out zs (w3.alloc (.cells #[.string pn, .int .i64 pr, .int .i64 po, .slice sq zs.length capq] 33))) := by
    refine ⟨⟨fun x hx => ?_, (Below.refl _ _).alloc (Nat.le_refl _) _⟩, (HL.out.later HBw3).alloc _, q_p.alloc _, rd.alloc _, (HZ.out.later HBw3).alloc _⟩
    simp at hx
    subst hx
    exact Cs.new _ _ _ _ rfl
  have X3 : Hid (RdX w3 (.slice sx l.length capx) l) := HX.out.later HBw3
  have UP : Hid (∀ (i : Nat) (d : Ct), zs[i]? = some d → out[i]? = some (upd l d)) := KE.2
  have OL : Hid (out.length = zs.length) := KE.1
  have PD : Hid (podB pn pr po out = true ∧ classI out = classI zs) := ⟨KP.2.2.2.1, KP.2.2.2.2⟩
  obtain ⟨cz, hcz⟩ : ∃ c, classI zs = c := ⟨_, rfl⟩
  have CZ : Hid (classI zs = cz) := hcz
  rw [show resP 0 pn pr po (.slice sq zs.length capq) = .tuple #[.agg #[.string pn, .int .i64 pr, .int .i64 po, .slice sq zs.length capq], .int .i64 0] from rfl]
  clear KE KP rd hcz RV
  go_upto_region 8 with (fail)
  clear p0 p1 p2 p3 pz q_p hsw1 hsw2 hsw3
  have BW3 : Hid (Below w.heap.size w w3) := HBw3
  generalize w3.alloc (.cells #[.string pn, .int .i64 pr, .int .i64 po, .slice sq zs.length capq] 33) = W4 at K4 ⊢
  go_cut [73] (fun s73 wc => s73 = .bool false ∧ Hid (KQ w3 [(w3.heap.size, [.string pn, .int .i64 pr, .int .i64 po, .slice sq zs.length capq])] w.heap.size [.string pn, .int .i64 pr, .int .i64 po, .slice sa zs.length cap] (.slice sq zs.length capq) (.slice sa zs.length cap) out zs wc))
  case first =>
    refine wp_region_noPanic ?_
    refine wp_region_held_drew (S := fun w' => KQ w3 [(w3.heap.size, [.string pn, .int .i64 pr, .int .i64 po, .slice sq zs.length capq])] w.heap.size [.string pn, .int .i64 pr, .int .i64 po, .slice sa zs.length cap] (.slice sq zs.length capq) (.slice sa zs.length cap) out zs w') (by kernel_rfl) ?_ (fun hHeld => ?_)
    · exact K4.out.drew
    have F_0 : Hid (KQ w3 [(w3.heap.size, [.string pn, .int .i64 pr, .int .i64 po, .slice sq zs.length capq])] w.heap.size [.string pn, .int .i64 pr, .int .i64 po, .slice sa zs.length cap] (.slice sq zs.length capq) (.slice sa zs.length cap) out zs _) := K4.out.drew
    refine wpAnyH_take (i := 0) (v := ?_) rfl (by kernel_rfl) (by kernel_rfl) (by kernel_rfl) (fun _ _ _ h => h) (Or.inl ⟨by rfl, ?_⟩) (by assumption) ?_
    rotate_left
    · (intro wS hSw; have q0 := (hSw.1.get 0 rfl).1 0 _ rfl; have q1 := (hSw.1.get 0 rfl).1 1 _ rfl; have q2 := (hSw.1.get 0 rfl).1 2 _ rfl; have q3 := (hSw.1.get 0 rfl).1 3 _ rfl; have p0 := hSw.2.2.1.1 0 _ rfl; have p1 := hSw.2.2.1.1 1 _ rfl; have p2 := hSw.2.2.1.1 2 _ rfl; have p3 := hSw.2.2.1.1 3 _ rfl; go_simp; try with_reducible rfl)
    change wpAnyH _ _ _ _ _ _ _ (Act.put _ (some 34) _) _
    simp only [Act.put, List.setIfInBounds_toArray, List.set_cons_zero, List.set_cons_succ]
    refine wpAnyH_ready (rs := [1]) (by kernel_rfl) (by simp) ?_
    refine AllReadyH.cons rfl (fun K hK => ?_) AllReadyH.nil
    go_simp
    refine (keep_p PD.out.1 HM.out _ F_0.out.2.1 F_0.out.2.2.2.1).mono ?_
    rintro e v1 ⟨rfl, hv1⟩
    have F_1 : Hid (KQ w3 [(w3.heap.size, [.string pn, .int .i64 pr, .int .i64 po, .slice sq zs.length capq])] w.heap.size [.string pn, .int .i64 pr, .int .i64 po, .slice sa zs.length cap] (.slice sq zs.length capq) (.slice sa zs.length cap) out zs v1) := F_0.out.later hv1
    clear hv1 F_0
    (try go_wp2_with (fail))
    refine hK.out _ _ ?_ (fun hHeld => ?_)
    · exact F_1.out
    clear hK K
    refine wpAnyH_take (i := 2) (v := ?_) rfl (by kernel_rfl) (by kernel_rfl) (by kernel_rfl) (fun _ _ _ h => h) (Or.inl ⟨by rfl, ?_⟩) (by assumption) ?_
    rotate_left
    · (intro wS hSw; have q0 := (hSw.1.get 0 rfl).1 0 _ rfl; have q1 := (hSw.1.get 0 rfl).1 1 _ rfl; have q2 := (hSw.1.get 0 rfl).1 2 _ rfl; have q3 := (hSw.1.get 0 rfl).1 3 _ rfl; have p0 := hSw.2.2.1.1 0 _ rfl; have p1 := hSw.2.2.1.1 1 _ rfl; have p2 := hSw.2.2.1.1 2 _ rfl; have p3 := hSw.2.2.1.1 3 _ rfl; go_simp; try with_reducible rfl)
    change wpAnyH _ _ _ _ _ _ _ (Act.put _ (some 36) _) _
    simp only [Act.put, List.setIfInBounds_toArray, List.set_cons_zero, List.set_cons_succ]
    refine wpAnyH_take (i := 3) (v := ?_) rfl (by kernel_rfl) (by kernel_rfl) (by kernel_rfl) (fun _ _ _ h => h) (Or.inl ⟨by rfl, ?_⟩) (by assumption) ?_
    rotate_left
    · (intro wS hSw; have q0 := (hSw.1.get 0 rfl).1 0 _ rfl; have q1 := (hSw.1.get 0 rfl).1 1 _ rfl; have q2 := (hSw.1.get 0 rfl).1 2 _ rfl; have q3 := (hSw.1.get 0 rfl).1 3 _ rfl; have p0 := hSw.2.2.1.1 0 _ rfl; have p1 := hSw.2.2.1.1 1 _ rfl; have p2 := hSw.2.2.1.1 2 _ rfl; have p3 := hSw.2.2.1.1 3 _ rfl; go_simp; try with_reducible rfl)
    change wpAnyH _ _ _ _ _ _ _ (Act.put _ (some 37) _) _
    simp only [Act.put, List.setIfInBounds_toArray, List.set_cons_zero, List.set_cons_succ]
    refine wpAnyH_take (i := 4) (v := ?_) rfl (by kernel_rfl) (by kernel_rfl) (by kernel_rfl) (fun _ _ _ h => h) (Or.inl ⟨by rfl, ?_⟩) (by assumption) ?_
    rotate_left
    · (intro wS hSw; have q0 := (hSw.1.get 0 rfl).1 0 _ rfl; have q1 := (hSw.1.get 0 rfl).1 1 _ rfl; have q2 := (hSw.1.get 0 rfl).1 2 _ rfl; have q3 := (hSw.1.get 0 rfl).1 3 _ rfl; have p0 := hSw.2.2.1.1 0 _ rfl; have p1 := hSw.2.2.1.1 1 _ rfl; have p2 := hSw.2.2.1.1 2 _ rfl; have p3 := hSw.2.2.1.1 3 _ rfl; go_simp; try with_reducible rfl)
    change wpAnyH _ _ _ _ _ _ _ (Act.put _ (some 38) _) _
    simp only [Act.put, List.setIfInBounds_toArray, List.set_cons_zero, List.set_cons_succ]
    refine wpAnyH_take (i := 6) (v := ?_) rfl (by kernel_rfl) (by kernel_rfl) (by kernel_rfl) (fun _ _ _ h => h) (Or.inl ⟨by rfl, ?_⟩) (by assumption) ?_
    rotate_left
    · (intro wS hSw; have q0 := (hSw.1.get 0 rfl).1 0 _ rfl; have q1 := (hSw.1.get 0 rfl).1 1 _ rfl; have q2 := (hSw.1.get 0 rfl).1 2 _ rfl; have q3 := (hSw.1.get 0 rfl).1 3 _ rfl; have p0 := hSw.2.2.1.1 0 _ rfl; have p1 := hSw.2.2.1.1 1 _ rfl; have p2 := hSw.2.2.1.1 2 _ rfl; have p3 := hSw.2.2.1.1 3 _ rfl; go_simp; try with_reducible rfl)
    change wpAnyH _ _ _ _ _ _ _ (Act.put _ (some 40) _) _
    simp only [Act.put, List.setIfInBounds_toArray, List.set_cons_zero, List.set_cons_succ]
    refine wpAnyH_ready (rs := [5]) (by kernel_rfl) (by simp) ?_
    refine AllReadyH.cons rfl (fun K hK => ?_) AllReadyH.nil
    go_simp
    refine (keep_c (PD.out.2.trans CZ.out) _ F_1.out.2.1 F_1.out.2.2.2.1).mono ?_
    rintro e v2 ⟨rfl, hv2⟩
    have F_2 : Hid (KQ w3 [(w3.heap.size, [.string pn, .int .i64 pr, .int .i64 po, .slice sq zs.length capq])] w.heap.size [.string pn, .int .i64 pr, .int .i64 po, .slice sa zs.length cap] (.slice sq zs.length capq) (.slice sa zs.length cap) out zs v2) := F_1.out.later hv2
    clear hv2 F_1
    (try go_wp2_with (fail))
    refine hK.out _ _ ?_ (fun hHeld => ?_)
    · exact F_2.out
    clear hK K
    refine wpAnyH_ready (rs := [7]) (by kernel_rfl) (by simp) ?_
    refine AllReadyH.cons rfl (fun K hK => ?_) AllReadyH.nil
    go_simp
    refine (keep_c CZ.out _ F_2.out.2.1 F_2.out.2.2.2.2).mono ?_
    rintro e v3 ⟨rfl, hv3⟩
    have F_3 : Hid (KQ w3 [(w3.heap.size, [.string pn, .int .i64 pr, .int .i64 po, .slice sq zs.length capq])] w.heap.size [.string pn, .int .i64 pr, .int .i64 po, .slice sa zs.length cap] (.slice sq zs.length capq) (.slice sa zs.length cap) out zs v3) := F_2.out.later hv3
    clear hv3 F_2
    (try go_wp2_with (fail))
    refine hK.out _ _ ?_ (fun hHeld => ?_)
    · exact F_3.out
    clear hK K
    refine wpAnyH_take (i := 8) (v := ?_) rfl (by kernel_rfl) (by kernel_rfl) (by kernel_rfl) (fun _ _ _ h => h) (Or.inl ⟨by rfl, ?_⟩) (by assumption) ?_
    rotate_left
    · (intro wS hSw; have q0 := (hSw.1.get 0 rfl).1 0 _ rfl; have q1 := (hSw.1.get 0 rfl).1 1 _ rfl; have q2 := (hSw.1.get 0 rfl).1 2 _ rfl; have q3 := (hSw.1.get 0 rfl).1 3 _ rfl; have p0 := hSw.2.2.1.1 0 _ rfl; have p1 := hSw.2.2.1.1 1 _ rfl; have p2 := hSw.2.2.1.1 2 _ rfl; have p3 := hSw.2.2.1.1 3 _ rfl; go_simp; try with_reducible rfl)
    change wpAnyH _ _ _ _ _ _ _ (Act.put _ (some 42) _) _
    simp only [Act.put, List.setIfInBounds_toArray, List.set_cons_zero, List.set_cons_succ]
    refine wpAnyH_take (i := 9) (v := ?_) rfl (by kernel_rfl) (by kernel_rfl) (by kernel_rfl) (fun _ _ _ h => h) (Or.inl ⟨by rfl, ?_⟩) (by assumption) ?_
    rotate_left
    · (intro wS hSw; have q0 := (hSw.1.get 0 rfl).1 0 _ rfl; have q1 := (hSw.1.get 0 rfl).1 1 _ rfl; have q2 := (hSw.1.get 0 rfl).1 2 _ rfl; have q3 := (hSw.1.get 0 rfl).1 3 _ rfl; have p0 := hSw.2.2.1.1 0 _ rfl; have p1 := hSw.2.2.1.1 1 _ rfl; have p2 := hSw.2.2.1.1 2 _ rfl; have p3 := hSw.2.2.1.1 3 _ rfl; go_simp; try with_reducible rfl)
    change wpAnyH _ _ _ _ _ _ _ (Act.put _ (some 43) _) _
    simp only [Act.put, List.setIfInBounds_toArray, List.set_cons_zero, List.set_cons_succ]
    refine wpAnyH_take (i := 10) (v := ?_) rfl (by kernel_rfl) (by kernel_rfl) (by kernel_rfl) (fun _ _ _ h => h) (Or.inl ⟨by rfl, ?_⟩) (by assumption) ?_
    rotate_left
    · (intro wS hSw; have q0 := (hSw.1.get 0 rfl).1 0 _ rfl; have q1 := (hSw.1.get 0 rfl).1 1 _ rfl; have q2 := (hSw.1.get 0 rfl).1 2 _ rfl; have q3 := (hSw.1.get 0 rfl).1 3 _ rfl; have p0 := hSw.2.2.1.1 0 _ rfl; have p1 := hSw.2.2.1.1 1 _ rfl; have p2 := hSw.2.2.1.1 2 _ rfl; have p3 := hSw.2.2.1.1 3 _ rfl; go_simp; try with_reducible rfl)
    change wpAnyH _ _ _ _ _ _ _ (Act.put _ (some 44) _) _
    simp only [Act.put, List.setIfInBounds_toArray, List.set_cons_zero, List.set_cons_succ]
    refine wpAnyH_take (i := 11) (v := ?_) rfl (by kernel_rfl) (by kernel_rfl) (by kernel_rfl) (fun _ _ _ h => h) (Or.inl ⟨by rfl, ?_⟩) (by assumption) ?_
    rotate_left
    · (intro wS hSw; have q0 := (hSw.1.get 0 rfl).1 0 _ rfl; have q1 := (hSw.1.get 0 rfl).1 1 _ rfl; have q2 := (hSw.1.get 0 rfl).1 2 _ rfl; have q3 := (hSw.1.get 0 rfl).1 3 _ rfl; have p0 := hSw.2.2.1.1 0 _ rfl; have p1 := hSw.2.2.1.1 1 _ rfl; have p2 := hSw.2.2.1.1 2 _ rfl; have p3 := hSw.2.2.1.1 3 _ rfl; go_simp; try with_reducible rfl)
    change wpAnyH _ _ _ _ _ _ _ (Act.put _ (some 45) _) _
    simp only [Act.put, List.setIfInBounds_toArray, List.set_cons_zero, List.set_cons_succ]
    refine wpAnyH_take (i := 12) (v := ?_) rfl (by kernel_rfl) (by kernel_rfl) (by kernel_rfl) (fun _ _ _ h => h) (Or.inl ⟨by rfl, ?_⟩) (by assumption) ?_
    rotate_left
    · (intro wS hSw; have q0 := (hSw.1.get 0 rfl).1 0 _ rfl; have q1 := (hSw.1.get 0 rfl).1 1 _ rfl; have q2 := (hSw.1.get 0 rfl).1 2 _ rfl; have q3 := (hSw.1.get 0 rfl).1 3 _ rfl; have p0 := hSw.2.2.1.1 0 _ rfl; have p1 := hSw.2.2.1.1 1 _ rfl; have p2 := hSw.2.2.1.1 2 _ rfl; have p3 := hSw.2.2.1.1 3 _ rfl; go_simp; try with_reducible rfl)
    change wpAnyH _ _ _ _ _ _ _ (Act.put _ (some 46) _) _
    simp only [Act.put, List.setIfInBounds_toArray, List.set_cons_zero, List.set_cons_succ]
    refine wpAnyH_take (i := 13) (v := ?_) rfl (by kernel_rfl) (by kernel_rfl) (by kernel_rfl) (fun _ _ _ h => h) (Or.inl ⟨by rfl, ?_⟩) (by assumption) ?_
    rotate_left
    · (intro wS hSw; have q0 := (hSw.1.get 0 rfl).1 0 _ rfl; have q1 := (hSw.1.get 0 rfl).1 1 _ rfl; have q2 := (hSw.1.get 0 rfl).1 2 _ rfl; have q3 := (hSw.1.get 0 rfl).1 3 _ rfl; have p0 := hSw.2.2.1.1 0 _ rfl; have p1 := hSw.2.2.1.1 1 _ rfl; have p2 := hSw.2.2.1.1 2 _ rfl; have p3 := hSw.2.2.1.1 3 _ rfl; go_simp; try with_reducible rfl)
    change wpAnyH _ _ _ _ _ _ _ (Act.put _ (some 47) _) _
    simp only [Act.put, List.setIfInBounds_toArray, List.set_cons_zero, List.set_cons_succ]
    refine wpAnyH_take (i := 14) (v := ?_) rfl (by kernel_rfl) (by kernel_rfl) (by kernel_rfl) (fun _ _ _ h => h) (Or.inl ⟨by rfl, ?_⟩) (by assumption) ?_
    rotate_left
    · (intro wS hSw; have q0 := (hSw.1.get 0 rfl).1 0 _ rfl; have q1 := (hSw.1.get 0 rfl).1 1 _ rfl; have q2 := (hSw.1.get 0 rfl).1 2 _ rfl; have q3 := (hSw.1.get 0 rfl).1 3 _ rfl; have p0 := hSw.2.2.1.1 0 _ rfl; have p1 := hSw.2.2.1.1 1 _ rfl; have p2 := hSw.2.2.1.1 2 _ rfl; have p3 := hSw.2.2.1.1 3 _ rfl; go_simp; try with_reducible rfl)
    change wpAnyH _ _ _ _ _ _ _ (Act.put _ (some 48) _) _
    simp only [Act.put, List.setIfInBounds_toArray, List.set_cons_zero, List.set_cons_succ]
    refine wpAnyH_take (i := 15) (v := ?_) rfl (by kernel_rfl) (by kernel_rfl) (by kernel_rfl) (fun _ _ _ h => h) (Or.inl ⟨by rfl, ?_⟩) (by assumption) ?_
    rotate_left
    · (intro wS hSw; have q0 := (hSw.1.get 0 rfl).1 0 _ rfl; have q1 := (hSw.1.get 0 rfl).1 1 _ rfl; have q2 := (hSw.1.get 0 rfl).1 2 _ rfl; have q3 := (hSw.1.get 0 rfl).1 3 _ rfl; have p0 := hSw.2.2.1.1 0 _ rfl; have p1 := hSw.2.2.1.1 1 _ rfl; have p2 := hSw.2.2.1.1 2 _ rfl; have p3 := hSw.2.2.1.1 3 _ rfl; go_simp; try with_reducible rfl)
    change wpAnyH _ _ _ _ _ _ _ (Act.put _ (some 49) _) _
    simp only [Act.put, List.setIfInBounds_toArray, List.set_cons_zero, List.set_cons_succ]
    refine wpAnyH_take (i := 16) (v := ?_) rfl (by kernel_rfl) (by kernel_rfl) (by kernel_rfl) (fun _ _ _ h => h) (Or.inl ⟨by rfl, ?_⟩) (by assumption) ?_
    rotate_left
    · (intro wS hSw; have q0 := (hSw.1.get 0 rfl).1 0 _ rfl; have q1 := (hSw.1.get 0 rfl).1 1 _ rfl; have q2 := (hSw.1.get 0 rfl).1 2 _ rfl; have q3 := (hSw.1.get 0 rfl).1 3 _ rfl; have p0 := hSw.2.2.1.1 0 _ rfl; have p1 := hSw.2.2.1.1 1 _ rfl; have p2 := hSw.2.2.1.1 2 _ rfl; have p3 := hSw.2.2.1.1 3 _ rfl; go_simp; try with_reducible rfl)
    change wpAnyH _ _ _ _ _ _ _ (Act.put _ (some 50) _) _
    simp only [Act.put, List.setIfInBounds_toArray, List.set_cons_zero, List.set_cons_succ]
    refine wpAnyH_take (i := 17) (v := ?_) rfl (by kernel_rfl) (by kernel_rfl) (by kernel_rfl) (fun _ _ _ h => h) (Or.inl ⟨by rfl, ?_⟩) (by assumption) ?_
    rotate_left
    · (intro wS hSw; have q0 := (hSw.1.get 0 rfl).1 0 _ rfl; have q1 := (hSw.1.get 0 rfl).1 1 _ rfl; have q2 := (hSw.1.get 0 rfl).1 2 _ rfl; have q3 := (hSw.1.get 0 rfl).1 3 _ rfl; have p0 := hSw.2.2.1.1 0 _ rfl; have p1 := hSw.2.2.1.1 1 _ rfl; have p2 := hSw.2.2.1.1 2 _ rfl; have p3 := hSw.2.2.1.1 3 _ rfl; go_simp; try with_reducible rfl)
    change wpAnyH _ _ _ _ _ _ _ (Act.put _ (some 51) _) _
    simp only [Act.put, List.setIfInBounds_toArray, List.set_cons_zero, List.set_cons_succ]
    refine wpAnyH_take (i := 18) (v := ?_) rfl (by kernel_rfl) (by kernel_rfl) (by kernel_rfl) (fun _ _ _ h => h) (Or.inl ⟨by rfl, ?_⟩) (by assumption) ?_
    rotate_left
    · (intro wS hSw; have q0 := (hSw.1.get 0 rfl).1 0 _ rfl; have q1 := (hSw.1.get 0 rfl).1 1 _ rfl; have q2 := (hSw.1.get 0 rfl).1 2 _ rfl; have q3 := (hSw.1.get 0 rfl).1 3 _ rfl; have p0 := hSw.2.2.1.1 0 _ rfl; have p1 := hSw.2.2.1.1 1 _ rfl; have p2 := hSw.2.2.1.1 2 _ rfl; have p3 := hSw.2.2.1.1 3 _ rfl; go_simp; try with_reducible rfl)
    change wpAnyH _ _ _ _ _ _ _ (Act.put _ (some 52) _) _
    simp only [Act.put, List.setIfInBounds_toArray, List.set_cons_zero, List.set_cons_succ]
    refine wpAnyH_take (i := 19) (v := ?_) rfl (by kernel_rfl) (by kernel_rfl) (by kernel_rfl) (fun _ _ _ h => h) (Or.inl ⟨by rfl, ?_⟩) (by assumption) ?_
    rotate_left
    · (intro wS hSw; have q0 := (hSw.1.get 0 rfl).1 0 _ rfl; have q1 := (hSw.1.get 0 rfl).1 1 _ rfl; have q2 := (hSw.1.get 0 rfl).1 2 _ rfl; have q3 := (hSw.1.get 0 rfl).1 3 _ rfl; have p0 := hSw.2.2.1.1 0 _ rfl; have p1 := hSw.2.2.1.1 1 _ rfl; have p2 := hSw.2.2.1.1 2 _ rfl; have p3 := hSw.2.2.1.1 3 _ rfl; go_simp; try with_reducible rfl)
    change wpAnyH _ _ _ _ _ _ _ (Act.put _ (some 53) _) _
    simp only [Act.put, List.setIfInBounds_toArray, List.set_cons_zero, List.set_cons_succ]
    refine wpAnyH_take (i := 20) (v := ?_) rfl (by kernel_rfl) (by kernel_rfl) (by kernel_rfl) (fun _ _ _ h => h) (Or.inl ⟨by rfl, ?_⟩) (by assumption) ?_
    rotate_left
    · (intro wS hSw; have q0 := (hSw.1.get 0 rfl).1 0 _ rfl; have q1 := (hSw.1.get 0 rfl).1 1 _ rfl; have q2 := (hSw.1.get 0 rfl).1 2 _ rfl; have q3 := (hSw.1.get 0 rfl).1 3 _ rfl; have p0 := hSw.2.2.1.1 0 _ rfl; have p1 := hSw.2.2.1.1 1 _ rfl; have p2 := hSw.2.2.1.1 2 _ rfl; have p3 := hSw.2.2.1.1 3 _ rfl; go_simp; try with_reducible rfl)
    change wpAnyH _ _ _ _ _ _ _ (Act.put _ (some 54) _) _
    simp only [Act.put, List.setIfInBounds_toArray, List.set_cons_zero, List.set_cons_succ]
    refine wpAnyH_take (i := 21) (v := ?_) rfl (by kernel_rfl) (by kernel_rfl) (by kernel_rfl) (fun _ _ _ h => h) (Or.inl ⟨by rfl, ?_⟩) (by assumption) ?_
    rotate_left
    · (intro wS hSw; have q0 := (hSw.1.get 0 rfl).1 0 _ rfl; have q1 := (hSw.1.get 0 rfl).1 1 _ rfl; have q2 := (hSw.1.get 0 rfl).1 2 _ rfl; have q3 := (hSw.1.get 0 rfl).1 3 _ rfl; have p0 := hSw.2.2.1.1 0 _ rfl; have p1 := hSw.2.2.1.1 1 _ rfl; have p2 := hSw.2.2.1.1 2 _ rfl; have p3 := hSw.2.2.1.1 3 _ rfl; go_simp; try with_reducible rfl)
    change wpAnyH _ _ _ _ _ _ _ (Act.put _ (some 55) _) _
    simp only [Act.put, List.setIfInBounds_toArray, List.set_cons_zero, List.set_cons_succ]
    refine wpAnyH_take (i := 22) (v := ?_) rfl (by kernel_rfl) (by kernel_rfl) (by kernel_rfl) (fun _ _ _ h => h) (Or.inl ⟨by rfl, ?_⟩) (by assumption) ?_
    rotate_left
    · (intro wS hSw; have q0 := (hSw.1.get 0 rfl).1 0 _ rfl; have q1 := (hSw.1.get 0 rfl).1 1 _ rfl; have q2 := (hSw.1.get 0 rfl).1 2 _ rfl; have q3 := (hSw.1.get 0 rfl).1 3 _ rfl; have p0 := hSw.2.2.1.1 0 _ rfl; have p1 := hSw.2.2.1.1 1 _ rfl; have p2 := hSw.2.2.1.1 2 _ rfl; have p3 := hSw.2.2.1.1 3 _ rfl; go_simp; try with_reducible rfl)
    change wpAnyH _ _ _ _ _ _ _ (Act.put _ (some 56) _) _
    simp only [Act.put, List.setIfInBounds_toArray, List.set_cons_zero, List.set_cons_succ]
    refine wpAnyH_take (i := 23) (v := ?_) rfl (by kernel_rfl) (by kernel_rfl) (by kernel_rfl) (fun _ _ _ h => h) (Or.inl ⟨by rfl, ?_⟩) (by assumption) ?_
    rotate_left
    · (intro wS hSw; have q0 := (hSw.1.get 0 rfl).1 0 _ rfl; have q1 := (hSw.1.get 0 rfl).1 1 _ rfl; have q2 := (hSw.1.get 0 rfl).1 2 _ rfl; have q3 := (hSw.1.get 0 rfl).1 3 _ rfl; have p0 := hSw.2.2.1.1 0 _ rfl; have p1 := hSw.2.2.1.1 1 _ rfl; have p2 := hSw.2.2.1.1 2 _ rfl; have p3 := hSw.2.2.1.1 3 _ rfl; go_simp; try with_reducible rfl)
    change wpAnyH _ _ _ _ _ _ _ (Act.put _ (some 57) _) _
    simp only [Act.put, List.setIfInBounds_toArray, List.set_cons_zero, List.set_cons_succ]
    refine wpAnyH_take (i := 24) (v := ?_) rfl (by kernel_rfl) (by kernel_rfl) (by kernel_rfl) (fun _ _ _ h => h) (Or.inl ⟨by rfl, ?_⟩) (by assumption) ?_
    rotate_left
    · (intro wS hSw; have q0 := (hSw.1.get 0 rfl).1 0 _ rfl; have q1 := (hSw.1.get 0 rfl).1 1 _ rfl; have q2 := (hSw.1.get 0 rfl).1 2 _ rfl; have q3 := (hSw.1.get 0 rfl).1 3 _ rfl; have p0 := hSw.2.2.1.1 0 _ rfl; have p1 := hSw.2.2.1.1 1 _ rfl; have p2 := hSw.2.2.1.1 2 _ rfl; have p3 := hSw.2.2.1.1 3 _ rfl; go_simp; try with_reducible rfl)
    change wpAnyH _ _ _ _ _ _ _ (Act.put _ (some 58) _) _
    simp only [Act.put, List.setIfInBounds_toArray, List.set_cons_zero, List.set_cons_succ]
    refine wpAnyH_take (i := 25) (v := ?_) rfl (by kernel_rfl) (by kernel_rfl) (by kernel_rfl) (fun _ _ _ h => h) (Or.inl ⟨by rfl, ?_⟩) (by assumption) ?_
    rotate_left
    · (intro wS hSw; have q0 := (hSw.1.get 0 rfl).1 0 _ rfl; have q1 := (hSw.1.get 0 rfl).1 1 _ rfl; have q2 := (hSw.1.get 0 rfl).1 2 _ rfl; have q3 := (hSw.1.get 0 rfl).1 3 _ rfl; have p0 := hSw.2.2.1.1 0 _ rfl; have p1 := hSw.2.2.1.1 1 _ rfl; have p2 := hSw.2.2.1.1 2 _ rfl; have p3 := hSw.2.2.1.1 3 _ rfl; go_simp; try with_reducible rfl)
    change wpAnyH _ _ _ _ _ _ _ (Act.put _ (some 59) _) _
    simp only [Act.put, List.setIfInBounds_toArray, List.set_cons_zero, List.set_cons_succ]
    refine wpAnyH_take (i := 26) (v := ?_) rfl (by kernel_rfl) (by kernel_rfl) (by kernel_rfl) (fun _ _ _ h => h) (Or.inl ⟨by rfl, ?_⟩) (by assumption) ?_
    rotate_left
    · (intro wS hSw; have q0 := (hSw.1.get 0 rfl).1 0 _ rfl; have q1 := (hSw.1.get 0 rfl).1 1 _ rfl; have q2 := (hSw.1.get 0 rfl).1 2 _ rfl; have q3 := (hSw.1.get 0 rfl).1 3 _ rfl; have p0 := hSw.2.2.1.1 0 _ rfl; have p1 := hSw.2.2.1.1 1 _ rfl; have p2 := hSw.2.2.1.1 2 _ rfl; have p3 := hSw.2.2.1.1 3 _ rfl; go_simp; try with_reducible rfl)
    change wpAnyH _ _ _ _ _ _ _ (Act.put _ (some 60) _) _
    simp only [Act.put, List.setIfInBounds_toArray, List.set_cons_zero, List.set_cons_succ]
    refine wpAnyH_take (i := 27) (v := ?_) rfl (by kernel_rfl) (by kernel_rfl) (by kernel_rfl) (fun _ _ _ h => h) (Or.inl ⟨by rfl, ?_⟩) (by assumption) ?_
    rotate_left
    · (intro wS hSw; have q0 := (hSw.1.get 0 rfl).1 0 _ rfl; have q1 := (hSw.1.get 0 rfl).1 1 _ rfl; have q2 := (hSw.1.get 0 rfl).1 2 _ rfl; have q3 := (hSw.1.get 0 rfl).1 3 _ rfl; have p0 := hSw.2.2.1.1 0 _ rfl; have p1 := hSw.2.2.1.1 1 _ rfl; have p2 := hSw.2.2.1.1 2 _ rfl; have p3 := hSw.2.2.1.1 3 _ rfl; go_simp; try with_reducible rfl)
    change wpAnyH _ _ _ _ _ _ _ (Act.put _ (some 61) _) _
    simp only [Act.put, List.setIfInBounds_toArray, List.set_cons_zero, List.set_cons_succ]
    refine wpAnyH_take (i := 28) (v := ?_) rfl (by kernel_rfl) (by kernel_rfl) (by kernel_rfl) (fun _ _ _ h => h) (Or.inl ⟨by rfl, ?_⟩) (by assumption) ?_
    rotate_left
    · (intro wS hSw; have q0 := (hSw.1.get 0 rfl).1 0 _ rfl; have q1 := (hSw.1.get 0 rfl).1 1 _ rfl; have q2 := (hSw.1.get 0 rfl).1 2 _ rfl; have q3 := (hSw.1.get 0 rfl).1 3 _ rfl; have p0 := hSw.2.2.1.1 0 _ rfl; have p1 := hSw.2.2.1.1 1 _ rfl; have p2 := hSw.2.2.1.1 2 _ rfl; have p3 := hSw.2.2.1.1 3 _ rfl; go_simp; try with_reducible rfl)
    change wpAnyH _ _ _ _ _ _ _ (Act.put _ (some 62) _) _
    simp only [Act.put, List.setIfInBounds_toArray, List.set_cons_zero, List.set_cons_succ]
    refine wpAnyH_take (i := 29) (v := ?_) rfl (by kernel_rfl) (by kernel_rfl) (by kernel_rfl) (fun _ _ _ h => h) (Or.inl ⟨by rfl, ?_⟩) (by assumption) ?_
    rotate_left
    · (intro wS hSw; have q0 := (hSw.1.get 0 rfl).1 0 _ rfl; have q1 := (hSw.1.get 0 rfl).1 1 _ rfl; have q2 := (hSw.1.get 0 rfl).1 2 _ rfl; have q3 := (hSw.1.get 0 rfl).1 3 _ rfl; have p0 := hSw.2.2.1.1 0 _ rfl; have p1 := hSw.2.2.1.1 1 _ rfl; have p2 := hSw.2.2.1.1 2 _ rfl; have p3 := hSw.2.2.1.1 3 _ rfl; go_simp; try with_reducible rfl)
    change wpAnyH _ _ _ _ _ _ _ (Act.put _ (some 63) _) _
    simp only [Act.put, List.setIfInBounds_toArray, List.set_cons_zero, List.set_cons_succ]
    refine wpAnyH_take (i := 30) (v := ?_) rfl (by kernel_rfl) (by kernel_rfl) (by kernel_rfl) (fun _ _ _ h => h) (Or.inl ⟨by rfl, ?_⟩) (by assumption) ?_
    rotate_left
    · (intro wS hSw; have q0 := (hSw.1.get 0 rfl).1 0 _ rfl; have q1 := (hSw.1.get 0 rfl).1 1 _ rfl; have q2 := (hSw.1.get 0 rfl).1 2 _ rfl; have q3 := (hSw.1.get 0 rfl).1 3 _ rfl; have p0 := hSw.2.2.1.1 0 _ rfl; have p1 := hSw.2.2.1.1 1 _ rfl; have p2 := hSw.2.2.1.1 2 _ rfl; have p3 := hSw.2.2.1.1 3 _ rfl; go_simp; try with_reducible rfl)
    change wpAnyH _ _ _ _ _ _ _ (Act.put _ (some 64) _) _
    simp only [Act.put, List.setIfInBounds_toArray, List.set_cons_zero, List.set_cons_succ]
    refine wpAnyH_take (i := 31) (v := ?_) rfl (by kernel_rfl) (by kernel_rfl) (by kernel_rfl) (fun _ _ _ h => h) (Or.inl ⟨by rfl, ?_⟩) (by assumption) ?_
    rotate_left
    · (intro wS hSw; have q0 := (hSw.1.get 0 rfl).1 0 _ rfl; have q1 := (hSw.1.get 0 rfl).1 1 _ rfl; have q2 := (hSw.1.get 0 rfl).1 2 _ rfl; have q3 := (hSw.1.get 0 rfl).1 3 _ rfl; have p0 := hSw.2.2.1.1 0 _ rfl; have p1 := hSw.2.2.1.1 1 _ rfl; have p2 := hSw.2.2.1.1 2 _ rfl; have p3 := hSw.2.2.1.1 3 _ rfl; go_simp; try with_reducible rfl)
    change wpAnyH _ _ _ _ _ _ _ (Act.put _ (some 65) _) _
    simp only [Act.put, List.setIfInBounds_toArray, List.set_cons_zero, List.set_cons_succ]
    refine wpAnyH_take (i := 32) (v := ?_) rfl (by kernel_rfl) (by kernel_rfl) (by kernel_rfl) (fun _ _ _ h => h) (Or.inl ⟨by rfl, ?_⟩) (by assumption) ?_
    rotate_left
    · (intro wS hSw; have q0 := (hSw.1.get 0 rfl).1 0 _ rfl; have q1 := (hSw.1.get 0 rfl).1 1 _ rfl; have q2 := (hSw.1.get 0 rfl).1 2 _ rfl; have q3 := (hSw.1.get 0 rfl).1 3 _ rfl; have p0 := hSw.2.2.1.1 0 _ rfl; have p1 := hSw.2.2.1.1 1 _ rfl; have p2 := hSw.2.2.1.1 2 _ rfl; have p3 := hSw.2.2.1.1 3 _ rfl; go_simp; try with_reducible rfl)
    change wpAnyH _ _ _ _ _ _ _ (Act.put _ (some 66) _) _
    simp only [Act.put, List.setIfInBounds_toArray, List.set_cons_zero, List.set_cons_succ]
    refine wpAnyH_take (i := 33) (v := ?_) rfl (by kernel_rfl) (by kernel_rfl) (by kernel_rfl) (fun _ _ _ h => h) (Or.inl ⟨by rfl, ?_⟩) (by assumption) ?_
    rotate_left
    · (intro wS hSw; have q0 := (hSw.1.get 0 rfl).1 0 _ rfl; have q1 := (hSw.1.get 0 rfl).1 1 _ rfl; have q2 := (hSw.1.get 0 rfl).1 2 _ rfl; have q3 := (hSw.1.get 0 rfl).1 3 _ rfl; have p0 := hSw.2.2.1.1 0 _ rfl; have p1 := hSw.2.2.1.1 1 _ rfl; have p2 := hSw.2.2.1.1 2 _ rfl; have p3 := hSw.2.2.1.1 3 _ rfl; go_simp; try with_reducible rfl)
    change wpAnyH _ _ _ _ _ _ _ (Act.put _ (some 67) _) _
    simp only [Act.put, List.setIfInBounds_toArray, List.set_cons_zero, List.set_cons_succ]
    refine wpAnyH_take (i := 34) (v := ?_) rfl (by kernel_rfl) (by kernel_rfl) (by kernel_rfl) (fun _ _ _ h => h) (Or.inl ⟨by rfl, ?_⟩) (by assumption) ?_
    rotate_left
    · (intro wS hSw; have q0 := (hSw.1.get 0 rfl).1 0 _ rfl; have q1 := (hSw.1.get 0 rfl).1 1 _ rfl; have q2 := (hSw.1.get 0 rfl).1 2 _ rfl; have q3 := (hSw.1.get 0 rfl).1 3 _ rfl; have p0 := hSw.2.2.1.1 0 _ rfl; have p1 := hSw.2.2.1.1 1 _ rfl; have p2 := hSw.2.2.1.1 2 _ rfl; have p3 := hSw.2.2.1.1 3 _ rfl; go_simp; try with_reducible rfl)
    change wpAnyH _ _ _ _ _ _ _ (Act.put _ (some 68) _) _
    simp only [Act.put, List.setIfInBounds_toArray, List.set_cons_zero, List.set_cons_succ]
    refine wpAnyH_take (i := 35) (v := ?_) rfl (by kernel_rfl) (by kernel_rfl) (by kernel_rfl) (fun _ _ _ h => h) (Or.inl ⟨by rfl, ?_⟩) (by assumption) ?_
    rotate_left
    · (intro wS hSw; have q0 := (hSw.1.get 0 rfl).1 0 _ rfl; have q1 := (hSw.1.get 0 rfl).1 1 _ rfl; have q2 := (hSw.1.get 0 rfl).1 2 _ rfl; have q3 := (hSw.1.get 0 rfl).1 3 _ rfl; have p0 := hSw.2.2.1.1 0 _ rfl; have p1 := hSw.2.2.1.1 1 _ rfl; have p2 := hSw.2.2.1.1 2 _ rfl; have p3 := hSw.2.2.1.1 3 _ rfl; go_simp; try with_reducible rfl)
    change wpAnyH _ _ _ _ _ _ _ (Act.put _ (some 69) _) _
    simp only [Act.put, List.setIfInBounds_toArray, List.set_cons_zero, List.set_cons_succ]
    refine wpAnyH_take (i := 36) (v := ?_) rfl (by kernel_rfl) (by kernel_rfl) (by kernel_rfl) (fun _ _ _ h => h) (Or.inl ⟨by rfl, ?_⟩) (by assumption) ?_
    rotate_left
    · (intro wS hSw; have q0 := (hSw.1.get 0 rfl).1 0 _ rfl; have q1 := (hSw.1.get 0 rfl).1 1 _ rfl; have q2 := (hSw.1.get 0 rfl).1 2 _ rfl; have q3 := (hSw.1.get 0 rfl).1 3 _ rfl; have p0 := hSw.2.2.1.1 0 _ rfl; have p1 := hSw.2.2.1.1 1 _ rfl; have p2 := hSw.2.2.1.1 2 _ rfl; have p3 := hSw.2.2.1.1 3 _ rfl; go_simp; try with_reducible rfl)
    change wpAnyH _ _ _ _ _ _ _ (Act.put _ (some 70) _) _
    simp only [Act.put, List.setIfInBounds_toArray, List.set_cons_zero, List.set_cons_succ]
    refine wpAnyH_take (i := 37) (v := ?_) rfl (by kernel_rfl) (by kernel_rfl) (by kernel_rfl) (fun _ _ _ h => h) (Or.inl ⟨by rfl, ?_⟩) (by assumption) ?_
    rotate_left
    · (intro wS hSw; have q0 := (hSw.1.get 0 rfl).1 0 _ rfl; have q1 := (hSw.1.get 0 rfl).1 1 _ rfl; have q2 := (hSw.1.get 0 rfl).1 2 _ rfl; have q3 := (hSw.1.get 0 rfl).1 3 _ rfl; have p0 := hSw.2.2.1.1 0 _ rfl; have p1 := hSw.2.2.1.1 1 _ rfl; have p2 := hSw.2.2.1.1 2 _ rfl; have p3 := hSw.2.2.1.1 3 _ rfl; go_simp; try with_reducible rfl)
    change wpAnyH _ _ _ _ _ _ _ (Act.put _ (some 71) _) _
    simp only [Act.put, List.setIfInBounds_toArray, List.set_cons_zero, List.set_cons_succ]
    refine wpAnyH_take (i := 38) (v := ?_) rfl (by kernel_rfl) (by kernel_rfl) (by kernel_rfl) (fun _ _ _ h => h) (Or.inl ⟨by rfl, ?_⟩) (by assumption) ?_
    rotate_left
    · (intro wS hSw; have q0 := (hSw.1.get 0 rfl).1 0 _ rfl; have q1 := (hSw.1.get 0 rfl).1 1 _ rfl; have q2 := (hSw.1.get 0 rfl).1 2 _ rfl; have q3 := (hSw.1.get 0 rfl).1 3 _ rfl; have p0 := hSw.2.2.1.1 0 _ rfl; have p1 := hSw.2.2.1.1 1 _ rfl; have p2 := hSw.2.2.1.1 2 _ rfl; have p3 := hSw.2.2.1.1 3 _ rfl; go_simp; try with_reducible rfl)
    change wpAnyH _ _ _ _ _ _ _ (Act.put _ (some 72) _) _
    simp only [Act.put, List.setIfInBounds_toArray, List.set_cons_zero, List.set_cons_succ]
    refine wpAnyH_take (i := 39) (v := ?_) rfl (by kernel_rfl) (by kernel_rfl) (by kernel_rfl) (fun _ _ _ h => h) (Or.inl ⟨by rfl, ?_⟩) (by assumption) ?_
    rotate_left
    · (intro wS hSw; have q0 := (hSw.1.get 0 rfl).1 0 _ rfl; have q1 := (hSw.1.get 0 rfl).1 1 _ rfl; have q2 := (hSw.1.get 0 rfl).1 2 _ rfl; have q3 := (hSw.1.get 0 rfl).1 3 _ rfl; have p0 := hSw.2.2.1.1 0 _ rfl; have p1 := hSw.2.2.1.1 1 _ rfl; have p2 := hSw.2.2.1.1 2 _ rfl; have p3 := hSw.2.2.1.1 3 _ rfl; go_simp; try with_reducible rfl)
    change wpAnyH _ _ _ _ _ _ _ (Act.put _ (some 73) _) _
    simp only [Act.put, List.setIfInBounds_toArray, List.set_cons_zero, List.set_cons_succ]
    refine wpAnyH_done (by kernel_rfl) ?_ _
    refine NoPanic.normal ?_
    clear K4
    go_wp2_with (fail)
    go_meet
    case rel => exact ⟨rfl, F_3⟩

  case rest =>
    obtain ⟨rfl, K5⟩ := hcut
    clear K4 PD CZ
    have q_q := K5.out.1.get 0 rfl
    have q3 : wc.cell? ⟨w3.heap.size, 3, none⟩ = some (.slice sq zs.length capq) := q_q.1 3 _ rfl
    go_wp2
    clear q3 q_q
    go_loopw [77] (fun f wr => ∃ j : Nat, f = .int .i64 j ∧ j ≤ zs.length ∧ Hid (KQ w3 [(w3.heap.size, [.string pn, .int .i64 pr, .int .i64 po, .slice sq zs.length capq])] w.heap.size [.string pn, .int .i64 pr, .int .i64 po, .slice sa zs.length cap] (.slice sq zs.length capq) (.slice sa zs.length cap) out zs wr)) (fun f _ => zs.length - (intOf f).toNat)
    case atStart => exact ⟨0, rfl, by omega, K5⟩
    case round =>
      clear K5
      obtain ⟨j, rfl, jl, K6⟩ := hrel
      obtain ⟨wo, rfl⟩ : ∃ wo, wo = wr := ⟨_, rfl⟩
      by_cases cj : j < zs.length
      · obtain ⟨⟨m, rc, rm, rh, lc, lm, lh, x, y, z⟩, hdj⟩ : ∃ d, zs[j]? = some d := ⟨zs[j], List.getElem?_eq_getElem cj⟩
        have huj := UP.out j _ hdj
        obtain ⟨⟨m2, rc2, rm2, rh2, lc2, lm2, lh2, x2, y2, z2⟩, hu2⟩ : ∃ d, d = upd l ⟨m, rc, rm, rh, lc, lm, lh, x, y, z⟩ := ⟨_, rfl⟩
        rw [← hu2] at huj
        have U2 : Hid (⟨m2, rc2, rm2, rh2, lc2, lm2, lh2, x2, y2, z2⟩ = upd l ⟨m, rc, rm, rh, lc, lm, lh, x, y, z⟩) := hu2
        obtain ⟨ao, co, eo, -, -, g3⟩ := K6.out.2.2.2.1
        obtain ⟨-, b2, off2, rfl, T2⟩ := g3 j _ huj
        injection eo with eo1 eo2 eo3
        subst eo1 eo3
        obtain ⟨ai, ci, ei, -, -, g4⟩ := K6.out.2.2.2.2
        obtain ⟨-, b1, off1, rfl, T1⟩ := g4 j _ hdj
        injection ei with ei1 ei2 ei3
        subst ei1 ei3
        clear ei2 eo2
        have p_p := K6.out.2.2.1
        have p3 : wo.cell? ⟨w.heap.size, 3, none⟩ = some (.slice (some ⟨b1, off1, none⟩) zs.length cap) := p_p.1 3 _ rfl
        have pz := p_p.2.2
        obtain ⟨c0, c1, c2, c3, c4, c5, c6, c7, c8, c9⟩ := T2
        obtain ⟨d0, d1, d2, d3, d4, d5, d6, d7, d8, d9⟩ := T1
        simp only at c0 c1 c2 c3 c4 c5 c6 c7 c8 c9 d0 d1 d2 d3 d4 d5 d6 d7 d8 d9
        have bz1 : b1 < wo.heap.size := by have := World.block_lt_of_cell? _ _ d0; simpa using this
        have bz2 : b2 < wo.heap.size := by have := World.block_lt_of_cell? _ _ c0; simpa using this
        have j0 : (0 : Int) ≤ (j : Int) := by omega
        have j1 : (j : Int) < (zs.length : Int) := by omega
        have BO : Hid (Below w.heap.size w wo) := BW3.out.trans (K6.out.1.2.mono BW3.out.size)
        have L0 : Hid (Lies wo [(wo.heap.size + 1, [.string m, .int .i64 rc, .int .i64 rm, .int .i64 rh, .int .i64 lc, .int .i64 lm, .int .i64 lh, .bool x, .bool y, .bool z]), (wo.heap.size, [.string m2, .int .i64 rc2, .int .i64 rm2, .int .i64 rh2, .int .i64 lc2, .int .i64 lm2, .int .i64 lh2, .bool x2, .bool y2, .bool z2])] ((wo.alloc (.cells #[.string m2, .int .i64 rc2, .int .i64 rm2, .int .i64 rh2, .int .i64 lc2, .int .i64 lm2, .int .i64 lh2, .bool x2, .bool y2, .bool z2] 26)).alloc (.cells #[.string m, .int .i64 rc, .int .i64 rm, .int .i64 rh, .int .i64 lc, .int .i64 lm, .int .i64 lh, .bool x, .bool y, .bool z] 26))) := by
          refine ⟨fun x hx => ?_, ((Below.refl _ _).alloc (Nat.le_refl _) _).alloc (by simp) _⟩
          simp at hx
          rcases hx with rfl | rfl
          · exact (by repeat (first | assumption | (refine Cs.new _ _ _ _ ?_; simp; done) | refine Cs.alloc ?_ _ | refine Cs.drew ?_ | (refine Cs.beside ?_ _ _ (by omega))))
          · exact (by repeat (first | assumption | (refine Cs.new _ _ _ _ ?_; simp; done) | refine Cs.alloc ?_ _ | refine Cs.drew ?_ | (refine Cs.beside ?_ _ _ (by omega))))
        clear g3 g4 huj hdj hu2
        go_wp2
        clear c0 c1 c2 c3 c4 c5 c6 c7 c8 c9 d0 d1 d2 d3 d4 d5 d6 d7 d8 d9 p3
        go_loopw [89] (fun f wt => ∃ (i : Nat) (D : Ct), f = .int .i64 i ∧ i ≤ l.length ∧ Hid (D = upd (l.take i) ⟨m, rc, rm, rh, lc, lm, lh, x, y, z⟩ ∧ Lies wo [(wo.heap.size + 1, D.l), (wo.heap.size, [.string m2, .int .i64 rc2, .int .i64 rm2, .int .i64 rh2, .int .i64 lc2, .int .i64 lm2, .int .i64 lh2, .bool x2, .bool y2, .bool z2])] wt)) (fun f _ => l.length - (intOf f).toNat)
        case atStart => exact ⟨0, ⟨m, rc, rm, rh, lc, lm, lh, x, y, z⟩, rfl, by omega, rfl, L0.out⟩
        case round =>
          clear L0
          obtain ⟨i, ⟨m1, rc1, rm1, rh1, lc1, lm1, lh1, x1, y1, z1⟩, rfl, il, KI⟩ := hrel
          have q_d : Cs wr (wo.heap.size + 1) [.string m1, .int .i64 rc1, .int .i64 rm1, .int .i64 rh1, .int .i64 lc1, .int .i64 lm1, .int .i64 lh1, .bool x1, .bool y1, .bool z1] := KI.out.2.get 0 rfl
          have q_c := KI.out.2.get 1 rfl
          have HB := KI.out.2.2
          have hs := HB.size
          have d0 : wr.cell? ⟨wo.heap.size + 1, 0, none⟩ = some (.string m1) := q_d.1 0 _ rfl
          have d1 : wr.cell? ⟨wo.heap.size + 1, 1, none⟩ = some (.int .i64 rc1) := q_d.1 1 _ rfl
          have d2 : wr.cell? ⟨wo.heap.size + 1, 2, none⟩ = some (.int .i64 rm1) := q_d.1 2 _ rfl
          have d3 : wr.cell? ⟨wo.heap.size + 1, 3, none⟩ = some (.int .i64 rh1) := q_d.1 3 _ rfl
          have d4 : wr.cell? ⟨wo.heap.size + 1, 4, none⟩ = some (.int .i64 lc1) := q_d.1 4 _ rfl
          have d5 : wr.cell? ⟨wo.heap.size + 1, 5, none⟩ = some (.int .i64 lm1) := q_d.1 5 _ rfl
          have d6 : wr.cell? ⟨wo.heap.size + 1, 6, none⟩ = some (.int .i64 lh1) := q_d.1 6 _ rfl
          have dz := q_d.2.2
          by_cases ci : i < l.length
          · obtain ⟨⟨n, xc, xm, xh, yc, ym, yh⟩, hx⟩ : ∃ d, l[i]? = some d := ⟨l[i], List.getElem?_eq_getElem ci⟩
            obtain ⟨-, bx, offx, rfl, TX⟩ := K3.out i _ hx
            obtain ⟨e0, e1, e2, e3, e4, e5, e6⟩ := TX.later (BO.out.trans (HB.mono BO.out.size))
            simp only at e0 e1 e2 e3 e4 e5 e6
            have i0 : (0 : Int) ≤ (i : Int) := by omega
            have i1 : (i : Int) < (l.length : Int) := by omega
            obtain ⟨g, hg⟩ : ∃ g, eqS n m1 = g := ⟨_, rfl⟩
            have t0 : (n.toList == m1.toList) = g := by rw [eqS_l]; exact hg
            have NX : Hid ((if g = true then Ct.put ⟨m1, rc1, rm1, rh1, lc1, lm1, lh1, x1, y1, z1⟩ ⟨n, xc, xm, xh, yc, ym, yh⟩ else ⟨m1, rc1, rm1, rh1, lc1, lm1, lh1, x1, y1, z1⟩) = upd (l.take (i + 1)) ⟨m, rc, rm, rh, lc, lm, lh, x, y, z⟩) := by
              unfold Hid
              rw [List.take_add_one, hx, Option.toList_some, upd_snoc, ← KI.out.1]
              simp only [hg]
            clear TX hx hg
            cases g with
            | false =>
              have L1 : Hid (Lies wo [(wo.heap.size + 1, Ct.l ⟨m1, rc1, rm1, rh1, lc1, lm1, lh1, x1, y1, z1⟩), (wo.heap.size, [.string m2, .int .i64 rc2, .int .i64 rm2, .int .i64 rh2, .int .i64 lc2, .int .i64 lm2, .int .i64 lh2, .bool x2, .bool y2, .bool z2])] (wr.alloc (.cells #[.string n, .int .i64 xc, .int .i64 xm, .int .i64 xh, .int .i64 yc, .int .i64 ym, .int .i64 yh] 56))) := KI.out.2.alloc _
              have NX' : Hid ((⟨m1, rc1, rm1, rh1, lc1, lm1, lh1, x1, y1, z1⟩ : Ct) = upd (l.take (i + 1)) ⟨m, rc, rm, rh, lc, lm, lh, x, y, z⟩) := by have := NX.out; rwa [if_neg Bool.false_ne_true] at this
              clear NX KI q_d q_c
              go_wp2
              go_roundw
              case rel => exact ⟨i + 1, ⟨m1, rc1, rm1, rh1, lc1, lm1, lh1, x1, y1, z1⟩, by go_num, by omega, NX'.out, L1.out⟩
              case measure => simp [intOf]; omega
            | true =>
              have dF1 : wr.frozen? ⟨wo.heap.size + 1, 1, none⟩ = false := q_d.2.1 1 (by simp)
              have dF2 : wr.frozen? ⟨wo.heap.size + 1, 2, none⟩ = false := q_d.2.1 2 (by simp)
              have dF3 : wr.frozen? ⟨wo.heap.size + 1, 3, none⟩ = false := q_d.2.1 3 (by simp)
              have dF4 : wr.frozen? ⟨wo.heap.size + 1, 4, none⟩ = false := q_d.2.1 4 (by simp)
              have dF5 : wr.frozen? ⟨wo.heap.size + 1, 5, none⟩ = false := q_d.2.1 5 (by simp)
              have dF6 : wr.frozen? ⟨wo.heap.size + 1, 6, none⟩ = false := q_d.2.1 6 (by simp)
              have L1 : Hid (Lies wo [(wo.heap.size + 1, [.string m1, .int .i64 rc1, .int .i64 rm1, .int .i64 rh1, .int .i64 lc1, .int .i64 lm1, .int .i64 lh1, .bool x1, .bool y1, .bool z1]), (wo.heap.size, [.string m2, .int .i64 rc2, .int .i64 rm2, .int .i64 rh2, .int .i64 lc2, .int .i64 lm2, .int .i64 lh2, .bool x2, .bool y2, .bool z2])] wr) := KI.out.2
              have NX' : Hid (Ct.put ⟨m1, rc1, rm1, rh1, lc1, lm1, lh1, x1, y1, z1⟩ ⟨n, xc, xm, xh, yc, ym, yh⟩ = upd (l.take (i + 1)) ⟨m, rc, rm, rh, lc, lm, lh, x, y, z⟩) := by have := NX.out; rwa [if_pos rfl] at this
              clear NX KI q_d q_c
              go_upto_region 18 with (fail)
              go_region
              all_goals
                have HN : Hid (∀ y ∈ [((wo.heap.size : Nat), ([.string m2, .int .i64 rc2, .int .i64 rm2, .int .i64 rh2, .int .i64 lc2, .int .i64 lm2, .int .i64 lh2, .bool x2, .bool y2, .bool z2] : List Value))], y.1 ≠ wo.heap.size + 1) := fun y hy => by
                  simp at hy
                  subst hy
                  show wo.heap.size ≠ wo.heap.size + 1
                  omega
                have L2 : Lies wo [(wo.heap.size + 1, Ct.l (Ct.put ⟨m1, rc1, rm1, rh1, lc1, lm1, lh1, x1, y1, z1⟩ ⟨n, xc, xm, xh, yc, ym, yh⟩)), (wo.heap.size, [.string m2, .int .i64 rc2, .int .i64 rm2, .int .i64 rh2, .int .i64 lc2, .int .i64 lm2, .int .i64 lh2, .bool x2, .bool y2, .bool z2])] ((((((wr.setCell ⟨wo.heap.size + 1, 1, none⟩ (.int .i64 xc)).setCell ⟨wo.heap.size + 1, 2, none⟩ (.int .i64 xm)).setCell ⟨wo.heap.size + 1, 3, none⟩ (.int .i64 xh)).setCell ⟨wo.heap.size + 1, 4, none⟩ (.int .i64 yc)).setCell ⟨wo.heap.size + 1, 5, none⟩ (.int .i64 ym)).setCell ⟨wo.heap.size + 1, 6, none⟩ (.int .i64 yh)) := (Lies.set (Lies.set (Lies.set (Lies.set (Lies.set (Lies.set L1.out 1 _ (by simp) (by omega) HN.out) 2 _ (by simp) (by omega) HN.out) 3 _ (by simp) (by omega) HN.out) 4 _ (by simp) (by omega) HN.out) 5 _ (by simp) (by omega) HN.out) 6 _ (by simp) (by omega) HN.out)
                have L3 : Hid (Lies wo [(wo.heap.size + 1, Ct.l (Ct.put ⟨m1, rc1, rm1, rh1, lc1, lm1, lh1, x1, y1, z1⟩ ⟨n, xc, xm, xh, yc, ym, yh⟩)), (wo.heap.size, [.string m2, .int .i64 rc2, .int .i64 rm2, .int .i64 rh2, .int .i64 lc2, .int .i64 lm2, .int .i64 lh2, .bool x2, .bool y2, .bool z2])] (((((((wr.setCell ⟨wo.heap.size + 1, 1, none⟩ (.int .i64 xc)).setCell ⟨wo.heap.size + 1, 2, none⟩ (.int .i64 xm)).setCell ⟨wo.heap.size + 1, 3, none⟩ (.int .i64 xh)).setCell ⟨wo.heap.size + 1, 4, none⟩ (.int .i64 yc)).setCell ⟨wo.heap.size + 1, 5, none⟩ (.int .i64 ym)).setCell ⟨wo.heap.size + 1, 6, none⟩ (.int .i64 yh)).alloc (.cells #[.string n, .int .i64 xc, .int .i64 xm, .int .i64 xh, .int .i64 yc, .int .i64 ym, .int .i64 yh] 56)).drew) := (L2.alloc _).drew
                clear L1 L2 HN dF1 dF2 dF3 dF4 dF5 dF6 d0 d1 d2 d3 d4 d5 d6 e0 e1 e2 e3 e4 e5 e6
                go_wp2
                go_roundw
                case rel => exact ⟨i + 1, Ct.put ⟨m1, rc1, rm1, rh1, lc1, lm1, lh1, x1, y1, z1⟩ ⟨n, xc, xm, xh, yc, ym, yh⟩, by go_num, by omega, NX'.out, L3.out⟩
                case measure => simp [intOf]; omega
          · obtain rfl : i = l.length := by omega
            have E := KI.out.1
            rw [List.take_length, ← U2.out] at E
            injection E with E0 E1 E2 E3 E4 E5 E6 E7 E8 E9
            subst E0 E1 E2 E3 E4 E5 E6 E7 E8 E9
            have d7 : wr.cell? ⟨wo.heap.size + 1, 7, none⟩ = some (.bool x1) := q_d.1 7 _ rfl
            have d8 : wr.cell? ⟨wo.heap.size + 1, 8, none⟩ = some (.bool y1) := q_d.1 8 _ rfl
            have d9 : wr.cell? ⟨wo.heap.size + 1, 9, none⟩ = some (.bool z1) := q_d.1 9 _ rfl
            have c0 : wr.cell? ⟨wo.heap.size, 0, none⟩ = some (.string m1) := q_c.1 0 _ rfl
            have c1 : wr.cell? ⟨wo.heap.size, 1, none⟩ = some (.int .i64 rc1) := q_c.1 1 _ rfl
            have c2 : wr.cell? ⟨wo.heap.size, 2, none⟩ = some (.int .i64 rm1) := q_c.1 2 _ rfl
            have c3 : wr.cell? ⟨wo.heap.size, 3, none⟩ = some (.int .i64 rh1) := q_c.1 3 _ rfl
            have c4 : wr.cell? ⟨wo.heap.size, 4, none⟩ = some (.int .i64 lc1) := q_c.1 4 _ rfl
            have c5 : wr.cell? ⟨wo.heap.size, 5, none⟩ = some (.int .i64 lm1) := q_c.1 5 _ rfl
            have c6 : wr.cell? ⟨wo.heap.size, 6, none⟩ = some (.int .i64 lh1) := q_c.1 6 _ rfl
            have c7 : wr.cell? ⟨wo.heap.size, 7, none⟩ = some (.bool x1) := q_c.1 7 _ rfl
            have c8 : wr.cell? ⟨wo.heap.size, 8, none⟩ = some (.bool y1) := q_c.1 8 _ rfl
            have c9 : wr.cell? ⟨wo.heap.size, 9, none⟩ = some (.bool z1) := q_c.1 9 _ rfl
            have sm : ∀ w : World, Sem.run Tryd.prog (Op.equalIn 10000 26 (.agg #[.string m1, .int .i64 rc1, .int .i64 rm1, .int .i64 rh1, .int .i64 lc1, .int .i64 lm1, .int .i64 lh1, .bool x1, .bool y1, .bool z1]) (.agg #[.string m1, .int .i64 rc1, .int .i64 rm1, .int .i64 rh1, .int .i64 lc1, .int .i64 lm1, .int .i64 lh1, .bool x1, .bool y1, .bool z1])) w = .ok true w := fun w => by
              rw [ct_eq]
              congr 1
              exact eqC_iff.2 rfl
            have K7 : Hid (KQ w3 [(w3.heap.size, [.string pn, .int .i64 pr, .int .i64 po, .slice (some ⟨b2, off2, none⟩) zs.length capq])] w.heap.size [.string pn, .int .i64 pr, .int .i64 po, .slice (some ⟨b1, off1, none⟩) zs.length cap] (.slice (some ⟨b2, off2, none⟩) zs.length capq) (.slice (some ⟨b1, off1, none⟩) zs.length cap) out zs wr) := K6.out.later HB
            clear K6 KI U2 q_c q_d
            go_wp2
            go_roundw
            case rel => exact ⟨j + 1, by go_num, by omega, K7⟩
            case measure => simp [intOf]; omega
      · have HB := K6.out.1.2
        have BE : Below w.heap.size w wo := BW3.out.trans (HB.mono BW3.out.size)
        clear K6
        go_wp2
        go_ret
        exact ⟨rfl, BE⟩

end Go.Proofs.YtfgbppngnafpoaaDoor.Sp
