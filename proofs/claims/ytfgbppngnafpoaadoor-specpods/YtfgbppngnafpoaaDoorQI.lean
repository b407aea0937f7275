/-
  SpecPods of this program: true for all pods and names. Conditions: the tables of the program lie as its text lays them; the containers read as lists; the names' lengths fit the machine.
-/
import Derived.Test.YtfgbppngnafpoaaDoorQD
import Derived.Test.YtfgbppngnafpoaaDoorQC
import Derived.Test.YtfgbppngnafpoaaDoorQH
import Derived.Test.YtfgbppngnafpoaaDoorPW
import Derived.Test.YtfgbppngnafpoaaDoorPY
import Derived.Lib.MinMax
namespace Go.Proofs.YtfgbppngnafpoaaDoor.Sp
open Go.RowKit

/-- Two pods that are held beside one another. -/
def KP (w : World) (bs : List (Nat × List Value)) (v u : Value) (zs ys : List Ct) (W : World) : Prop := Lies w bs W ∧ LaidS W ∧ RdC W v zs ∧ RdC W u ys
theorem KP.later {w W w1 : World} {bs : List (Nat × List Value)} {v u : Value} {zs ys : List Ct} (h : KP w bs v u zs ys W) (hb : Below W.heap.size W w1) : KP w bs v u zs ys w1 := ⟨h.1.later hb, h.2.1.later hb, h.2.2.1.later hb, h.2.2.2.later hb⟩
theorem KP.drew {w W : World} {bs : List (Nat × List Value)} {v u : Value} {zs ys : List Ct} (h : KP w bs v u zs ys W) : KP w bs v u zs ys W.drew := h.later (Below.refl _ _).drew
theorem fff_same (a b c : Bool) (w : World) : Sem.run Tryd.prog (Op.equalIn 10000 24 (.agg #[.bool a, .bool b, .bool c]) (.agg #[.bool a, .bool b, .bool c])) w = .ok true w := by
  cases a <;> cases b <;> cases c <;> kernel_rfl
theorem finds_told (n : ByteArray) (zs : List Ct) : ∃ (k at' : Int) (ok : Bool), fi (fnd n zs) = k ∧ fv (fnd n zs) = .tuple #[.int .i64 at', .bool ok] ∧ decide (0 ≤ k) = ok ∧ max k 0 = at' := by
  cases fnd n zs with
  | none => exact ⟨-1, 0, false, rfl, rfl, rfl, rfl⟩
  | some k => exact ⟨k, k, true, rfl, rfl, by simp, by omega⟩

set_option maxHeartbeats 4000000 in
set_option maxRecDepth 100000 in
theorem specPods_any {v u : Value} {zs ys : List Ct} (pn : ByteArray) (pr po : Int) (hm : pn.size ≤ maxLen) (qn : ByteArray) (qr qo : Int) (nm : ByteArray) (w : World) (hL : LaidS w) (h : RdC w v zs) (k : RdC w u ys) :
    Calls Tryd.prog 4 #[.agg #[.string pn, .int .i64 pr, .int .i64 po, v], .agg #[.string qn, .int .i64 qr, .int .i64 qo, u], .string nm] w fun e w' => e = .returned (.bool true) ∧ Below w.heap.size w w' := by
  have HL : Hid (LaidS w) := hL
  have HZ : Hid (RdC w v zs) := h
  have HY : Hid (RdC w u ys) := k
  have HM : Hid (pn.size ≤ maxLen) := hm
  clear hL hm
  obtain ⟨sa, cap, rfl, h1, h2, -⟩ := h
  obtain ⟨su, capu, rfl, k1, k2, -⟩ := k
  have zl : zs.length ≤ maxLen := by omega
  have yl : ys.length ≤ maxLen := by omega
  unfold maxLen at zl yl
  go_enter Tryd.func4, Tryd.ntmps4
  go_wp2_with (fail)
  refine (sfirst_is _ ((HL.out.alloc _).alloc _)).mono ?_
  rintro e w1 ⟨rfl, hw1⟩
  have K1 : Hid (KP w [(w.heap.size, [.string pn, .int .i64 pr, .int .i64 po, .slice sa zs.length cap]), (w.heap.size + 1, [.string qn, .int .i64 qr, .int .i64 qo, .slice su ys.length capu])] (.slice sa zs.length cap) (.slice su ys.length capu) zs ys w1) := by
    refine ⟨⟨fun x hx => ?_, Below.trans (show Below w.heap.size w _ by go_grown) (hw1.mono (by simp; omega))⟩, ((HL.out.alloc _).alloc _).later hw1, ((HZ.out.alloc _).alloc _).later hw1, ((HY.out.alloc _).alloc _).later hw1⟩
    simp at hx
    rcases hx with rfl | rfl
    · exact Cs.later hw1 (by repeat (first | assumption | (refine Cs.new _ _ _ _ ?_; simp; done) | refine Cs.alloc ?_ _ | refine Cs.drew ?_ | (refine Cs.beside ?_ _ _ (by omega))))
    · exact Cs.later hw1 (by repeat (first | assumption | (refine Cs.new _ _ _ _ ?_; simp; done) | refine Cs.alloc ?_ _ | refine Cs.drew ?_ | (refine Cs.beside ?_ _ _ (by omega))))
  clear hw1
  obtain ⟨tn, htn⟩ : ∃ t, decide ((300 : Int) < (nm.size : Int)) = t := ⟨_, rfl⟩
  go_upto_region 3 with (fail)
  go_cut [31] (fun s31 wc => ∃ t, s31 = .bool t ∧ (t = false → zs.length ≤ 51 ∧ ys.length ≤ 51) ∧ Hid (KP w [(w.heap.size, [.string pn, .int .i64 pr, .int .i64 po, .slice sa zs.length cap]), (w.heap.size + 1, [.string qn, .int .i64 qr, .int .i64 qo, .slice su ys.length capu])] (.slice sa zs.length cap) (.slice su ys.length capu) zs ys wc))
  case first =>
    have F_0 : Hid (KP w [(w.heap.size, [.string pn, .int .i64 pr, .int .i64 po, .slice sa zs.length cap]), (w.heap.size + 1, [.string qn, .int .i64 qr, .int .i64 qo, .slice su ys.length capu])] (.slice sa zs.length cap) (.slice su ys.length capu) zs ys _) := K1.out.drew
    refine wp_region_noPanic ?_
    refine wp_region_held_drew (S := fun w' => KP w [(w.heap.size, [.string pn, .int .i64 pr, .int .i64 po, .slice sa zs.length cap]), (w.heap.size + 1, [.string qn, .int .i64 qr, .int .i64 qo, .slice su ys.length capu])] (.slice sa zs.length cap) (.slice su ys.length capu) zs ys w') (by kernel_rfl) ?_ (fun hHeld => ?_)
    · exact F_0.out
    refine wpAnyH_take (i := 0) (v := ?_) rfl (by kernel_rfl) (by kernel_rfl) (by kernel_rfl) (fun _ _ _ h => h) (Or.inl ⟨by rfl, ?_⟩) (by assumption) ?_
    rotate_left
    · (intro wS hSw; have p0 := (hSw.1.get 0 rfl).1 0 _ rfl; have p1 := (hSw.1.get 0 rfl).1 1 _ rfl; have p2 := (hSw.1.get 0 rfl).1 2 _ rfl; have p3 := (hSw.1.get 0 rfl).1 3 _ rfl; have q0 := (hSw.1.get 1 rfl).1 0 _ rfl; have q1 := (hSw.1.get 1 rfl).1 1 _ rfl; have q2 := (hSw.1.get 1 rfl).1 2 _ rfl; have q3 := (hSw.1.get 1 rfl).1 3 _ rfl; go_simp; try with_reducible rfl)
    change wpAnyH _ _ _ _ _ _ _ (Act.put _ (some 21) _) _
    simp only [Act.put, List.setIfInBounds_toArray, List.set_cons_zero, List.set_cons_succ]
    refine wpAnyH_take (i := 2) (v := ?_) rfl (by kernel_rfl) (by kernel_rfl) (by kernel_rfl) (fun _ _ _ h => h) (Or.inl ⟨by rfl, ?_⟩) (by assumption) ?_
    rotate_left
    · (intro wS hSw; have p0 := (hSw.1.get 0 rfl).1 0 _ rfl; have p1 := (hSw.1.get 0 rfl).1 1 _ rfl; have p2 := (hSw.1.get 0 rfl).1 2 _ rfl; have p3 := (hSw.1.get 0 rfl).1 3 _ rfl; have q0 := (hSw.1.get 1 rfl).1 0 _ rfl; have q1 := (hSw.1.get 1 rfl).1 1 _ rfl; have q2 := (hSw.1.get 1 rfl).1 2 _ rfl; have q3 := (hSw.1.get 1 rfl).1 3 _ rfl; go_simp; try with_reducible rfl)
    change wpAnyH _ _ _ _ _ _ _ (Act.put _ (some 23) _) _
    simp only [Act.put, List.setIfInBounds_toArray, List.set_cons_zero, List.set_cons_succ]
    refine wpAnyH_ready (rs := [1]) (by kernel_rfl) (by simp) ?_
    refine AllReadyH.cons rfl (fun K hK => ?_) AllReadyH.nil
    go_simp
    refine (great_is pn pr po _ F_0.out.2.2.1).mono ?_
    rintro e v1 ⟨g1, rfl, G1, hv1⟩
    have F_1 : Hid (KP w [(w.heap.size, [.string pn, .int .i64 pr, .int .i64 po, .slice sa zs.length cap]), (w.heap.size + 1, [.string qn, .int .i64 qr, .int .i64 qo, .slice su ys.length capu])] (.slice sa zs.length cap) (.slice su ys.length capu) zs ys v1) := F_0.out.later hv1
    clear hv1 F_0
    (try go_wp2_with (fail))
    refine hK.out _ _ ?_ (fun hHeld => ?_)
    · exact F_1.out
    clear hK K
    refine wpAnyH_ready (rs := [3]) (by kernel_rfl) (by simp) ?_
    refine AllReadyH.cons rfl (fun K hK => ?_) AllReadyH.nil
    go_simp
    refine (great_is qn qr qo _ F_1.out.2.2.2).mono ?_
    rintro e v2 ⟨g2, rfl, G2, hv2⟩
    have F_2 : Hid (KP w [(w.heap.size, [.string pn, .int .i64 pr, .int .i64 po, .slice sa zs.length cap]), (w.heap.size + 1, [.string qn, .int .i64 qr, .int .i64 qo, .slice su ys.length capu])] (.slice sa zs.length cap) (.slice su ys.length capu) zs ys v2) := F_1.out.later hv2
    clear hv2 F_1
    (try go_wp2_with (fail))
    refine hK.out _ _ ?_ (fun hHeld => ?_)
    · exact F_2.out
    clear hK K
    obtain ⟨t, ht⟩ : ∃ t, decide ((2000 : Int) < max g1 g2) = t := ⟨_, rfl⟩
    cases t with
    | true =>
      refine wpAnyH_take (i := 4) (v := ?_) rfl (by kernel_rfl) (by kernel_rfl) (by kernel_rfl) (fun _ _ _ h => h) (Or.inl ⟨by rfl, ?_⟩) (by assumption) ?_
      rotate_left
      · (intro wS hSw; have p0 := (hSw.1.get 0 rfl).1 0 _ rfl; have p1 := (hSw.1.get 0 rfl).1 1 _ rfl; have p2 := (hSw.1.get 0 rfl).1 2 _ rfl; have p3 := (hSw.1.get 0 rfl).1 3 _ rfl; have q0 := (hSw.1.get 1 rfl).1 0 _ rfl; have q1 := (hSw.1.get 1 rfl).1 1 _ rfl; have q2 := (hSw.1.get 1 rfl).1 2 _ rfl; have q3 := (hSw.1.get 1 rfl).1 3 _ rfl; go_simp; try with_reducible rfl)
      change wpAnyH _ _ _ _ _ _ _ (Act.put _ (some 25) _) _
      simp only [Act.put, List.setIfInBounds_toArray, List.set_cons_zero, List.set_cons_succ]
      refine wpAnyH_take (i := 5) (v := ?_) rfl (by kernel_rfl) (by kernel_rfl) (by kernel_rfl) (fun _ _ _ h => h) (Or.inl ⟨by rfl, ?_⟩) (by assumption) ?_
      rotate_left
      · (intro wS hSw; have p0 := (hSw.1.get 0 rfl).1 0 _ rfl; have p1 := (hSw.1.get 0 rfl).1 1 _ rfl; have p2 := (hSw.1.get 0 rfl).1 2 _ rfl; have p3 := (hSw.1.get 0 rfl).1 3 _ rfl; have q0 := (hSw.1.get 1 rfl).1 0 _ rfl; have q1 := (hSw.1.get 1 rfl).1 1 _ rfl; have q2 := (hSw.1.get 1 rfl).1 2 _ rfl; have q3 := (hSw.1.get 1 rfl).1 3 _ rfl; go_simp; try with_reducible rfl)
      change wpAnyH _ _ _ _ _ _ _ (Act.put _ (some 26) _) _
      simp only [Act.put, List.setIfInBounds_toArray, List.set_cons_zero, List.set_cons_succ]
      refine wpAnyH_take (i := 6) (v := ?_) rfl (by kernel_rfl) (by kernel_rfl) (by kernel_rfl) (fun _ _ _ h => h) (Or.inl ⟨by rfl, ?_⟩) (by assumption) ?_
      rotate_left
      · (intro wS hSw; have p0 := (hSw.1.get 0 rfl).1 0 _ rfl; have p1 := (hSw.1.get 0 rfl).1 1 _ rfl; have p2 := (hSw.1.get 0 rfl).1 2 _ rfl; have p3 := (hSw.1.get 0 rfl).1 3 _ rfl; have q0 := (hSw.1.get 1 rfl).1 0 _ rfl; have q1 := (hSw.1.get 1 rfl).1 1 _ rfl; have q2 := (hSw.1.get 1 rfl).1 2 _ rfl; have q3 := (hSw.1.get 1 rfl).1 3 _ rfl; go_simp; try with_reducible rfl)
      change wpAnyH _ _ _ _ _ _ _ (Act.put _ (some 27) _) _
      simp only [Act.put, List.setIfInBounds_toArray, List.set_cons_zero, List.set_cons_succ]
      refine wpAnyH_take (i := 7) (v := undef) rfl (by kernel_rfl) (by kernel_rfl) (by kernel_rfl) (fun _ _ _ h => h) (Or.inr ⟨by rfl, rfl⟩) (by assumption) ?_
      change wpAnyH _ _ _ _ _ _ _ (Act.put _ (some 28) _) _
      simp only [Act.put, List.setIfInBounds_toArray, List.set_cons_zero, List.set_cons_succ]
      refine wpAnyH_take (i := 8) (v := undef) rfl (by kernel_rfl) (by kernel_rfl) (by kernel_rfl) (fun _ _ _ h => h) (Or.inr ⟨by rfl, rfl⟩) (by assumption) ?_
      change wpAnyH _ _ _ _ _ _ _ (Act.put _ (some 29) _) _
      simp only [Act.put, List.setIfInBounds_toArray, List.set_cons_zero, List.set_cons_succ]
      refine wpAnyH_take (i := 9) (v := undef) rfl (by kernel_rfl) (by kernel_rfl) (by kernel_rfl) (fun _ _ _ h => h) (Or.inr ⟨by rfl, rfl⟩) (by assumption) ?_
      change wpAnyH _ _ _ _ _ _ _ (Act.put _ (some 30) _) _
      simp only [Act.put, List.setIfInBounds_toArray, List.set_cons_zero, List.set_cons_succ]
      refine wpAnyH_take (i := 10) (v := ?_) rfl (by kernel_rfl) (by kernel_rfl) (by kernel_rfl) (fun _ _ _ h => h) (Or.inl ⟨by rfl, ?_⟩) (by assumption) ?_
      rotate_left
      · (intro wS hSw; have p0 := (hSw.1.get 0 rfl).1 0 _ rfl; have p1 := (hSw.1.get 0 rfl).1 1 _ rfl; have p2 := (hSw.1.get 0 rfl).1 2 _ rfl; have p3 := (hSw.1.get 0 rfl).1 3 _ rfl; have q0 := (hSw.1.get 1 rfl).1 0 _ rfl; have q1 := (hSw.1.get 1 rfl).1 1 _ rfl; have q2 := (hSw.1.get 1 rfl).1 2 _ rfl; have q3 := (hSw.1.get 1 rfl).1 3 _ rfl; go_simp; try with_reducible rfl)
      change wpAnyH _ _ _ _ _ _ _ (Act.put _ (some 31) _) _
      simp only [Act.put, List.setIfInBounds_toArray, List.set_cons_zero, List.set_cons_succ]
      refine wpAnyH_done (by kernel_rfl) ?_ _
      refine NoPanic.normal ?_
      go_wp2_with (fail)
      go_meet
      case rel => exact ⟨_, rfl, fun h => by first | (exact absurd h (by decide)) | (simp at ht; omega), F_2⟩
    | false =>
      refine wpAnyH_take (i := 4) (v := ?_) rfl (by kernel_rfl) (by kernel_rfl) (by kernel_rfl) (fun _ _ _ h => h) (Or.inl ⟨by rfl, ?_⟩) (by assumption) ?_
      rotate_left
      · (intro wS hSw; have p0 := (hSw.1.get 0 rfl).1 0 _ rfl; have p1 := (hSw.1.get 0 rfl).1 1 _ rfl; have p2 := (hSw.1.get 0 rfl).1 2 _ rfl; have p3 := (hSw.1.get 0 rfl).1 3 _ rfl; have q0 := (hSw.1.get 1 rfl).1 0 _ rfl; have q1 := (hSw.1.get 1 rfl).1 1 _ rfl; have q2 := (hSw.1.get 1 rfl).1 2 _ rfl; have q3 := (hSw.1.get 1 rfl).1 3 _ rfl; go_simp; try with_reducible rfl)
      change wpAnyH _ _ _ _ _ _ _ (Act.put _ (some 25) _) _
      simp only [Act.put, List.setIfInBounds_toArray, List.set_cons_zero, List.set_cons_succ]
      refine wpAnyH_take (i := 5) (v := ?_) rfl (by kernel_rfl) (by kernel_rfl) (by kernel_rfl) (fun _ _ _ h => h) (Or.inl ⟨by rfl, ?_⟩) (by assumption) ?_
      rotate_left
      · (intro wS hSw; have p0 := (hSw.1.get 0 rfl).1 0 _ rfl; have p1 := (hSw.1.get 0 rfl).1 1 _ rfl; have p2 := (hSw.1.get 0 rfl).1 2 _ rfl; have p3 := (hSw.1.get 0 rfl).1 3 _ rfl; have q0 := (hSw.1.get 1 rfl).1 0 _ rfl; have q1 := (hSw.1.get 1 rfl).1 1 _ rfl; have q2 := (hSw.1.get 1 rfl).1 2 _ rfl; have q3 := (hSw.1.get 1 rfl).1 3 _ rfl; go_simp; try with_reducible rfl)
      change wpAnyH _ _ _ _ _ _ _ (Act.put _ (some 26) _) _
      simp only [Act.put, List.setIfInBounds_toArray, List.set_cons_zero, List.set_cons_succ]
      refine wpAnyH_take (i := 6) (v := ?_) rfl (by kernel_rfl) (by kernel_rfl) (by kernel_rfl) (fun _ _ _ h => h) (Or.inl ⟨by rfl, ?_⟩) (by assumption) ?_
      rotate_left
      · (intro wS hSw; have p0 := (hSw.1.get 0 rfl).1 0 _ rfl; have p1 := (hSw.1.get 0 rfl).1 1 _ rfl; have p2 := (hSw.1.get 0 rfl).1 2 _ rfl; have p3 := (hSw.1.get 0 rfl).1 3 _ rfl; have q0 := (hSw.1.get 1 rfl).1 0 _ rfl; have q1 := (hSw.1.get 1 rfl).1 1 _ rfl; have q2 := (hSw.1.get 1 rfl).1 2 _ rfl; have q3 := (hSw.1.get 1 rfl).1 3 _ rfl; go_simp; try with_reducible rfl)
      change wpAnyH _ _ _ _ _ _ _ (Act.put _ (some 27) _) _
      simp only [Act.put, List.setIfInBounds_toArray, List.set_cons_zero, List.set_cons_succ]
      refine wpAnyH_take (i := 7) (v := ?_) rfl (by kernel_rfl) (by kernel_rfl) (by kernel_rfl) (fun _ _ _ h => h) (Or.inl ⟨by rfl, ?_⟩) (by assumption) ?_
      rotate_left
      · (intro wS hSw; have p0 := (hSw.1.get 0 rfl).1 0 _ rfl; have p1 := (hSw.1.get 0 rfl).1 1 _ rfl; have p2 := (hSw.1.get 0 rfl).1 2 _ rfl; have p3 := (hSw.1.get 0 rfl).1 3 _ rfl; have q0 := (hSw.1.get 1 rfl).1 0 _ rfl; have q1 := (hSw.1.get 1 rfl).1 1 _ rfl; have q2 := (hSw.1.get 1 rfl).1 2 _ rfl; have q3 := (hSw.1.get 1 rfl).1 3 _ rfl; go_simp; try with_reducible rfl)
      change wpAnyH _ _ _ _ _ _ _ (Act.put _ (some 28) _) _
      simp only [Act.put, List.setIfInBounds_toArray, List.set_cons_zero, List.set_cons_succ]
      refine wpAnyH_take (i := 8) (v := ?_) rfl (by kernel_rfl) (by kernel_rfl) (by kernel_rfl) (fun _ _ _ h => h) (Or.inl ⟨by rfl, ?_⟩) (by assumption) ?_
      rotate_left
      · (intro wS hSw; have p0 := (hSw.1.get 0 rfl).1 0 _ rfl; have p1 := (hSw.1.get 0 rfl).1 1 _ rfl; have p2 := (hSw.1.get 0 rfl).1 2 _ rfl; have p3 := (hSw.1.get 0 rfl).1 3 _ rfl; have q0 := (hSw.1.get 1 rfl).1 0 _ rfl; have q1 := (hSw.1.get 1 rfl).1 1 _ rfl; have q2 := (hSw.1.get 1 rfl).1 2 _ rfl; have q3 := (hSw.1.get 1 rfl).1 3 _ rfl; go_simp; try with_reducible rfl)
      change wpAnyH _ _ _ _ _ _ _ (Act.put _ (some 29) _) _
      simp only [Act.put, List.setIfInBounds_toArray, List.set_cons_zero, List.set_cons_succ]
      refine wpAnyH_take (i := 9) (v := ?_) rfl (by kernel_rfl) (by kernel_rfl) (by kernel_rfl) (fun _ _ _ h => h) (Or.inl ⟨by rfl, ?_⟩) (by assumption) ?_
      rotate_left
      · (intro wS hSw; have p0 := (hSw.1.get 0 rfl).1 0 _ rfl; have p1 := (hSw.1.get 0 rfl).1 1 _ rfl; have p2 := (hSw.1.get 0 rfl).1 2 _ rfl; have p3 := (hSw.1.get 0 rfl).1 3 _ rfl; have q0 := (hSw.1.get 1 rfl).1 0 _ rfl; have q1 := (hSw.1.get 1 rfl).1 1 _ rfl; have q2 := (hSw.1.get 1 rfl).1 2 _ rfl; have q3 := (hSw.1.get 1 rfl).1 3 _ rfl; go_simp; try with_reducible rfl)
      change wpAnyH _ _ _ _ _ _ _ (Act.put _ (some 30) _) _
      simp only [Act.put, List.setIfInBounds_toArray, List.set_cons_zero, List.set_cons_succ]
      refine wpAnyH_take (i := 10) (v := ?_) rfl (by kernel_rfl) (by kernel_rfl) (by kernel_rfl) (fun _ _ _ h => h) (Or.inl ⟨by rfl, ?_⟩) (by assumption) ?_
      rotate_left
      · (intro wS hSw; have p0 := (hSw.1.get 0 rfl).1 0 _ rfl; have p1 := (hSw.1.get 0 rfl).1 1 _ rfl; have p2 := (hSw.1.get 0 rfl).1 2 _ rfl; have p3 := (hSw.1.get 0 rfl).1 3 _ rfl; have q0 := (hSw.1.get 1 rfl).1 0 _ rfl; have q1 := (hSw.1.get 1 rfl).1 1 _ rfl; have q2 := (hSw.1.get 1 rfl).1 2 _ rfl; have q3 := (hSw.1.get 1 rfl).1 3 _ rfl; go_simp; try with_reducible rfl)
      change wpAnyH _ _ _ _ _ _ _ (Act.put _ (some 31) _) _
      simp only [Act.put, List.setIfInBounds_toArray, List.set_cons_zero, List.set_cons_succ]
      refine wpAnyH_done (by kernel_rfl) ?_ _
      refine NoPanic.normal ?_
      go_wp2_with (fail)
      go_meet
      case rel => exact ⟨_, rfl, fun h => by first | (exact absurd h (by decide)) | (simp at ht; omega), F_2⟩
  case rest =>
    clear K1 htn
    obtain ⟨t, rfl, HT, K2⟩ := hcut
    have HB := K2.out.1.2
    have hs := HB.size
    cases t with
    | true =>
      clear K2 HT
      go_wp2
      go_ret
      exact ⟨rfl, HB⟩
    | false =>
    obtain ⟨z5, y5⟩ := HT rfl
    clear HT
    have q_p := K2.out.1.get 0 rfl
    have p0 : wc.cell? ⟨w.heap.size, 0, none⟩ = some (.string pn) := q_p.1 0 _ rfl
    have p1 : wc.cell? ⟨w.heap.size, 1, none⟩ = some (.int .i64 pr) := q_p.1 1 _ rfl
    have p2 : wc.cell? ⟨w.heap.size, 2, none⟩ = some (.int .i64 po) := q_p.1 2 _ rfl
    have p3 : wc.cell? ⟨w.heap.size, 3, none⟩ = some (.slice sa zs.length cap) := q_p.1 3 _ rfl
    have pz := q_p.2.2
    go_wp2_with (fail)
    refine (refSums_is pn pr po _ K2.out.2.2.1 (by omega)).mono ?_
    rintro e w2 ⟨rfl, hw2⟩
    obtain ⟨o, ho⟩ : ∃ o, sumL (0, 0, 0) (zs.map Ct.rq) = o := ⟨_, rfl⟩
    rw [ho]
    obtain ⟨⟨u1, u2, u3⟩, hu⟩ : ∃ x, o.getD (0, 0, 0) = x := ⟨_, rfl⟩
    obtain ⟨⟨x1, x2, x3⟩, hx⟩ : ∃ x, (sumL (0, 0, 0) (zs.map Ct.li)).getD (0, 0, 0) = x := ⟨_, rfl⟩
    obtain ⟨g, hg⟩ : ∃ g, (o.isSome && (sumL (0, 0, 0) (zs.map Ct.li)).isSome) = g := ⟨_, rfl⟩
    have E : vo2 o (sumL (0, 0, 0) (zs.map Ct.li)) = .tuple #[.agg #[.int .i64 u1, .int .i64 u2, .int .i64 u3], .agg #[.int .i64 x1, .int .i64 x2, .int .i64 x3], .bool g] := by
      unfold vo2
      rw [hu, hx, hg]
      rfl
    rw [E]
    have HO : Hid (sumL (0, 0, 0) (zs.map Ct.rq) = o) := ho
    have HU : Hid (o.getD (0, 0, 0) = (u1, u2, u3)) := hu
    have K3 : Hid (KP w [(w.heap.size, [.string pn, .int .i64 pr, .int .i64 po, .slice sa zs.length cap]), (w.heap.size + 1, [.string qn, .int .i64 qr, .int .i64 qo, .slice su ys.length capu])] (.slice sa zs.length cap) (.slice su ys.length capu) zs ys w2) := K2.out.later hw2
    clear hw2 E hx hg ho hu HB hs q_p p0 p1 p2 p3 pz K2
    have q_p := K3.out.1.get 0 rfl
    have p0 : w2.cell? ⟨w.heap.size, 0, none⟩ = some (.string pn) := q_p.1 0 _ rfl
    have p1 : w2.cell? ⟨w.heap.size, 1, none⟩ = some (.int .i64 pr) := q_p.1 1 _ rfl
    have p2 : w2.cell? ⟨w.heap.size, 2, none⟩ = some (.int .i64 po) := q_p.1 2 _ rfl
    have p3 : w2.cell? ⟨w.heap.size, 3, none⟩ = some (.slice sa zs.length cap) := q_p.1 3 _ rfl
    have pz := q_p.2.2
    have hs := K3.out.1.2.size
    have py : w.heap.size < w2.heap.size + 1 := by omega
    have w2z : w.heap.size + 2 ≤ w2.heap.size := by have := (K3.out.1.get 1 rfl).2.2; omega
    go_wp2_with (fail)
    refine (lawSums_is pn pr po _ ((K3.out.2.2.1.alloc _).alloc _) (by omega)).mono ?_
    rintro e w3 ⟨rfl, hw3⟩
    rw [HO.out]
    have K4 : Hid (KP w [(w2.heap.size, [.int .i64 u1, .int .i64 u2, .int .i64 u3]), (w.heap.size, [.string pn, .int .i64 pr, .int .i64 po, .slice sa zs.length cap]), (w.heap.size + 1, [.string qn, .int .i64 qr, .int .i64 qo, .slice su ys.length capu])] (.slice sa zs.length cap) (.slice su ys.length capu) zs ys w3) := ⟨((K3.out.1.new [.int .i64 u1, .int .i64 u2, .int .i64 u3] 23).alloc (.cells #[.int .i64 x1, .int .i64 x2, .int .i64 x3] 23)).later hw3, ((K3.out.2.1.alloc _).alloc _).later hw3, ((K3.out.2.2.1.alloc _).alloc _).later hw3, ((K3.out.2.2.2.alloc _).alloc _).later hw3⟩
    clear hw3 q_p p0 p1 p2 p3 pz py hs K3
    generalize w2.heap.size = wb at *
    go_upto_if 40 with (fail)
    go_cut [40] (fun _ wc => Hid (KP w [(wb, [.int .i64 u1, .int .i64 u2, .int .i64 u3]), (w.heap.size, [.string pn, .int .i64 pr, .int .i64 po, .slice sa zs.length cap]), (w.heap.size + 1, [.string qn, .int .i64 qr, .int .i64 qo, .slice su ys.length capu])] (.slice sa zs.length cap) (.slice su ys.length capu) zs ys wc))
    case first =>
      cases o with
      | some s =>
        go_wp2_with (fail)
        go_meet
        case rel => exact K4
      | none =>
        have q_w := K4.out.1.get 0 rfl
        have v0 : w3.cell? ⟨wb, 0, none⟩ = some (.int .i64 u1) := q_w.1 0 _ rfl
        have v1 : w3.cell? ⟨wb, 1, none⟩ = some (.int .i64 u2) := q_w.1 1 _ rfl
        have v2 : w3.cell? ⟨wb, 2, none⟩ = some (.int .i64 u3) := q_w.1 2 _ rfl
        have vF0 : w3.frozen? ⟨wb, 0, none⟩ = false := q_w.2.1 0 (by simp)
        have vF1 : w3.frozen? ⟨wb, 1, none⟩ = false := q_w.2.1 1 (by simp)
        have vF2 : w3.frozen? ⟨wb, 2, none⟩ = false := q_w.2.1 2 (by simp)
        have vz := q_w.2.2
        have E0 := HU.out
        injection E0 with E0 E1
        injection E1 with E1 E2
        subst E0 E1 E2
        have K5 : Hid (KP w [(wb, [.int .i64 0, .int .i64 0, .int .i64 0]), (w.heap.size, [.string pn, .int .i64 pr, .int .i64 po, .slice sa zs.length cap]), (w.heap.size + 1, [.string qn, .int .i64 qr, .int .i64 qo, .slice su ys.length capu])] (.slice sa zs.length cap) (.slice su ys.length capu) zs ys (((w3.setCell ⟨wb, 0, none⟩ (.int .i64 0)).setCell ⟨wb, 1, none⟩ (.int .i64 0)).setCell ⟨wb, 2, none⟩ (.int .i64 0))) := by
          refine ⟨⟨fun x hx => ?_, ((K4.out.1.2.setCell (show w.heap.size ≤ wb by omega) _).setCell (show w.heap.size ≤ wb by omega) _).setCell (show w.heap.size ≤ wb by omega) _⟩, ?_, ?_, ?_⟩
          · rcases List.mem_cons.1 hx with rfl | hx
            · exact Cs.puts3 q_w _ _ _
            · have := K4.out.1.1 x (List.mem_cons_of_mem _ hx)
              have ne : x.1 ≠ wb := by
                simp at hx
                rcases hx with rfl | rfl
                · show w.heap.size ≠ wb
                  omega
                · show w.heap.size + 1 ≠ wb
                  omega
              exact ((this.beside _ _ ne).beside _ _ ne).beside _ _ ne
          · exact HL.out.later (((K4.out.1.2.setCell (show w.heap.size ≤ wb by omega) _).setCell (show w.heap.size ≤ wb by omega) _).setCell (show w.heap.size ≤ wb by omega) _)
          · exact HZ.out.later (((K4.out.1.2.setCell (show w.heap.size ≤ wb by omega) _).setCell (show w.heap.size ≤ wb by omega) _).setCell (show w.heap.size ≤ wb by omega) _)
          · exact HY.out.later (((K4.out.1.2.setCell (show w.heap.size ≤ wb by omega) _).setCell (show w.heap.size ≤ wb by omega) _).setCell (show w.heap.size ≤ wb by omega) _)
        clear K4
        go_wp2_with (fail)
        go_meet
        case rel => exact K5
    case rest =>
    clear K4
    have K6 := hcut
    clear hcut
    obtain ⟨wd, rfl⟩ : ∃ wd, wd = wc := ⟨_, rfl⟩
    have q_p := K6.out.1.get 1 rfl
    have p0 : wd.cell? ⟨w.heap.size, 0, none⟩ = some (.string pn) := q_p.1 0 _ rfl
    have p1 : wd.cell? ⟨w.heap.size, 1, none⟩ = some (.int .i64 pr) := q_p.1 1 _ rfl
    have p2 : wd.cell? ⟨w.heap.size, 2, none⟩ = some (.int .i64 po) := q_p.1 2 _ rfl
    have p3 : wd.cell? ⟨w.heap.size, 3, none⟩ = some (.slice sa zs.length cap) := q_p.1 3 _ rfl
    have pz := q_p.2.2
    go_wp2_with (fail)
    refine (find_is pn pr po nm _ K6.out.2.2.1).mono ?_
    rintro e w4 ⟨rfl, hw4⟩
    obtain ⟨ki, ka, kb, f1, f2, f3, f4⟩ := finds_told nm zs
    rw [f2]
    have K7 : Hid (KP w [(wb, [.int .i64 u1, .int .i64 u2, .int .i64 u3]), (w.heap.size, [.string pn, .int .i64 pr, .int .i64 po, .slice sa zs.length cap]), (w.heap.size + 1, [.string qn, .int .i64 qr, .int .i64 qo, .slice su ys.length capu])] (.slice sa zs.length cap) (.slice su ys.length capu) zs ys w4) := K6.out.later hw4
    clear q_p p0 p1 p2 p3 pz hw4 K6
    have q_p := K7.out.1.get 1 rfl
    have p0 : w4.cell? ⟨w.heap.size, 0, none⟩ = some (.string pn) := q_p.1 0 _ rfl
    have p1 : w4.cell? ⟨w.heap.size, 1, none⟩ = some (.int .i64 pr) := q_p.1 1 _ rfl
    have p2 : w4.cell? ⟨w.heap.size, 2, none⟩ = some (.int .i64 po) := q_p.1 2 _ rfl
    have p3 : w4.cell? ⟨w.heap.size, 3, none⟩ = some (.slice sa zs.length cap) := q_p.1 3 _ rfl
    have pz := q_p.2.2
    go_wp2_with (fail)
    refine (refFind_is pn pr po nm _ K7.out.2.2.1).mono ?_
    rintro e w5 ⟨rfl, hw5⟩
    rw [f1]
    have K8 : Hid (KP w [(wb, [.int .i64 u1, .int .i64 u2, .int .i64 u3]), (w.heap.size, [.string pn, .int .i64 pr, .int .i64 po, .slice sa zs.length cap]), (w.heap.size + 1, [.string qn, .int .i64 qr, .int .i64 qo, .slice su ys.length capu])] (.slice sa zs.length cap) (.slice su ys.length capu) zs ys w5) := K7.out.later hw5
    clear q_p p0 p1 p2 p3 pz hw5 f1 f2 K7
    obtain ⟨pb, hpb⟩ : ∃ b, podB pn pr po zs = b := ⟨_, rfl⟩
    obtain ⟨ci, hci⟩ : ∃ c, classI zs = c := ⟨_, rfl⟩
    obtain ⟨sb, hsb⟩ : ∃ b, sameB pn pr po zs qn qr qo ys = b := ⟨_, rfl⟩
    have CP : Hid (∀ W, KP w [(wb, [.int .i64 u1, .int .i64 u2, .int .i64 u3]), (w.heap.size, [.string pn, .int .i64 pr, .int .i64 po, .slice sa zs.length cap]), (w.heap.size + 1, [.string qn, .int .i64 qr, .int .i64 qo, .slice su ys.length capu])] (.slice sa zs.length cap) (.slice su ys.length capu) zs ys W → Calls Tryd.prog 18 #[.agg #[.string pn, .int .i64 pr, .int .i64 po, .slice sa zs.length cap]] W fun e w' => e = .returned (.bool pb) ∧ Below W.heap.size W w') := fun W h => by
      have := pod_is pn pr po HM.out W h.2.1 h.2.2.1
      rwa [hpb] at this
    have CQ : Hid (∀ W, KP w [(wb, [.int .i64 u1, .int .i64 u2, .int .i64 u3]), (w.heap.size, [.string pn, .int .i64 pr, .int .i64 po, .slice sa zs.length cap]), (w.heap.size + 1, [.string qn, .int .i64 qr, .int .i64 qo, .slice su ys.length capu])] (.slice sa zs.length cap) (.slice su ys.length capu) zs ys W → Calls Tryd.prog 19 #[.agg #[.string pn, .int .i64 pr, .int .i64 po, .slice sa zs.length cap]] W fun e w' => e = .returned (.bool pb) ∧ Below W.heap.size W w') := fun W h => by
      have := refPod_is pn pr po HM.out W h.2.2.1
      rwa [hpb] at this
    have CC : Hid (∀ W, KP w [(wb, [.int .i64 u1, .int .i64 u2, .int .i64 u3]), (w.heap.size, [.string pn, .int .i64 pr, .int .i64 po, .slice sa zs.length cap]), (w.heap.size + 1, [.string qn, .int .i64 qr, .int .i64 qo, .slice su ys.length capu])] (.slice sa zs.length cap) (.slice su ys.length capu) zs ys W → Calls Tryd.prog 20 #[.agg #[.string pn, .int .i64 pr, .int .i64 po, .slice sa zs.length cap]] W fun e w' => e = .returned (.int .i64 ci) ∧ Below W.heap.size W w') := fun W h => by
      have := class_is pn pr po W h.2.1 h.2.2.1
      rwa [hci] at this
    have CD : Hid (∀ W, KP w [(wb, [.int .i64 u1, .int .i64 u2, .int .i64 u3]), (w.heap.size, [.string pn, .int .i64 pr, .int .i64 po, .slice sa zs.length cap]), (w.heap.size + 1, [.string qn, .int .i64 qr, .int .i64 qo, .slice su ys.length capu])] (.slice sa zs.length cap) (.slice su ys.length capu) zs ys W → Calls Tryd.prog 21 #[.agg #[.string pn, .int .i64 pr, .int .i64 po, .slice sa zs.length cap]] W fun e w' => e = .returned (.int .i64 ci) ∧ Below W.heap.size W w') := fun W h => by
      have := refClass_is pn pr po W h.2.2.1
      rwa [hci] at this
    have CR : Hid (∀ W, KP w [(wb, [.int .i64 u1, .int .i64 u2, .int .i64 u3]), (w.heap.size, [.string pn, .int .i64 pr, .int .i64 po, .slice sa zs.length cap]), (w.heap.size + 1, [.string qn, .int .i64 qr, .int .i64 qo, .slice su ys.length capu])] (.slice sa zs.length cap) (.slice su ys.length capu) zs ys W → Calls Tryd.prog 22 #[.agg #[.string pn, .int .i64 pr, .int .i64 po, .slice sa zs.length cap]] W fun e w' => e = .returned (.agg #[.int .i64 u1, .int .i64 u2, .int .i64 u3]) ∧ Below W.heap.size W w') := fun W h => by
      have := requestsP_is pn pr po W h.2.1 h.2.2.1 (by omega)
      rwa [HO.out, HU.out] at this
    have CS : Hid (∀ W, KP w [(wb, [.int .i64 u1, .int .i64 u2, .int .i64 u3]), (w.heap.size, [.string pn, .int .i64 pr, .int .i64 po, .slice sa zs.length cap]), (w.heap.size + 1, [.string qn, .int .i64 qr, .int .i64 qo, .slice su ys.length capu])] (.slice sa zs.length cap) (.slice su ys.length capu) zs ys W → Calls Tryd.prog 23 #[.agg #[.string pn, .int .i64 pr, .int .i64 po, .slice sa zs.length cap], .agg #[.string qn, .int .i64 qr, .int .i64 qo, .slice su ys.length capu]] W fun e w' => e = .returned (.bool sb) ∧ Below W.heap.size W w') := fun W h => by
      have := same_is pn pr po qn qr qo W h.2.2.1 h.2.2.2
      rwa [hsb] at this
    have CT : Hid (∀ W, KP w [(wb, [.int .i64 u1, .int .i64 u2, .int .i64 u3]), (w.heap.size, [.string pn, .int .i64 pr, .int .i64 po, .slice sa zs.length cap]), (w.heap.size + 1, [.string qn, .int .i64 qr, .int .i64 qo, .slice su ys.length capu])] (.slice sa zs.length cap) (.slice su ys.length capu) zs ys W → Calls Tryd.prog 24 #[.agg #[.string pn, .int .i64 pr, .int .i64 po, .slice sa zs.length cap], .agg #[.string qn, .int .i64 qr, .int .i64 qo, .slice su ys.length capu]] W fun e w' => e = .returned (.bool sb) ∧ Below W.heap.size W w') := fun W h => by
      have := refSame_is pn pr po qn qr qo W h.2.2.1 h.2.2.2
      rwa [hsb] at this
    clear hpb hci hsb HO HU
    go_upto_region 10 with (fail)
    go_cut [89] (fun s89 wc => s89 = .bool false ∧ Hid (KP w [(wb, [.int .i64 u1, .int .i64 u2, .int .i64 u3]), (w.heap.size, [.string pn, .int .i64 pr, .int .i64 po, .slice sa zs.length cap]), (w.heap.size + 1, [.string qn, .int .i64 qr, .int .i64 qo, .slice su ys.length capu])] (.slice sa zs.length cap) (.slice su ys.length capu) zs ys wc))
    case first =>
      have F_0 : Hid (KP w [(wb, [.int .i64 u1, .int .i64 u2, .int .i64 u3]), (w.heap.size, [.string pn, .int .i64 pr, .int .i64 po, .slice sa zs.length cap]), (w.heap.size + 1, [.string qn, .int .i64 qr, .int .i64 qo, .slice su ys.length capu])] (.slice sa zs.length cap) (.slice su ys.length capu) zs ys _) := K8.out.drew
      refine wp_region_noPanic ?_
      refine wp_region_held_drew (S := fun w' => KP w [(wb, [.int .i64 u1, .int .i64 u2, .int .i64 u3]), (w.heap.size, [.string pn, .int .i64 pr, .int .i64 po, .slice sa zs.length cap]), (w.heap.size + 1, [.string qn, .int .i64 qr, .int .i64 qo, .slice su ys.length capu])] (.slice sa zs.length cap) (.slice su ys.length capu) zs ys w') (by kernel_rfl) ?_ (fun hHeld => ?_)
      · exact F_0.out
      refine wpAnyH_take (i := 0) (v := ?_) rfl (by kernel_rfl) (by kernel_rfl) (by kernel_rfl) (fun _ _ _ h => h) (Or.inl ⟨by rfl, ?_⟩) (by assumption) ?_
      rotate_left
      · (intro wS hSw; have v0 := (hSw.1.get 0 rfl).1 0 _ rfl; have v1 := (hSw.1.get 0 rfl).1 1 _ rfl; have v2 := (hSw.1.get 0 rfl).1 2 _ rfl; have p0 := (hSw.1.get 1 rfl).1 0 _ rfl; have p1 := (hSw.1.get 1 rfl).1 1 _ rfl; have p2 := (hSw.1.get 1 rfl).1 2 _ rfl; have p3 := (hSw.1.get 1 rfl).1 3 _ rfl; have q0 := (hSw.1.get 2 rfl).1 0 _ rfl; have q1 := (hSw.1.get 2 rfl).1 1 _ rfl; have q2 := (hSw.1.get 2 rfl).1 2 _ rfl; have q3 := (hSw.1.get 2 rfl).1 3 _ rfl; go_simp; try with_reducible rfl)
      change wpAnyH _ _ _ _ _ _ _ (Act.put _ (some 51) _) _
      simp only [Act.put, List.setIfInBounds_toArray, List.set_cons_zero, List.set_cons_succ]
      refine wpAnyH_take (i := 2) (v := ?_) rfl (by kernel_rfl) (by kernel_rfl) (by kernel_rfl) (fun _ _ _ h => h) (Or.inl ⟨by rfl, ?_⟩) (by assumption) ?_
      rotate_left
      · (intro wS hSw; have v0 := (hSw.1.get 0 rfl).1 0 _ rfl; have v1 := (hSw.1.get 0 rfl).1 1 _ rfl; have v2 := (hSw.1.get 0 rfl).1 2 _ rfl; have p0 := (hSw.1.get 1 rfl).1 0 _ rfl; have p1 := (hSw.1.get 1 rfl).1 1 _ rfl; have p2 := (hSw.1.get 1 rfl).1 2 _ rfl; have p3 := (hSw.1.get 1 rfl).1 3 _ rfl; have q0 := (hSw.1.get 2 rfl).1 0 _ rfl; have q1 := (hSw.1.get 2 rfl).1 1 _ rfl; have q2 := (hSw.1.get 2 rfl).1 2 _ rfl; have q3 := (hSw.1.get 2 rfl).1 3 _ rfl; go_simp; try with_reducible rfl)
      change wpAnyH _ _ _ _ _ _ _ (Act.put _ (some 53) _) _
      simp only [Act.put, List.setIfInBounds_toArray, List.set_cons_zero, List.set_cons_succ]
      refine wpAnyH_ready (rs := [1]) (by kernel_rfl) (by simp) ?_
      refine AllReadyH.cons rfl (fun K hK => ?_) AllReadyH.nil
      go_simp
      refine (CP.out _ F_0.out).mono ?_
      rintro e v1 ⟨rfl, hv1⟩
      have F_1 : Hid (KP w [(wb, [.int .i64 u1, .int .i64 u2, .int .i64 u3]), (w.heap.size, [.string pn, .int .i64 pr, .int .i64 po, .slice sa zs.length cap]), (w.heap.size + 1, [.string qn, .int .i64 qr, .int .i64 qo, .slice su ys.length capu])] (.slice sa zs.length cap) (.slice su ys.length capu) zs ys v1) := F_0.out.later hv1
      clear hv1 F_0
      (try go_wp2_with (fail))
      refine hK.out _ _ ?_ (fun hHeld => ?_)
      · exact F_1.out
      clear hK K
      refine wpAnyH_ready (rs := [3]) (by kernel_rfl) (by simp) ?_
      refine AllReadyH.cons rfl (fun K hK => ?_) AllReadyH.nil
      go_simp
      refine (CQ.out _ F_1.out).mono ?_
      rintro e v2 ⟨rfl, hv2⟩
      have F_2 : Hid (KP w [(wb, [.int .i64 u1, .int .i64 u2, .int .i64 u3]), (w.heap.size, [.string pn, .int .i64 pr, .int .i64 po, .slice sa zs.length cap]), (w.heap.size + 1, [.string qn, .int .i64 qr, .int .i64 qo, .slice su ys.length capu])] (.slice sa zs.length cap) (.slice su ys.length capu) zs ys v2) := F_1.out.later hv2
      clear hv2 F_1
      (try go_wp2_with (fail))
      refine hK.out _ _ ?_ (fun hHeld => ?_)
      · exact F_2.out
      clear hK K
      refine wpAnyH_take (i := 4) (v := ?_) rfl (by kernel_rfl) (by kernel_rfl) (by kernel_rfl) (fun _ _ _ h => h) (Or.inl ⟨by rfl, ?_⟩) (by assumption) ?_
      rotate_left
      · (intro wS hSw; have v0 := (hSw.1.get 0 rfl).1 0 _ rfl; have v1 := (hSw.1.get 0 rfl).1 1 _ rfl; have v2 := (hSw.1.get 0 rfl).1 2 _ rfl; have p0 := (hSw.1.get 1 rfl).1 0 _ rfl; have p1 := (hSw.1.get 1 rfl).1 1 _ rfl; have p2 := (hSw.1.get 1 rfl).1 2 _ rfl; have p3 := (hSw.1.get 1 rfl).1 3 _ rfl; have q0 := (hSw.1.get 2 rfl).1 0 _ rfl; have q1 := (hSw.1.get 2 rfl).1 1 _ rfl; have q2 := (hSw.1.get 2 rfl).1 2 _ rfl; have q3 := (hSw.1.get 2 rfl).1 3 _ rfl; go_simp; try with_reducible rfl)
      change wpAnyH _ _ _ _ _ _ _ (Act.put _ (some 55) _) _
      simp only [Act.put, List.setIfInBounds_toArray, List.set_cons_zero, List.set_cons_succ]
      refine wpAnyH_take (i := 5) (v := ?_) rfl (by kernel_rfl) (by kernel_rfl) (by kernel_rfl) (fun _ _ _ h => h) (Or.inl ⟨by rfl, ?_⟩) (by assumption) ?_
      rotate_left
      · (intro wS hSw; have v0 := (hSw.1.get 0 rfl).1 0 _ rfl; have v1 := (hSw.1.get 0 rfl).1 1 _ rfl; have v2 := (hSw.1.get 0 rfl).1 2 _ rfl; have p0 := (hSw.1.get 1 rfl).1 0 _ rfl; have p1 := (hSw.1.get 1 rfl).1 1 _ rfl; have p2 := (hSw.1.get 1 rfl).1 2 _ rfl; have p3 := (hSw.1.get 1 rfl).1 3 _ rfl; have q0 := (hSw.1.get 2 rfl).1 0 _ rfl; have q1 := (hSw.1.get 2 rfl).1 1 _ rfl; have q2 := (hSw.1.get 2 rfl).1 2 _ rfl; have q3 := (hSw.1.get 2 rfl).1 3 _ rfl; go_simp; try with_reducible rfl)
      change wpAnyH _ _ _ _ _ _ _ (Act.put _ (some 56) _) _
      simp only [Act.put, List.setIfInBounds_toArray, List.set_cons_zero, List.set_cons_succ]
      refine wpAnyH_take (i := 6) (v := ?_) rfl (by kernel_rfl) (by kernel_rfl) (by kernel_rfl) (fun _ _ _ h => h) (Or.inl ⟨by rfl, ?_⟩) (by assumption) ?_
      rotate_left
      · (intro wS hSw; have v0 := (hSw.1.get 0 rfl).1 0 _ rfl; have v1 := (hSw.1.get 0 rfl).1 1 _ rfl; have v2 := (hSw.1.get 0 rfl).1 2 _ rfl; have p0 := (hSw.1.get 1 rfl).1 0 _ rfl; have p1 := (hSw.1.get 1 rfl).1 1 _ rfl; have p2 := (hSw.1.get 1 rfl).1 2 _ rfl; have p3 := (hSw.1.get 1 rfl).1 3 _ rfl; have q0 := (hSw.1.get 2 rfl).1 0 _ rfl; have q1 := (hSw.1.get 2 rfl).1 1 _ rfl; have q2 := (hSw.1.get 2 rfl).1 2 _ rfl; have q3 := (hSw.1.get 2 rfl).1 3 _ rfl; go_simp; try with_reducible rfl)
      change wpAnyH _ _ _ _ _ _ _ (Act.put _ (some 57) _) _
      simp only [Act.put, List.setIfInBounds_toArray, List.set_cons_zero, List.set_cons_succ]
      refine wpAnyH_take (i := 8) (v := ?_) rfl (by kernel_rfl) (by kernel_rfl) (by kernel_rfl) (fun _ _ _ h => h) (Or.inl ⟨by rfl, ?_⟩) (by assumption) ?_
      rotate_left
      · (intro wS hSw; have v0 := (hSw.1.get 0 rfl).1 0 _ rfl; have v1 := (hSw.1.get 0 rfl).1 1 _ rfl; have v2 := (hSw.1.get 0 rfl).1 2 _ rfl; have p0 := (hSw.1.get 1 rfl).1 0 _ rfl; have p1 := (hSw.1.get 1 rfl).1 1 _ rfl; have p2 := (hSw.1.get 1 rfl).1 2 _ rfl; have p3 := (hSw.1.get 1 rfl).1 3 _ rfl; have q0 := (hSw.1.get 2 rfl).1 0 _ rfl; have q1 := (hSw.1.get 2 rfl).1 1 _ rfl; have q2 := (hSw.1.get 2 rfl).1 2 _ rfl; have q3 := (hSw.1.get 2 rfl).1 3 _ rfl; go_simp; try with_reducible rfl)
      change wpAnyH _ _ _ _ _ _ _ (Act.put _ (some 59) _) _
      simp only [Act.put, List.setIfInBounds_toArray, List.set_cons_zero, List.set_cons_succ]
      refine wpAnyH_ready (rs := [7]) (by kernel_rfl) (by simp) ?_
      refine AllReadyH.cons rfl (fun K hK => ?_) AllReadyH.nil
      go_simp
      refine (CC.out _ F_2.out).mono ?_
      rintro e v3 ⟨rfl, hv3⟩
      have F_3 : Hid (KP w [(wb, [.int .i64 u1, .int .i64 u2, .int .i64 u3]), (w.heap.size, [.string pn, .int .i64 pr, .int .i64 po, .slice sa zs.length cap]), (w.heap.size + 1, [.string qn, .int .i64 qr, .int .i64 qo, .slice su ys.length capu])] (.slice sa zs.length cap) (.slice su ys.length capu) zs ys v3) := F_2.out.later hv3
      clear hv3 F_2
      (try go_wp2_with (fail))
      refine hK.out _ _ ?_ (fun hHeld => ?_)
      · exact F_3.out
      clear hK K
      refine wpAnyH_ready (rs := [9]) (by kernel_rfl) (by simp) ?_
      refine AllReadyH.cons rfl (fun K hK => ?_) AllReadyH.nil
      go_simp
      refine (CD.out _ F_3.out).mono ?_
      rintro e v4 ⟨rfl, hv4⟩
      have F_4 : Hid (KP w [(wb, [.int .i64 u1, .int .i64 u2, .int .i64 u3]), (w.heap.size, [.string pn, .int .i64 pr, .int .i64 po, .slice sa zs.length cap]), (w.heap.size + 1, [.string qn, .int .i64 qr, .int .i64 qo, .slice su ys.length capu])] (.slice sa zs.length cap) (.slice su ys.length capu) zs ys v4) := F_3.out.later hv4
      clear hv4 F_3
      (try go_wp2_with (fail))
      refine hK.out _ _ ?_ (fun hHeld => ?_)
      · exact F_4.out
      clear hK K
      refine wpAnyH_take (i := 10) (v := ?_) rfl (by kernel_rfl) (by kernel_rfl) (by kernel_rfl) (fun _ _ _ h => h) (Or.inl ⟨by rfl, ?_⟩) (by assumption) ?_
      rotate_left
      · (intro wS hSw; have v0 := (hSw.1.get 0 rfl).1 0 _ rfl; have v1 := (hSw.1.get 0 rfl).1 1 _ rfl; have v2 := (hSw.1.get 0 rfl).1 2 _ rfl; have p0 := (hSw.1.get 1 rfl).1 0 _ rfl; have p1 := (hSw.1.get 1 rfl).1 1 _ rfl; have p2 := (hSw.1.get 1 rfl).1 2 _ rfl; have p3 := (hSw.1.get 1 rfl).1 3 _ rfl; have q0 := (hSw.1.get 2 rfl).1 0 _ rfl; have q1 := (hSw.1.get 2 rfl).1 1 _ rfl; have q2 := (hSw.1.get 2 rfl).1 2 _ rfl; have q3 := (hSw.1.get 2 rfl).1 3 _ rfl; go_simp; try with_reducible rfl)
      change wpAnyH _ _ _ _ _ _ _ (Act.put _ (some 61) _) _
      simp only [Act.put, List.setIfInBounds_toArray, List.set_cons_zero, List.set_cons_succ]
      refine wpAnyH_take (i := 11) (v := ?_) rfl (by kernel_rfl) (by kernel_rfl) (by kernel_rfl) (fun _ _ _ h => h) (Or.inl ⟨by rfl, ?_⟩) (by assumption) ?_
      rotate_left
      · (intro wS hSw; have v0 := (hSw.1.get 0 rfl).1 0 _ rfl; have v1 := (hSw.1.get 0 rfl).1 1 _ rfl; have v2 := (hSw.1.get 0 rfl).1 2 _ rfl; have p0 := (hSw.1.get 1 rfl).1 0 _ rfl; have p1 := (hSw.1.get 1 rfl).1 1 _ rfl; have p2 := (hSw.1.get 1 rfl).1 2 _ rfl; have p3 := (hSw.1.get 1 rfl).1 3 _ rfl; have q0 := (hSw.1.get 2 rfl).1 0 _ rfl; have q1 := (hSw.1.get 2 rfl).1 1 _ rfl; have q2 := (hSw.1.get 2 rfl).1 2 _ rfl; have q3 := (hSw.1.get 2 rfl).1 3 _ rfl; go_simp; try with_reducible rfl)
      change wpAnyH _ _ _ _ _ _ _ (Act.put _ (some 62) _) _
      simp only [Act.put, List.setIfInBounds_toArray, List.set_cons_zero, List.set_cons_succ]
      refine wpAnyH_take (i := 12) (v := ?_) rfl (by kernel_rfl) (by kernel_rfl) (by kernel_rfl) (fun _ _ _ h => h) (Or.inl ⟨by rfl, ?_⟩) (by assumption) ?_
      rotate_left
      · (intro wS hSw; have v0 := (hSw.1.get 0 rfl).1 0 _ rfl; have v1 := (hSw.1.get 0 rfl).1 1 _ rfl; have v2 := (hSw.1.get 0 rfl).1 2 _ rfl; have p0 := (hSw.1.get 1 rfl).1 0 _ rfl; have p1 := (hSw.1.get 1 rfl).1 1 _ rfl; have p2 := (hSw.1.get 1 rfl).1 2 _ rfl; have p3 := (hSw.1.get 1 rfl).1 3 _ rfl; have q0 := (hSw.1.get 2 rfl).1 0 _ rfl; have q1 := (hSw.1.get 2 rfl).1 1 _ rfl; have q2 := (hSw.1.get 2 rfl).1 2 _ rfl; have q3 := (hSw.1.get 2 rfl).1 3 _ rfl; go_simp; try with_reducible rfl)
      change wpAnyH _ _ _ _ _ _ _ (Act.put _ (some 63) _) _
      simp only [Act.put, List.setIfInBounds_toArray, List.set_cons_zero, List.set_cons_succ]
      refine wpAnyH_take (i := 13) (v := ?_) rfl (by kernel_rfl) (by kernel_rfl) (by kernel_rfl) (fun _ _ _ h => h) (Or.inl ⟨by rfl, ?_⟩) (by assumption) ?_
      rotate_left
      · (intro wS hSw; have v0 := (hSw.1.get 0 rfl).1 0 _ rfl; have v1 := (hSw.1.get 0 rfl).1 1 _ rfl; have v2 := (hSw.1.get 0 rfl).1 2 _ rfl; have p0 := (hSw.1.get 1 rfl).1 0 _ rfl; have p1 := (hSw.1.get 1 rfl).1 1 _ rfl; have p2 := (hSw.1.get 1 rfl).1 2 _ rfl; have p3 := (hSw.1.get 1 rfl).1 3 _ rfl; have q0 := (hSw.1.get 2 rfl).1 0 _ rfl; have q1 := (hSw.1.get 2 rfl).1 1 _ rfl; have q2 := (hSw.1.get 2 rfl).1 2 _ rfl; have q3 := (hSw.1.get 2 rfl).1 3 _ rfl; go_simp; try with_reducible rfl)
      change wpAnyH _ _ _ _ _ _ _ (Act.put _ (some 64) _) _
      simp only [Act.put, List.setIfInBounds_toArray, List.set_cons_zero, List.set_cons_succ]
      refine wpAnyH_take (i := 15) (v := ?_) rfl (by kernel_rfl) (by kernel_rfl) (by kernel_rfl) (fun _ _ _ h => h) (Or.inl ⟨by rfl, ?_⟩) (by assumption) ?_
      rotate_left
      · (intro wS hSw; have v0 := (hSw.1.get 0 rfl).1 0 _ rfl; have v1 := (hSw.1.get 0 rfl).1 1 _ rfl; have v2 := (hSw.1.get 0 rfl).1 2 _ rfl; have p0 := (hSw.1.get 1 rfl).1 0 _ rfl; have p1 := (hSw.1.get 1 rfl).1 1 _ rfl; have p2 := (hSw.1.get 1 rfl).1 2 _ rfl; have p3 := (hSw.1.get 1 rfl).1 3 _ rfl; have q0 := (hSw.1.get 2 rfl).1 0 _ rfl; have q1 := (hSw.1.get 2 rfl).1 1 _ rfl; have q2 := (hSw.1.get 2 rfl).1 2 _ rfl; have q3 := (hSw.1.get 2 rfl).1 3 _ rfl; go_simp; try with_reducible rfl)
      change wpAnyH _ _ _ _ _ _ _ (Act.put _ (some 66) _) _
      simp only [Act.put, List.setIfInBounds_toArray, List.set_cons_zero, List.set_cons_succ]
      refine wpAnyH_ready (rs := [14]) (by kernel_rfl) (by simp) ?_
      refine AllReadyH.cons rfl (fun K hK => ?_) AllReadyH.nil
      go_simp
      refine (CR.out _ F_4.out).mono ?_
      rintro e v5 ⟨rfl, hv5⟩
      have F_5 : Hid (KP w [(wb, [.int .i64 u1, .int .i64 u2, .int .i64 u3]), (w.heap.size, [.string pn, .int .i64 pr, .int .i64 po, .slice sa zs.length cap]), (w.heap.size + 1, [.string qn, .int .i64 qr, .int .i64 qo, .slice su ys.length capu])] (.slice sa zs.length cap) (.slice su ys.length capu) zs ys v5) := F_4.out.later hv5
      clear hv5 F_4
      (try go_wp2_with (fail))
      refine hK.out _ _ ?_ (fun hHeld => ?_)
      · exact F_5.out
      clear hK K
      refine wpAnyH_take (i := 16) (v := ?_) rfl (by kernel_rfl) (by kernel_rfl) (by kernel_rfl) (fun _ _ _ h => h) (Or.inl ⟨by rfl, ?_⟩) (by assumption) ?_
      rotate_left
      · (intro wS hSw; have v0 := (hSw.1.get 0 rfl).1 0 _ rfl; have v1 := (hSw.1.get 0 rfl).1 1 _ rfl; have v2 := (hSw.1.get 0 rfl).1 2 _ rfl; have p0 := (hSw.1.get 1 rfl).1 0 _ rfl; have p1 := (hSw.1.get 1 rfl).1 1 _ rfl; have p2 := (hSw.1.get 1 rfl).1 2 _ rfl; have p3 := (hSw.1.get 1 rfl).1 3 _ rfl; have q0 := (hSw.1.get 2 rfl).1 0 _ rfl; have q1 := (hSw.1.get 2 rfl).1 1 _ rfl; have q2 := (hSw.1.get 2 rfl).1 2 _ rfl; have q3 := (hSw.1.get 2 rfl).1 3 _ rfl; go_simp; try with_reducible rfl)
      change wpAnyH _ _ _ _ _ _ _ (Act.put _ (some 67) _) _
      simp only [Act.put, List.setIfInBounds_toArray, List.set_cons_zero, List.set_cons_succ]
      refine wpAnyH_take (i := 17) (v := ?_) rfl (by kernel_rfl) (by kernel_rfl) (by kernel_rfl) (fun _ _ _ h => h) (Or.inl ⟨by rfl, ?_⟩) (by assumption) ?_
      rotate_left
      · (intro wS hSw; have v0 := (hSw.1.get 0 rfl).1 0 _ rfl; have v1 := (hSw.1.get 0 rfl).1 1 _ rfl; have v2 := (hSw.1.get 0 rfl).1 2 _ rfl; have p0 := (hSw.1.get 1 rfl).1 0 _ rfl; have p1 := (hSw.1.get 1 rfl).1 1 _ rfl; have p2 := (hSw.1.get 1 rfl).1 2 _ rfl; have p3 := (hSw.1.get 1 rfl).1 3 _ rfl; have q0 := (hSw.1.get 2 rfl).1 0 _ rfl; have q1 := (hSw.1.get 2 rfl).1 1 _ rfl; have q2 := (hSw.1.get 2 rfl).1 2 _ rfl; have q3 := (hSw.1.get 2 rfl).1 3 _ rfl; go_simp; try with_reducible rfl)
      change wpAnyH _ _ _ _ _ _ _ (Act.put _ (some 68) _) _
      simp only [Act.put, List.setIfInBounds_toArray, List.set_cons_zero, List.set_cons_succ]
      refine wpAnyH_take (i := 18) (v := ?_) rfl (by kernel_rfl) (by kernel_rfl) (by kernel_rfl) (fun _ _ _ h => h) (Or.inl ⟨by rfl, ?_⟩) (by assumption) ?_
      rotate_left
      · (intro wS hSw; have v0 := (hSw.1.get 0 rfl).1 0 _ rfl; have v1 := (hSw.1.get 0 rfl).1 1 _ rfl; have v2 := (hSw.1.get 0 rfl).1 2 _ rfl; have p0 := (hSw.1.get 1 rfl).1 0 _ rfl; have p1 := (hSw.1.get 1 rfl).1 1 _ rfl; have p2 := (hSw.1.get 1 rfl).1 2 _ rfl; have p3 := (hSw.1.get 1 rfl).1 3 _ rfl; have q0 := (hSw.1.get 2 rfl).1 0 _ rfl; have q1 := (hSw.1.get 2 rfl).1 1 _ rfl; have q2 := (hSw.1.get 2 rfl).1 2 _ rfl; have q3 := (hSw.1.get 2 rfl).1 3 _ rfl; go_simp; try with_reducible rfl)
      change wpAnyH _ _ _ _ _ _ _ (Act.put _ (some 69) _) _
      simp only [Act.put, List.setIfInBounds_toArray, List.set_cons_zero, List.set_cons_succ]
      refine wpAnyH_take (i := 19) (v := ?_) rfl (by kernel_rfl) (by kernel_rfl) (by kernel_rfl) (fun _ _ _ h => h) (Or.inl ⟨by rfl, ?_⟩) (by assumption) ?_
      rotate_left
      · (intro wS hSw; have v0 := (hSw.1.get 0 rfl).1 0 _ rfl; have v1 := (hSw.1.get 0 rfl).1 1 _ rfl; have v2 := (hSw.1.get 0 rfl).1 2 _ rfl; have p0 := (hSw.1.get 1 rfl).1 0 _ rfl; have p1 := (hSw.1.get 1 rfl).1 1 _ rfl; have p2 := (hSw.1.get 1 rfl).1 2 _ rfl; have p3 := (hSw.1.get 1 rfl).1 3 _ rfl; have q0 := (hSw.1.get 2 rfl).1 0 _ rfl; have q1 := (hSw.1.get 2 rfl).1 1 _ rfl; have q2 := (hSw.1.get 2 rfl).1 2 _ rfl; have q3 := (hSw.1.get 2 rfl).1 3 _ rfl; go_simp; try with_reducible rfl)
      change wpAnyH _ _ _ _ _ _ _ (Act.put _ (some 70) _) _
      simp only [Act.put, List.setIfInBounds_toArray, List.set_cons_zero, List.set_cons_succ]
      refine wpAnyH_take (i := 20) (v := ?_) rfl (by kernel_rfl) (by kernel_rfl) (by kernel_rfl) (fun _ _ _ h => h) (Or.inl ⟨by rfl, ?_⟩) (by assumption) ?_
      rotate_left
      · (intro wS hSw; have v0 := (hSw.1.get 0 rfl).1 0 _ rfl; have v1 := (hSw.1.get 0 rfl).1 1 _ rfl; have v2 := (hSw.1.get 0 rfl).1 2 _ rfl; have p0 := (hSw.1.get 1 rfl).1 0 _ rfl; have p1 := (hSw.1.get 1 rfl).1 1 _ rfl; have p2 := (hSw.1.get 1 rfl).1 2 _ rfl; have p3 := (hSw.1.get 1 rfl).1 3 _ rfl; have q0 := (hSw.1.get 2 rfl).1 0 _ rfl; have q1 := (hSw.1.get 2 rfl).1 1 _ rfl; have q2 := (hSw.1.get 2 rfl).1 2 _ rfl; have q3 := (hSw.1.get 2 rfl).1 3 _ rfl; go_simp; try with_reducible rfl)
      change wpAnyH _ _ _ _ _ _ _ (Act.put _ (some 71) _) _
      simp only [Act.put, List.setIfInBounds_toArray, List.set_cons_zero, List.set_cons_succ]
      refine wpAnyH_take (i := 21) (v := ?_) rfl (by kernel_rfl) (by kernel_rfl) (by kernel_rfl) (fun _ _ _ h => h) (Or.inl ⟨by rfl, ?_⟩) (by assumption) ?_
      rotate_left
      · (intro wS hSw; have v0 := (hSw.1.get 0 rfl).1 0 _ rfl; have v1 := (hSw.1.get 0 rfl).1 1 _ rfl; have v2 := (hSw.1.get 0 rfl).1 2 _ rfl; have p0 := (hSw.1.get 1 rfl).1 0 _ rfl; have p1 := (hSw.1.get 1 rfl).1 1 _ rfl; have p2 := (hSw.1.get 1 rfl).1 2 _ rfl; have p3 := (hSw.1.get 1 rfl).1 3 _ rfl; have q0 := (hSw.1.get 2 rfl).1 0 _ rfl; have q1 := (hSw.1.get 2 rfl).1 1 _ rfl; have q2 := (hSw.1.get 2 rfl).1 2 _ rfl; have q3 := (hSw.1.get 2 rfl).1 3 _ rfl; go_simp; try with_reducible rfl)
      change wpAnyH _ _ _ _ _ _ _ (Act.put _ (some 72) _) _
      simp only [Act.put, List.setIfInBounds_toArray, List.set_cons_zero, List.set_cons_succ]
      refine wpAnyH_take (i := 22) (v := ?_) rfl (by kernel_rfl) (by kernel_rfl) (by kernel_rfl) (fun _ _ _ h => h) (Or.inl ⟨by rfl, ?_⟩) (by assumption) ?_
      rotate_left
      · (intro wS hSw; have v0 := (hSw.1.get 0 rfl).1 0 _ rfl; have v1 := (hSw.1.get 0 rfl).1 1 _ rfl; have v2 := (hSw.1.get 0 rfl).1 2 _ rfl; have p0 := (hSw.1.get 1 rfl).1 0 _ rfl; have p1 := (hSw.1.get 1 rfl).1 1 _ rfl; have p2 := (hSw.1.get 1 rfl).1 2 _ rfl; have p3 := (hSw.1.get 1 rfl).1 3 _ rfl; have q0 := (hSw.1.get 2 rfl).1 0 _ rfl; have q1 := (hSw.1.get 2 rfl).1 1 _ rfl; have q2 := (hSw.1.get 2 rfl).1 2 _ rfl; have q3 := (hSw.1.get 2 rfl).1 3 _ rfl; go_simp; try with_reducible rfl)
      change wpAnyH _ _ _ _ _ _ _ (Act.put _ (some 73) _) _
      simp only [Act.put, List.setIfInBounds_toArray, List.set_cons_zero, List.set_cons_succ]
      refine wpAnyH_take (i := 23) (v := ?_) rfl (by kernel_rfl) (by kernel_rfl) (by kernel_rfl) (fun _ _ _ h => h) (Or.inl ⟨by rfl, ?_⟩) (by assumption) ?_
      rotate_left
      · (intro wS hSw; have v0 := (hSw.1.get 0 rfl).1 0 _ rfl; have v1 := (hSw.1.get 0 rfl).1 1 _ rfl; have v2 := (hSw.1.get 0 rfl).1 2 _ rfl; have p0 := (hSw.1.get 1 rfl).1 0 _ rfl; have p1 := (hSw.1.get 1 rfl).1 1 _ rfl; have p2 := (hSw.1.get 1 rfl).1 2 _ rfl; have p3 := (hSw.1.get 1 rfl).1 3 _ rfl; have q0 := (hSw.1.get 2 rfl).1 0 _ rfl; have q1 := (hSw.1.get 2 rfl).1 1 _ rfl; have q2 := (hSw.1.get 2 rfl).1 2 _ rfl; have q3 := (hSw.1.get 2 rfl).1 3 _ rfl; go_simp; try with_reducible rfl)
      change wpAnyH _ _ _ _ _ _ _ (Act.put _ (some 74) _) _
      simp only [Act.put, List.setIfInBounds_toArray, List.set_cons_zero, List.set_cons_succ]
      refine wpAnyH_take (i := 24) (v := ?_) rfl (by kernel_rfl) (by kernel_rfl) (by kernel_rfl) (fun _ _ _ h => h) (Or.inl ⟨by rfl, ?_⟩) (by assumption) ?_
      rotate_left
      · (intro wS hSw; have v0 := (hSw.1.get 0 rfl).1 0 _ rfl; have v1 := (hSw.1.get 0 rfl).1 1 _ rfl; have v2 := (hSw.1.get 0 rfl).1 2 _ rfl; have p0 := (hSw.1.get 1 rfl).1 0 _ rfl; have p1 := (hSw.1.get 1 rfl).1 1 _ rfl; have p2 := (hSw.1.get 1 rfl).1 2 _ rfl; have p3 := (hSw.1.get 1 rfl).1 3 _ rfl; have q0 := (hSw.1.get 2 rfl).1 0 _ rfl; have q1 := (hSw.1.get 2 rfl).1 1 _ rfl; have q2 := (hSw.1.get 2 rfl).1 2 _ rfl; have q3 := (hSw.1.get 2 rfl).1 3 _ rfl; go_simp; try with_reducible rfl)
      change wpAnyH _ _ _ _ _ _ _ (Act.put _ (some 75) _) _
      simp only [Act.put, List.setIfInBounds_toArray, List.set_cons_zero, List.set_cons_succ]
      refine wpAnyH_take (i := 25) (v := ?_) rfl (by kernel_rfl) (by kernel_rfl) (by kernel_rfl) (fun _ _ _ h => h) (Or.inl ⟨by rfl, ?_⟩) (by assumption) ?_
      rotate_left
      · (intro wS hSw; have v0 := (hSw.1.get 0 rfl).1 0 _ rfl; have v1 := (hSw.1.get 0 rfl).1 1 _ rfl; have v2 := (hSw.1.get 0 rfl).1 2 _ rfl; have p0 := (hSw.1.get 1 rfl).1 0 _ rfl; have p1 := (hSw.1.get 1 rfl).1 1 _ rfl; have p2 := (hSw.1.get 1 rfl).1 2 _ rfl; have p3 := (hSw.1.get 1 rfl).1 3 _ rfl; have q0 := (hSw.1.get 2 rfl).1 0 _ rfl; have q1 := (hSw.1.get 2 rfl).1 1 _ rfl; have q2 := (hSw.1.get 2 rfl).1 2 _ rfl; have q3 := (hSw.1.get 2 rfl).1 3 _ rfl; go_simp; try with_reducible rfl)
      change wpAnyH _ _ _ _ _ _ _ (Act.put _ (some 76) _) _
      simp only [Act.put, List.setIfInBounds_toArray, List.set_cons_zero, List.set_cons_succ]
      refine wpAnyH_take (i := 26) (v := ?_) rfl (by kernel_rfl) (by kernel_rfl) (by kernel_rfl) (fun _ _ _ h => h) (Or.inl ⟨by rfl, ?_⟩) (by assumption) ?_
      rotate_left
      · (intro wS hSw; have v0 := (hSw.1.get 0 rfl).1 0 _ rfl; have v1 := (hSw.1.get 0 rfl).1 1 _ rfl; have v2 := (hSw.1.get 0 rfl).1 2 _ rfl; have p0 := (hSw.1.get 1 rfl).1 0 _ rfl; have p1 := (hSw.1.get 1 rfl).1 1 _ rfl; have p2 := (hSw.1.get 1 rfl).1 2 _ rfl; have p3 := (hSw.1.get 1 rfl).1 3 _ rfl; have q0 := (hSw.1.get 2 rfl).1 0 _ rfl; have q1 := (hSw.1.get 2 rfl).1 1 _ rfl; have q2 := (hSw.1.get 2 rfl).1 2 _ rfl; have q3 := (hSw.1.get 2 rfl).1 3 _ rfl; go_simp; try with_reducible rfl)
      change wpAnyH _ _ _ _ _ _ _ (Act.put _ (some 77) _) _
      simp only [Act.put, List.setIfInBounds_toArray, List.set_cons_zero, List.set_cons_succ]
      refine wpAnyH_take (i := 27) (v := ?_) rfl (by kernel_rfl) (by kernel_rfl) (by kernel_rfl) (fun _ _ _ h => h) (Or.inl ⟨by rfl, ?_⟩) (by assumption) ?_
      rotate_left
      · (intro wS hSw; have v0 := (hSw.1.get 0 rfl).1 0 _ rfl; have v1 := (hSw.1.get 0 rfl).1 1 _ rfl; have v2 := (hSw.1.get 0 rfl).1 2 _ rfl; have p0 := (hSw.1.get 1 rfl).1 0 _ rfl; have p1 := (hSw.1.get 1 rfl).1 1 _ rfl; have p2 := (hSw.1.get 1 rfl).1 2 _ rfl; have p3 := (hSw.1.get 1 rfl).1 3 _ rfl; have q0 := (hSw.1.get 2 rfl).1 0 _ rfl; have q1 := (hSw.1.get 2 rfl).1 1 _ rfl; have q2 := (hSw.1.get 2 rfl).1 2 _ rfl; have q3 := (hSw.1.get 2 rfl).1 3 _ rfl; go_simp; try with_reducible rfl)
      change wpAnyH _ _ _ _ _ _ _ (Act.put _ (some 78) _) _
      simp only [Act.put, List.setIfInBounds_toArray, List.set_cons_zero, List.set_cons_succ]
      refine wpAnyH_take (i := 28) (v := ?_) rfl (by kernel_rfl) (by kernel_rfl) (by kernel_rfl) (fun _ _ _ h => h) (Or.inl ⟨by rfl, ?_⟩) (by assumption) ?_
      rotate_left
      · (intro wS hSw; have v0 := (hSw.1.get 0 rfl).1 0 _ rfl; have v1 := (hSw.1.get 0 rfl).1 1 _ rfl; have v2 := (hSw.1.get 0 rfl).1 2 _ rfl; have p0 := (hSw.1.get 1 rfl).1 0 _ rfl; have p1 := (hSw.1.get 1 rfl).1 1 _ rfl; have p2 := (hSw.1.get 1 rfl).1 2 _ rfl; have p3 := (hSw.1.get 1 rfl).1 3 _ rfl; have q0 := (hSw.1.get 2 rfl).1 0 _ rfl; have q1 := (hSw.1.get 2 rfl).1 1 _ rfl; have q2 := (hSw.1.get 2 rfl).1 2 _ rfl; have q3 := (hSw.1.get 2 rfl).1 3 _ rfl; go_simp; try with_reducible rfl)
      change wpAnyH _ _ _ _ _ _ _ (Act.put _ (some 79) _) _
      simp only [Act.put, List.setIfInBounds_toArray, List.set_cons_zero, List.set_cons_succ]
      refine wpAnyH_take (i := 29) (v := ?_) rfl (by kernel_rfl) (by kernel_rfl) (by kernel_rfl) (fun _ _ _ h => h) (Or.inl ⟨by rfl, ?_⟩) (by assumption) ?_
      rotate_left
      · (intro wS hSw; have v0 := (hSw.1.get 0 rfl).1 0 _ rfl; have v1 := (hSw.1.get 0 rfl).1 1 _ rfl; have v2 := (hSw.1.get 0 rfl).1 2 _ rfl; have p0 := (hSw.1.get 1 rfl).1 0 _ rfl; have p1 := (hSw.1.get 1 rfl).1 1 _ rfl; have p2 := (hSw.1.get 1 rfl).1 2 _ rfl; have p3 := (hSw.1.get 1 rfl).1 3 _ rfl; have q0 := (hSw.1.get 2 rfl).1 0 _ rfl; have q1 := (hSw.1.get 2 rfl).1 1 _ rfl; have q2 := (hSw.1.get 2 rfl).1 2 _ rfl; have q3 := (hSw.1.get 2 rfl).1 3 _ rfl; go_simp; try with_reducible rfl)
      change wpAnyH _ _ _ _ _ _ _ (Act.put _ (some 80) _) _
      simp only [Act.put, List.setIfInBounds_toArray, List.set_cons_zero, List.set_cons_succ]
      refine wpAnyH_take (i := 30) (v := ?_) rfl (by kernel_rfl) (by kernel_rfl) (by kernel_rfl) (fun _ _ _ h => h) (Or.inl ⟨by rfl, ?_⟩) (by assumption) ?_
      rotate_left
      · (intro wS hSw; have v0 := (hSw.1.get 0 rfl).1 0 _ rfl; have v1 := (hSw.1.get 0 rfl).1 1 _ rfl; have v2 := (hSw.1.get 0 rfl).1 2 _ rfl; have p0 := (hSw.1.get 1 rfl).1 0 _ rfl; have p1 := (hSw.1.get 1 rfl).1 1 _ rfl; have p2 := (hSw.1.get 1 rfl).1 2 _ rfl; have p3 := (hSw.1.get 1 rfl).1 3 _ rfl; have q0 := (hSw.1.get 2 rfl).1 0 _ rfl; have q1 := (hSw.1.get 2 rfl).1 1 _ rfl; have q2 := (hSw.1.get 2 rfl).1 2 _ rfl; have q3 := (hSw.1.get 2 rfl).1 3 _ rfl; go_simp; try with_reducible rfl)
      change wpAnyH _ _ _ _ _ _ _ (Act.put _ (some 81) _) _
      simp only [Act.put, List.setIfInBounds_toArray, List.set_cons_zero, List.set_cons_succ]
      refine wpAnyH_take (i := 31) (v := ?_) rfl (by kernel_rfl) (by kernel_rfl) (by kernel_rfl) (fun _ _ _ h => h) (Or.inl ⟨by rfl, ?_⟩) (by assumption) ?_
      rotate_left
      · (intro wS hSw; have v0 := (hSw.1.get 0 rfl).1 0 _ rfl; have v1 := (hSw.1.get 0 rfl).1 1 _ rfl; have v2 := (hSw.1.get 0 rfl).1 2 _ rfl; have p0 := (hSw.1.get 1 rfl).1 0 _ rfl; have p1 := (hSw.1.get 1 rfl).1 1 _ rfl; have p2 := (hSw.1.get 1 rfl).1 2 _ rfl; have p3 := (hSw.1.get 1 rfl).1 3 _ rfl; have q0 := (hSw.1.get 2 rfl).1 0 _ rfl; have q1 := (hSw.1.get 2 rfl).1 1 _ rfl; have q2 := (hSw.1.get 2 rfl).1 2 _ rfl; have q3 := (hSw.1.get 2 rfl).1 3 _ rfl; go_simp; try with_reducible rfl)
      change wpAnyH _ _ _ _ _ _ _ (Act.put _ (some 82) _) _
      simp only [Act.put, List.setIfInBounds_toArray, List.set_cons_zero, List.set_cons_succ]
      refine wpAnyH_take (i := 32) (v := ?_) rfl (by kernel_rfl) (by kernel_rfl) (by kernel_rfl) (fun _ _ _ h => h) (Or.inl ⟨by rfl, ?_⟩) (by assumption) ?_
      rotate_left
      · (intro wS hSw; have v0 := (hSw.1.get 0 rfl).1 0 _ rfl; have v1 := (hSw.1.get 0 rfl).1 1 _ rfl; have v2 := (hSw.1.get 0 rfl).1 2 _ rfl; have p0 := (hSw.1.get 1 rfl).1 0 _ rfl; have p1 := (hSw.1.get 1 rfl).1 1 _ rfl; have p2 := (hSw.1.get 1 rfl).1 2 _ rfl; have p3 := (hSw.1.get 1 rfl).1 3 _ rfl; have q0 := (hSw.1.get 2 rfl).1 0 _ rfl; have q1 := (hSw.1.get 2 rfl).1 1 _ rfl; have q2 := (hSw.1.get 2 rfl).1 2 _ rfl; have q3 := (hSw.1.get 2 rfl).1 3 _ rfl; go_simp; try with_reducible rfl)
      change wpAnyH _ _ _ _ _ _ _ (Act.put _ (some 83) _) _
      simp only [Act.put, List.setIfInBounds_toArray, List.set_cons_zero, List.set_cons_succ]
      refine wpAnyH_take (i := 34) (v := ?_) rfl (by kernel_rfl) (by kernel_rfl) (by kernel_rfl) (fun _ _ _ h => h) (Or.inl ⟨by rfl, ?_⟩) (by assumption) ?_
      rotate_left
      · (intro wS hSw; have v0 := (hSw.1.get 0 rfl).1 0 _ rfl; have v1 := (hSw.1.get 0 rfl).1 1 _ rfl; have v2 := (hSw.1.get 0 rfl).1 2 _ rfl; have p0 := (hSw.1.get 1 rfl).1 0 _ rfl; have p1 := (hSw.1.get 1 rfl).1 1 _ rfl; have p2 := (hSw.1.get 1 rfl).1 2 _ rfl; have p3 := (hSw.1.get 1 rfl).1 3 _ rfl; have q0 := (hSw.1.get 2 rfl).1 0 _ rfl; have q1 := (hSw.1.get 2 rfl).1 1 _ rfl; have q2 := (hSw.1.get 2 rfl).1 2 _ rfl; have q3 := (hSw.1.get 2 rfl).1 3 _ rfl; go_simp; try with_reducible rfl)
      change wpAnyH _ _ _ _ _ _ _ (Act.put _ (some 85) _) _
      simp only [Act.put, List.setIfInBounds_toArray, List.set_cons_zero, List.set_cons_succ]
      refine wpAnyH_take (i := 35) (v := ?_) rfl (by kernel_rfl) (by kernel_rfl) (by kernel_rfl) (fun _ _ _ h => h) (Or.inl ⟨by rfl, ?_⟩) (by assumption) ?_
      rotate_left
      · (intro wS hSw; have v0 := (hSw.1.get 0 rfl).1 0 _ rfl; have v1 := (hSw.1.get 0 rfl).1 1 _ rfl; have v2 := (hSw.1.get 0 rfl).1 2 _ rfl; have p0 := (hSw.1.get 1 rfl).1 0 _ rfl; have p1 := (hSw.1.get 1 rfl).1 1 _ rfl; have p2 := (hSw.1.get 1 rfl).1 2 _ rfl; have p3 := (hSw.1.get 1 rfl).1 3 _ rfl; have q0 := (hSw.1.get 2 rfl).1 0 _ rfl; have q1 := (hSw.1.get 2 rfl).1 1 _ rfl; have q2 := (hSw.1.get 2 rfl).1 2 _ rfl; have q3 := (hSw.1.get 2 rfl).1 3 _ rfl; go_simp; try with_reducible rfl)
      change wpAnyH _ _ _ _ _ _ _ (Act.put _ (some 86) _) _
      simp only [Act.put, List.setIfInBounds_toArray, List.set_cons_zero, List.set_cons_succ]
      refine wpAnyH_ready (rs := [33]) (by kernel_rfl) (by simp) ?_
      refine AllReadyH.cons rfl (fun K hK => ?_) AllReadyH.nil
      go_simp
      refine (CS.out _ F_5.out).mono ?_
      rintro e v6 ⟨rfl, hv6⟩
      have F_6 : Hid (KP w [(wb, [.int .i64 u1, .int .i64 u2, .int .i64 u3]), (w.heap.size, [.string pn, .int .i64 pr, .int .i64 po, .slice sa zs.length cap]), (w.heap.size + 1, [.string qn, .int .i64 qr, .int .i64 qo, .slice su ys.length capu])] (.slice sa zs.length cap) (.slice su ys.length capu) zs ys v6) := F_5.out.later hv6
      clear hv6 F_5
      (try go_wp2_with (fail))
      refine hK.out _ _ ?_ (fun hHeld => ?_)
      · exact F_6.out
      clear hK K
      refine wpAnyH_ready (rs := [36]) (by kernel_rfl) (by simp) ?_
      refine AllReadyH.cons rfl (fun K hK => ?_) AllReadyH.nil
      go_simp
      refine (CT.out _ F_6.out).mono ?_
      rintro e v7 ⟨rfl, hv7⟩
      have F_7 : Hid (KP w [(wb, [.int .i64 u1, .int .i64 u2, .int .i64 u3]), (w.heap.size, [.string pn, .int .i64 pr, .int .i64 po, .slice sa zs.length cap]), (w.heap.size + 1, [.string qn, .int .i64 qr, .int .i64 qo, .slice su ys.length capu])] (.slice sa zs.length cap) (.slice su ys.length capu) zs ys v7) := F_6.out.later hv7
      clear hv7 F_6
      (try go_wp2_with (fail))
      refine hK.out _ _ ?_ (fun hHeld => ?_)
      · exact F_7.out
      clear hK K
      refine wpAnyH_take (i := 37) (v := ?_) rfl (by kernel_rfl) (by kernel_rfl) (by kernel_rfl) (fun _ _ _ h => h) (Or.inl ⟨by rfl, ?_⟩) (by assumption) ?_
      rotate_left
      · (intro wS hSw; have v0 := (hSw.1.get 0 rfl).1 0 _ rfl; have v1 := (hSw.1.get 0 rfl).1 1 _ rfl; have v2 := (hSw.1.get 0 rfl).1 2 _ rfl; have p0 := (hSw.1.get 1 rfl).1 0 _ rfl; have p1 := (hSw.1.get 1 rfl).1 1 _ rfl; have p2 := (hSw.1.get 1 rfl).1 2 _ rfl; have p3 := (hSw.1.get 1 rfl).1 3 _ rfl; have q0 := (hSw.1.get 2 rfl).1 0 _ rfl; have q1 := (hSw.1.get 2 rfl).1 1 _ rfl; have q2 := (hSw.1.get 2 rfl).1 2 _ rfl; have q3 := (hSw.1.get 2 rfl).1 3 _ rfl; go_simp; try with_reducible rfl)
      change wpAnyH _ _ _ _ _ _ _ (Act.put _ (some 88) _) _
      simp only [Act.put, List.setIfInBounds_toArray, List.set_cons_zero, List.set_cons_succ]
      refine wpAnyH_take (i := 38) (v := ?_) rfl (by kernel_rfl) (by kernel_rfl) (by kernel_rfl) (fun _ _ _ h => h) (Or.inl ⟨by rfl, ?_⟩) (by assumption) ?_
      rotate_left
      · (intro wS hSw; have v0 := (hSw.1.get 0 rfl).1 0 _ rfl; have v1 := (hSw.1.get 0 rfl).1 1 _ rfl; have v2 := (hSw.1.get 0 rfl).1 2 _ rfl; have p0 := (hSw.1.get 1 rfl).1 0 _ rfl; have p1 := (hSw.1.get 1 rfl).1 1 _ rfl; have p2 := (hSw.1.get 1 rfl).1 2 _ rfl; have p3 := (hSw.1.get 1 rfl).1 3 _ rfl; have q0 := (hSw.1.get 2 rfl).1 0 _ rfl; have q1 := (hSw.1.get 2 rfl).1 1 _ rfl; have q2 := (hSw.1.get 2 rfl).1 2 _ rfl; have q3 := (hSw.1.get 2 rfl).1 3 _ rfl; go_simp; try with_reducible rfl)
      change wpAnyH _ _ _ _ _ _ _ (Act.put _ (some 89) _) _
      simp only [Act.put, List.setIfInBounds_toArray, List.set_cons_zero, List.set_cons_succ]
      refine wpAnyH_done (by kernel_rfl) ?_ _
      refine NoPanic.normal ?_
      clear K8 CP CQ CC CD CR CS CT
      go_wp2_with (fail)
      go_meet
      case rel => exact ⟨rfl, F_7⟩
    case rest =>
    clear K8 CP CQ CC CD CR CS CT f3 f4
    obtain ⟨rfl, K9⟩ := hcut
    go_upto_region 12 with (fail)
    have F_0 : Hid (KP w [(wb, [.int .i64 u1, .int .i64 u2, .int .i64 u3]), (w.heap.size, [.string pn, .int .i64 pr, .int .i64 po, .slice sa zs.length cap]), (w.heap.size + 1, [.string qn, .int .i64 qr, .int .i64 qo, .slice su ys.length capu])] (.slice sa zs.length cap) (.slice su ys.length capu) zs ys _) := K9.out.drew
    refine wp_region_noPanic ?_
    refine wp_region_held_drew (S := fun w' => KP w [(wb, [.int .i64 u1, .int .i64 u2, .int .i64 u3]), (w.heap.size, [.string pn, .int .i64 pr, .int .i64 po, .slice sa zs.length cap]), (w.heap.size + 1, [.string qn, .int .i64 qr, .int .i64 qo, .slice su ys.length capu])] (.slice sa zs.length cap) (.slice su ys.length capu) zs ys w') (by kernel_rfl) ?_ (fun hHeld => ?_)
    · exact F_0.out
    refine wpAnyH_take (i := 0) (v := ?_) rfl (by kernel_rfl) (by kernel_rfl) (by kernel_rfl) (fun _ _ _ h => h) (Or.inl ⟨by rfl, ?_⟩) (by assumption) ?_
    rotate_left
    · (intro wS hSw; have v0 := (hSw.1.get 0 rfl).1 0 _ rfl; have v1 := (hSw.1.get 0 rfl).1 1 _ rfl; have v2 := (hSw.1.get 0 rfl).1 2 _ rfl; have p0 := (hSw.1.get 1 rfl).1 0 _ rfl; have p1 := (hSw.1.get 1 rfl).1 1 _ rfl; have p2 := (hSw.1.get 1 rfl).1 2 _ rfl; have p3 := (hSw.1.get 1 rfl).1 3 _ rfl; have q0 := (hSw.1.get 2 rfl).1 0 _ rfl; have q1 := (hSw.1.get 2 rfl).1 1 _ rfl; have q2 := (hSw.1.get 2 rfl).1 2 _ rfl; have q3 := (hSw.1.get 2 rfl).1 3 _ rfl; go_simp; try with_reducible rfl)
    change wpAnyH _ _ _ _ _ _ _ (Act.put _ (some 90) _) _
    simp only [Act.put, List.setIfInBounds_toArray, List.set_cons_zero, List.set_cons_succ]
    refine wpAnyH_take (i := 1) (v := ?_) rfl (by kernel_rfl) (by kernel_rfl) (by kernel_rfl) (fun _ _ _ h => h) (Or.inl ⟨by rfl, ?_⟩) (by assumption) ?_
    rotate_left
    · (intro wS hSw; have v0 := (hSw.1.get 0 rfl).1 0 _ rfl; have v1 := (hSw.1.get 0 rfl).1 1 _ rfl; have v2 := (hSw.1.get 0 rfl).1 2 _ rfl; have p0 := (hSw.1.get 1 rfl).1 0 _ rfl; have p1 := (hSw.1.get 1 rfl).1 1 _ rfl; have p2 := (hSw.1.get 1 rfl).1 2 _ rfl; have p3 := (hSw.1.get 1 rfl).1 3 _ rfl; have q0 := (hSw.1.get 2 rfl).1 0 _ rfl; have q1 := (hSw.1.get 2 rfl).1 1 _ rfl; have q2 := (hSw.1.get 2 rfl).1 2 _ rfl; have q3 := (hSw.1.get 2 rfl).1 3 _ rfl; go_simp; try with_reducible rfl)
    change wpAnyH _ _ _ _ _ _ _ (Act.put _ (some 91) _) _
    simp only [Act.put, List.setIfInBounds_toArray, List.set_cons_zero, List.set_cons_succ]
    refine wpAnyH_take (i := 3) (v := ?_) rfl (by kernel_rfl) (by kernel_rfl) (by kernel_rfl) (fun _ _ _ h => h) (Or.inl ⟨by rfl, ?_⟩) (by assumption) ?_
    rotate_left
    · (intro wS hSw; have v0 := (hSw.1.get 0 rfl).1 0 _ rfl; have v1 := (hSw.1.get 0 rfl).1 1 _ rfl; have v2 := (hSw.1.get 0 rfl).1 2 _ rfl; have p0 := (hSw.1.get 1 rfl).1 0 _ rfl; have p1 := (hSw.1.get 1 rfl).1 1 _ rfl; have p2 := (hSw.1.get 1 rfl).1 2 _ rfl; have p3 := (hSw.1.get 1 rfl).1 3 _ rfl; have q0 := (hSw.1.get 2 rfl).1 0 _ rfl; have q1 := (hSw.1.get 2 rfl).1 1 _ rfl; have q2 := (hSw.1.get 2 rfl).1 2 _ rfl; have q3 := (hSw.1.get 2 rfl).1 3 _ rfl; go_simp; try with_reducible rfl)
    change wpAnyH _ _ _ _ _ _ _ (Act.put _ (some 93) _) _
    simp only [Act.put, List.setIfInBounds_toArray, List.set_cons_zero, List.set_cons_succ]
    refine wpAnyH_take (i := 4) (v := ?_) rfl (by kernel_rfl) (by kernel_rfl) (by kernel_rfl) (fun _ _ _ h => h) (Or.inl ⟨by rfl, ?_⟩) (by assumption) ?_
    rotate_left
    · (intro wS hSw; have v0 := (hSw.1.get 0 rfl).1 0 _ rfl; have v1 := (hSw.1.get 0 rfl).1 1 _ rfl; have v2 := (hSw.1.get 0 rfl).1 2 _ rfl; have p0 := (hSw.1.get 1 rfl).1 0 _ rfl; have p1 := (hSw.1.get 1 rfl).1 1 _ rfl; have p2 := (hSw.1.get 1 rfl).1 2 _ rfl; have p3 := (hSw.1.get 1 rfl).1 3 _ rfl; have q0 := (hSw.1.get 2 rfl).1 0 _ rfl; have q1 := (hSw.1.get 2 rfl).1 1 _ rfl; have q2 := (hSw.1.get 2 rfl).1 2 _ rfl; have q3 := (hSw.1.get 2 rfl).1 3 _ rfl; go_simp; try with_reducible rfl)
    change wpAnyH _ _ _ _ _ _ _ (Act.put _ (some 94) _) _
    simp only [Act.put, List.setIfInBounds_toArray, List.set_cons_zero, List.set_cons_succ]
    refine wpAnyH_ready (rs := [2]) (by kernel_rfl) (by simp) ?_
    refine AllReadyH.cons rfl (fun K hK => ?_) AllReadyH.nil
    go_simp
    refine (changed_is pn pr po qn qr qo _ F_0.out.2.2.1 F_0.out.2.2.2 (by omega)).mono ?_
    rintro e v1 ⟨x0, rfl, B0, hv1⟩
    have F_1 : Hid ((KP w [(wb, [.int .i64 u1, .int .i64 u2, .int .i64 u3]), (w.heap.size, [.string pn, .int .i64 pr, .int .i64 po, .slice sa zs.length cap]), (w.heap.size + 1, [.string qn, .int .i64 qr, .int .i64 qo, .slice su ys.length capu])] (.slice sa zs.length cap) (.slice su ys.length capu) zs ys v1) ∧ RdB v1 x0 (chgL zs ys)) := ⟨F_0.out.later hv1, B0⟩
    clear hv1 F_0
    (try go_wp2_with (fail))
    refine hK.out _ _ ?_ (fun hHeld => ?_)
    · exact F_1.out.1
    clear hK K
    clear B0
    refine wpAnyH_ready (rs := [5]) (by kernel_rfl) (by simp) ?_
    refine AllReadyH.cons rfl (fun K hK => ?_) AllReadyH.nil
    go_simp
    refine (refChanged_is pn pr po qn qr qo _ F_1.out.1.2.2.1 F_1.out.1.2.2.2 (by omega)).mono ?_
    rintro e v2 ⟨y0, rfl, B1, hv2⟩
    have F_2 : Hid ((KP w [(wb, [.int .i64 u1, .int .i64 u2, .int .i64 u3]), (w.heap.size, [.string pn, .int .i64 pr, .int .i64 po, .slice sa zs.length cap]), (w.heap.size + 1, [.string qn, .int .i64 qr, .int .i64 qo, .slice su ys.length capu])] (.slice sa zs.length cap) (.slice su ys.length capu) zs ys v2) ∧ RdB v2 x0 (chgL zs ys) ∧ RdB v2 y0 (chgL zs ys)) := ⟨F_1.out.1.later hv2, F_1.out.2.later hv2, B1⟩
    clear hv2 F_1
    (try go_wp2_with (fail))
    refine hK.out _ _ ?_ (fun hHeld => ?_)
    · exact F_2.out.1
    clear hK K
    clear B1
    refine wpAnyH_take (i := 6) (v := ?_) rfl (by kernel_rfl) (by kernel_rfl) (by kernel_rfl) (fun _ _ _ h => h) (Or.inl ⟨by rfl, ?_⟩) (by assumption) ?_
    rotate_left
    · (intro wS hSw; have v0 := (hSw.1.get 0 rfl).1 0 _ rfl; have v1 := (hSw.1.get 0 rfl).1 1 _ rfl; have v2 := (hSw.1.get 0 rfl).1 2 _ rfl; have p0 := (hSw.1.get 1 rfl).1 0 _ rfl; have p1 := (hSw.1.get 1 rfl).1 1 _ rfl; have p2 := (hSw.1.get 1 rfl).1 2 _ rfl; have p3 := (hSw.1.get 1 rfl).1 3 _ rfl; have q0 := (hSw.1.get 2 rfl).1 0 _ rfl; have q1 := (hSw.1.get 2 rfl).1 1 _ rfl; have q2 := (hSw.1.get 2 rfl).1 2 _ rfl; have q3 := (hSw.1.get 2 rfl).1 3 _ rfl; go_simp; try with_reducible rfl)
    change wpAnyH _ _ _ _ _ _ _ (Act.put _ (some 13) _) _
    simp only [Act.put, List.setIfInBounds_toArray, List.set_cons_zero, List.set_cons_succ]
    refine wpAnyH_take (i := 7) (v := ?_) rfl (by kernel_rfl) (by kernel_rfl) (by kernel_rfl) (fun _ _ _ h => h) (Or.inl ⟨by rfl, ?_⟩) (by assumption) ?_
    rotate_left
    · (intro wS hSw; have v0 := (hSw.1.get 0 rfl).1 0 _ rfl; have v1 := (hSw.1.get 0 rfl).1 1 _ rfl; have v2 := (hSw.1.get 0 rfl).1 2 _ rfl; have p0 := (hSw.1.get 1 rfl).1 0 _ rfl; have p1 := (hSw.1.get 1 rfl).1 1 _ rfl; have p2 := (hSw.1.get 1 rfl).1 2 _ rfl; have p3 := (hSw.1.get 1 rfl).1 3 _ rfl; have q0 := (hSw.1.get 2 rfl).1 0 _ rfl; have q1 := (hSw.1.get 2 rfl).1 1 _ rfl; have q2 := (hSw.1.get 2 rfl).1 2 _ rfl; have q3 := (hSw.1.get 2 rfl).1 3 _ rfl; go_simp; try with_reducible rfl)
    change wpAnyH _ _ _ _ _ _ _ (Act.put _ (some 14) _) _
    simp only [Act.put, List.setIfInBounds_toArray, List.set_cons_zero, List.set_cons_succ]
    refine wpAnyH_done (by kernel_rfl) ?_ _
    refine NoPanic.normal ?_
    have K10 := F_2
    clear F_2 K9
    go_upto_region 13 with (fail)
    have F_0 : Hid ((KP w [(wb, [.int .i64 u1, .int .i64 u2, .int .i64 u3]), (w.heap.size, [.string pn, .int .i64 pr, .int .i64 po, .slice sa zs.length cap]), (w.heap.size + 1, [.string qn, .int .i64 qr, .int .i64 qo, .slice su ys.length capu])] (.slice sa zs.length cap) (.slice su ys.length capu) zs ys _) ∧ RdB _ x0 (chgL zs ys) ∧ RdB _ y0 (chgL zs ys)) := ⟨K10.out.1.drew, K10.out.2.1.later (Below.refl _ _).drew, K10.out.2.2.later (Below.refl _ _).drew⟩
    refine wp_region_noPanic ?_
    refine wp_region_held_drew (S := fun w' => KP w [(wb, [.int .i64 u1, .int .i64 u2, .int .i64 u3]), (w.heap.size, [.string pn, .int .i64 pr, .int .i64 po, .slice sa zs.length cap]), (w.heap.size + 1, [.string qn, .int .i64 qr, .int .i64 qo, .slice su ys.length capu])] (.slice sa zs.length cap) (.slice su ys.length capu) zs ys w') (by kernel_rfl) ?_ (fun hHeld => ?_)
    · exact F_0.out.1
    refine wpAnyH_take (i := 0) (v := ?_) rfl (by kernel_rfl) (by kernel_rfl) (by kernel_rfl) (fun _ _ _ h => h) (Or.inl ⟨by rfl, ?_⟩) (by assumption) ?_
    rotate_left
    · (intro wS hSw; have v0 := (hSw.1.get 0 rfl).1 0 _ rfl; have v1 := (hSw.1.get 0 rfl).1 1 _ rfl; have v2 := (hSw.1.get 0 rfl).1 2 _ rfl; have p0 := (hSw.1.get 1 rfl).1 0 _ rfl; have p1 := (hSw.1.get 1 rfl).1 1 _ rfl; have p2 := (hSw.1.get 1 rfl).1 2 _ rfl; have p3 := (hSw.1.get 1 rfl).1 3 _ rfl; have q0 := (hSw.1.get 2 rfl).1 0 _ rfl; have q1 := (hSw.1.get 2 rfl).1 1 _ rfl; have q2 := (hSw.1.get 2 rfl).1 2 _ rfl; have q3 := (hSw.1.get 2 rfl).1 3 _ rfl; go_simp; try with_reducible rfl)
    change wpAnyH _ _ _ _ _ _ _ (Act.put _ (some 96) _) _
    simp only [Act.put, List.setIfInBounds_toArray, List.set_cons_zero, List.set_cons_succ]
    refine wpAnyH_take (i := 1) (v := ?_) rfl (by kernel_rfl) (by kernel_rfl) (by kernel_rfl) (fun _ _ _ h => h) (Or.inl ⟨by rfl, ?_⟩) (by assumption) ?_
    rotate_left
    · (intro wS hSw; have v0 := (hSw.1.get 0 rfl).1 0 _ rfl; have v1 := (hSw.1.get 0 rfl).1 1 _ rfl; have v2 := (hSw.1.get 0 rfl).1 2 _ rfl; have p0 := (hSw.1.get 1 rfl).1 0 _ rfl; have p1 := (hSw.1.get 1 rfl).1 1 _ rfl; have p2 := (hSw.1.get 1 rfl).1 2 _ rfl; have p3 := (hSw.1.get 1 rfl).1 3 _ rfl; have q0 := (hSw.1.get 2 rfl).1 0 _ rfl; have q1 := (hSw.1.get 2 rfl).1 1 _ rfl; have q2 := (hSw.1.get 2 rfl).1 2 _ rfl; have q3 := (hSw.1.get 2 rfl).1 3 _ rfl; go_simp; try with_reducible rfl)
    change wpAnyH _ _ _ _ _ _ _ (Act.put _ (some 97) _) _
    simp only [Act.put, List.setIfInBounds_toArray, List.set_cons_zero, List.set_cons_succ]
    refine wpAnyH_take (i := 3) (v := ?_) rfl (by kernel_rfl) (by kernel_rfl) (by kernel_rfl) (fun _ _ _ h => h) (Or.inl ⟨by rfl, ?_⟩) (by assumption) ?_
    rotate_left
    · (intro wS hSw; have v0 := (hSw.1.get 0 rfl).1 0 _ rfl; have v1 := (hSw.1.get 0 rfl).1 1 _ rfl; have v2 := (hSw.1.get 0 rfl).1 2 _ rfl; have p0 := (hSw.1.get 1 rfl).1 0 _ rfl; have p1 := (hSw.1.get 1 rfl).1 1 _ rfl; have p2 := (hSw.1.get 1 rfl).1 2 _ rfl; have p3 := (hSw.1.get 1 rfl).1 3 _ rfl; have q0 := (hSw.1.get 2 rfl).1 0 _ rfl; have q1 := (hSw.1.get 2 rfl).1 1 _ rfl; have q2 := (hSw.1.get 2 rfl).1 2 _ rfl; have q3 := (hSw.1.get 2 rfl).1 3 _ rfl; go_simp; try with_reducible rfl)
    change wpAnyH _ _ _ _ _ _ _ (Act.put _ (some 99) _) _
    simp only [Act.put, List.setIfInBounds_toArray, List.set_cons_zero, List.set_cons_succ]
    refine wpAnyH_take (i := 4) (v := ?_) rfl (by kernel_rfl) (by kernel_rfl) (by kernel_rfl) (fun _ _ _ h => h) (Or.inl ⟨by rfl, ?_⟩) (by assumption) ?_
    rotate_left
    · (intro wS hSw; have v0 := (hSw.1.get 0 rfl).1 0 _ rfl; have v1 := (hSw.1.get 0 rfl).1 1 _ rfl; have v2 := (hSw.1.get 0 rfl).1 2 _ rfl; have p0 := (hSw.1.get 1 rfl).1 0 _ rfl; have p1 := (hSw.1.get 1 rfl).1 1 _ rfl; have p2 := (hSw.1.get 1 rfl).1 2 _ rfl; have p3 := (hSw.1.get 1 rfl).1 3 _ rfl; have q0 := (hSw.1.get 2 rfl).1 0 _ rfl; have q1 := (hSw.1.get 2 rfl).1 1 _ rfl; have q2 := (hSw.1.get 2 rfl).1 2 _ rfl; have q3 := (hSw.1.get 2 rfl).1 3 _ rfl; go_simp; try with_reducible rfl)
    change wpAnyH _ _ _ _ _ _ _ (Act.put _ (some 100) _) _
    simp only [Act.put, List.setIfInBounds_toArray, List.set_cons_zero, List.set_cons_succ]
    refine wpAnyH_ready (rs := [2]) (by kernel_rfl) (by simp) ?_
    refine AllReadyH.cons rfl (fun K hK => ?_) AllReadyH.nil
    go_simp
    refine (restarts_is pn pr po qn qr qo _ F_0.out.1.2.2.1 F_0.out.1.2.2.2 (by omega)).mono ?_
    rintro e v1 ⟨x1, rfl, B0, hv1⟩
    have F_1 : Hid ((KP w [(wb, [.int .i64 u1, .int .i64 u2, .int .i64 u3]), (w.heap.size, [.string pn, .int .i64 pr, .int .i64 po, .slice sa zs.length cap]), (w.heap.size + 1, [.string qn, .int .i64 qr, .int .i64 qo, .slice su ys.length capu])] (.slice sa zs.length cap) (.slice su ys.length capu) zs ys v1) ∧ RdB v1 x0 (chgL zs ys) ∧ RdB v1 y0 (chgL zs ys) ∧ RdS v1 x1 (rstL zs ys)) := ⟨F_0.out.1.later hv1, F_0.out.2.1.later hv1, F_0.out.2.2.later hv1, B0⟩
    clear hv1 F_0
    (try go_wp2_with (fail))
    refine hK.out _ _ ?_ (fun hHeld => ?_)
    · exact F_1.out.1
    clear hK K
    clear B0
    refine wpAnyH_ready (rs := [5]) (by kernel_rfl) (by simp) ?_
    refine AllReadyH.cons rfl (fun K hK => ?_) AllReadyH.nil
    go_simp
    refine (refRestarts_is pn pr po qn qr qo _ F_1.out.1.2.2.1 F_1.out.1.2.2.2 (by omega)).mono ?_
    rintro e v2 ⟨y1, rfl, B1, hv2⟩
    have F_2 : Hid ((KP w [(wb, [.int .i64 u1, .int .i64 u2, .int .i64 u3]), (w.heap.size, [.string pn, .int .i64 pr, .int .i64 po, .slice sa zs.length cap]), (w.heap.size + 1, [.string qn, .int .i64 qr, .int .i64 qo, .slice su ys.length capu])] (.slice sa zs.length cap) (.slice su ys.length capu) zs ys v2) ∧ RdB v2 x0 (chgL zs ys) ∧ RdB v2 y0 (chgL zs ys) ∧ RdS v2 x1 (rstL zs ys) ∧ RdS v2 y1 (rstL zs ys)) := ⟨F_1.out.1.later hv2, F_1.out.2.1.later hv2, F_1.out.2.2.1.later hv2, F_1.out.2.2.2.later hv2, B1⟩
    clear hv2 F_1
    (try go_wp2_with (fail))
    refine hK.out _ _ ?_ (fun hHeld => ?_)
    · exact F_2.out.1
    clear hK K
    clear B1
    refine wpAnyH_take (i := 6) (v := ?_) rfl (by kernel_rfl) (by kernel_rfl) (by kernel_rfl) (fun _ _ _ h => h) (Or.inl ⟨by rfl, ?_⟩) (by assumption) ?_
    rotate_left
    · (intro wS hSw; have v0 := (hSw.1.get 0 rfl).1 0 _ rfl; have v1 := (hSw.1.get 0 rfl).1 1 _ rfl; have v2 := (hSw.1.get 0 rfl).1 2 _ rfl; have p0 := (hSw.1.get 1 rfl).1 0 _ rfl; have p1 := (hSw.1.get 1 rfl).1 1 _ rfl; have p2 := (hSw.1.get 1 rfl).1 2 _ rfl; have p3 := (hSw.1.get 1 rfl).1 3 _ rfl; have q0 := (hSw.1.get 2 rfl).1 0 _ rfl; have q1 := (hSw.1.get 2 rfl).1 1 _ rfl; have q2 := (hSw.1.get 2 rfl).1 2 _ rfl; have q3 := (hSw.1.get 2 rfl).1 3 _ rfl; go_simp; try with_reducible rfl)
    change wpAnyH _ _ _ _ _ _ _ (Act.put _ (some 15) _) _
    simp only [Act.put, List.setIfInBounds_toArray, List.set_cons_zero, List.set_cons_succ]
    refine wpAnyH_take (i := 7) (v := ?_) rfl (by kernel_rfl) (by kernel_rfl) (by kernel_rfl) (fun _ _ _ h => h) (Or.inl ⟨by rfl, ?_⟩) (by assumption) ?_
    rotate_left
    · (intro wS hSw; have v0 := (hSw.1.get 0 rfl).1 0 _ rfl; have v1 := (hSw.1.get 0 rfl).1 1 _ rfl; have v2 := (hSw.1.get 0 rfl).1 2 _ rfl; have p0 := (hSw.1.get 1 rfl).1 0 _ rfl; have p1 := (hSw.1.get 1 rfl).1 1 _ rfl; have p2 := (hSw.1.get 1 rfl).1 2 _ rfl; have p3 := (hSw.1.get 1 rfl).1 3 _ rfl; have q0 := (hSw.1.get 2 rfl).1 0 _ rfl; have q1 := (hSw.1.get 2 rfl).1 1 _ rfl; have q2 := (hSw.1.get 2 rfl).1 2 _ rfl; have q3 := (hSw.1.get 2 rfl).1 3 _ rfl; go_simp; try with_reducible rfl)
    change wpAnyH _ _ _ _ _ _ _ (Act.put _ (some 16) _) _
    simp only [Act.put, List.setIfInBounds_toArray, List.set_cons_zero, List.set_cons_succ]
    refine wpAnyH_done (by kernel_rfl) ?_ _
    refine NoPanic.normal ?_
    have K11 := F_2
    clear F_2 K10
    obtain ⟨bs, hbs⟩ : ∃ b, chgL zs ys = b := ⟨_, rfl⟩
    obtain ⟨ss, hss⟩ : ∃ b, rstL zs ys = b := ⟨_, rfl⟩
    rw [hbs, hss] at K11
    have HB0 := K11.out.1.1.2
    obtain ⟨w8, hw8⟩ : ∃ W, W = v2 := ⟨_, rfl⟩
    rw [← hw8] at K11 HB0 ⊢
    clear hw8
    have XX : Hid (RdB w8 x0 bs) := K11.out.2.1
    have YY : Hid (RdB w8 y0 bs) := K11.out.2.2.1
    have XS : Hid (RdS w8 x1 ss) := K11.out.2.2.2.1
    have YS : Hid (RdS w8 y1 ss) := K11.out.2.2.2.2
    clear K11 hbs hss
    obtain ⟨ax, cx, rfl, ex1, ex2, ex3⟩ := XX.out
    obtain ⟨ay, cy, rfl, ey1, ey2, ey3⟩ := YY.out
    obtain ⟨aS, cS, rfl, es1, es2, es3⟩ := XS.out
    obtain ⟨aT, cT, rfl, et1, et2, et3⟩ := YS.out
    have EX : Hid (∀ (j : Nat) (d : Bool × Bool × Bool), bs[j]? = some d → ∃ b off : Nat, ax = some ⟨b, off, none⟩ ∧ w8.cell? ⟨b, off + j * 3, none⟩ = some (.bool d.1) ∧ w8.cell? ⟨b, off + j * 3 + 1, none⟩ = some (.bool d.2.1) ∧ w8.cell? ⟨b, off + j * 3 + 2, none⟩ = some (.bool d.2.2)) := ex3
    have EY : Hid (∀ (j : Nat) (d : Bool × Bool × Bool), bs[j]? = some d → ∃ b off : Nat, ay = some ⟨b, off, none⟩ ∧ w8.cell? ⟨b, off + j * 3, none⟩ = some (.bool d.1) ∧ w8.cell? ⟨b, off + j * 3 + 1, none⟩ = some (.bool d.2.1) ∧ w8.cell? ⟨b, off + j * 3 + 2, none⟩ = some (.bool d.2.2)) := ey3
    have ES : Hid (∀ (j : Nat) (s : ByteArray), ss[j]? = some s → ∃ b off : Nat, aS = some ⟨b, off, none⟩ ∧ w8.cell? ⟨b, off + j, none⟩ = some (.string s)) := es3
    have ET : Hid (∀ (j : Nat) (s : ByteArray), ss[j]? = some s → ∃ b off : Nat, aT = some ⟨b, off, none⟩ ∧ w8.cell? ⟨b, off + j, none⟩ = some (.string s)) := et3
    clear ex3 ey3 es3 et3 XX YY XS YS
    have bl : bs.length ≤ 9223372036854775807 := by unfold maxLen at ex2; omega
    have sl : ss.length ≤ 9223372036854775807 := by unfold maxLen at es2; omega
    go_wp2
    go_loopw [116] (fun f wr => ∃ j : Nat, f = .int .i64 j ∧ j ≤ bs.length ∧ Hid (Below w8.heap.size w8 wr) ∧ Below w.heap.size w wr) (fun f _ => bs.length - (intOf f).toNat)
    case atStart => exact ⟨0, rfl, by omega, Below.refl _ _, HB0⟩
    case round =>
      clear HB0
      obtain ⟨j, rfl, jl, B8, HB⟩ := hrel
      by_cases cj : j < bs.length
      · obtain ⟨⟨e0, e1, e2⟩, hdj⟩ : ∃ d, bs[j]? = some d := ⟨bs[j], List.getElem?_eq_getElem cj⟩
        obtain ⟨b1, off1, rfl, g0, g1, g2⟩ := EX.out j _ hdj
        obtain ⟨b2, off2, rfl, d0, d1, d2⟩ := EY.out j _ hdj
        have g0 := cell_later B8.out g0
        have g1 := cell_later B8.out g1
        have g2 := cell_later B8.out g2
        have d0 := cell_later B8.out d0
        have d1 := cell_later B8.out d1
        have d2 := cell_later B8.out d2
        simp only at g0 g1 g2 d0 d1 d2
        have j0 : (0 : Int) ≤ (j : Int) := by omega
        have j1 : (j : Int) < (bs.length : Int) := by omega
        have sm := fff_same e0 e1 e2
        clear hdj
        go_wp2_with (fail)
        go_quiet (fail)
        clear g0 g1 g2 d0 d1 d2 sm
        go_wp2
        go_roundw
        case rel => exact ⟨j + 1, by go_num, by omega, below_drewN B8.out _, below_drewN HB _⟩
        case measure => simp [intOf]; omega
      · obtain rfl : j = bs.length := by omega
        go_wp2
        go_loopw [131] (fun f wt => ∃ j : Nat, f = .int .i64 j ∧ j ≤ ss.length ∧ Hid (Below w8.heap.size w8 wt) ∧ Below w.heap.size w wt) (fun f _ => ss.length - (intOf f).toNat)
        case atStart => exact ⟨0, rfl, by omega, B8, HB⟩
        case round =>
          clear HB B8
          obtain ⟨i, rfl, il, B8, HB⟩ := hrel
          by_cases ci : i < ss.length
          · obtain ⟨s, hdi⟩ : ∃ d, ss[i]? = some d := ⟨ss[i], List.getElem?_eq_getElem ci⟩
            obtain ⟨b1, off1, rfl, g0⟩ := ES.out i _ hdi
            obtain ⟨b2, off2, rfl, d0⟩ := ET.out i _ hdi
            have g0 := cell_later B8.out g0
            have d0 := cell_later B8.out d0
            have i0 : (0 : Int) ≤ (i : Int) := by omega
            have i1 : (i : Int) < (ss.length : Int) := by omega
            clear hdi
            go_wp2_with (fail)
            go_quiet (fail)
            clear g0 d0
            go_wp2
            go_roundw
            case rel => exact ⟨i + 1, by go_num, by omega, below_drewN B8.out _, below_drewN HB _⟩
            case measure => simp [intOf]; omega
          · obtain rfl : i = ss.length := by omega
            go_wp2
            go_ret
            exact ⟨rfl, HB⟩
end Go.Proofs.YtfgbppngnafpoaaDoor.Sp
