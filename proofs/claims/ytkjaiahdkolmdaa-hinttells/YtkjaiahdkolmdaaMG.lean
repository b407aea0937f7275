/-
  The document's order of masks at this program. Conditions: none.
-/
import Derived.Test.YtkjaiahdkolmdaaME
import Derived.BigQuiet
namespace Go.Proofs.Ytkjaiahdkolmdaa.Mk
open Go.RowKit

theorem rof_v (m : Int) (w : World) : Calls Try.prog 13 #[.int .i64 m] w fun e w' => e = .returned (setV (low m)) ∧ Below w.heap.size w w' := rof_is m w
theorem rlen_is (b : Nat) (w : World) :
    Calls Try.prog 17 #[setV b] w fun e w' => ∃ a cap, e = .returned (.slice a (cnt b) cap) ∧ Below w.heap.size w w' :=
  (rnodes_is b w).mono fun e w' ⟨v, he, own, hb⟩ => by
    obtain ⟨a, cap, rfl⟩ := own_slice own
    exact ⟨a, cap, he, hb⟩

set_option maxHeartbeats 2000000 in
set_option maxRecDepth 100000 in
theorem rahead_is (a b : Int) (w : World) :
    Calls Try.prog 33 #[.int .i64 a, .int .i64 b] w fun e w' => e = .returned (.bool (aheadB (low a) (low b))) ∧ Below w.heap.size w w' := by
  obtain ⟨x, hx⟩ : ∃ x, x = low a := ⟨_, rfl⟩
  obtain ⟨y, hy⟩ : ∃ y, y = low b := ⟨_, rfl⟩
  have x8 : x < 256 := by rw [hx]; exact low_lt a
  have y8 : y < 256 := by rw [hy]; exact low_lt b
  have A1 : Hid (∀ w, Calls Try.prog 13 #[.int .i64 a] w fun e w' => e = .returned (setV x) ∧ Below w.heap.size w w') := fun w => by rw [hx]; exact rof_v a w
  have A2 : Hid (∀ w, Calls Try.prog 13 #[.int .i64 b] w fun e w' => e = .returned (setV y) ∧ Below w.heap.size w w') := fun w => by rw [hy]; exact rof_v b w
  have C1 : Hid (∀ w, Calls Try.prog 17 #[setV x] w fun e w' => ∃ a cap, e = .returned (.slice a (cnt x) cap) ∧ Below w.heap.size w w') := fun w => rlen_is x w
  have C2 : Hid (∀ w, Calls Try.prog 17 #[setV y] w fun e w' => ∃ a cap, e = .returned (.slice a (cnt y) cap) ∧ Below w.heap.size w w') := fun w => rlen_is y w
  have D1 : Hid (∀ w, Calls Try.prog 38 #[setV x] w fun e w' => e = .returned (.int .i64 x) ∧ Below w.heap.size w w') := fun w => rmask_is x x8 w
  have D2 : Hid (∀ w, Calls Try.prog 38 #[setV y] w fun e w' => e = .returned (.int .i64 y) ∧ Below w.heap.size w w') := fun w => rmask_is y y8 w
  obtain ⟨R, hR⟩ : ∃ R, R = aheadB x y := ⟨_, rfl⟩
  rw [← hx, ← hy, ← hR]
  have HR : Hid (R = aheadB x y) := hR
  unfold aheadB at HR
  clear hx hy hR x8 y8
  generalize cnt x = n at *
  generalize cnt y = k at *
  go_enter Try.func33, Try.ntmps33
  go_upto_region 1 with (fail)
  go_cut [5, 6] (fun s5 s6 wc => ∃ p q : Nat, s5 = .pointer (some ⟨p, 0, none⟩) ∧ s6 = .pointer (some ⟨q, 0, none⟩) ∧ Cs wc p (setL x) ∧ Cs wc q (setL y) ∧ Below w.heap.size w wc)
  case first =>
    clear C1 C2 D1 D2
    go_wp2_with (fail)
    refine (A1.out _).mono ?_
    rintro e w1 ⟨rfl, hw1⟩
    go_wp2_with (fail)
    refine (A2.out _).mono ?_
    rintro e w2 ⟨rfl, hw2⟩
    have HB2 : Below w.heap.size w w2 := hw1.trans (hw2.mono hw1.size)
    have hs := HB2.size
    clear A1 A2 hw1 hw2
    go_wp2_with (fail)
    go_meet
    case rel =>
      have q1 : Cs (w2.alloc (.cells #[.bool (tb x 0), .bool (tb x 1), .bool (tb x 2), .bool (tb x 3), .bool (tb x 4), .bool (tb x 5), .bool (tb x 6), .bool (tb x 7)] 39)) w2.heap.size (setL x) := Cs.new _ _ _ _ rfl
      have q2 : Cs ((w2.alloc (.cells #[.bool (tb x 0), .bool (tb x 1), .bool (tb x 2), .bool (tb x 3), .bool (tb x 4), .bool (tb x 5), .bool (tb x 6), .bool (tb x 7)] 39)).alloc (.cells #[.bool (tb y 0), .bool (tb y 1), .bool (tb y 2), .bool (tb y 3), .bool (tb y 4), .bool (tb y 5), .bool (tb y 6), .bool (tb y 7)] 39)) (w2.heap.size + 1) (setL y) := Cs.new _ _ _ _ (by simp)
      exact ⟨_, _, rfl, rfl, q1.alloc _, q2, by go_grown⟩
  case rest =>
    clear A1 A2
    obtain ⟨p, q, rfl, rfl, qp, qq, HB⟩ := hcut
    go_upto_region 2 with (fail)
    go_cut [5, 6, 7, 8] (fun s5 s6 s7 s8 wc => s5 = .pointer (some ⟨p, 0, none⟩) ∧ s6 = .pointer (some ⟨q, 0, none⟩) ∧ s7 = .int .i64 n ∧ s8 = .int .i64 k ∧ Cs wc p (setL x) ∧ Cs wc q (setL y) ∧ Below w.heap.size w wc)
    case first =>
      clear D1 D2 HR
      have F_0 : Hid (Cs _ p (setL x) ∧ Cs _ q (setL y) ∧ Below w.heap.size w _) := ⟨Cs.drew qp, Cs.drew qq, Below.drew HB⟩
      refine wp_region_noPanic ?_
      refine wp_region_held_drew (S := fun w' => Cs w' p (setL x) ∧ Cs w' q (setL y)) (by kernel_rfl) ?_ (fun hHeld => ?_)
      · exact ⟨F_0.out.1, F_0.out.2.1⟩
      refine wpAnyH_take (i := 0) (v := ?_) rfl (by kernel_rfl) (by kernel_rfl) (by kernel_rfl) (fun _ _ _ h => h) (Or.inl ⟨by rfl, ?_⟩) (by assumption) ?_
      rotate_left
      · (intro wS hSw; have p0 := hSw.1.1 0 _ rfl; have p1 := hSw.1.1 1 _ rfl; have p2 := hSw.1.1 2 _ rfl; have p3 := hSw.1.1 3 _ rfl; have p4 := hSw.1.1 4 _ rfl; have p5 := hSw.1.1 5 _ rfl; have p6 := hSw.1.1 6 _ rfl; have p7 := hSw.1.1 7 _ rfl; have q0 := hSw.2.1 0 _ rfl; have q1 := hSw.2.1 1 _ rfl; have q2 := hSw.2.1 2 _ rfl; have q3 := hSw.2.1 3 _ rfl; have q4 := hSw.2.1 4 _ rfl; have q5 := hSw.2.1 5 _ rfl; have q6 := hSw.2.1 6 _ rfl; have q7 := hSw.2.1 7 _ rfl; go_simp; try with_reducible rfl)
      change wpAnyH _ _ _ _ _ _ _ (Act.put _ (some 13) _) _
      simp only [Act.put, List.setIfInBounds_toArray, List.set_cons_zero, List.set_cons_succ]
      refine wpAnyH_take (i := 3) (v := ?_) rfl (by kernel_rfl) (by kernel_rfl) (by kernel_rfl) (fun _ _ _ h => h) (Or.inl ⟨by rfl, ?_⟩) (by assumption) ?_
      rotate_left
      · (intro wS hSw; have p0 := hSw.1.1 0 _ rfl; have p1 := hSw.1.1 1 _ rfl; have p2 := hSw.1.1 2 _ rfl; have p3 := hSw.1.1 3 _ rfl; have p4 := hSw.1.1 4 _ rfl; have p5 := hSw.1.1 5 _ rfl; have p6 := hSw.1.1 6 _ rfl; have p7 := hSw.1.1 7 _ rfl; have q0 := hSw.2.1 0 _ rfl; have q1 := hSw.2.1 1 _ rfl; have q2 := hSw.2.1 2 _ rfl; have q3 := hSw.2.1 3 _ rfl; have q4 := hSw.2.1 4 _ rfl; have q5 := hSw.2.1 5 _ rfl; have q6 := hSw.2.1 6 _ rfl; have q7 := hSw.2.1 7 _ rfl; go_simp; try with_reducible rfl)
      change wpAnyH _ _ _ _ _ _ _ (Act.put _ (some 16) _) _
      simp only [Act.put, List.setIfInBounds_toArray, List.set_cons_zero, List.set_cons_succ]
      refine wpAnyH_ready (rs := [1]) (by kernel_rfl) (by simp) ?_
      refine AllReadyH.cons rfl (fun K hK => ?_) AllReadyH.nil
      go_simp
      refine (C1.out _).mono ?_
      rintro e v1 ⟨a1, c1, rfl, hv1⟩
      have F_1 : Hid (Cs v1 p (setL x) ∧ Cs v1 q (setL y) ∧ Below w.heap.size w v1) := ⟨Cs.later hv1 F_0.out.1, Cs.later hv1 F_0.out.2.1, F_0.out.2.2.trans (hv1.mono F_0.out.2.2.size)⟩
      clear hv1 F_0
      (try go_wp2_with (fail))
      refine hK.out _ _ ?_ (fun hHeld => ?_)
      · exact ⟨F_1.out.1, F_1.out.2.1⟩
      clear hK K
      refine wpAnyH_take (i := 2) (v := ?_) rfl (by kernel_rfl) (by kernel_rfl) (by kernel_rfl) (fun _ _ _ h => h) (Or.inl ⟨by rfl, ?_⟩) (by assumption) ?_
      rotate_left
      · (intro wS hSw; have p0 := hSw.1.1 0 _ rfl; have p1 := hSw.1.1 1 _ rfl; have p2 := hSw.1.1 2 _ rfl; have p3 := hSw.1.1 3 _ rfl; have p4 := hSw.1.1 4 _ rfl; have p5 := hSw.1.1 5 _ rfl; have p6 := hSw.1.1 6 _ rfl; have p7 := hSw.1.1 7 _ rfl; have q0 := hSw.2.1 0 _ rfl; have q1 := hSw.2.1 1 _ rfl; have q2 := hSw.2.1 2 _ rfl; have q3 := hSw.2.1 3 _ rfl; have q4 := hSw.2.1 4 _ rfl; have q5 := hSw.2.1 5 _ rfl; have q6 := hSw.2.1 6 _ rfl; have q7 := hSw.2.1 7 _ rfl; go_simp; try with_reducible rfl)
      change wpAnyH _ _ _ _ _ _ _ (Act.put _ (some 15) _) _
      simp only [Act.put, List.setIfInBounds_toArray, List.set_cons_zero, List.set_cons_succ]
      refine wpAnyH_ready (rs := [4]) (by kernel_rfl) (by simp) ?_
      refine AllReadyH.cons rfl (fun K hK => ?_) AllReadyH.nil
      go_simp
      refine (C2.out _).mono ?_
      rintro e v2 ⟨a2, c2, rfl, hv2⟩
      have F_2 : Hid (Cs v2 p (setL x) ∧ Cs v2 q (setL y) ∧ Below w.heap.size w v2) := ⟨Cs.later hv2 F_1.out.1, Cs.later hv2 F_1.out.2.1, F_1.out.2.2.trans (hv2.mono F_1.out.2.2.size)⟩
      clear hv2 F_1
      (try go_wp2_with (fail))
      refine hK.out _ _ ?_ (fun hHeld => ?_)
      · exact ⟨F_2.out.1, F_2.out.2.1⟩
      clear hK K
      refine wpAnyH_take (i := 5) (v := ?_) rfl (by kernel_rfl) (by kernel_rfl) (by kernel_rfl) (fun _ _ _ h => h) (Or.inl ⟨by rfl, ?_⟩) (by assumption) ?_
      rotate_left
      · (intro wS hSw; have p0 := hSw.1.1 0 _ rfl; have p1 := hSw.1.1 1 _ rfl; have p2 := hSw.1.1 2 _ rfl; have p3 := hSw.1.1 3 _ rfl; have p4 := hSw.1.1 4 _ rfl; have p5 := hSw.1.1 5 _ rfl; have p6 := hSw.1.1 6 _ rfl; have p7 := hSw.1.1 7 _ rfl; have q0 := hSw.2.1 0 _ rfl; have q1 := hSw.2.1 1 _ rfl; have q2 := hSw.2.1 2 _ rfl; have q3 := hSw.2.1 3 _ rfl; have q4 := hSw.2.1 4 _ rfl; have q5 := hSw.2.1 5 _ rfl; have q6 := hSw.2.1 6 _ rfl; have q7 := hSw.2.1 7 _ rfl; go_simp; try with_reducible rfl)
      change wpAnyH _ _ _ _ _ _ _ (Act.put _ (some 18) _) _
      simp only [Act.put, List.setIfInBounds_toArray, List.set_cons_zero, List.set_cons_succ]
      refine wpAnyH_take (i := 6) (v := ?_) rfl (by kernel_rfl) (by kernel_rfl) (by kernel_rfl) (fun _ _ _ h => h) (Or.inl ⟨by rfl, ?_⟩) (by assumption) ?_
      rotate_left
      · (intro wS hSw; have p0 := hSw.1.1 0 _ rfl; have p1 := hSw.1.1 1 _ rfl; have p2 := hSw.1.1 2 _ rfl; have p3 := hSw.1.1 3 _ rfl; have p4 := hSw.1.1 4 _ rfl; have p5 := hSw.1.1 5 _ rfl; have p6 := hSw.1.1 6 _ rfl; have p7 := hSw.1.1 7 _ rfl; have q0 := hSw.2.1 0 _ rfl; have q1 := hSw.2.1 1 _ rfl; have q2 := hSw.2.1 2 _ rfl; have q3 := hSw.2.1 3 _ rfl; have q4 := hSw.2.1 4 _ rfl; have q5 := hSw.2.1 5 _ rfl; have q6 := hSw.2.1 6 _ rfl; have q7 := hSw.2.1 7 _ rfl; go_simp; try with_reducible rfl)
      change wpAnyH _ _ _ _ _ _ _ (Act.put _ (some 7) _) _
      simp only [Act.put, List.setIfInBounds_toArray, List.set_cons_zero, List.set_cons_succ]
      refine wpAnyH_take (i := 7) (v := ?_) rfl (by kernel_rfl) (by kernel_rfl) (by kernel_rfl) (fun _ _ _ h => h) (Or.inl ⟨by rfl, ?_⟩) (by assumption) ?_
      rotate_left
      · (intro wS hSw; have p0 := hSw.1.1 0 _ rfl; have p1 := hSw.1.1 1 _ rfl; have p2 := hSw.1.1 2 _ rfl; have p3 := hSw.1.1 3 _ rfl; have p4 := hSw.1.1 4 _ rfl; have p5 := hSw.1.1 5 _ rfl; have p6 := hSw.1.1 6 _ rfl; have p7 := hSw.1.1 7 _ rfl; have q0 := hSw.2.1 0 _ rfl; have q1 := hSw.2.1 1 _ rfl; have q2 := hSw.2.1 2 _ rfl; have q3 := hSw.2.1 3 _ rfl; have q4 := hSw.2.1 4 _ rfl; have q5 := hSw.2.1 5 _ rfl; have q6 := hSw.2.1 6 _ rfl; have q7 := hSw.2.1 7 _ rfl; go_simp; try with_reducible rfl)
      change wpAnyH _ _ _ _ _ _ _ (Act.put _ (some 8) _) _
      simp only [Act.put, List.setIfInBounds_toArray, List.set_cons_zero, List.set_cons_succ]
      refine wpAnyH_done (by kernel_rfl) ?_ _
      refine NoPanic.normal ?_
      have F9 := F_2.out
      go_wp2_with (fail)
      go_meet
      case rel => exact ⟨rfl, rfl, rfl, rfl, F9.1, F9.2.1, F9.2.2⟩
    case rest =>
      clear C1 C2 qp qq HB
      obtain ⟨rfl, rfl, rfl, rfl, qp, qq, HB⟩ := hcut
      rcases Nat.lt_trichotomy n k with h | h | h
      · have X : Hid (R = true) := by unfold Hid; rw [HR.out, if_neg (by omega), decide_eq_true h]
        have h1 : (n : Int) < (k : Int) := by omega
        clear HR h D1 D2
        go_upto_region 3 with (fail)
        have F_0 : Hid (Cs _ p (setL x) ∧ Cs _ q (setL y) ∧ Below w.heap.size w _) := ⟨Cs.drew qp, Cs.drew qq, Below.drew HB⟩
        refine wp_region_noPanic ?_
        refine wp_region_held_drew (S := fun w' => Cs w' p (setL x) ∧ Cs w' q (setL y)) (by kernel_rfl) ?_ (fun hHeld => ?_)
        · exact ⟨F_0.out.1, F_0.out.2.1⟩
        refine wpAnyH_take (i := 0) (v := ?_) rfl (by kernel_rfl) (by kernel_rfl) (by kernel_rfl) (fun _ _ _ h => h) (Or.inl ⟨by rfl, ?_⟩) (by assumption) ?_
        rotate_left
        · (intro wS hSw; have p0 := hSw.1.1 0 _ rfl; have p1 := hSw.1.1 1 _ rfl; have p2 := hSw.1.1 2 _ rfl; have p3 := hSw.1.1 3 _ rfl; have p4 := hSw.1.1 4 _ rfl; have p5 := hSw.1.1 5 _ rfl; have p6 := hSw.1.1 6 _ rfl; have p7 := hSw.1.1 7 _ rfl; have q0 := hSw.2.1 0 _ rfl; have q1 := hSw.2.1 1 _ rfl; have q2 := hSw.2.1 2 _ rfl; have q3 := hSw.2.1 3 _ rfl; have q4 := hSw.2.1 4 _ rfl; have q5 := hSw.2.1 5 _ rfl; have q6 := hSw.2.1 6 _ rfl; have q7 := hSw.2.1 7 _ rfl; go_simp; try with_reducible rfl)
        change wpAnyH _ _ _ _ _ _ _ (Act.put _ (some 19) _) _
        simp only [Act.put, List.setIfInBounds_toArray, List.set_cons_zero, List.set_cons_succ]
        refine wpAnyH_take (i := 1) (v := ?_) rfl (by kernel_rfl) (by kernel_rfl) (by kernel_rfl) (fun _ _ _ h => h) (Or.inl ⟨by rfl, ?_⟩) (by assumption) ?_
        rotate_left
        · (intro wS hSw; have p0 := hSw.1.1 0 _ rfl; have p1 := hSw.1.1 1 _ rfl; have p2 := hSw.1.1 2 _ rfl; have p3 := hSw.1.1 3 _ rfl; have p4 := hSw.1.1 4 _ rfl; have p5 := hSw.1.1 5 _ rfl; have p6 := hSw.1.1 6 _ rfl; have p7 := hSw.1.1 7 _ rfl; have q0 := hSw.2.1 0 _ rfl; have q1 := hSw.2.1 1 _ rfl; have q2 := hSw.2.1 2 _ rfl; have q3 := hSw.2.1 3 _ rfl; have q4 := hSw.2.1 4 _ rfl; have q5 := hSw.2.1 5 _ rfl; have q6 := hSw.2.1 6 _ rfl; have q7 := hSw.2.1 7 _ rfl; go_simp; try with_reducible rfl)
        change wpAnyH _ _ _ _ _ _ _ (Act.put _ (some 20) _) _
        simp only [Act.put, List.setIfInBounds_toArray, List.set_cons_zero, List.set_cons_succ]
        refine wpAnyH_take (i := 2) (v := ?_) rfl (by kernel_rfl) (by kernel_rfl) (by kernel_rfl) (fun _ _ _ h => h) (Or.inl ⟨by rfl, ?_⟩) (by assumption) ?_
        rotate_left
        · (intro wS hSw; have p0 := hSw.1.1 0 _ rfl; have p1 := hSw.1.1 1 _ rfl; have p2 := hSw.1.1 2 _ rfl; have p3 := hSw.1.1 3 _ rfl; have p4 := hSw.1.1 4 _ rfl; have p5 := hSw.1.1 5 _ rfl; have p6 := hSw.1.1 6 _ rfl; have p7 := hSw.1.1 7 _ rfl; have q0 := hSw.2.1 0 _ rfl; have q1 := hSw.2.1 1 _ rfl; have q2 := hSw.2.1 2 _ rfl; have q3 := hSw.2.1 3 _ rfl; have q4 := hSw.2.1 4 _ rfl; have q5 := hSw.2.1 5 _ rfl; have q6 := hSw.2.1 6 _ rfl; have q7 := hSw.2.1 7 _ rfl; go_simp; try with_reducible rfl)
        change wpAnyH _ _ _ _ _ _ _ (Act.put _ (some 21) _) _
        simp only [Act.put, List.setIfInBounds_toArray, List.set_cons_zero, List.set_cons_succ]
        refine wpAnyH_take (i := 3) (v := ?_) rfl (by kernel_rfl) (by kernel_rfl) (by kernel_rfl) (fun _ _ _ h => h) (Or.inl ⟨by rfl, ?_⟩) (by assumption) ?_
        rotate_left
        · (intro wS hSw; have p0 := hSw.1.1 0 _ rfl; have p1 := hSw.1.1 1 _ rfl; have p2 := hSw.1.1 2 _ rfl; have p3 := hSw.1.1 3 _ rfl; have p4 := hSw.1.1 4 _ rfl; have p5 := hSw.1.1 5 _ rfl; have p6 := hSw.1.1 6 _ rfl; have p7 := hSw.1.1 7 _ rfl; have q0 := hSw.2.1 0 _ rfl; have q1 := hSw.2.1 1 _ rfl; have q2 := hSw.2.1 2 _ rfl; have q3 := hSw.2.1 3 _ rfl; have q4 := hSw.2.1 4 _ rfl; have q5 := hSw.2.1 5 _ rfl; have q6 := hSw.2.1 6 _ rfl; have q7 := hSw.2.1 7 _ rfl; go_simp; try with_reducible rfl)
        change wpAnyH _ _ _ _ _ _ _ (Act.put _ (some 22) _) _
        simp only [Act.put, List.setIfInBounds_toArray, List.set_cons_zero, List.set_cons_succ]
        refine wpAnyH_take (i := 4) (v := undef) rfl (by kernel_rfl) (by kernel_rfl) (by kernel_rfl) (fun _ _ _ h => h) (Or.inr ⟨by rfl, rfl⟩) (by assumption) ?_
        change wpAnyH _ _ _ _ _ _ _ (Act.put _ (some 23) _) _
        simp only [Act.put, List.setIfInBounds_toArray, List.set_cons_zero, List.set_cons_succ]
        refine wpAnyH_take (i := 5) (v := undef) rfl (by kernel_rfl) (by kernel_rfl) (by kernel_rfl) (fun _ _ _ h => h) (Or.inr ⟨by rfl, rfl⟩) (by assumption) ?_
        change wpAnyH _ _ _ _ _ _ _ (Act.put _ (some 24) _) _
        simp only [Act.put, List.setIfInBounds_toArray, List.set_cons_zero, List.set_cons_succ]
        refine wpAnyH_take (i := 6) (v := undef) rfl (by kernel_rfl) (by kernel_rfl) (by kernel_rfl) (fun _ _ _ h => h) (Or.inr ⟨by rfl, rfl⟩) (by assumption) ?_
        change wpAnyH _ _ _ _ _ _ _ (Act.put _ (some 25) _) _
        simp only [Act.put, List.setIfInBounds_toArray, List.set_cons_zero, List.set_cons_succ]
        refine wpAnyH_take (i := 7) (v := undef) rfl (by kernel_rfl) (by kernel_rfl) (by kernel_rfl) (fun _ _ _ h => h) (Or.inr ⟨by rfl, rfl⟩) (by assumption) ?_
        change wpAnyH _ _ _ _ _ _ _ (Act.put _ (some 26) _) _
        simp only [Act.put, List.setIfInBounds_toArray, List.set_cons_zero, List.set_cons_succ]
        refine wpAnyH_take (i := 8) (v := undef) rfl (by kernel_rfl) (by kernel_rfl) (by kernel_rfl) (fun _ _ _ h => h) (Or.inr ⟨by rfl, rfl⟩) (by assumption) ?_
        change wpAnyH _ _ _ _ _ _ _ (Act.put _ (some 27) _) _
        simp only [Act.put, List.setIfInBounds_toArray, List.set_cons_zero, List.set_cons_succ]
        refine wpAnyH_take (i := 9) (v := undef) rfl (by kernel_rfl) (by kernel_rfl) (by kernel_rfl) (fun _ _ _ h => h) (Or.inr ⟨by rfl, rfl⟩) (by assumption) ?_
        change wpAnyH _ _ _ _ _ _ _ (Act.put _ (some 28) _) _
        simp only [Act.put, List.setIfInBounds_toArray, List.set_cons_zero, List.set_cons_succ]
        refine wpAnyH_take (i := 10) (v := undef) rfl (by kernel_rfl) (by kernel_rfl) (by kernel_rfl) (fun _ _ _ h => h) (Or.inr ⟨by rfl, rfl⟩) (by assumption) ?_
        change wpAnyH _ _ _ _ _ _ _ (Act.put _ (some 29) _) _
        simp only [Act.put, List.setIfInBounds_toArray, List.set_cons_zero, List.set_cons_succ]
        refine wpAnyH_take (i := 11) (v := undef) rfl (by kernel_rfl) (by kernel_rfl) (by kernel_rfl) (fun _ _ _ h => h) (Or.inr ⟨by rfl, rfl⟩) (by assumption) ?_
        change wpAnyH _ _ _ _ _ _ _ (Act.put _ (some 30) _) _
        simp only [Act.put, List.setIfInBounds_toArray, List.set_cons_zero, List.set_cons_succ]
        refine wpAnyH_take (i := 12) (v := undef) rfl (by kernel_rfl) (by kernel_rfl) (by kernel_rfl) (fun _ _ _ h => h) (Or.inr ⟨by rfl, rfl⟩) (by assumption) ?_
        change wpAnyH _ _ _ _ _ _ _ (Act.put _ (some 31) _) _
        simp only [Act.put, List.setIfInBounds_toArray, List.set_cons_zero, List.set_cons_succ]
        refine wpAnyH_take (i := 13) (v := undef) rfl (by kernel_rfl) (by kernel_rfl) (by kernel_rfl) (fun _ _ _ h => h) (Or.inr ⟨by rfl, rfl⟩) (by assumption) ?_
        change wpAnyH _ _ _ _ _ _ _ (Act.put _ (some 32) _) _
        simp only [Act.put, List.setIfInBounds_toArray, List.set_cons_zero, List.set_cons_succ]
        refine wpAnyH_take (i := 14) (v := ?_) rfl (by kernel_rfl) (by kernel_rfl) (by kernel_rfl) (fun _ _ _ h => h) (Or.inl ⟨by rfl, ?_⟩) (by assumption) ?_
        rotate_left
        · (intro wS hSw; have p0 := hSw.1.1 0 _ rfl; have p1 := hSw.1.1 1 _ rfl; have p2 := hSw.1.1 2 _ rfl; have p3 := hSw.1.1 3 _ rfl; have p4 := hSw.1.1 4 _ rfl; have p5 := hSw.1.1 5 _ rfl; have p6 := hSw.1.1 6 _ rfl; have p7 := hSw.1.1 7 _ rfl; have q0 := hSw.2.1 0 _ rfl; have q1 := hSw.2.1 1 _ rfl; have q2 := hSw.2.1 2 _ rfl; have q3 := hSw.2.1 3 _ rfl; have q4 := hSw.2.1 4 _ rfl; have q5 := hSw.2.1 5 _ rfl; have q6 := hSw.2.1 6 _ rfl; have q7 := hSw.2.1 7 _ rfl; go_simp; try with_reducible rfl)
        change wpAnyH _ _ _ _ _ _ _ (Act.put _ (some 33) _) _
        simp only [Act.put, List.setIfInBounds_toArray, List.set_cons_zero, List.set_cons_succ]
        refine wpAnyH_take (i := 15) (v := ?_) rfl (by kernel_rfl) (by kernel_rfl) (by kernel_rfl) (fun _ _ _ h => h) (Or.inl ⟨by rfl, ?_⟩) (by assumption) ?_
        rotate_left
        · (intro wS hSw; have p0 := hSw.1.1 0 _ rfl; have p1 := hSw.1.1 1 _ rfl; have p2 := hSw.1.1 2 _ rfl; have p3 := hSw.1.1 3 _ rfl; have p4 := hSw.1.1 4 _ rfl; have p5 := hSw.1.1 5 _ rfl; have p6 := hSw.1.1 6 _ rfl; have p7 := hSw.1.1 7 _ rfl; have q0 := hSw.2.1 0 _ rfl; have q1 := hSw.2.1 1 _ rfl; have q2 := hSw.2.1 2 _ rfl; have q3 := hSw.2.1 3 _ rfl; have q4 := hSw.2.1 4 _ rfl; have q5 := hSw.2.1 5 _ rfl; have q6 := hSw.2.1 6 _ rfl; have q7 := hSw.2.1 7 _ rfl; go_simp; try with_reducible rfl)
        change wpAnyH _ _ _ _ _ _ _ (Act.put _ (some 4) _) _
        simp only [Act.put, List.setIfInBounds_toArray, List.set_cons_zero, List.set_cons_succ]
        refine wpAnyH_done (by kernel_rfl) ?_ _
        refine NoPanic.normal ?_
        have F9 := F_0.out.2.2
        go_wp2_with (fail)
        go_ret
        exact ⟨by rw [X.out]; rfl, F9⟩
      · subst h
        have X : Hid (R = decide (x < y)) := by unfold Hid; rw [HR.out, if_pos rfl]
        have h1 : ¬ (n : Int) < (n : Int) := by omega
        clear HR
        go_upto_region 3 with (fail)
        have F_0 : Hid (Cs _ p (setL x) ∧ Cs _ q (setL y) ∧ Below w.heap.size w _) := ⟨Cs.drew qp, Cs.drew qq, Below.drew HB⟩
        refine wp_region_noPanic ?_
        refine wp_region_held_drew (S := fun w' => Cs w' p (setL x) ∧ Cs w' q (setL y)) (by kernel_rfl) ?_ (fun hHeld => ?_)
        · exact ⟨F_0.out.1, F_0.out.2.1⟩
        refine wpAnyH_take (i := 0) (v := ?_) rfl (by kernel_rfl) (by kernel_rfl) (by kernel_rfl) (fun _ _ _ h => h) (Or.inl ⟨by rfl, ?_⟩) (by assumption) ?_
        rotate_left
        · (intro wS hSw; have p0 := hSw.1.1 0 _ rfl; have p1 := hSw.1.1 1 _ rfl; have p2 := hSw.1.1 2 _ rfl; have p3 := hSw.1.1 3 _ rfl; have p4 := hSw.1.1 4 _ rfl; have p5 := hSw.1.1 5 _ rfl; have p6 := hSw.1.1 6 _ rfl; have p7 := hSw.1.1 7 _ rfl; have q0 := hSw.2.1 0 _ rfl; have q1 := hSw.2.1 1 _ rfl; have q2 := hSw.2.1 2 _ rfl; have q3 := hSw.2.1 3 _ rfl; have q4 := hSw.2.1 4 _ rfl; have q5 := hSw.2.1 5 _ rfl; have q6 := hSw.2.1 6 _ rfl; have q7 := hSw.2.1 7 _ rfl; go_simp; try with_reducible rfl)
        change wpAnyH _ _ _ _ _ _ _ (Act.put _ (some 19) _) _
        simp only [Act.put, List.setIfInBounds_toArray, List.set_cons_zero, List.set_cons_succ]
        refine wpAnyH_take (i := 1) (v := ?_) rfl (by kernel_rfl) (by kernel_rfl) (by kernel_rfl) (fun _ _ _ h => h) (Or.inl ⟨by rfl, ?_⟩) (by assumption) ?_
        rotate_left
        · (intro wS hSw; have p0 := hSw.1.1 0 _ rfl; have p1 := hSw.1.1 1 _ rfl; have p2 := hSw.1.1 2 _ rfl; have p3 := hSw.1.1 3 _ rfl; have p4 := hSw.1.1 4 _ rfl; have p5 := hSw.1.1 5 _ rfl; have p6 := hSw.1.1 6 _ rfl; have p7 := hSw.1.1 7 _ rfl; have q0 := hSw.2.1 0 _ rfl; have q1 := hSw.2.1 1 _ rfl; have q2 := hSw.2.1 2 _ rfl; have q3 := hSw.2.1 3 _ rfl; have q4 := hSw.2.1 4 _ rfl; have q5 := hSw.2.1 5 _ rfl; have q6 := hSw.2.1 6 _ rfl; have q7 := hSw.2.1 7 _ rfl; go_simp; try with_reducible rfl)
        change wpAnyH _ _ _ _ _ _ _ (Act.put _ (some 20) _) _
        simp only [Act.put, List.setIfInBounds_toArray, List.set_cons_zero, List.set_cons_succ]
        refine wpAnyH_take (i := 2) (v := ?_) rfl (by kernel_rfl) (by kernel_rfl) (by kernel_rfl) (fun _ _ _ h => h) (Or.inl ⟨by rfl, ?_⟩) (by assumption) ?_
        rotate_left
        · (intro wS hSw; have p0 := hSw.1.1 0 _ rfl; have p1 := hSw.1.1 1 _ rfl; have p2 := hSw.1.1 2 _ rfl; have p3 := hSw.1.1 3 _ rfl; have p4 := hSw.1.1 4 _ rfl; have p5 := hSw.1.1 5 _ rfl; have p6 := hSw.1.1 6 _ rfl; have p7 := hSw.1.1 7 _ rfl; have q0 := hSw.2.1 0 _ rfl; have q1 := hSw.2.1 1 _ rfl; have q2 := hSw.2.1 2 _ rfl; have q3 := hSw.2.1 3 _ rfl; have q4 := hSw.2.1 4 _ rfl; have q5 := hSw.2.1 5 _ rfl; have q6 := hSw.2.1 6 _ rfl; have q7 := hSw.2.1 7 _ rfl; go_simp; try with_reducible rfl)
        change wpAnyH _ _ _ _ _ _ _ (Act.put _ (some 21) _) _
        simp only [Act.put, List.setIfInBounds_toArray, List.set_cons_zero, List.set_cons_succ]
        refine wpAnyH_take (i := 3) (v := ?_) rfl (by kernel_rfl) (by kernel_rfl) (by kernel_rfl) (fun _ _ _ h => h) (Or.inl ⟨by rfl, ?_⟩) (by assumption) ?_
        rotate_left
        · (intro wS hSw; have p0 := hSw.1.1 0 _ rfl; have p1 := hSw.1.1 1 _ rfl; have p2 := hSw.1.1 2 _ rfl; have p3 := hSw.1.1 3 _ rfl; have p4 := hSw.1.1 4 _ rfl; have p5 := hSw.1.1 5 _ rfl; have p6 := hSw.1.1 6 _ rfl; have p7 := hSw.1.1 7 _ rfl; have q0 := hSw.2.1 0 _ rfl; have q1 := hSw.2.1 1 _ rfl; have q2 := hSw.2.1 2 _ rfl; have q3 := hSw.2.1 3 _ rfl; have q4 := hSw.2.1 4 _ rfl; have q5 := hSw.2.1 5 _ rfl; have q6 := hSw.2.1 6 _ rfl; have q7 := hSw.2.1 7 _ rfl; go_simp; try with_reducible rfl)
        change wpAnyH _ _ _ _ _ _ _ (Act.put _ (some 22) _) _
        simp only [Act.put, List.setIfInBounds_toArray, List.set_cons_zero, List.set_cons_succ]
        refine wpAnyH_take (i := 4) (v := ?_) rfl (by kernel_rfl) (by kernel_rfl) (by kernel_rfl) (fun _ _ _ h => h) (Or.inl ⟨by rfl, ?_⟩) (by assumption) ?_
        rotate_left
        · (intro wS hSw; have p0 := hSw.1.1 0 _ rfl; have p1 := hSw.1.1 1 _ rfl; have p2 := hSw.1.1 2 _ rfl; have p3 := hSw.1.1 3 _ rfl; have p4 := hSw.1.1 4 _ rfl; have p5 := hSw.1.1 5 _ rfl; have p6 := hSw.1.1 6 _ rfl; have p7 := hSw.1.1 7 _ rfl; have q0 := hSw.2.1 0 _ rfl; have q1 := hSw.2.1 1 _ rfl; have q2 := hSw.2.1 2 _ rfl; have q3 := hSw.2.1 3 _ rfl; have q4 := hSw.2.1 4 _ rfl; have q5 := hSw.2.1 5 _ rfl; have q6 := hSw.2.1 6 _ rfl; have q7 := hSw.2.1 7 _ rfl; go_simp; try with_reducible rfl)
        change wpAnyH _ _ _ _ _ _ _ (Act.put _ (some 23) _) _
        simp only [Act.put, List.setIfInBounds_toArray, List.set_cons_zero, List.set_cons_succ]
        refine wpAnyH_take (i := 5) (v := ?_) rfl (by kernel_rfl) (by kernel_rfl) (by kernel_rfl) (fun _ _ _ h => h) (Or.inl ⟨by rfl, ?_⟩) (by assumption) ?_
        rotate_left
        · (intro wS hSw; have p0 := hSw.1.1 0 _ rfl; have p1 := hSw.1.1 1 _ rfl; have p2 := hSw.1.1 2 _ rfl; have p3 := hSw.1.1 3 _ rfl; have p4 := hSw.1.1 4 _ rfl; have p5 := hSw.1.1 5 _ rfl; have p6 := hSw.1.1 6 _ rfl; have p7 := hSw.1.1 7 _ rfl; have q0 := hSw.2.1 0 _ rfl; have q1 := hSw.2.1 1 _ rfl; have q2 := hSw.2.1 2 _ rfl; have q3 := hSw.2.1 3 _ rfl; have q4 := hSw.2.1 4 _ rfl; have q5 := hSw.2.1 5 _ rfl; have q6 := hSw.2.1 6 _ rfl; have q7 := hSw.2.1 7 _ rfl; go_simp; try with_reducible rfl)
        change wpAnyH _ _ _ _ _ _ _ (Act.put _ (some 24) _) _
        simp only [Act.put, List.setIfInBounds_toArray, List.set_cons_zero, List.set_cons_succ]
        refine wpAnyH_take (i := 6) (v := ?_) rfl (by kernel_rfl) (by kernel_rfl) (by kernel_rfl) (fun _ _ _ h => h) (Or.inl ⟨by rfl, ?_⟩) (by assumption) ?_
        rotate_left
        · (intro wS hSw; have p0 := hSw.1.1 0 _ rfl; have p1 := hSw.1.1 1 _ rfl; have p2 := hSw.1.1 2 _ rfl; have p3 := hSw.1.1 3 _ rfl; have p4 := hSw.1.1 4 _ rfl; have p5 := hSw.1.1 5 _ rfl; have p6 := hSw.1.1 6 _ rfl; have p7 := hSw.1.1 7 _ rfl; have q0 := hSw.2.1 0 _ rfl; have q1 := hSw.2.1 1 _ rfl; have q2 := hSw.2.1 2 _ rfl; have q3 := hSw.2.1 3 _ rfl; have q4 := hSw.2.1 4 _ rfl; have q5 := hSw.2.1 5 _ rfl; have q6 := hSw.2.1 6 _ rfl; have q7 := hSw.2.1 7 _ rfl; go_simp; try with_reducible rfl)
        change wpAnyH _ _ _ _ _ _ _ (Act.put _ (some 25) _) _
        simp only [Act.put, List.setIfInBounds_toArray, List.set_cons_zero, List.set_cons_succ]
        refine wpAnyH_take (i := 7) (v := ?_) rfl (by kernel_rfl) (by kernel_rfl) (by kernel_rfl) (fun _ _ _ h => h) (Or.inl ⟨by rfl, ?_⟩) (by assumption) ?_
        rotate_left
        · (intro wS hSw; have p0 := hSw.1.1 0 _ rfl; have p1 := hSw.1.1 1 _ rfl; have p2 := hSw.1.1 2 _ rfl; have p3 := hSw.1.1 3 _ rfl; have p4 := hSw.1.1 4 _ rfl; have p5 := hSw.1.1 5 _ rfl; have p6 := hSw.1.1 6 _ rfl; have p7 := hSw.1.1 7 _ rfl; have q0 := hSw.2.1 0 _ rfl; have q1 := hSw.2.1 1 _ rfl; have q2 := hSw.2.1 2 _ rfl; have q3 := hSw.2.1 3 _ rfl; have q4 := hSw.2.1 4 _ rfl; have q5 := hSw.2.1 5 _ rfl; have q6 := hSw.2.1 6 _ rfl; have q7 := hSw.2.1 7 _ rfl; go_simp; try with_reducible rfl)
        change wpAnyH _ _ _ _ _ _ _ (Act.put _ (some 26) _) _
        simp only [Act.put, List.setIfInBounds_toArray, List.set_cons_zero, List.set_cons_succ]
        refine wpAnyH_take (i := 8) (v := ?_) rfl (by kernel_rfl) (by kernel_rfl) (by kernel_rfl) (fun _ _ _ h => h) (Or.inl ⟨by rfl, ?_⟩) (by assumption) ?_
        rotate_left
        · (intro wS hSw; have p0 := hSw.1.1 0 _ rfl; have p1 := hSw.1.1 1 _ rfl; have p2 := hSw.1.1 2 _ rfl; have p3 := hSw.1.1 3 _ rfl; have p4 := hSw.1.1 4 _ rfl; have p5 := hSw.1.1 5 _ rfl; have p6 := hSw.1.1 6 _ rfl; have p7 := hSw.1.1 7 _ rfl; have q0 := hSw.2.1 0 _ rfl; have q1 := hSw.2.1 1 _ rfl; have q2 := hSw.2.1 2 _ rfl; have q3 := hSw.2.1 3 _ rfl; have q4 := hSw.2.1 4 _ rfl; have q5 := hSw.2.1 5 _ rfl; have q6 := hSw.2.1 6 _ rfl; have q7 := hSw.2.1 7 _ rfl; go_simp; try with_reducible rfl)
        change wpAnyH _ _ _ _ _ _ _ (Act.put _ (some 27) _) _
        simp only [Act.put, List.setIfInBounds_toArray, List.set_cons_zero, List.set_cons_succ]
        refine wpAnyH_take (i := 10) (v := ?_) rfl (by kernel_rfl) (by kernel_rfl) (by kernel_rfl) (fun _ _ _ h => h) (Or.inl ⟨by rfl, ?_⟩) (by assumption) ?_
        rotate_left
        · (intro wS hSw; have p0 := hSw.1.1 0 _ rfl; have p1 := hSw.1.1 1 _ rfl; have p2 := hSw.1.1 2 _ rfl; have p3 := hSw.1.1 3 _ rfl; have p4 := hSw.1.1 4 _ rfl; have p5 := hSw.1.1 5 _ rfl; have p6 := hSw.1.1 6 _ rfl; have p7 := hSw.1.1 7 _ rfl; have q0 := hSw.2.1 0 _ rfl; have q1 := hSw.2.1 1 _ rfl; have q2 := hSw.2.1 2 _ rfl; have q3 := hSw.2.1 3 _ rfl; have q4 := hSw.2.1 4 _ rfl; have q5 := hSw.2.1 5 _ rfl; have q6 := hSw.2.1 6 _ rfl; have q7 := hSw.2.1 7 _ rfl; go_simp; try with_reducible rfl)
        change wpAnyH _ _ _ _ _ _ _ (Act.put _ (some 29) _) _
        simp only [Act.put, List.setIfInBounds_toArray, List.set_cons_zero, List.set_cons_succ]
        refine wpAnyH_ready (rs := [9]) (by kernel_rfl) (by simp) ?_
        refine AllReadyH.cons rfl (fun K hK => ?_) AllReadyH.nil
        go_simp
        refine (D1.out _).mono ?_
        rintro e v1 ⟨rfl, hv1⟩
        have F_1 : Hid (Cs v1 p (setL x) ∧ Cs v1 q (setL y) ∧ Below w.heap.size w v1) := ⟨Cs.later hv1 F_0.out.1, Cs.later hv1 F_0.out.2.1, F_0.out.2.2.trans (hv1.mono F_0.out.2.2.size)⟩
        clear hv1 F_0
        (try go_wp2_with (fail))
        refine hK.out _ _ ?_ (fun hHeld => ?_)
        · exact ⟨F_1.out.1, F_1.out.2.1⟩
        clear hK K
        refine wpAnyH_ready (rs := [11]) (by kernel_rfl) (by simp) ?_
        refine AllReadyH.cons rfl (fun K hK => ?_) AllReadyH.nil
        go_simp
        refine (D2.out _).mono ?_
        rintro e v2 ⟨rfl, hv2⟩
        have F_2 : Hid (Cs v2 p (setL x) ∧ Cs v2 q (setL y) ∧ Below w.heap.size w v2) := ⟨Cs.later hv2 F_1.out.1, Cs.later hv2 F_1.out.2.1, F_1.out.2.2.trans (hv2.mono F_1.out.2.2.size)⟩
        clear hv2 F_1
        (try go_wp2_with (fail))
        refine hK.out _ _ ?_ (fun hHeld => ?_)
        · exact ⟨F_2.out.1, F_2.out.2.1⟩
        clear hK K
        refine wpAnyH_take (i := 12) (v := ?_) rfl (by kernel_rfl) (by kernel_rfl) (by kernel_rfl) (fun _ _ _ h => h) (Or.inl ⟨by rfl, ?_⟩) (by assumption) ?_
        rotate_left
        · (intro wS hSw; have p0 := hSw.1.1 0 _ rfl; have p1 := hSw.1.1 1 _ rfl; have p2 := hSw.1.1 2 _ rfl; have p3 := hSw.1.1 3 _ rfl; have p4 := hSw.1.1 4 _ rfl; have p5 := hSw.1.1 5 _ rfl; have p6 := hSw.1.1 6 _ rfl; have p7 := hSw.1.1 7 _ rfl; have q0 := hSw.2.1 0 _ rfl; have q1 := hSw.2.1 1 _ rfl; have q2 := hSw.2.1 2 _ rfl; have q3 := hSw.2.1 3 _ rfl; have q4 := hSw.2.1 4 _ rfl; have q5 := hSw.2.1 5 _ rfl; have q6 := hSw.2.1 6 _ rfl; have q7 := hSw.2.1 7 _ rfl; go_simp; try with_reducible rfl)
        change wpAnyH _ _ _ _ _ _ _ (Act.put _ (some 31) _) _
        simp only [Act.put, List.setIfInBounds_toArray, List.set_cons_zero, List.set_cons_succ]
        refine wpAnyH_take (i := 13) (v := ?_) rfl (by kernel_rfl) (by kernel_rfl) (by kernel_rfl) (fun _ _ _ h => h) (Or.inl ⟨by rfl, ?_⟩) (by assumption) ?_
        rotate_left
        · (intro wS hSw; have p0 := hSw.1.1 0 _ rfl; have p1 := hSw.1.1 1 _ rfl; have p2 := hSw.1.1 2 _ rfl; have p3 := hSw.1.1 3 _ rfl; have p4 := hSw.1.1 4 _ rfl; have p5 := hSw.1.1 5 _ rfl; have p6 := hSw.1.1 6 _ rfl; have p7 := hSw.1.1 7 _ rfl; have q0 := hSw.2.1 0 _ rfl; have q1 := hSw.2.1 1 _ rfl; have q2 := hSw.2.1 2 _ rfl; have q3 := hSw.2.1 3 _ rfl; have q4 := hSw.2.1 4 _ rfl; have q5 := hSw.2.1 5 _ rfl; have q6 := hSw.2.1 6 _ rfl; have q7 := hSw.2.1 7 _ rfl; go_simp; try with_reducible rfl)
        change wpAnyH _ _ _ _ _ _ _ (Act.put _ (some 32) _) _
        simp only [Act.put, List.setIfInBounds_toArray, List.set_cons_zero, List.set_cons_succ]
        refine wpAnyH_take (i := 14) (v := ?_) rfl (by kernel_rfl) (by kernel_rfl) (by kernel_rfl) (fun _ _ _ h => h) (Or.inl ⟨by rfl, ?_⟩) (by assumption) ?_
        rotate_left
        · (intro wS hSw; have p0 := hSw.1.1 0 _ rfl; have p1 := hSw.1.1 1 _ rfl; have p2 := hSw.1.1 2 _ rfl; have p3 := hSw.1.1 3 _ rfl; have p4 := hSw.1.1 4 _ rfl; have p5 := hSw.1.1 5 _ rfl; have p6 := hSw.1.1 6 _ rfl; have p7 := hSw.1.1 7 _ rfl; have q0 := hSw.2.1 0 _ rfl; have q1 := hSw.2.1 1 _ rfl; have q2 := hSw.2.1 2 _ rfl; have q3 := hSw.2.1 3 _ rfl; have q4 := hSw.2.1 4 _ rfl; have q5 := hSw.2.1 5 _ rfl; have q6 := hSw.2.1 6 _ rfl; have q7 := hSw.2.1 7 _ rfl; go_simp; try with_reducible rfl)
        change wpAnyH _ _ _ _ _ _ _ (Act.put _ (some 33) _) _
        simp only [Act.put, List.setIfInBounds_toArray, List.set_cons_zero, List.set_cons_succ]
        refine wpAnyH_take (i := 15) (v := ?_) rfl (by kernel_rfl) (by kernel_rfl) (by kernel_rfl) (fun _ _ _ h => h) (Or.inl ⟨by rfl, ?_⟩) (by assumption) ?_
        rotate_left
        · (intro wS hSw; have p0 := hSw.1.1 0 _ rfl; have p1 := hSw.1.1 1 _ rfl; have p2 := hSw.1.1 2 _ rfl; have p3 := hSw.1.1 3 _ rfl; have p4 := hSw.1.1 4 _ rfl; have p5 := hSw.1.1 5 _ rfl; have p6 := hSw.1.1 6 _ rfl; have p7 := hSw.1.1 7 _ rfl; have q0 := hSw.2.1 0 _ rfl; have q1 := hSw.2.1 1 _ rfl; have q2 := hSw.2.1 2 _ rfl; have q3 := hSw.2.1 3 _ rfl; have q4 := hSw.2.1 4 _ rfl; have q5 := hSw.2.1 5 _ rfl; have q6 := hSw.2.1 6 _ rfl; have q7 := hSw.2.1 7 _ rfl; go_simp; try with_reducible rfl)
        change wpAnyH _ _ _ _ _ _ _ (Act.put _ (some 4) _) _
        simp only [Act.put, List.setIfInBounds_toArray, List.set_cons_zero, List.set_cons_succ]
        refine wpAnyH_done (by kernel_rfl) ?_ _
        refine NoPanic.normal ?_
        have F9 := F_2.out.2.2
        go_wp2_with (fail)
        go_ret
        exact ⟨by rw [X.out]; rfl, F9⟩
      · have X : Hid (R = false) := by unfold Hid; rw [HR.out, if_neg (by omega), decide_eq_false (by omega)]
        have h1 : ¬ (n : Int) < (k : Int) := by omega
        have h2 : ((n : Int) == (k : Int)) = false := by simp; omega
        have h3 : ¬ (n : Int) = (k : Int) := by omega
        clear HR h D1 D2
        go_upto_region 3 with (fail)
        have F_0 : Hid (Cs _ p (setL x) ∧ Cs _ q (setL y) ∧ Below w.heap.size w _) := ⟨Cs.drew qp, Cs.drew qq, Below.drew HB⟩
        refine wp_region_noPanic ?_
        refine wp_region_held_drew (S := fun w' => Cs w' p (setL x) ∧ Cs w' q (setL y)) (by kernel_rfl) ?_ (fun hHeld => ?_)
        · exact ⟨F_0.out.1, F_0.out.2.1⟩
        refine wpAnyH_take (i := 0) (v := ?_) rfl (by kernel_rfl) (by kernel_rfl) (by kernel_rfl) (fun _ _ _ h => h) (Or.inl ⟨by rfl, ?_⟩) (by assumption) ?_
        rotate_left
        · (intro wS hSw; have p0 := hSw.1.1 0 _ rfl; have p1 := hSw.1.1 1 _ rfl; have p2 := hSw.1.1 2 _ rfl; have p3 := hSw.1.1 3 _ rfl; have p4 := hSw.1.1 4 _ rfl; have p5 := hSw.1.1 5 _ rfl; have p6 := hSw.1.1 6 _ rfl; have p7 := hSw.1.1 7 _ rfl; have q0 := hSw.2.1 0 _ rfl; have q1 := hSw.2.1 1 _ rfl; have q2 := hSw.2.1 2 _ rfl; have q3 := hSw.2.1 3 _ rfl; have q4 := hSw.2.1 4 _ rfl; have q5 := hSw.2.1 5 _ rfl; have q6 := hSw.2.1 6 _ rfl; have q7 := hSw.2.1 7 _ rfl; go_simp; try with_reducible rfl)
        change wpAnyH _ _ _ _ _ _ _ (Act.put _ (some 19) _) _
        simp only [Act.put, List.setIfInBounds_toArray, List.set_cons_zero, List.set_cons_succ]
        refine wpAnyH_take (i := 1) (v := ?_) rfl (by kernel_rfl) (by kernel_rfl) (by kernel_rfl) (fun _ _ _ h => h) (Or.inl ⟨by rfl, ?_⟩) (by assumption) ?_
        rotate_left
        · (intro wS hSw; have p0 := hSw.1.1 0 _ rfl; have p1 := hSw.1.1 1 _ rfl; have p2 := hSw.1.1 2 _ rfl; have p3 := hSw.1.1 3 _ rfl; have p4 := hSw.1.1 4 _ rfl; have p5 := hSw.1.1 5 _ rfl; have p6 := hSw.1.1 6 _ rfl; have p7 := hSw.1.1 7 _ rfl; have q0 := hSw.2.1 0 _ rfl; have q1 := hSw.2.1 1 _ rfl; have q2 := hSw.2.1 2 _ rfl; have q3 := hSw.2.1 3 _ rfl; have q4 := hSw.2.1 4 _ rfl; have q5 := hSw.2.1 5 _ rfl; have q6 := hSw.2.1 6 _ rfl; have q7 := hSw.2.1 7 _ rfl; go_simp; try with_reducible rfl)
        change wpAnyH _ _ _ _ _ _ _ (Act.put _ (some 20) _) _
        simp only [Act.put, List.setIfInBounds_toArray, List.set_cons_zero, List.set_cons_succ]
        refine wpAnyH_take (i := 2) (v := ?_) rfl (by kernel_rfl) (by kernel_rfl) (by kernel_rfl) (fun _ _ _ h => h) (Or.inl ⟨by rfl, ?_⟩) (by assumption) ?_
        rotate_left
        · (intro wS hSw; have p0 := hSw.1.1 0 _ rfl; have p1 := hSw.1.1 1 _ rfl; have p2 := hSw.1.1 2 _ rfl; have p3 := hSw.1.1 3 _ rfl; have p4 := hSw.1.1 4 _ rfl; have p5 := hSw.1.1 5 _ rfl; have p6 := hSw.1.1 6 _ rfl; have p7 := hSw.1.1 7 _ rfl; have q0 := hSw.2.1 0 _ rfl; have q1 := hSw.2.1 1 _ rfl; have q2 := hSw.2.1 2 _ rfl; have q3 := hSw.2.1 3 _ rfl; have q4 := hSw.2.1 4 _ rfl; have q5 := hSw.2.1 5 _ rfl; have q6 := hSw.2.1 6 _ rfl; have q7 := hSw.2.1 7 _ rfl; go_simp; try with_reducible rfl)
        change wpAnyH _ _ _ _ _ _ _ (Act.put _ (some 21) _) _
        simp only [Act.put, List.setIfInBounds_toArray, List.set_cons_zero, List.set_cons_succ]
        refine wpAnyH_take (i := 3) (v := ?_) rfl (by kernel_rfl) (by kernel_rfl) (by kernel_rfl) (fun _ _ _ h => h) (Or.inl ⟨by rfl, ?_⟩) (by assumption) ?_
        rotate_left
        · (intro wS hSw; have p0 := hSw.1.1 0 _ rfl; have p1 := hSw.1.1 1 _ rfl; have p2 := hSw.1.1 2 _ rfl; have p3 := hSw.1.1 3 _ rfl; have p4 := hSw.1.1 4 _ rfl; have p5 := hSw.1.1 5 _ rfl; have p6 := hSw.1.1 6 _ rfl; have p7 := hSw.1.1 7 _ rfl; have q0 := hSw.2.1 0 _ rfl; have q1 := hSw.2.1 1 _ rfl; have q2 := hSw.2.1 2 _ rfl; have q3 := hSw.2.1 3 _ rfl; have q4 := hSw.2.1 4 _ rfl; have q5 := hSw.2.1 5 _ rfl; have q6 := hSw.2.1 6 _ rfl; have q7 := hSw.2.1 7 _ rfl; go_simp; try with_reducible rfl)
        change wpAnyH _ _ _ _ _ _ _ (Act.put _ (some 22) _) _
        simp only [Act.put, List.setIfInBounds_toArray, List.set_cons_zero, List.set_cons_succ]
        refine wpAnyH_take (i := 4) (v := ?_) rfl (by kernel_rfl) (by kernel_rfl) (by kernel_rfl) (fun _ _ _ h => h) (Or.inl ⟨by rfl, ?_⟩) (by assumption) ?_
        rotate_left
        · (intro wS hSw; have p0 := hSw.1.1 0 _ rfl; have p1 := hSw.1.1 1 _ rfl; have p2 := hSw.1.1 2 _ rfl; have p3 := hSw.1.1 3 _ rfl; have p4 := hSw.1.1 4 _ rfl; have p5 := hSw.1.1 5 _ rfl; have p6 := hSw.1.1 6 _ rfl; have p7 := hSw.1.1 7 _ rfl; have q0 := hSw.2.1 0 _ rfl; have q1 := hSw.2.1 1 _ rfl; have q2 := hSw.2.1 2 _ rfl; have q3 := hSw.2.1 3 _ rfl; have q4 := hSw.2.1 4 _ rfl; have q5 := hSw.2.1 5 _ rfl; have q6 := hSw.2.1 6 _ rfl; have q7 := hSw.2.1 7 _ rfl; go_simp; try with_reducible rfl)
        change wpAnyH _ _ _ _ _ _ _ (Act.put _ (some 23) _) _
        simp only [Act.put, List.setIfInBounds_toArray, List.set_cons_zero, List.set_cons_succ]
        refine wpAnyH_take (i := 5) (v := ?_) rfl (by kernel_rfl) (by kernel_rfl) (by kernel_rfl) (fun _ _ _ h => h) (Or.inl ⟨by rfl, ?_⟩) (by assumption) ?_
        rotate_left
        · (intro wS hSw; have p0 := hSw.1.1 0 _ rfl; have p1 := hSw.1.1 1 _ rfl; have p2 := hSw.1.1 2 _ rfl; have p3 := hSw.1.1 3 _ rfl; have p4 := hSw.1.1 4 _ rfl; have p5 := hSw.1.1 5 _ rfl; have p6 := hSw.1.1 6 _ rfl; have p7 := hSw.1.1 7 _ rfl; have q0 := hSw.2.1 0 _ rfl; have q1 := hSw.2.1 1 _ rfl; have q2 := hSw.2.1 2 _ rfl; have q3 := hSw.2.1 3 _ rfl; have q4 := hSw.2.1 4 _ rfl; have q5 := hSw.2.1 5 _ rfl; have q6 := hSw.2.1 6 _ rfl; have q7 := hSw.2.1 7 _ rfl; go_simp; try with_reducible rfl)
        change wpAnyH _ _ _ _ _ _ _ (Act.put _ (some 24) _) _
        simp only [Act.put, List.setIfInBounds_toArray, List.set_cons_zero, List.set_cons_succ]
        refine wpAnyH_take (i := 6) (v := ?_) rfl (by kernel_rfl) (by kernel_rfl) (by kernel_rfl) (fun _ _ _ h => h) (Or.inl ⟨by rfl, ?_⟩) (by assumption) ?_
        rotate_left
        · (intro wS hSw; have p0 := hSw.1.1 0 _ rfl; have p1 := hSw.1.1 1 _ rfl; have p2 := hSw.1.1 2 _ rfl; have p3 := hSw.1.1 3 _ rfl; have p4 := hSw.1.1 4 _ rfl; have p5 := hSw.1.1 5 _ rfl; have p6 := hSw.1.1 6 _ rfl; have p7 := hSw.1.1 7 _ rfl; have q0 := hSw.2.1 0 _ rfl; have q1 := hSw.2.1 1 _ rfl; have q2 := hSw.2.1 2 _ rfl; have q3 := hSw.2.1 3 _ rfl; have q4 := hSw.2.1 4 _ rfl; have q5 := hSw.2.1 5 _ rfl; have q6 := hSw.2.1 6 _ rfl; have q7 := hSw.2.1 7 _ rfl; go_simp; try with_reducible rfl)
        change wpAnyH _ _ _ _ _ _ _ (Act.put _ (some 25) _) _
        simp only [Act.put, List.setIfInBounds_toArray, List.set_cons_zero, List.set_cons_succ]
        refine wpAnyH_take (i := 7) (v := ?_) rfl (by kernel_rfl) (by kernel_rfl) (by kernel_rfl) (fun _ _ _ h => h) (Or.inl ⟨by rfl, ?_⟩) (by assumption) ?_
        rotate_left
        · (intro wS hSw; have p0 := hSw.1.1 0 _ rfl; have p1 := hSw.1.1 1 _ rfl; have p2 := hSw.1.1 2 _ rfl; have p3 := hSw.1.1 3 _ rfl; have p4 := hSw.1.1 4 _ rfl; have p5 := hSw.1.1 5 _ rfl; have p6 := hSw.1.1 6 _ rfl; have p7 := hSw.1.1 7 _ rfl; have q0 := hSw.2.1 0 _ rfl; have q1 := hSw.2.1 1 _ rfl; have q2 := hSw.2.1 2 _ rfl; have q3 := hSw.2.1 3 _ rfl; have q4 := hSw.2.1 4 _ rfl; have q5 := hSw.2.1 5 _ rfl; have q6 := hSw.2.1 6 _ rfl; have q7 := hSw.2.1 7 _ rfl; go_simp; try with_reducible rfl)
        change wpAnyH _ _ _ _ _ _ _ (Act.put _ (some 26) _) _
        simp only [Act.put, List.setIfInBounds_toArray, List.set_cons_zero, List.set_cons_succ]
        refine wpAnyH_take (i := 8) (v := undef) rfl (by kernel_rfl) (by kernel_rfl) (by kernel_rfl) (fun _ _ _ h => h) (Or.inr ⟨by rfl, rfl⟩) (by assumption) ?_
        change wpAnyH _ _ _ _ _ _ _ (Act.put _ (some 27) _) _
        simp only [Act.put, List.setIfInBounds_toArray, List.set_cons_zero, List.set_cons_succ]
        refine wpAnyH_take (i := 9) (v := undef) rfl (by kernel_rfl) (by kernel_rfl) (by kernel_rfl) (fun _ _ _ h => h) (Or.inr ⟨by rfl, rfl⟩) (by assumption) ?_
        change wpAnyH _ _ _ _ _ _ _ (Act.put _ (some 28) _) _
        simp only [Act.put, List.setIfInBounds_toArray, List.set_cons_zero, List.set_cons_succ]
        refine wpAnyH_take (i := 10) (v := undef) rfl (by kernel_rfl) (by kernel_rfl) (by kernel_rfl) (fun _ _ _ h => h) (Or.inr ⟨by rfl, rfl⟩) (by assumption) ?_
        change wpAnyH _ _ _ _ _ _ _ (Act.put _ (some 29) _) _
        simp only [Act.put, List.setIfInBounds_toArray, List.set_cons_zero, List.set_cons_succ]
        refine wpAnyH_take (i := 11) (v := undef) rfl (by kernel_rfl) (by kernel_rfl) (by kernel_rfl) (fun _ _ _ h => h) (Or.inr ⟨by rfl, rfl⟩) (by assumption) ?_
        change wpAnyH _ _ _ _ _ _ _ (Act.put _ (some 30) _) _
        simp only [Act.put, List.setIfInBounds_toArray, List.set_cons_zero, List.set_cons_succ]
        refine wpAnyH_take (i := 12) (v := undef) rfl (by kernel_rfl) (by kernel_rfl) (by kernel_rfl) (fun _ _ _ h => h) (Or.inr ⟨by rfl, rfl⟩) (by assumption) ?_
        change wpAnyH _ _ _ _ _ _ _ (Act.put _ (some 31) _) _
        simp only [Act.put, List.setIfInBounds_toArray, List.set_cons_zero, List.set_cons_succ]
        refine wpAnyH_take (i := 13) (v := ?_) rfl (by kernel_rfl) (by kernel_rfl) (by kernel_rfl) (fun _ _ _ h => h) (Or.inl ⟨by rfl, ?_⟩) (by assumption) ?_
        rotate_left
        · (intro wS hSw; have p0 := hSw.1.1 0 _ rfl; have p1 := hSw.1.1 1 _ rfl; have p2 := hSw.1.1 2 _ rfl; have p3 := hSw.1.1 3 _ rfl; have p4 := hSw.1.1 4 _ rfl; have p5 := hSw.1.1 5 _ rfl; have p6 := hSw.1.1 6 _ rfl; have p7 := hSw.1.1 7 _ rfl; have q0 := hSw.2.1 0 _ rfl; have q1 := hSw.2.1 1 _ rfl; have q2 := hSw.2.1 2 _ rfl; have q3 := hSw.2.1 3 _ rfl; have q4 := hSw.2.1 4 _ rfl; have q5 := hSw.2.1 5 _ rfl; have q6 := hSw.2.1 6 _ rfl; have q7 := hSw.2.1 7 _ rfl; go_simp; try with_reducible rfl)
        change wpAnyH _ _ _ _ _ _ _ (Act.put _ (some 32) _) _
        simp only [Act.put, List.setIfInBounds_toArray, List.set_cons_zero, List.set_cons_succ]
        refine wpAnyH_take (i := 14) (v := ?_) rfl (by kernel_rfl) (by kernel_rfl) (by kernel_rfl) (fun _ _ _ h => h) (Or.inl ⟨by rfl, ?_⟩) (by assumption) ?_
        rotate_left
        · (intro wS hSw; have p0 := hSw.1.1 0 _ rfl; have p1 := hSw.1.1 1 _ rfl; have p2 := hSw.1.1 2 _ rfl; have p3 := hSw.1.1 3 _ rfl; have p4 := hSw.1.1 4 _ rfl; have p5 := hSw.1.1 5 _ rfl; have p6 := hSw.1.1 6 _ rfl; have p7 := hSw.1.1 7 _ rfl; have q0 := hSw.2.1 0 _ rfl; have q1 := hSw.2.1 1 _ rfl; have q2 := hSw.2.1 2 _ rfl; have q3 := hSw.2.1 3 _ rfl; have q4 := hSw.2.1 4 _ rfl; have q5 := hSw.2.1 5 _ rfl; have q6 := hSw.2.1 6 _ rfl; have q7 := hSw.2.1 7 _ rfl; go_simp; try with_reducible rfl)
        change wpAnyH _ _ _ _ _ _ _ (Act.put _ (some 33) _) _
        simp only [Act.put, List.setIfInBounds_toArray, List.set_cons_zero, List.set_cons_succ]
        refine wpAnyH_take (i := 15) (v := ?_) rfl (by kernel_rfl) (by kernel_rfl) (by kernel_rfl) (fun _ _ _ h => h) (Or.inl ⟨by rfl, ?_⟩) (by assumption) ?_
        rotate_left
        · (intro wS hSw; have p0 := hSw.1.1 0 _ rfl; have p1 := hSw.1.1 1 _ rfl; have p2 := hSw.1.1 2 _ rfl; have p3 := hSw.1.1 3 _ rfl; have p4 := hSw.1.1 4 _ rfl; have p5 := hSw.1.1 5 _ rfl; have p6 := hSw.1.1 6 _ rfl; have p7 := hSw.1.1 7 _ rfl; have q0 := hSw.2.1 0 _ rfl; have q1 := hSw.2.1 1 _ rfl; have q2 := hSw.2.1 2 _ rfl; have q3 := hSw.2.1 3 _ rfl; have q4 := hSw.2.1 4 _ rfl; have q5 := hSw.2.1 5 _ rfl; have q6 := hSw.2.1 6 _ rfl; have q7 := hSw.2.1 7 _ rfl; go_simp; try with_reducible rfl)
        change wpAnyH _ _ _ _ _ _ _ (Act.put _ (some 4) _) _
        simp only [Act.put, List.setIfInBounds_toArray, List.set_cons_zero, List.set_cons_succ]
        refine wpAnyH_done (by kernel_rfl) ?_ _
        refine NoPanic.normal ?_
        have F9 := F_0.out.2.2
        go_wp2_with (fail)
        go_ret
        exact ⟨by rw [X.out]; rfl, F9⟩

end Go.Proofs.Ytkjaiahdkolmdaa.Mk
