/-
  The statement KnobsTell as a contract at this program. Conditions: the numbers are ints; the tables of the program lie as its text lays them.
-/
import Derived.Test.YtaeejemknmjglaaDoorRH
namespace Go.Proofs.YtaeejemknmjglaaDoor.Sp
open Go.RowKit

set_option maxHeartbeats 4000000 in
set_option maxRecDepth 100000 in
theorem knobsTell_any (l ka kb kc kd ke f n : Int) (h : InK ka kb kc kd ke) (w : World) (hL : LaidK w) :
    Calls Tryd.prog 4 #[.agg #[.int .i64 l, .int .i64 ka, .int .i64 kb, .int .i64 kc, .int .i64 kd, .int .i64 ke, .int .i64 f, .int .i64 n]] w fun e w' => e = .returned (.bool true) ∧ Below w.heap.size w w' := by
  have HL : Hid (LaidK w) := hL
  have HI : Hid (InK ka kb kc kd ke) := h
  clear hL h
  go_enter Tryd.func4, Tryd.ntmps4
  go_wp2_with (fail)
  refine (firstK_is _ (HL.out.alloc _)).mono ?_
  rintro e w1 ⟨rfl, hw1⟩
  have HBw1 : Below w.heap.size w w1 := Below.trans (by go_grown) (hw1.mono (by first | omega | (simp; done) | (simp; omega)))
  have p_p : Cs w1 (w.heap.size) [.int .i64 l, .int .i64 ka, .int .i64 kb, .int .i64 kc, .int .i64 kd, .int .i64 ke, .int .i64 f, .int .i64 n] := Cs.later hw1 (by repeat (first | assumption | (refine Cs.new _ _ _ _ ?_; simp; done) | refine Cs.alloc ?_ _ | refine Cs.drew ?_ | (refine Cs.beside ?_ _ _ (by omega))))
  have q_p := p_p
  have p0 : w1.cell? ⟨w.heap.size, 0, none⟩ = some (.int .i64 l) := p_p.1 0 _ rfl
  have p1 : w1.cell? ⟨w.heap.size, 1, none⟩ = some (.int .i64 ka) := p_p.1 1 _ rfl
  have p2 : w1.cell? ⟨w.heap.size, 2, none⟩ = some (.int .i64 kb) := p_p.1 2 _ rfl
  have p3 : w1.cell? ⟨w.heap.size, 3, none⟩ = some (.int .i64 kc) := p_p.1 3 _ rfl
  have p4 : w1.cell? ⟨w.heap.size, 4, none⟩ = some (.int .i64 kd) := p_p.1 4 _ rfl
  have p5 : w1.cell? ⟨w.heap.size, 5, none⟩ = some (.int .i64 ke) := p_p.1 5 _ rfl
  have p6 : w1.cell? ⟨w.heap.size, 6, none⟩ = some (.int .i64 f) := p_p.1 6 _ rfl
  have p7 : w1.cell? ⟨w.heap.size, 7, none⟩ = some (.int .i64 n) := p_p.1 7 _ rfl
  have pz : w.heap.size < w1.heap.size := p_p.2.2
  clear p_p
  have hsw1 := hw1.size
  (try simp at hsw1)
  clear hw1
  have L1 : Hid (LaidK w1) := HL.out.later HBw1
  go_upto_region 3 with (fail)
  clear HL
  go_cut [3, 4, 5, 6] (fun s3 s4 s5 s6 wc => ∃ p : Nat, s3 = .int .i64 l ∧ s4 = .pointer (some ⟨p, 0, none⟩) ∧ s5 = .int .i64 f ∧ s6 = .int .i64 n ∧ Cs wc p [.int .i64 ka, .int .i64 kb, .int .i64 kc, .int .i64 kd, .int .i64 ke] ∧ Hid (LaidK wc) ∧ Below w.heap.size w wc)
  case first =>
    clear HI
    go_region
    all_goals
      go_wp2_with (fail)
      go_meet
      case rel => exact ⟨_, rfl, rfl, rfl, rfl, (by repeat (first | assumption | (refine Cs.new _ _ _ _ ?_; simp; done) | refine Cs.alloc ?_ _ | refine Cs.drew ?_ | (refine Cs.beside ?_ _ _ (by omega)))), L1.out.later (by go_grown), by go_grown⟩
  case rest =>
    clear q_p p0 p1 p2 p3 p4 p5 p6 p7 pz hsw1 L1 HBw1
    obtain ⟨p, rfl, rfl, rfl, rfl, q_p, L1, HB⟩ := hcut
    obtain ⟨x, hx⟩ : ∃ x, x = wgt l := ⟨_, rfl⟩
    obtain ⟨y, hy⟩ : ∃ y, y = atK ka kb kc kd ke f := ⟨_, rfl⟩
    obtain ⟨v0, v1, v2, v3, v4, h0, h1, h2, h3, h4⟩ : ∃ v0 v1 v2 v3 v4, v0 = putK 0 f ka n ∧ v1 = putK 1 f kb n ∧ v2 = putK 2 f kc n ∧ v3 = putK 3 f kd n ∧ v4 = putK 4 f ke n := ⟨_, _, _, _, _, rfl, rfl, rfl, rfl, rfl⟩
    obtain ⟨b, hb⟩ : ∃ b, b = rightK ka kb kc kd ke := ⟨_, rfl⟩
    obtain ⟨t, ht⟩ : ∃ t, t = bt (txtK ka kb kc kd ke) := ⟨_, rfl⟩
    have C1 : Hid (∀ w, Calls Tryd.prog 15 #[.int .i64 l] w fun e w' => e = .returned (.int .i64 x) ∧ Below w.heap.size w w') := fun w => by rw [hx]; exact (weight_is l w).mono fun _ _ h => ⟨h.1, h.2 ▸ Below.refl _ _⟩
    have C2 : Hid (∀ w, Calls Tryd.prog 16 #[.int .i64 l] w fun e w' => e = .returned (.int .i64 x) ∧ Below w.heap.size w w') := fun w => by rw [hx]; exact (rweight_is l w).mono fun _ _ h => ⟨h.1, h.2 ▸ Below.refl _ _⟩
    have C3 : Hid (∀ w, Calls Tryd.prog 17 #[.agg #[.int .i64 ka, .int .i64 kb, .int .i64 kc, .int .i64 kd, .int .i64 ke], .int .i64 f] w fun e w' => e = .returned (.int .i64 y) ∧ Below w.heap.size w w') := fun w => by rw [hy]; exact at_is ka kb kc kd ke f w
    have C4 : Hid (∀ w, Calls Tryd.prog 18 #[.agg #[.int .i64 ka, .int .i64 kb, .int .i64 kc, .int .i64 kd, .int .i64 ke], .int .i64 f] w fun e w' => e = .returned (.int .i64 y) ∧ Below w.heap.size w w') := fun w => by rw [hy]; exact rat_is ka kb kc kd ke f w
    have C5 : Hid (∀ w, Calls Tryd.prog 19 #[.agg #[.int .i64 ka, .int .i64 kb, .int .i64 kc, .int .i64 kd, .int .i64 ke], .int .i64 f, .int .i64 n] w fun e w' => e = .returned (.agg #[.int .i64 v0, .int .i64 v1, .int .i64 v2, .int .i64 v3, .int .i64 v4]) ∧ Below w.heap.size w w') := fun w => by rw [h0, h1, h2, h3, h4]; exact with_is ka kb kc kd ke f n w
    have C6 : Hid (∀ w, Calls Tryd.prog 20 #[.agg #[.int .i64 ka, .int .i64 kb, .int .i64 kc, .int .i64 kd, .int .i64 ke], .int .i64 f, .int .i64 n] w fun e w' => e = .returned (.agg #[.int .i64 v0, .int .i64 v1, .int .i64 v2, .int .i64 v3, .int .i64 v4]) ∧ Below w.heap.size w w') := fun w => by rw [h0, h1, h2, h3, h4]; exact rwith_is ka kb kc kd ke f n w
    have C7 : Hid (∀ w, LaidK w → Calls Tryd.prog 21 #[.agg #[.int .i64 ka, .int .i64 kb, .int .i64 kc, .int .i64 kd, .int .i64 ke]] w fun e w' => e = .returned (.bool b) ∧ Below w.heap.size w w') := fun w hL => by rw [hb]; exact right_is ka kb kc kd ke w hL
    have C8 : Hid (∀ w, Calls Tryd.prog 22 #[.agg #[.int .i64 ka, .int .i64 kb, .int .i64 kc, .int .i64 kd, .int .i64 ke]] w fun e w' => e = .returned (.bool b) ∧ Below w.heap.size w w') := fun w => by rw [hb]; exact rright_is ka kb kc kd ke w
    have C9 : Hid (∀ w, LaidK w → Calls Tryd.prog 23 #[.agg #[.int .i64 ka, .int .i64 kb, .int .i64 kc, .int .i64 kd, .int .i64 ke]] w fun e w' => e = .returned (.string t) ∧ Below w.heap.size w w') := fun w hL => by rw [ht]; exact textK_is ka kb kc kd ke HI.out w hL
    have C10 : Hid (∀ w, Calls Tryd.prog 24 #[.agg #[.int .i64 ka, .int .i64 kb, .int .i64 kc, .int .i64 kd, .int .i64 ke]] w fun e w' => e = .returned (.string t) ∧ Below w.heap.size w w') := fun w => by rw [ht]; exact rtextK_is ka kb kc kd ke HI.out w
    clear hx hy h0 h1 h2 h3 h4 hb ht HI
    go_upto_region 4 with (fail)
    have F_0 : Hid (Cs _ p [.int .i64 ka, .int .i64 kb, .int .i64 kc, .int .i64 kd, .int .i64 ke] ∧ LaidK _ ∧ Below w.heap.size w _) := ⟨Cs.drew q_p, L1.out.later (Below.drew (Below.refl _ _)), Below.drew HB⟩
    refine wp_region_noPanic ?_
    refine wp_region_held_drew (S := fun w' => Cs w' p [.int .i64 ka, .int .i64 kb, .int .i64 kc, .int .i64 kd, .int .i64 ke]) (by kernel_rfl) ?_ (fun hHeld => ?_)
    · exact F_0.out.1
    refine wpAnyH_take (i := 0) (v := ?_) rfl (by kernel_rfl) (by kernel_rfl) (by kernel_rfl) (fun _ _ _ h => h) (Or.inl ⟨by rfl, ?_⟩) (by assumption) ?_
    rotate_left
    · (intro wS hSw; have p0 := hSw.1 0 _ rfl; have p1 := hSw.1 1 _ rfl; have p2 := hSw.1 2 _ rfl; have p3 := hSw.1 3 _ rfl; have p4 := hSw.1 4 _ rfl; have pz := hSw.2.2; go_simp; try with_reducible rfl)
    change wpAnyH _ _ _ _ _ _ _ (Act.put _ (some 17) _) _
    simp only [Act.put, List.setIfInBounds_toArray, List.set_cons_zero, List.set_cons_succ]
    refine wpAnyH_take (i := 2) (v := ?_) rfl (by kernel_rfl) (by kernel_rfl) (by kernel_rfl) (fun _ _ _ h => h) (Or.inl ⟨by rfl, ?_⟩) (by assumption) ?_
    rotate_left
    · (intro wS hSw; have p0 := hSw.1 0 _ rfl; have p1 := hSw.1 1 _ rfl; have p2 := hSw.1 2 _ rfl; have p3 := hSw.1 3 _ rfl; have p4 := hSw.1 4 _ rfl; have pz := hSw.2.2; go_simp; try with_reducible rfl)
    change wpAnyH _ _ _ _ _ _ _ (Act.put _ (some 19) _) _
    simp only [Act.put, List.setIfInBounds_toArray, List.set_cons_zero, List.set_cons_succ]
    refine wpAnyH_ready (rs := [1]) (by kernel_rfl) (by simp) ?_
    refine AllReadyH.cons rfl (fun K hK => ?_) AllReadyH.nil
    go_simp
    refine (C1.out _).mono ?_
    rintro e v1 ⟨rfl, hv1⟩
    have F_1 : Hid (Cs v1 p [.int .i64 ka, .int .i64 kb, .int .i64 kc, .int .i64 kd, .int .i64 ke] ∧ LaidK v1 ∧ Below w.heap.size w v1) := ⟨Cs.later hv1 F_0.out.1, F_0.out.2.1.later hv1, F_0.out.2.2.trans (hv1.mono F_0.out.2.2.size)⟩
    clear hv1 F_0
    (try go_wp2_with (fail))
    refine hK.out _ _ ?_ (fun hHeld => ?_)
    · exact F_1.out.1
    clear hK K
    refine wpAnyH_ready (rs := [3]) (by kernel_rfl) (by simp) ?_
    refine AllReadyH.cons rfl (fun K hK => ?_) AllReadyH.nil
    go_simp
    refine (C2.out _).mono ?_
    rintro e v2 ⟨rfl, hv2⟩
    have F_2 : Hid (Cs v2 p [.int .i64 ka, .int .i64 kb, .int .i64 kc, .int .i64 kd, .int .i64 ke] ∧ LaidK v2 ∧ Below w.heap.size w v2) := ⟨Cs.later hv2 F_1.out.1, F_1.out.2.1.later hv2, F_1.out.2.2.trans (hv2.mono F_1.out.2.2.size)⟩
    clear hv2 F_1
    (try go_wp2_with (fail))
    refine hK.out _ _ ?_ (fun hHeld => ?_)
    · exact F_2.out.1
    clear hK K
    refine wpAnyH_take (i := 4) (v := ?_) rfl (by kernel_rfl) (by kernel_rfl) (by kernel_rfl) (fun _ _ _ h => h) (Or.inl ⟨by rfl, ?_⟩) (by assumption) ?_
    rotate_left
    · (intro wS hSw; have p0 := hSw.1 0 _ rfl; have p1 := hSw.1 1 _ rfl; have p2 := hSw.1 2 _ rfl; have p3 := hSw.1 3 _ rfl; have p4 := hSw.1 4 _ rfl; have pz := hSw.2.2; go_simp; try with_reducible rfl)
    change wpAnyH _ _ _ _ _ _ _ (Act.put _ (some 21) _) _
    simp only [Act.put, List.setIfInBounds_toArray, List.set_cons_zero, List.set_cons_succ]
    refine wpAnyH_take (i := 5) (v := ?_) rfl (by kernel_rfl) (by kernel_rfl) (by kernel_rfl) (fun _ _ _ h => h) (Or.inl ⟨by rfl, ?_⟩) (by assumption) ?_
    rotate_left
    · (intro wS hSw; have p0 := hSw.1 0 _ rfl; have p1 := hSw.1 1 _ rfl; have p2 := hSw.1 2 _ rfl; have p3 := hSw.1 3 _ rfl; have p4 := hSw.1 4 _ rfl; have pz := hSw.2.2; go_simp; try with_reducible rfl)
    change wpAnyH _ _ _ _ _ _ _ (Act.put _ (some 22) _) _
    simp only [Act.put, List.setIfInBounds_toArray, List.set_cons_zero, List.set_cons_succ]
    refine wpAnyH_take (i := 6) (v := ?_) rfl (by kernel_rfl) (by kernel_rfl) (by kernel_rfl) (fun _ _ _ h => h) (Or.inl ⟨by rfl, ?_⟩) (by assumption) ?_
    rotate_left
    · (intro wS hSw; have p0 := hSw.1 0 _ rfl; have p1 := hSw.1 1 _ rfl; have p2 := hSw.1 2 _ rfl; have p3 := hSw.1 3 _ rfl; have p4 := hSw.1 4 _ rfl; have pz := hSw.2.2; go_simp; try with_reducible rfl)
    change wpAnyH _ _ _ _ _ _ _ (Act.put _ (some 23) _) _
    simp only [Act.put, List.setIfInBounds_toArray, List.set_cons_zero, List.set_cons_succ]
    refine wpAnyH_take (i := 7) (v := ?_) rfl (by kernel_rfl) (by kernel_rfl) (by kernel_rfl) (fun _ _ _ h => h) (Or.inl ⟨by rfl, ?_⟩) (by assumption) ?_
    rotate_left
    · (intro wS hSw; have p0 := hSw.1 0 _ rfl; have p1 := hSw.1 1 _ rfl; have p2 := hSw.1 2 _ rfl; have p3 := hSw.1 3 _ rfl; have p4 := hSw.1 4 _ rfl; have pz := hSw.2.2; go_simp; try with_reducible rfl)
    change wpAnyH _ _ _ _ _ _ _ (Act.put _ (some 24) _) _
    simp only [Act.put, List.setIfInBounds_toArray, List.set_cons_zero, List.set_cons_succ]
    refine wpAnyH_take (i := 9) (v := ?_) rfl (by kernel_rfl) (by kernel_rfl) (by kernel_rfl) (fun _ _ _ h => h) (Or.inl ⟨by rfl, ?_⟩) (by assumption) ?_
    rotate_left
    · (intro wS hSw; have p0 := hSw.1 0 _ rfl; have p1 := hSw.1 1 _ rfl; have p2 := hSw.1 2 _ rfl; have p3 := hSw.1 3 _ rfl; have p4 := hSw.1 4 _ rfl; have pz := hSw.2.2; go_simp; try with_reducible rfl)
    change wpAnyH _ _ _ _ _ _ _ (Act.put _ (some 26) _) _
    simp only [Act.put, List.setIfInBounds_toArray, List.set_cons_zero, List.set_cons_succ]
    refine wpAnyH_take (i := 10) (v := ?_) rfl (by kernel_rfl) (by kernel_rfl) (by kernel_rfl) (fun _ _ _ h => h) (Or.inl ⟨by rfl, ?_⟩) (by assumption) ?_
    rotate_left
    · (intro wS hSw; have p0 := hSw.1 0 _ rfl; have p1 := hSw.1 1 _ rfl; have p2 := hSw.1 2 _ rfl; have p3 := hSw.1 3 _ rfl; have p4 := hSw.1 4 _ rfl; have pz := hSw.2.2; go_simp; try with_reducible rfl)
    change wpAnyH _ _ _ _ _ _ _ (Act.put _ (some 27) _) _
    simp only [Act.put, List.setIfInBounds_toArray, List.set_cons_zero, List.set_cons_succ]
    refine wpAnyH_ready (rs := [8]) (by kernel_rfl) (by simp) ?_
    refine AllReadyH.cons rfl (fun K hK => ?_) AllReadyH.nil
    go_simp
    refine (C3.out _).mono ?_
    rintro e v3 ⟨rfl, hv3⟩
    have F_3 : Hid (Cs v3 p [.int .i64 ka, .int .i64 kb, .int .i64 kc, .int .i64 kd, .int .i64 ke] ∧ LaidK v3 ∧ Below w.heap.size w v3) := ⟨Cs.later hv3 F_2.out.1, F_2.out.2.1.later hv3, F_2.out.2.2.trans (hv3.mono F_2.out.2.2.size)⟩
    clear hv3 F_2
    (try go_wp2_with (fail))
    refine hK.out _ _ ?_ (fun hHeld => ?_)
    · exact F_3.out.1
    clear hK K
    refine wpAnyH_ready (rs := [11]) (by kernel_rfl) (by simp) ?_
    refine AllReadyH.cons rfl (fun K hK => ?_) AllReadyH.nil
    go_simp
    refine (C4.out _).mono ?_
    rintro e v4 ⟨rfl, hv4⟩
    have F_4 : Hid (Cs v4 p [.int .i64 ka, .int .i64 kb, .int .i64 kc, .int .i64 kd, .int .i64 ke] ∧ LaidK v4 ∧ Below w.heap.size w v4) := ⟨Cs.later hv4 F_3.out.1, F_3.out.2.1.later hv4, F_3.out.2.2.trans (hv4.mono F_3.out.2.2.size)⟩
    clear hv4 F_3
    (try go_wp2_with (fail))
    refine hK.out _ _ ?_ (fun hHeld => ?_)
    · exact F_4.out.1
    clear hK K
    refine wpAnyH_take (i := 12) (v := ?_) rfl (by kernel_rfl) (by kernel_rfl) (by kernel_rfl) (fun _ _ _ h => h) (Or.inl ⟨by rfl, ?_⟩) (by assumption) ?_
    rotate_left
    · (intro wS hSw; have p0 := hSw.1 0 _ rfl; have p1 := hSw.1 1 _ rfl; have p2 := hSw.1 2 _ rfl; have p3 := hSw.1 3 _ rfl; have p4 := hSw.1 4 _ rfl; have pz := hSw.2.2; go_simp; try with_reducible rfl)
    change wpAnyH _ _ _ _ _ _ _ (Act.put _ (some 29) _) _
    simp only [Act.put, List.setIfInBounds_toArray, List.set_cons_zero, List.set_cons_succ]
    refine wpAnyH_take (i := 13) (v := ?_) rfl (by kernel_rfl) (by kernel_rfl) (by kernel_rfl) (fun _ _ _ h => h) (Or.inl ⟨by rfl, ?_⟩) (by assumption) ?_
    rotate_left
    · (intro wS hSw; have p0 := hSw.1 0 _ rfl; have p1 := hSw.1 1 _ rfl; have p2 := hSw.1 2 _ rfl; have p3 := hSw.1 3 _ rfl; have p4 := hSw.1 4 _ rfl; have pz := hSw.2.2; go_simp; try with_reducible rfl)
    change wpAnyH _ _ _ _ _ _ _ (Act.put _ (some 30) _) _
    simp only [Act.put, List.setIfInBounds_toArray, List.set_cons_zero, List.set_cons_succ]
    refine wpAnyH_take (i := 14) (v := ?_) rfl (by kernel_rfl) (by kernel_rfl) (by kernel_rfl) (fun _ _ _ h => h) (Or.inl ⟨by rfl, ?_⟩) (by assumption) ?_
    rotate_left
    · (intro wS hSw; have p0 := hSw.1 0 _ rfl; have p1 := hSw.1 1 _ rfl; have p2 := hSw.1 2 _ rfl; have p3 := hSw.1 3 _ rfl; have p4 := hSw.1 4 _ rfl; have pz := hSw.2.2; go_simp; try with_reducible rfl)
    change wpAnyH _ _ _ _ _ _ _ (Act.put _ (some 31) _) _
    simp only [Act.put, List.setIfInBounds_toArray, List.set_cons_zero, List.set_cons_succ]
    refine wpAnyH_take (i := 15) (v := ?_) rfl (by kernel_rfl) (by kernel_rfl) (by kernel_rfl) (fun _ _ _ h => h) (Or.inl ⟨by rfl, ?_⟩) (by assumption) ?_
    rotate_left
    · (intro wS hSw; have p0 := hSw.1 0 _ rfl; have p1 := hSw.1 1 _ rfl; have p2 := hSw.1 2 _ rfl; have p3 := hSw.1 3 _ rfl; have p4 := hSw.1 4 _ rfl; have pz := hSw.2.2; go_simp; try with_reducible rfl)
    change wpAnyH _ _ _ _ _ _ _ (Act.put _ (some 32) _) _
    simp only [Act.put, List.setIfInBounds_toArray, List.set_cons_zero, List.set_cons_succ]
    refine wpAnyH_take (i := 16) (v := ?_) rfl (by kernel_rfl) (by kernel_rfl) (by kernel_rfl) (fun _ _ _ h => h) (Or.inl ⟨by rfl, ?_⟩) (by assumption) ?_
    rotate_left
    · (intro wS hSw; have p0 := hSw.1 0 _ rfl; have p1 := hSw.1 1 _ rfl; have p2 := hSw.1 2 _ rfl; have p3 := hSw.1 3 _ rfl; have p4 := hSw.1 4 _ rfl; have pz := hSw.2.2; go_simp; try with_reducible rfl)
    change wpAnyH _ _ _ _ _ _ _ (Act.put _ (some 33) _) _
    simp only [Act.put, List.setIfInBounds_toArray, List.set_cons_zero, List.set_cons_succ]
    refine wpAnyH_take (i := 17) (v := ?_) rfl (by kernel_rfl) (by kernel_rfl) (by kernel_rfl) (fun _ _ _ h => h) (Or.inl ⟨by rfl, ?_⟩) (by assumption) ?_
    rotate_left
    · (intro wS hSw; have p0 := hSw.1 0 _ rfl; have p1 := hSw.1 1 _ rfl; have p2 := hSw.1 2 _ rfl; have p3 := hSw.1 3 _ rfl; have p4 := hSw.1 4 _ rfl; have pz := hSw.2.2; go_simp; try with_reducible rfl)
    change wpAnyH _ _ _ _ _ _ _ (Act.put _ (some 34) _) _
    simp only [Act.put, List.setIfInBounds_toArray, List.set_cons_zero, List.set_cons_succ]
    refine wpAnyH_take (i := 19) (v := ?_) rfl (by kernel_rfl) (by kernel_rfl) (by kernel_rfl) (fun _ _ _ h => h) (Or.inl ⟨by rfl, ?_⟩) (by assumption) ?_
    rotate_left
    · (intro wS hSw; have p0 := hSw.1 0 _ rfl; have p1 := hSw.1 1 _ rfl; have p2 := hSw.1 2 _ rfl; have p3 := hSw.1 3 _ rfl; have p4 := hSw.1 4 _ rfl; have pz := hSw.2.2; go_simp; try with_reducible rfl)
    change wpAnyH _ _ _ _ _ _ _ (Act.put _ (some 36) _) _
    simp only [Act.put, List.setIfInBounds_toArray, List.set_cons_zero, List.set_cons_succ]
    refine wpAnyH_take (i := 20) (v := ?_) rfl (by kernel_rfl) (by kernel_rfl) (by kernel_rfl) (fun _ _ _ h => h) (Or.inl ⟨by rfl, ?_⟩) (by assumption) ?_
    rotate_left
    · (intro wS hSw; have p0 := hSw.1 0 _ rfl; have p1 := hSw.1 1 _ rfl; have p2 := hSw.1 2 _ rfl; have p3 := hSw.1 3 _ rfl; have p4 := hSw.1 4 _ rfl; have pz := hSw.2.2; go_simp; try with_reducible rfl)
    change wpAnyH _ _ _ _ _ _ _ (Act.put _ (some 37) _) _
    simp only [Act.put, List.setIfInBounds_toArray, List.set_cons_zero, List.set_cons_succ]
    refine wpAnyH_take (i := 21) (v := ?_) rfl (by kernel_rfl) (by kernel_rfl) (by kernel_rfl) (fun _ _ _ h => h) (Or.inl ⟨by rfl, ?_⟩) (by assumption) ?_
    rotate_left
    · (intro wS hSw; have p0 := hSw.1 0 _ rfl; have p1 := hSw.1 1 _ rfl; have p2 := hSw.1 2 _ rfl; have p3 := hSw.1 3 _ rfl; have p4 := hSw.1 4 _ rfl; have pz := hSw.2.2; go_simp; try with_reducible rfl)
    change wpAnyH _ _ _ _ _ _ _ (Act.put _ (some 38) _) _
    simp only [Act.put, List.setIfInBounds_toArray, List.set_cons_zero, List.set_cons_succ]
    refine wpAnyH_ready (rs := [18]) (by kernel_rfl) (by simp) ?_
    refine AllReadyH.cons rfl (fun K hK => ?_) AllReadyH.nil
    go_simp
    refine (C5.out _).mono ?_
    rintro e v5 ⟨rfl, hv5⟩
    have F_5 : Hid (Cs v5 p [.int .i64 ka, .int .i64 kb, .int .i64 kc, .int .i64 kd, .int .i64 ke] ∧ LaidK v5 ∧ Below w.heap.size w v5) := ⟨Cs.later hv5 F_4.out.1, F_4.out.2.1.later hv5, F_4.out.2.2.trans (hv5.mono F_4.out.2.2.size)⟩
    clear hv5 F_4
    (try go_wp2_with (fail))
    refine hK.out _ _ ?_ (fun hHeld => ?_)
    · exact F_5.out.1
    clear hK K
    refine wpAnyH_ready (rs := [22]) (by kernel_rfl) (by simp) ?_
    refine AllReadyH.cons rfl (fun K hK => ?_) AllReadyH.nil
    go_simp
    refine (C6.out _).mono ?_
    rintro e v6 ⟨rfl, hv6⟩
    have F_6 : Hid (Cs v6 p [.int .i64 ka, .int .i64 kb, .int .i64 kc, .int .i64 kd, .int .i64 ke] ∧ LaidK v6 ∧ Below w.heap.size w v6) := ⟨Cs.later hv6 F_5.out.1, F_5.out.2.1.later hv6, F_5.out.2.2.trans (hv6.mono F_5.out.2.2.size)⟩
    clear hv6 F_5
    (try go_wp2_with (fail))
    refine hK.out _ _ ?_ (fun hHeld => ?_)
    · exact F_6.out.1
    clear hK K
    refine wpAnyH_take (i := 23) (v := ?_) rfl (by kernel_rfl) (by kernel_rfl) (by kernel_rfl) (fun _ _ _ h => h) (Or.inl ⟨by rfl, ?_⟩) (by assumption) ?_
    rotate_left
    · (intro wS hSw; have p0 := hSw.1 0 _ rfl; have p1 := hSw.1 1 _ rfl; have p2 := hSw.1 2 _ rfl; have p3 := hSw.1 3 _ rfl; have p4 := hSw.1 4 _ rfl; have pz := hSw.2.2; go_simp; try with_reducible rfl)
    change wpAnyH _ _ _ _ _ _ _ (Act.put _ (some 40) _) _
    simp only [Act.put, List.setIfInBounds_toArray, List.set_cons_zero, List.set_cons_succ]
    refine wpAnyH_take (i := 24) (v := ?_) rfl (by kernel_rfl) (by kernel_rfl) (by kernel_rfl) (fun _ _ _ h => h) (Or.inl ⟨by rfl, ?_⟩) (by assumption) ?_
    rotate_left
    · (intro wS hSw; have p0 := hSw.1 0 _ rfl; have p1 := hSw.1 1 _ rfl; have p2 := hSw.1 2 _ rfl; have p3 := hSw.1 3 _ rfl; have p4 := hSw.1 4 _ rfl; have pz := hSw.2.2; go_simp; try with_reducible rfl)
    change wpAnyH _ _ _ _ _ _ _ (Act.put _ (some 41) _) _
    simp only [Act.put, List.setIfInBounds_toArray, List.set_cons_zero, List.set_cons_succ]
    refine wpAnyH_take (i := 25) (v := ?_) rfl (by kernel_rfl) (by kernel_rfl) (by kernel_rfl) (fun _ _ _ h => h) (Or.inl ⟨by rfl, ?_⟩) (by assumption) ?_
    rotate_left
    · (intro wS hSw; have p0 := hSw.1 0 _ rfl; have p1 := hSw.1 1 _ rfl; have p2 := hSw.1 2 _ rfl; have p3 := hSw.1 3 _ rfl; have p4 := hSw.1 4 _ rfl; have pz := hSw.2.2; go_simp; try with_reducible rfl)
    change wpAnyH _ _ _ _ _ _ _ (Act.put _ (some 42) _) _
    simp only [Act.put, List.setIfInBounds_toArray, List.set_cons_zero, List.set_cons_succ]
    refine wpAnyH_take (i := 26) (v := ?_) rfl (by kernel_rfl) (by kernel_rfl) (by kernel_rfl) (fun _ _ _ h => h) (Or.inl ⟨by rfl, ?_⟩) (by assumption) ?_
    rotate_left
    · (intro wS hSw; have p0 := hSw.1 0 _ rfl; have p1 := hSw.1 1 _ rfl; have p2 := hSw.1 2 _ rfl; have p3 := hSw.1 3 _ rfl; have p4 := hSw.1 4 _ rfl; have pz := hSw.2.2; go_simp; try with_reducible rfl)
    change wpAnyH _ _ _ _ _ _ _ (Act.put _ (some 43) _) _
    simp only [Act.put, List.setIfInBounds_toArray, List.set_cons_zero, List.set_cons_succ]
    refine wpAnyH_take (i := 28) (v := ?_) rfl (by kernel_rfl) (by kernel_rfl) (by kernel_rfl) (fun _ _ _ h => h) (Or.inl ⟨by rfl, ?_⟩) (by assumption) ?_
    rotate_left
    · (intro wS hSw; have p0 := hSw.1 0 _ rfl; have p1 := hSw.1 1 _ rfl; have p2 := hSw.1 2 _ rfl; have p3 := hSw.1 3 _ rfl; have p4 := hSw.1 4 _ rfl; have pz := hSw.2.2; go_simp; try with_reducible rfl)
    change wpAnyH _ _ _ _ _ _ _ (Act.put _ (some 45) _) _
    simp only [Act.put, List.setIfInBounds_toArray, List.set_cons_zero, List.set_cons_succ]
    refine wpAnyH_ready (rs := [27]) (by kernel_rfl) (by simp) ?_
    refine AllReadyH.cons rfl (fun K hK => ?_) AllReadyH.nil
    go_simp
    refine (C7.out _ F_6.out.2.1).mono ?_
    rintro e v7 ⟨rfl, hv7⟩
    have F_7 : Hid (Cs v7 p [.int .i64 ka, .int .i64 kb, .int .i64 kc, .int .i64 kd, .int .i64 ke] ∧ LaidK v7 ∧ Below w.heap.size w v7) := ⟨Cs.later hv7 F_6.out.1, F_6.out.2.1.later hv7, F_6.out.2.2.trans (hv7.mono F_6.out.2.2.size)⟩
    clear hv7 F_6
    (try go_wp2_with (fail))
    refine hK.out _ _ ?_ (fun hHeld => ?_)
    · exact F_7.out.1
    clear hK K
    refine wpAnyH_ready (rs := [29]) (by kernel_rfl) (by simp) ?_
    refine AllReadyH.cons rfl (fun K hK => ?_) AllReadyH.nil
    go_simp
    refine (C8.out _).mono ?_
    rintro e v8 ⟨rfl, hv8⟩
    have F_8 : Hid (Cs v8 p [.int .i64 ka, .int .i64 kb, .int .i64 kc, .int .i64 kd, .int .i64 ke] ∧ LaidK v8 ∧ Below w.heap.size w v8) := ⟨Cs.later hv8 F_7.out.1, F_7.out.2.1.later hv8, F_7.out.2.2.trans (hv8.mono F_7.out.2.2.size)⟩
    clear hv8 F_7
    (try go_wp2_with (fail))
    refine hK.out _ _ ?_ (fun hHeld => ?_)
    · exact F_8.out.1
    clear hK K
    refine wpAnyH_take (i := 30) (v := ?_) rfl (by kernel_rfl) (by kernel_rfl) (by kernel_rfl) (fun _ _ _ h => h) (Or.inl ⟨by rfl, ?_⟩) (by assumption) ?_
    rotate_left
    · (intro wS hSw; have p0 := hSw.1 0 _ rfl; have p1 := hSw.1 1 _ rfl; have p2 := hSw.1 2 _ rfl; have p3 := hSw.1 3 _ rfl; have p4 := hSw.1 4 _ rfl; have pz := hSw.2.2; go_simp; try with_reducible rfl)
    change wpAnyH _ _ _ _ _ _ _ (Act.put _ (some 47) _) _
    simp only [Act.put, List.setIfInBounds_toArray, List.set_cons_zero, List.set_cons_succ]
    refine wpAnyH_take (i := 31) (v := ?_) rfl (by kernel_rfl) (by kernel_rfl) (by kernel_rfl) (fun _ _ _ h => h) (Or.inl ⟨by rfl, ?_⟩) (by assumption) ?_
    rotate_left
    · (intro wS hSw; have p0 := hSw.1 0 _ rfl; have p1 := hSw.1 1 _ rfl; have p2 := hSw.1 2 _ rfl; have p3 := hSw.1 3 _ rfl; have p4 := hSw.1 4 _ rfl; have pz := hSw.2.2; go_simp; try with_reducible rfl)
    change wpAnyH _ _ _ _ _ _ _ (Act.put _ (some 48) _) _
    simp only [Act.put, List.setIfInBounds_toArray, List.set_cons_zero, List.set_cons_succ]
    refine wpAnyH_take (i := 32) (v := ?_) rfl (by kernel_rfl) (by kernel_rfl) (by kernel_rfl) (fun _ _ _ h => h) (Or.inl ⟨by rfl, ?_⟩) (by assumption) ?_
    rotate_left
    · (intro wS hSw; have p0 := hSw.1 0 _ rfl; have p1 := hSw.1 1 _ rfl; have p2 := hSw.1 2 _ rfl; have p3 := hSw.1 3 _ rfl; have p4 := hSw.1 4 _ rfl; have pz := hSw.2.2; go_simp; try with_reducible rfl)
    change wpAnyH _ _ _ _ _ _ _ (Act.put _ (some 49) _) _
    simp only [Act.put, List.setIfInBounds_toArray, List.set_cons_zero, List.set_cons_succ]
    refine wpAnyH_take (i := 33) (v := ?_) rfl (by kernel_rfl) (by kernel_rfl) (by kernel_rfl) (fun _ _ _ h => h) (Or.inl ⟨by rfl, ?_⟩) (by assumption) ?_
    rotate_left
    · (intro wS hSw; have p0 := hSw.1 0 _ rfl; have p1 := hSw.1 1 _ rfl; have p2 := hSw.1 2 _ rfl; have p3 := hSw.1 3 _ rfl; have p4 := hSw.1 4 _ rfl; have pz := hSw.2.2; go_simp; try with_reducible rfl)
    change wpAnyH _ _ _ _ _ _ _ (Act.put _ (some 50) _) _
    simp only [Act.put, List.setIfInBounds_toArray, List.set_cons_zero, List.set_cons_succ]
    refine wpAnyH_take (i := 35) (v := ?_) rfl (by kernel_rfl) (by kernel_rfl) (by kernel_rfl) (fun _ _ _ h => h) (Or.inl ⟨by rfl, ?_⟩) (by assumption) ?_
    rotate_left
    · (intro wS hSw; have p0 := hSw.1 0 _ rfl; have p1 := hSw.1 1 _ rfl; have p2 := hSw.1 2 _ rfl; have p3 := hSw.1 3 _ rfl; have p4 := hSw.1 4 _ rfl; have pz := hSw.2.2; go_simp; try with_reducible rfl)
    change wpAnyH _ _ _ _ _ _ _ (Act.put _ (some 52) _) _
    simp only [Act.put, List.setIfInBounds_toArray, List.set_cons_zero, List.set_cons_succ]
    refine wpAnyH_ready (rs := [34]) (by kernel_rfl) (by simp) ?_
    refine AllReadyH.cons rfl (fun K hK => ?_) AllReadyH.nil
    go_simp
    refine (C9.out _ F_8.out.2.1).mono ?_
    rintro e v9 ⟨rfl, hv9⟩
    have F_9 : Hid (Cs v9 p [.int .i64 ka, .int .i64 kb, .int .i64 kc, .int .i64 kd, .int .i64 ke] ∧ LaidK v9 ∧ Below w.heap.size w v9) := ⟨Cs.later hv9 F_8.out.1, F_8.out.2.1.later hv9, F_8.out.2.2.trans (hv9.mono F_8.out.2.2.size)⟩
    clear hv9 F_8
    (try go_wp2_with (fail))
    refine hK.out _ _ ?_ (fun hHeld => ?_)
    · exact F_9.out.1
    clear hK K
    refine wpAnyH_ready (rs := [36]) (by kernel_rfl) (by simp) ?_
    refine AllReadyH.cons rfl (fun K hK => ?_) AllReadyH.nil
    go_simp
    refine (C10.out _).mono ?_
    rintro e v10 ⟨rfl, hv10⟩
    have F_10 : Hid (Cs v10 p [.int .i64 ka, .int .i64 kb, .int .i64 kc, .int .i64 kd, .int .i64 ke] ∧ LaidK v10 ∧ Below w.heap.size w v10) := ⟨Cs.later hv10 F_9.out.1, F_9.out.2.1.later hv10, F_9.out.2.2.trans (hv10.mono F_9.out.2.2.size)⟩
    clear hv10 F_9
    (try go_wp2_with (fail))
    refine hK.out _ _ ?_ (fun hHeld => ?_)
    · exact F_10.out.1
    clear hK K
    refine wpAnyH_take (i := 37) (v := ?_) rfl (by kernel_rfl) (by kernel_rfl) (by kernel_rfl) (fun _ _ _ h => h) (Or.inl ⟨by rfl, ?_⟩) (by assumption) ?_
    rotate_left
    · (intro wS hSw; have p0 := hSw.1 0 _ rfl; have p1 := hSw.1 1 _ rfl; have p2 := hSw.1 2 _ rfl; have p3 := hSw.1 3 _ rfl; have p4 := hSw.1 4 _ rfl; have pz := hSw.2.2; go_simp; try with_reducible rfl)
    change wpAnyH _ _ _ _ _ _ _ (Act.put _ (some 54) _) _
    simp only [Act.put, List.setIfInBounds_toArray, List.set_cons_zero, List.set_cons_succ]
    refine wpAnyH_take (i := 38) (v := ?_) rfl (by kernel_rfl) (by kernel_rfl) (by kernel_rfl) (fun _ _ _ h => h) (Or.inl ⟨by rfl, ?_⟩) (by assumption) ?_
    rotate_left
    · (intro wS hSw; have p0 := hSw.1 0 _ rfl; have p1 := hSw.1 1 _ rfl; have p2 := hSw.1 2 _ rfl; have p3 := hSw.1 3 _ rfl; have p4 := hSw.1 4 _ rfl; have pz := hSw.2.2; go_simp; try with_reducible rfl)
    change wpAnyH _ _ _ _ _ _ _ (Act.put _ (some 55) _) _
    simp only [Act.put, List.setIfInBounds_toArray, List.set_cons_zero, List.set_cons_succ]
    refine wpAnyH_take (i := 39) (v := ?_) rfl (by kernel_rfl) (by kernel_rfl) (by kernel_rfl) (fun _ _ _ h => h) (Or.inl ⟨by rfl, ?_⟩) (by assumption) ?_
    rotate_left
    · (intro wS hSw; have p0 := hSw.1 0 _ rfl; have p1 := hSw.1 1 _ rfl; have p2 := hSw.1 2 _ rfl; have p3 := hSw.1 3 _ rfl; have p4 := hSw.1 4 _ rfl; have pz := hSw.2.2; go_simp; try with_reducible rfl)
    change wpAnyH _ _ _ _ _ _ _ (Act.put _ (some 2) _) _
    simp only [Act.put, List.setIfInBounds_toArray, List.set_cons_zero, List.set_cons_succ]
    refine wpAnyH_done (by kernel_rfl) ?_ _
    refine NoPanic.normal ?_
    have F9 := F_10.out.2.2
    go_wp2_with (fail)
    go_ret
    exact ⟨rfl, F9⟩

end Go.Proofs.YtaeejemknmjglaaDoor.Sp
