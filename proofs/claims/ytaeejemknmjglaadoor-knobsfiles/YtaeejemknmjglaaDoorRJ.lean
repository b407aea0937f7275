/-
  The statement KnobsFiles as a contract at this program. Conditions: the tables of the program lie as its text lays them.
-/
import Derived.Test.YtaeejemknmjglaaDoorRH
namespace Go.Proofs.YtaeejemknmjglaaDoor.Sp
open Go.RowKit

abbrev InF (f : Int) : Prop := f = 0 ∨ f = 1 ∨ f = 2 ∨ f = 3 ∨ f = 4
theorem put_no {f k n : Int} {i : Int} (h : ¬ InF f) (hi : InF i) : putK i f k n = k := by
  unfold putK
  rw [if_neg]
  rintro rfl
  exact h hi
theorem at_put {ka kb kc kd ke f n : Int} (h : InF f) : atK (putK 0 f ka n) (putK 1 f kb n) (putK 2 f kc n) (putK 3 f kd n) (putK 4 f ke n) f = n := by
  rcases h with rfl | rfl | rfl | rfl | rfl <;> rfl
theorem at_else {ka kb kc kd ke f g n : Int} (h : f ≠ g) : atK (putK 0 f ka n) (putK 1 f kb n) (putK 2 f kc n) (putK 3 f kd n) (putK 4 f ke n) g = atK ka kb kc kd ke g := by
  unfold atK putK
  by_cases g0 : g = 0
  · subst g0; simp [h]
  by_cases g1 : g = 1
  · subst g1; simp [h]
  by_cases g2 : g = 2
  · subst g2; simp [h]
  by_cases g3 : g = 3
  · subst g3; simp [h]
  by_cases g4 : g = 4
  · subst g4; simp [h]
  simp [g0, g1, g2, g3, g4]
theorem put_back {ka kb kc kd ke f n : Int} : withV (putK 0 f ka n) (putK 1 f kb n) (putK 2 f kc n) (putK 3 f kd n) (putK 4 f ke n) f (atK ka kb kc kd ke f) = .agg #[.int .i64 ka, .int .i64 kb, .int .i64 kc, .int .i64 kd, .int .i64 ke] := by
  by_cases h : InF f
  · rcases h with rfl | rfl | rfl | rfl | rfl <;> rfl
  · unfold withV
    rw [put_no h (by omega), put_no h (by omega), put_no h (by omega), put_no h (by omega), put_no h (by omega), put_no h (by omega), put_no h (by omega), put_no h (by omega), put_no h (by omega), put_no h (by omega)]
theorem put_swap {i f g k n m : Int} (h : f ≠ g) : putK i g (putK i f k n) m = putK i f (putK i g k m) n := by
  unfold putK
  by_cases a : g = i
  · rw [if_pos a, if_neg (by omega), if_pos a]
  · rw [if_neg a, if_neg a]

set_option maxHeartbeats 4000000 in
set_option maxRecDepth 100000 in
theorem knobsFiles_any (ka kb kc kd ke f g n m : Int) (w : World) (hL : LaidK w) :
    Calls Tryd.prog 7 #[.agg #[.int .i64 ka, .int .i64 kb, .int .i64 kc, .int .i64 kd, .int .i64 ke], .agg #[.int .i64 f, .int .i64 g], .agg #[.int .i64 n, .int .i64 m]] w fun e w' => e = .returned (.bool true) ∧ Below w.heap.size w w' := by
  have HL : Hid (LaidK w) := hL
  clear hL
  go_enter Tryd.func7, Tryd.ntmps7
  go_wp2_with (fail)
  refine (firstK_is _ (((HL.out.alloc _).alloc _).alloc _)).mono ?_
  rintro e w1 ⟨rfl, hw1⟩
  have HBw1 : Below w.heap.size w w1 := Below.trans (by go_grown) (hw1.mono (by first | omega | (simp; done) | (simp; omega)))
  have p_p : Cs w1 (w.heap.size) [.int .i64 ka, .int .i64 kb, .int .i64 kc, .int .i64 kd, .int .i64 ke] := Cs.later hw1 (by repeat (first | assumption | (refine Cs.new _ _ _ _ ?_; simp; done) | refine Cs.alloc ?_ _ | refine Cs.drew ?_ | (refine Cs.beside ?_ _ _ (by omega))))
  have p_q : Cs w1 (w.heap.size + 1) [.int .i64 f, .int .i64 g] := Cs.later hw1 (by repeat (first | assumption | (refine Cs.new _ _ _ _ ?_; simp; done) | refine Cs.alloc ?_ _ | refine Cs.drew ?_ | (refine Cs.beside ?_ _ _ (by omega))))
  have p_r : Cs w1 (w.heap.size + 1 + 1) [.int .i64 n, .int .i64 m] := Cs.later hw1 (by repeat (first | assumption | (refine Cs.new _ _ _ _ ?_; simp; done) | refine Cs.alloc ?_ _ | refine Cs.drew ?_ | (refine Cs.beside ?_ _ _ (by omega))))
  have q_p := p_p
  have p0 : w1.cell? ⟨w.heap.size, 0, none⟩ = some (.int .i64 ka) := p_p.1 0 _ rfl
  have p1 : w1.cell? ⟨w.heap.size, 1, none⟩ = some (.int .i64 kb) := p_p.1 1 _ rfl
  have p2 : w1.cell? ⟨w.heap.size, 2, none⟩ = some (.int .i64 kc) := p_p.1 2 _ rfl
  have p3 : w1.cell? ⟨w.heap.size, 3, none⟩ = some (.int .i64 kd) := p_p.1 3 _ rfl
  have p4 : w1.cell? ⟨w.heap.size, 4, none⟩ = some (.int .i64 ke) := p_p.1 4 _ rfl
  have pz : w.heap.size < w1.heap.size := p_p.2.2
  clear p_p
  have q_q := p_q
  have q0 : w1.cell? ⟨w.heap.size + 1, 0, none⟩ = some (.int .i64 f) := p_q.1 0 _ rfl
  have q1 : w1.cell? ⟨w.heap.size + 1, 1, none⟩ = some (.int .i64 g) := p_q.1 1 _ rfl
  have qz : w.heap.size + 1 < w1.heap.size := p_q.2.2
  clear p_q
  have q_r := p_r
  have r0 : w1.cell? ⟨w.heap.size + 1 + 1, 0, none⟩ = some (.int .i64 n) := p_r.1 0 _ rfl
  have r1 : w1.cell? ⟨w.heap.size + 1 + 1, 1, none⟩ = some (.int .i64 m) := p_r.1 1 _ rfl
  have rz : w.heap.size + 1 + 1 < w1.heap.size := p_r.2.2
  clear p_r
  have hsw1 := hw1.size
  (try simp at hsw1)
  clear hw1
  clear HL
  go_upto_region 3 with (fail)
  obtain ⟨W, hW⟩ : ∃ W, W = w1 := ⟨_, rfl⟩
  rw [← hW] at HBw1 q_p q_q q_r ⊢
  clear p0 p1 p2 p3 p4 pz q0 q1 qz r0 r1 rz hW hsw1
  go_cut [7, 8, 9, 10] (fun s7 s8 s9 s10 wc => s7 = .int .i64 f ∧ s8 = .int .i64 g ∧ s9 = .int .i64 n ∧ s10 = .int .i64 m ∧ Cs wc w.heap.size [.int .i64 ka, .int .i64 kb, .int .i64 kc, .int .i64 kd, .int .i64 ke] ∧ Below w.heap.size w wc)
  case first =>
    have F_0 : Hid ((Cs _ (w.heap.size + 1) [.int .i64 f, .int .i64 g] ∧ Cs _ (w.heap.size + 1 + 1) [.int .i64 n, .int .i64 m]) ∧ Cs _ w.heap.size [.int .i64 ka, .int .i64 kb, .int .i64 kc, .int .i64 kd, .int .i64 ke] ∧ Below w.heap.size w _) := ⟨⟨Cs.drew q_q, Cs.drew q_r⟩, Cs.drew q_p, Below.drew HBw1⟩
    refine wp_region_noPanic ?_
    refine wp_region_held_drew (S := fun w' => Cs w' (w.heap.size + 1) [.int .i64 f, .int .i64 g] ∧ Cs w' (w.heap.size + 1 + 1) [.int .i64 n, .int .i64 m]) (by kernel_rfl) ?_ (fun hHeld => ?_)
    · exact F_0.out.1
    refine wpAnyH_take (i := 0) (v := ?_) rfl (by kernel_rfl) (by kernel_rfl) (by kernel_rfl) (fun _ _ _ h => h) (Or.inl ⟨by rfl, ?_⟩) (by assumption) ?_
    rotate_left
    · (intro wS hSw; have c0 := hSw.1.1 0 _ rfl; have c1 := hSw.1.1 1 _ rfl; have cz := hSw.1.2.2; have d0 := hSw.2.1 0 _ rfl; have d1 := hSw.2.1 1 _ rfl; have dz := hSw.2.2.2; go_simp; try with_reducible rfl)
    change wpAnyH _ _ _ _ _ _ _ (Act.put _ (some 14) _) _
    simp only [Act.put, List.setIfInBounds_toArray, List.set_cons_zero, List.set_cons_succ]
    refine wpAnyH_take (i := 1) (v := ?_) rfl (by kernel_rfl) (by kernel_rfl) (by kernel_rfl) (fun _ _ _ h => h) (Or.inl ⟨by rfl, ?_⟩) (by assumption) ?_
    rotate_left
    · (intro wS hSw; have c0 := hSw.1.1 0 _ rfl; have c1 := hSw.1.1 1 _ rfl; have cz := hSw.1.2.2; have d0 := hSw.2.1 0 _ rfl; have d1 := hSw.2.1 1 _ rfl; have dz := hSw.2.2.2; go_simp; try with_reducible rfl)
    change wpAnyH _ _ _ _ _ _ _ (Act.put _ (some 15) _) _
    simp only [Act.put, List.setIfInBounds_toArray, List.set_cons_zero, List.set_cons_succ]
    refine wpAnyH_take (i := 2) (v := ?_) rfl (by kernel_rfl) (by kernel_rfl) (by kernel_rfl) (fun _ _ _ h => h) (Or.inl ⟨by rfl, ?_⟩) (by assumption) ?_
    rotate_left
    · (intro wS hSw; have c0 := hSw.1.1 0 _ rfl; have c1 := hSw.1.1 1 _ rfl; have cz := hSw.1.2.2; have d0 := hSw.2.1 0 _ rfl; have d1 := hSw.2.1 1 _ rfl; have dz := hSw.2.2.2; go_simp; try with_reducible rfl)
    change wpAnyH _ _ _ _ _ _ _ (Act.put _ (some 16) _) _
    simp only [Act.put, List.setIfInBounds_toArray, List.set_cons_zero, List.set_cons_succ]
    refine wpAnyH_take (i := 3) (v := ?_) rfl (by kernel_rfl) (by kernel_rfl) (by kernel_rfl) (fun _ _ _ h => h) (Or.inl ⟨by rfl, ?_⟩) (by assumption) ?_
    rotate_left
    · (intro wS hSw; have c0 := hSw.1.1 0 _ rfl; have c1 := hSw.1.1 1 _ rfl; have cz := hSw.1.2.2; have d0 := hSw.2.1 0 _ rfl; have d1 := hSw.2.1 1 _ rfl; have dz := hSw.2.2.2; go_simp; try with_reducible rfl)
    change wpAnyH _ _ _ _ _ _ _ (Act.put _ (some 17) _) _
    simp only [Act.put, List.setIfInBounds_toArray, List.set_cons_zero, List.set_cons_succ]
    refine wpAnyH_take (i := 4) (v := ?_) rfl (by kernel_rfl) (by kernel_rfl) (by kernel_rfl) (fun _ _ _ h => h) (Or.inl ⟨by rfl, ?_⟩) (by assumption) ?_
    rotate_left
    · (intro wS hSw; have c0 := hSw.1.1 0 _ rfl; have c1 := hSw.1.1 1 _ rfl; have cz := hSw.1.2.2; have d0 := hSw.2.1 0 _ rfl; have d1 := hSw.2.1 1 _ rfl; have dz := hSw.2.2.2; go_simp; try with_reducible rfl)
    change wpAnyH _ _ _ _ _ _ _ (Act.put _ (some 18) _) _
    simp only [Act.put, List.setIfInBounds_toArray, List.set_cons_zero, List.set_cons_succ]
    refine wpAnyH_take (i := 5) (v := ?_) rfl (by kernel_rfl) (by kernel_rfl) (by kernel_rfl) (fun _ _ _ h => h) (Or.inl ⟨by rfl, ?_⟩) (by assumption) ?_
    rotate_left
    · (intro wS hSw; have c0 := hSw.1.1 0 _ rfl; have c1 := hSw.1.1 1 _ rfl; have cz := hSw.1.2.2; have d0 := hSw.2.1 0 _ rfl; have d1 := hSw.2.1 1 _ rfl; have dz := hSw.2.2.2; go_simp; try with_reducible rfl)
    change wpAnyH _ _ _ _ _ _ _ (Act.put _ (some 19) _) _
    simp only [Act.put, List.setIfInBounds_toArray, List.set_cons_zero, List.set_cons_succ]
    refine wpAnyH_take (i := 6) (v := ?_) rfl (by kernel_rfl) (by kernel_rfl) (by kernel_rfl) (fun _ _ _ h => h) (Or.inl ⟨by rfl, ?_⟩) (by assumption) ?_
    rotate_left
    · (intro wS hSw; have c0 := hSw.1.1 0 _ rfl; have c1 := hSw.1.1 1 _ rfl; have cz := hSw.1.2.2; have d0 := hSw.2.1 0 _ rfl; have d1 := hSw.2.1 1 _ rfl; have dz := hSw.2.2.2; go_simp; try with_reducible rfl)
    change wpAnyH _ _ _ _ _ _ _ (Act.put _ (some 20) _) _
    simp only [Act.put, List.setIfInBounds_toArray, List.set_cons_zero, List.set_cons_succ]
    refine wpAnyH_take (i := 7) (v := ?_) rfl (by kernel_rfl) (by kernel_rfl) (by kernel_rfl) (fun _ _ _ h => h) (Or.inl ⟨by rfl, ?_⟩) (by assumption) ?_
    rotate_left
    · (intro wS hSw; have c0 := hSw.1.1 0 _ rfl; have c1 := hSw.1.1 1 _ rfl; have cz := hSw.1.2.2; have d0 := hSw.2.1 0 _ rfl; have d1 := hSw.2.1 1 _ rfl; have dz := hSw.2.2.2; go_simp; try with_reducible rfl)
    change wpAnyH _ _ _ _ _ _ _ (Act.put _ (some 21) _) _
    simp only [Act.put, List.setIfInBounds_toArray, List.set_cons_zero, List.set_cons_succ]
    refine wpAnyH_take (i := 8) (v := ?_) rfl (by kernel_rfl) (by kernel_rfl) (by kernel_rfl) (fun _ _ _ h => h) (Or.inl ⟨by rfl, ?_⟩) (by assumption) ?_
    rotate_left
    · (intro wS hSw; have c0 := hSw.1.1 0 _ rfl; have c1 := hSw.1.1 1 _ rfl; have cz := hSw.1.2.2; have d0 := hSw.2.1 0 _ rfl; have d1 := hSw.2.1 1 _ rfl; have dz := hSw.2.2.2; go_simp; try with_reducible rfl)
    change wpAnyH _ _ _ _ _ _ _ (Act.put _ (some 7) _) _
    simp only [Act.put, List.setIfInBounds_toArray, List.set_cons_zero, List.set_cons_succ]
    refine wpAnyH_take (i := 9) (v := ?_) rfl (by kernel_rfl) (by kernel_rfl) (by kernel_rfl) (fun _ _ _ h => h) (Or.inl ⟨by rfl, ?_⟩) (by assumption) ?_
    rotate_left
    · (intro wS hSw; have c0 := hSw.1.1 0 _ rfl; have c1 := hSw.1.1 1 _ rfl; have cz := hSw.1.2.2; have d0 := hSw.2.1 0 _ rfl; have d1 := hSw.2.1 1 _ rfl; have dz := hSw.2.2.2; go_simp; try with_reducible rfl)
    change wpAnyH _ _ _ _ _ _ _ (Act.put _ (some 8) _) _
    simp only [Act.put, List.setIfInBounds_toArray, List.set_cons_zero, List.set_cons_succ]
    refine wpAnyH_take (i := 10) (v := ?_) rfl (by kernel_rfl) (by kernel_rfl) (by kernel_rfl) (fun _ _ _ h => h) (Or.inl ⟨by rfl, ?_⟩) (by assumption) ?_
    rotate_left
    · (intro wS hSw; have c0 := hSw.1.1 0 _ rfl; have c1 := hSw.1.1 1 _ rfl; have cz := hSw.1.2.2; have d0 := hSw.2.1 0 _ rfl; have d1 := hSw.2.1 1 _ rfl; have dz := hSw.2.2.2; go_simp; try with_reducible rfl)
    change wpAnyH _ _ _ _ _ _ _ (Act.put _ (some 9) _) _
    simp only [Act.put, List.setIfInBounds_toArray, List.set_cons_zero, List.set_cons_succ]
    refine wpAnyH_take (i := 11) (v := ?_) rfl (by kernel_rfl) (by kernel_rfl) (by kernel_rfl) (fun _ _ _ h => h) (Or.inl ⟨by rfl, ?_⟩) (by assumption) ?_
    rotate_left
    · (intro wS hSw; have c0 := hSw.1.1 0 _ rfl; have c1 := hSw.1.1 1 _ rfl; have cz := hSw.1.2.2; have d0 := hSw.2.1 0 _ rfl; have d1 := hSw.2.1 1 _ rfl; have dz := hSw.2.2.2; go_simp; try with_reducible rfl)
    change wpAnyH _ _ _ _ _ _ _ (Act.put _ (some 10) _) _
    simp only [Act.put, List.setIfInBounds_toArray, List.set_cons_zero, List.set_cons_succ]
    refine wpAnyH_done (by kernel_rfl) ?_ _
    refine NoPanic.normal ?_
    have F1 := F_0.out.2
    go_wp2_with (fail)
    go_meet
    case rel => exact ⟨rfl, rfl, rfl, rfl, F1⟩
  case rest =>
    clear q_p q_q q_r HBw1
    obtain ⟨rfl, rfl, rfl, rfl, q_p, HB⟩ := hcut
    have p0 := q_p.1 0 _ rfl
    have p1 := q_p.1 1 _ rfl
    have p2 := q_p.1 2 _ rfl
    have p3 := q_p.1 3 _ rfl
    have p4 := q_p.1 4 _ rfl
    have pz := q_p.2.2
    go_wp2_with (fail)
    refine (with_is ka kb kc kd ke f n _).mono ?_
    rintro e w2 ⟨rfl, hw2⟩
    have HB2 : Below w.heap.size w w2 := HB.trans (hw2.mono HB.size)
    have u_p := Cs.later hw2 q_p
    clear q_p p0 p1 p2 p3 p4 pz hw2 HB
    by_cases hf : InF f
    · obtain ⟨a0, e0⟩ : ∃ a, a = putK 0 f ka n := ⟨_, rfl⟩
      obtain ⟨a1, e1⟩ : ∃ a, a = putK 1 f kb n := ⟨_, rfl⟩
      obtain ⟨a2, e2⟩ : ∃ a, a = putK 2 f kc n := ⟨_, rfl⟩
      obtain ⟨a3, e3⟩ : ∃ a, a = putK 3 f kd n := ⟨_, rfl⟩
      obtain ⟨a4, e4⟩ : ∃ a, a = putK 4 f ke n := ⟨_, rfl⟩
      obtain ⟨z, hz⟩ : ∃ z, z = atK ka kb kc kd ke f := ⟨_, rfl⟩
      have CA : Hid (∀ w, Calls Tryd.prog 17 #[.agg #[.int .i64 a0, .int .i64 a1, .int .i64 a2, .int .i64 a3, .int .i64 a4], .int .i64 f] w fun e w' => e = .returned (.int .i64 n) ∧ Below w.heap.size w w') := fun w => by
        have := at_is a0 a1 a2 a3 a4 f w
        rw [show atK a0 a1 a2 a3 a4 f = n by rw [e0, e1, e2, e3, e4]; exact at_put hf] at this
        exact this
      have CZ : Hid (∀ w, Calls Tryd.prog 17 #[.agg #[.int .i64 ka, .int .i64 kb, .int .i64 kc, .int .i64 kd, .int .i64 ke], .int .i64 f] w fun e w' => e = .returned (.int .i64 z) ∧ Below w.heap.size w w') := fun w => by rw [hz]; exact at_is ka kb kc kd ke f w
      have CW : Hid (∀ w, Calls Tryd.prog 19 #[.agg #[.int .i64 a0, .int .i64 a1, .int .i64 a2, .int .i64 a3, .int .i64 a4], .int .i64 f, .int .i64 z] w fun e w' => e = .returned (.agg #[.int .i64 ka, .int .i64 kb, .int .i64 kc, .int .i64 kd, .int .i64 ke]) ∧ Below w.heap.size w w') := fun w => by
        have := with_is a0 a1 a2 a3 a4 f z w
        rw [show withV a0 a1 a2 a3 a4 f z = .agg #[.int .i64 ka, .int .i64 kb, .int .i64 kc, .int .i64 kd, .int .i64 ke] by rw [hz, e0, e1, e2, e3, e4]; exact put_back] at this
        exact this
      have S : Hid (f ≠ g → ∃ y v0 v1 v2 v3 v4 b0 b1 b2 b3 b4 : Int, (∀ w, Calls Tryd.prog 17 #[.agg #[.int .i64 a0, .int .i64 a1, .int .i64 a2, .int .i64 a3, .int .i64 a4], .int .i64 g] w fun e w' => e = .returned (.int .i64 y) ∧ Below w.heap.size w w') ∧ (∀ w, Calls Tryd.prog 17 #[.agg #[.int .i64 ka, .int .i64 kb, .int .i64 kc, .int .i64 kd, .int .i64 ke], .int .i64 g] w fun e w' => e = .returned (.int .i64 y) ∧ Below w.heap.size w w') ∧
          (∀ w, Calls Tryd.prog 19 #[.agg #[.int .i64 a0, .int .i64 a1, .int .i64 a2, .int .i64 a3, .int .i64 a4], .int .i64 g, .int .i64 m] w fun e w' => e = .returned (.agg #[.int .i64 v0, .int .i64 v1, .int .i64 v2, .int .i64 v3, .int .i64 v4]) ∧ Below w.heap.size w w') ∧ (∀ w, Calls Tryd.prog 19 #[.agg #[.int .i64 ka, .int .i64 kb, .int .i64 kc, .int .i64 kd, .int .i64 ke], .int .i64 g, .int .i64 m] w fun e w' => e = .returned (.agg #[.int .i64 b0, .int .i64 b1, .int .i64 b2, .int .i64 b3, .int .i64 b4]) ∧ Below w.heap.size w w') ∧
          (∀ w, Calls Tryd.prog 19 #[.agg #[.int .i64 b0, .int .i64 b1, .int .i64 b2, .int .i64 b3, .int .i64 b4], .int .i64 f, .int .i64 n] w fun e w' => e = .returned (.agg #[.int .i64 v0, .int .i64 v1, .int .i64 v2, .int .i64 v3, .int .i64 v4]) ∧ Below w.heap.size w w')) := fun h => by
        refine ⟨atK ka kb kc kd ke g, putK 0 g a0 m, putK 1 g a1 m, putK 2 g a2 m, putK 3 g a3 m, putK 4 g a4 m, putK 0 g ka m, putK 1 g kb m, putK 2 g kc m, putK 3 g kd m, putK 4 g ke m, fun w => ?_, fun w => at_is ka kb kc kd ke g w, fun w => with_is _ _ _ _ _ g m w, fun w => with_is _ _ _ _ _ g m w, fun w => ?_⟩
        · have := at_is a0 a1 a2 a3 a4 g w
          rw [show atK a0 a1 a2 a3 a4 g = atK ka kb kc kd ke g by rw [e0, e1, e2, e3, e4]; exact at_else h] at this
          exact this
        · rw [e0, e1, e2, e3, e4, put_swap h, put_swap h, put_swap h, put_swap h, put_swap h]
          exact with_is _ _ _ _ _ f n w
      rw [show withV ka kb kc kd ke f n = .agg #[.int .i64 a0, .int .i64 a1, .int .i64 a2, .int .i64 a3, .int .i64 a4] by rw [e0, e1, e2, e3, e4]]
      have f0 : ¬ f < 0 := by omega
      have f4 : ¬ 4 < f := by omega
      clear e0 e1 e2 e3 e4 hz hf
      go_upto_region 7 with (fail)
      have k_a : Cs (w2.alloc (.cells #[.int .i64 a0, .int .i64 a1, .int .i64 a2, .int .i64 a3, .int .i64 a4] 33)) w2.heap.size [.int .i64 a0, .int .i64 a1, .int .i64 a2, .int .i64 a3, .int .i64 a4] := Cs.new _ _ _ _ rfl
      have k_p := u_p.alloc (.cells #[.int .i64 a0, .int .i64 a1, .int .i64 a2, .int .i64 a3, .int .i64 a4] 33)
      have HB3 : Below w.heap.size w (w2.alloc (.cells #[.int .i64 a0, .int .i64 a1, .int .i64 a2, .int .i64 a3, .int .i64 a4] 33)) := HB2.alloc HB2.size _
      obtain ⟨W3, hW3⟩ : ∃ W, W = w2.alloc (.cells #[.int .i64 a0, .int .i64 a1, .int .i64 a2, .int .i64 a3, .int .i64 a4] 33) := ⟨_, rfl⟩
      rw [← hW3] at k_a k_p HB3 ⊢
      obtain ⟨na, hna⟩ : ∃ n, n = w2.heap.size := ⟨_, rfl⟩
      rw [← hna] at k_a ⊢
      clear hW3 hna u_p HB2 f0 f4
      go_cut [55] (fun s55 wc => s55 = .bool false ∧ Hid ((Cs wc na [.int .i64 a0, .int .i64 a1, .int .i64 a2, .int .i64 a3, .int .i64 a4] ∧ Cs wc w.heap.size [.int .i64 ka, .int .i64 kb, .int .i64 kc, .int .i64 kd, .int .i64 ke]) ∧ Below w.heap.size w wc))
      case first =>
        clear S
        have F_0 : Hid ((Cs _ na [.int .i64 a0, .int .i64 a1, .int .i64 a2, .int .i64 a3, .int .i64 a4] ∧ Cs _ w.heap.size [.int .i64 ka, .int .i64 kb, .int .i64 kc, .int .i64 kd, .int .i64 ke]) ∧ Below w.heap.size w _) := ⟨⟨Cs.drew k_a, Cs.drew k_p⟩, Below.drew HB3⟩
        refine wp_region_noPanic ?_
        refine wp_region_held_drew (S := fun w' => Cs w' na [.int .i64 a0, .int .i64 a1, .int .i64 a2, .int .i64 a3, .int .i64 a4] ∧ Cs w' w.heap.size [.int .i64 ka, .int .i64 kb, .int .i64 kc, .int .i64 kd, .int .i64 ke]) (by kernel_rfl) ?_ (fun hHeld => ?_)
        · exact F_0.out.1
        refine wpAnyH_take (i := 0) (v := ?_) rfl (by kernel_rfl) (by kernel_rfl) (by kernel_rfl) (fun _ _ _ h => h) (Or.inl ⟨by rfl, ?_⟩) (by assumption) ?_
        rotate_left
        · (intro wS hSw; have a0' := hSw.1.1 0 _ rfl; have a1' := hSw.1.1 1 _ rfl; have a2' := hSw.1.1 2 _ rfl; have a3' := hSw.1.1 3 _ rfl; have a4' := hSw.1.1 4 _ rfl; have az := hSw.1.2.2; have p0 := hSw.2.1 0 _ rfl; have p1 := hSw.2.1 1 _ rfl; have p2 := hSw.2.1 2 _ rfl; have p3 := hSw.2.1 3 _ rfl; have p4 := hSw.2.1 4 _ rfl; have pz := hSw.2.2.2; go_simp; try with_reducible rfl)
        change wpAnyH _ _ _ _ _ _ _ (Act.put _ (some 41) _) _
        simp only [Act.put, List.setIfInBounds_toArray, List.set_cons_zero, List.set_cons_succ]
        refine wpAnyH_take (i := 1) (v := ?_) rfl (by kernel_rfl) (by kernel_rfl) (by kernel_rfl) (fun _ _ _ h => h) (Or.inl ⟨by rfl, ?_⟩) (by assumption) ?_
        rotate_left
        · (intro wS hSw; have a0' := hSw.1.1 0 _ rfl; have a1' := hSw.1.1 1 _ rfl; have a2' := hSw.1.1 2 _ rfl; have a3' := hSw.1.1 3 _ rfl; have a4' := hSw.1.1 4 _ rfl; have az := hSw.1.2.2; have p0 := hSw.2.1 0 _ rfl; have p1 := hSw.2.1 1 _ rfl; have p2 := hSw.2.1 2 _ rfl; have p3 := hSw.2.1 3 _ rfl; have p4 := hSw.2.1 4 _ rfl; have pz := hSw.2.2.2; go_simp; try with_reducible rfl)
        change wpAnyH _ _ _ _ _ _ _ (Act.put _ (some 42) _) _
        simp only [Act.put, List.setIfInBounds_toArray, List.set_cons_zero, List.set_cons_succ]
        refine wpAnyH_take (i := 3) (v := ?_) rfl (by kernel_rfl) (by kernel_rfl) (by kernel_rfl) (fun _ _ _ h => h) (Or.inl ⟨by rfl, ?_⟩) (by assumption) ?_
        rotate_left
        · (intro wS hSw; have a0' := hSw.1.1 0 _ rfl; have a1' := hSw.1.1 1 _ rfl; have a2' := hSw.1.1 2 _ rfl; have a3' := hSw.1.1 3 _ rfl; have a4' := hSw.1.1 4 _ rfl; have az := hSw.1.2.2; have p0 := hSw.2.1 0 _ rfl; have p1 := hSw.2.1 1 _ rfl; have p2 := hSw.2.1 2 _ rfl; have p3 := hSw.2.1 3 _ rfl; have p4 := hSw.2.1 4 _ rfl; have pz := hSw.2.2.2; go_simp; try with_reducible rfl)
        change wpAnyH _ _ _ _ _ _ _ (Act.put _ (some 44) _) _
        simp only [Act.put, List.setIfInBounds_toArray, List.set_cons_zero, List.set_cons_succ]
        refine wpAnyH_ready (rs := [2]) (by kernel_rfl) (by simp) ?_
        refine AllReadyH.cons rfl (fun K hK => ?_) AllReadyH.nil
        go_simp
        refine (CA.out _).mono ?_
        rintro e v1 ⟨rfl, hv1⟩
        have F_1 : Hid ((Cs v1 na [.int .i64 a0, .int .i64 a1, .int .i64 a2, .int .i64 a3, .int .i64 a4] ∧ Cs v1 w.heap.size [.int .i64 ka, .int .i64 kb, .int .i64 kc, .int .i64 kd, .int .i64 ke]) ∧ Below w.heap.size w v1) := ⟨⟨Cs.later hv1 F_0.out.1.1, Cs.later hv1 F_0.out.1.2⟩, F_0.out.2.trans (hv1.mono F_0.out.2.size)⟩
        clear hv1 F_0
        (try go_wp2_with (fail))
        refine hK.out _ _ ?_ (fun hHeld => ?_)
        · exact F_1.out.1
        clear hK K
        refine wpAnyH_take (i := 4) (v := ?_) rfl (by kernel_rfl) (by kernel_rfl) (by kernel_rfl) (fun _ _ _ h => h) (Or.inl ⟨by rfl, ?_⟩) (by assumption) ?_
        rotate_left
        · (intro wS hSw; have a0' := hSw.1.1 0 _ rfl; have a1' := hSw.1.1 1 _ rfl; have a2' := hSw.1.1 2 _ rfl; have a3' := hSw.1.1 3 _ rfl; have a4' := hSw.1.1 4 _ rfl; have az := hSw.1.2.2; have p0 := hSw.2.1 0 _ rfl; have p1 := hSw.2.1 1 _ rfl; have p2 := hSw.2.1 2 _ rfl; have p3 := hSw.2.1 3 _ rfl; have p4 := hSw.2.1 4 _ rfl; have pz := hSw.2.2.2; go_simp; try with_reducible rfl)
        change wpAnyH _ _ _ _ _ _ _ (Act.put _ (some 45) _) _
        simp only [Act.put, List.setIfInBounds_toArray, List.set_cons_zero, List.set_cons_succ]
        refine wpAnyH_take (i := 5) (v := ?_) rfl (by kernel_rfl) (by kernel_rfl) (by kernel_rfl) (fun _ _ _ h => h) (Or.inl ⟨by rfl, ?_⟩) (by assumption) ?_
        rotate_left
        · (intro wS hSw; have a0' := hSw.1.1 0 _ rfl; have a1' := hSw.1.1 1 _ rfl; have a2' := hSw.1.1 2 _ rfl; have a3' := hSw.1.1 3 _ rfl; have a4' := hSw.1.1 4 _ rfl; have az := hSw.1.2.2; have p0 := hSw.2.1 0 _ rfl; have p1 := hSw.2.1 1 _ rfl; have p2 := hSw.2.1 2 _ rfl; have p3 := hSw.2.1 3 _ rfl; have p4 := hSw.2.1 4 _ rfl; have pz := hSw.2.2.2; go_simp; try with_reducible rfl)
        change wpAnyH _ _ _ _ _ _ _ (Act.put _ (some 46) _) _
        simp only [Act.put, List.setIfInBounds_toArray, List.set_cons_zero, List.set_cons_succ]
        refine wpAnyH_take (i := 6) (v := ?_) rfl (by kernel_rfl) (by kernel_rfl) (by kernel_rfl) (fun _ _ _ h => h) (Or.inl ⟨by rfl, ?_⟩) (by assumption) ?_
        rotate_left
        · (intro wS hSw; have a0' := hSw.1.1 0 _ rfl; have a1' := hSw.1.1 1 _ rfl; have a2' := hSw.1.1 2 _ rfl; have a3' := hSw.1.1 3 _ rfl; have a4' := hSw.1.1 4 _ rfl; have az := hSw.1.2.2; have p0 := hSw.2.1 0 _ rfl; have p1 := hSw.2.1 1 _ rfl; have p2 := hSw.2.1 2 _ rfl; have p3 := hSw.2.1 3 _ rfl; have p4 := hSw.2.1 4 _ rfl; have pz := hSw.2.2.2; go_simp; try with_reducible rfl)
        change wpAnyH _ _ _ _ _ _ _ (Act.put _ (some 47) _) _
        simp only [Act.put, List.setIfInBounds_toArray, List.set_cons_zero, List.set_cons_succ]
        refine wpAnyH_take (i := 7) (v := ?_) rfl (by kernel_rfl) (by kernel_rfl) (by kernel_rfl) (fun _ _ _ h => h) (Or.inl ⟨by rfl, ?_⟩) (by assumption) ?_
        rotate_left
        · (intro wS hSw; have a0' := hSw.1.1 0 _ rfl; have a1' := hSw.1.1 1 _ rfl; have a2' := hSw.1.1 2 _ rfl; have a3' := hSw.1.1 3 _ rfl; have a4' := hSw.1.1 4 _ rfl; have az := hSw.1.2.2; have p0 := hSw.2.1 0 _ rfl; have p1 := hSw.2.1 1 _ rfl; have p2 := hSw.2.1 2 _ rfl; have p3 := hSw.2.1 3 _ rfl; have p4 := hSw.2.1 4 _ rfl; have pz := hSw.2.2.2; go_simp; try with_reducible rfl)
        change wpAnyH _ _ _ _ _ _ _ (Act.put _ (some 48) _) _
        simp only [Act.put, List.setIfInBounds_toArray, List.set_cons_zero, List.set_cons_succ]
        refine wpAnyH_take (i := 8) (v := ?_) rfl (by kernel_rfl) (by kernel_rfl) (by kernel_rfl) (fun _ _ _ h => h) (Or.inl ⟨by rfl, ?_⟩) (by assumption) ?_
        rotate_left
        · (intro wS hSw; have a0' := hSw.1.1 0 _ rfl; have a1' := hSw.1.1 1 _ rfl; have a2' := hSw.1.1 2 _ rfl; have a3' := hSw.1.1 3 _ rfl; have a4' := hSw.1.1 4 _ rfl; have az := hSw.1.2.2; have p0 := hSw.2.1 0 _ rfl; have p1 := hSw.2.1 1 _ rfl; have p2 := hSw.2.1 2 _ rfl; have p3 := hSw.2.1 3 _ rfl; have p4 := hSw.2.1 4 _ rfl; have pz := hSw.2.2.2; go_simp; try with_reducible rfl)
        change wpAnyH _ _ _ _ _ _ _ (Act.put _ (some 49) _) _
        simp only [Act.put, List.setIfInBounds_toArray, List.set_cons_zero, List.set_cons_succ]
        refine wpAnyH_take (i := 9) (v := ?_) rfl (by kernel_rfl) (by kernel_rfl) (by kernel_rfl) (fun _ _ _ h => h) (Or.inl ⟨by rfl, ?_⟩) (by assumption) ?_
        rotate_left
        · (intro wS hSw; have a0' := hSw.1.1 0 _ rfl; have a1' := hSw.1.1 1 _ rfl; have a2' := hSw.1.1 2 _ rfl; have a3' := hSw.1.1 3 _ rfl; have a4' := hSw.1.1 4 _ rfl; have az := hSw.1.2.2; have p0 := hSw.2.1 0 _ rfl; have p1 := hSw.2.1 1 _ rfl; have p2 := hSw.2.1 2 _ rfl; have p3 := hSw.2.1 3 _ rfl; have p4 := hSw.2.1 4 _ rfl; have pz := hSw.2.2.2; go_simp; try with_reducible rfl)
        change wpAnyH _ _ _ _ _ _ _ (Act.put _ (some 50) _) _
        simp only [Act.put, List.setIfInBounds_toArray, List.set_cons_zero, List.set_cons_succ]
        refine wpAnyH_take (i := 12) (v := ?_) rfl (by kernel_rfl) (by kernel_rfl) (by kernel_rfl) (fun _ _ _ h => h) (Or.inl ⟨by rfl, ?_⟩) (by assumption) ?_
        rotate_left
        · (intro wS hSw; have a0' := hSw.1.1 0 _ rfl; have a1' := hSw.1.1 1 _ rfl; have a2' := hSw.1.1 2 _ rfl; have a3' := hSw.1.1 3 _ rfl; have a4' := hSw.1.1 4 _ rfl; have az := hSw.1.2.2; have p0 := hSw.2.1 0 _ rfl; have p1 := hSw.2.1 1 _ rfl; have p2 := hSw.2.1 2 _ rfl; have p3 := hSw.2.1 3 _ rfl; have p4 := hSw.2.1 4 _ rfl; have pz := hSw.2.2.2; go_simp; try with_reducible rfl)
        change wpAnyH _ _ _ _ _ _ _ (Act.put _ (some 53) _) _
        simp only [Act.put, List.setIfInBounds_toArray, List.set_cons_zero, List.set_cons_succ]
        refine wpAnyH_ready (rs := [10]) (by kernel_rfl) (by simp) ?_
        refine AllReadyH.cons rfl (fun K hK => ?_) AllReadyH.nil
        go_simp
        refine (CZ.out _).mono ?_
        rintro e v2 ⟨rfl, hv2⟩
        have F_2 : Hid ((Cs v2 na [.int .i64 a0, .int .i64 a1, .int .i64 a2, .int .i64 a3, .int .i64 a4] ∧ Cs v2 w.heap.size [.int .i64 ka, .int .i64 kb, .int .i64 kc, .int .i64 kd, .int .i64 ke]) ∧ Below w.heap.size w v2) := ⟨⟨Cs.later hv2 F_1.out.1.1, Cs.later hv2 F_1.out.1.2⟩, F_1.out.2.trans (hv2.mono F_1.out.2.size)⟩
        clear hv2 F_1
        (try go_wp2_with (fail))
        refine hK.out _ _ ?_ (fun hHeld => ?_)
        · exact F_2.out.1
        clear hK K
        refine wpAnyH_ready (rs := [11]) (by kernel_rfl) (by simp) ?_
        refine AllReadyH.cons rfl (fun K hK => ?_) AllReadyH.nil
        go_simp
        refine (CW.out _).mono ?_
        rintro e v3 ⟨rfl, hv3⟩
        have F_3 : Hid ((Cs v3 na [.int .i64 a0, .int .i64 a1, .int .i64 a2, .int .i64 a3, .int .i64 a4] ∧ Cs v3 w.heap.size [.int .i64 ka, .int .i64 kb, .int .i64 kc, .int .i64 kd, .int .i64 ke]) ∧ Below w.heap.size w v3) := ⟨⟨Cs.later hv3 F_2.out.1.1, Cs.later hv3 F_2.out.1.2⟩, F_2.out.2.trans (hv3.mono F_2.out.2.size)⟩
        clear hv3 F_2
        (try go_wp2_with (fail))
        refine hK.out _ _ ?_ (fun hHeld => ?_)
        · exact F_3.out.1
        clear hK K
        refine wpAnyH_take (i := 13) (v := ?_) rfl (by kernel_rfl) (by kernel_rfl) (by kernel_rfl) (fun _ _ _ h => h) (Or.inl ⟨by rfl, ?_⟩) (by assumption) ?_
        rotate_left
        · (intro wS hSw; have a0' := hSw.1.1 0 _ rfl; have a1' := hSw.1.1 1 _ rfl; have a2' := hSw.1.1 2 _ rfl; have a3' := hSw.1.1 3 _ rfl; have a4' := hSw.1.1 4 _ rfl; have az := hSw.1.2.2; have p0 := hSw.2.1 0 _ rfl; have p1 := hSw.2.1 1 _ rfl; have p2 := hSw.2.1 2 _ rfl; have p3 := hSw.2.1 3 _ rfl; have p4 := hSw.2.1 4 _ rfl; have pz := hSw.2.2.2; go_simp; try with_reducible rfl)
        change wpAnyH _ _ _ _ _ _ _ (Act.put _ (some 54) _) _
        simp only [Act.put, List.setIfInBounds_toArray, List.set_cons_zero, List.set_cons_succ]
        refine wpAnyH_take (i := 14) (v := ?_) rfl (by kernel_rfl) (by kernel_rfl) (by kernel_rfl) (fun _ _ _ h => h) (Or.inl ⟨by rfl, ?_⟩) (by assumption) ?_
        rotate_left
        · (intro wS hSw; have a0' := hSw.1.1 0 _ rfl; have a1' := hSw.1.1 1 _ rfl; have a2' := hSw.1.1 2 _ rfl; have a3' := hSw.1.1 3 _ rfl; have a4' := hSw.1.1 4 _ rfl; have az := hSw.1.2.2; have p0 := hSw.2.1 0 _ rfl; have p1 := hSw.2.1 1 _ rfl; have p2 := hSw.2.1 2 _ rfl; have p3 := hSw.2.1 3 _ rfl; have p4 := hSw.2.1 4 _ rfl; have pz := hSw.2.2.2; go_simp; try with_reducible rfl)
        change wpAnyH _ _ _ _ _ _ _ (Act.put _ (some 55) _) _
        simp only [Act.put, List.setIfInBounds_toArray, List.set_cons_zero, List.set_cons_succ]
        refine wpAnyH_done (by kernel_rfl) ?_ _
        refine NoPanic.normal ?_
        have F7 := F_3
        go_wp2_with (fail)
        go_meet
        case rel => exact ⟨rfl, F7⟩
      case rest =>
        clear k_a k_p HB3 CA CZ CW
        obtain ⟨rfl, K7⟩ := hcut
        go_upto_region 9 with (fail)
        by_cases h : f = g
        · have e : (f == g) = true := by simp [h]
          clear S h
          have F_0 : Hid ((Cs _ na [.int .i64 a0, .int .i64 a1, .int .i64 a2, .int .i64 a3, .int .i64 a4] ∧ Cs _ w.heap.size [.int .i64 ka, .int .i64 kb, .int .i64 kc, .int .i64 kd, .int .i64 ke]) ∧ Below w.heap.size w _) := ⟨⟨Cs.drew K7.out.1.1, Cs.drew K7.out.1.2⟩, Below.drew K7.out.2⟩
          refine wp_region_noPanic ?_
          refine wp_region_held_drew (S := fun w' => Cs w' na [.int .i64 a0, .int .i64 a1, .int .i64 a2, .int .i64 a3, .int .i64 a4] ∧ Cs w' w.heap.size [.int .i64 ka, .int .i64 kb, .int .i64 kc, .int .i64 kd, .int .i64 ke]) (by kernel_rfl) ?_ (fun hHeld => ?_)
          · exact F_0.out.1
          refine wpAnyH_take (i := 0) (v := ?_) rfl (by kernel_rfl) (by kernel_rfl) (by kernel_rfl) (fun _ _ _ h => h) (Or.inl ⟨by rfl, ?_⟩) (by assumption) ?_
          rotate_left
          · (intro wS hSw; have a0' := hSw.1.1 0 _ rfl; have a1' := hSw.1.1 1 _ rfl; have a2' := hSw.1.1 2 _ rfl; have a3' := hSw.1.1 3 _ rfl; have a4' := hSw.1.1 4 _ rfl; have az := hSw.1.2.2; have p0 := hSw.2.1 0 _ rfl; have p1 := hSw.2.1 1 _ rfl; have p2 := hSw.2.1 2 _ rfl; have p3 := hSw.2.1 3 _ rfl; have p4 := hSw.2.1 4 _ rfl; have pz := hSw.2.2.2; go_simp; try with_reducible rfl)
          change wpAnyH _ _ _ _ _ _ _ (Act.put _ (some 56) _) _
          simp only [Act.put, List.setIfInBounds_toArray, List.set_cons_zero, List.set_cons_succ]
          refine wpAnyH_take (i := 1) (v := ?_) rfl (by kernel_rfl) (by kernel_rfl) (by kernel_rfl) (fun _ _ _ h => h) (Or.inl ⟨by rfl, ?_⟩) (by assumption) ?_
          rotate_left
          · (intro wS hSw; have a0' := hSw.1.1 0 _ rfl; have a1' := hSw.1.1 1 _ rfl; have a2' := hSw.1.1 2 _ rfl; have a3' := hSw.1.1 3 _ rfl; have a4' := hSw.1.1 4 _ rfl; have az := hSw.1.2.2; have p0 := hSw.2.1 0 _ rfl; have p1 := hSw.2.1 1 _ rfl; have p2 := hSw.2.1 2 _ rfl; have p3 := hSw.2.1 3 _ rfl; have p4 := hSw.2.1 4 _ rfl; have pz := hSw.2.2.2; go_simp; try with_reducible rfl)
          change wpAnyH _ _ _ _ _ _ _ (Act.put _ (some 57) _) _
          simp only [Act.put, List.setIfInBounds_toArray, List.set_cons_zero, List.set_cons_succ]
          refine wpAnyH_take (i := 2) (v := ?_) rfl (by kernel_rfl) (by kernel_rfl) (by kernel_rfl) (fun _ _ _ h => h) (Or.inl ⟨by rfl, ?_⟩) (by assumption) ?_
          rotate_left
          · (intro wS hSw; have a0' := hSw.1.1 0 _ rfl; have a1' := hSw.1.1 1 _ rfl; have a2' := hSw.1.1 2 _ rfl; have a3' := hSw.1.1 3 _ rfl; have a4' := hSw.1.1 4 _ rfl; have az := hSw.1.2.2; have p0 := hSw.2.1 0 _ rfl; have p1 := hSw.2.1 1 _ rfl; have p2 := hSw.2.1 2 _ rfl; have p3 := hSw.2.1 3 _ rfl; have p4 := hSw.2.1 4 _ rfl; have pz := hSw.2.2.2; go_simp; try with_reducible rfl)
          change wpAnyH _ _ _ _ _ _ _ (Act.put _ (some 58) _) _
          simp only [Act.put, List.setIfInBounds_toArray, List.set_cons_zero, List.set_cons_succ]
          refine wpAnyH_take (i := 3) (v := ?_) rfl (by kernel_rfl) (by kernel_rfl) (by kernel_rfl) (fun _ _ _ h => h) (Or.inl ⟨by rfl, ?_⟩) (by assumption) ?_
          rotate_left
          · (intro wS hSw; have a0' := hSw.1.1 0 _ rfl; have a1' := hSw.1.1 1 _ rfl; have a2' := hSw.1.1 2 _ rfl; have a3' := hSw.1.1 3 _ rfl; have a4' := hSw.1.1 4 _ rfl; have az := hSw.1.2.2; have p0 := hSw.2.1 0 _ rfl; have p1 := hSw.2.1 1 _ rfl; have p2 := hSw.2.1 2 _ rfl; have p3 := hSw.2.1 3 _ rfl; have p4 := hSw.2.1 4 _ rfl; have pz := hSw.2.2.2; go_simp; try with_reducible rfl)
          change wpAnyH _ _ _ _ _ _ _ (Act.put _ (some 59) _) _
          simp only [Act.put, List.setIfInBounds_toArray, List.set_cons_zero, List.set_cons_succ]
          refine wpAnyH_take (i := 4) (v := undef) rfl (by kernel_rfl) (by kernel_rfl) (by kernel_rfl) (fun _ _ _ h => h) (Or.inr ⟨by rfl, rfl⟩) (by assumption) ?_
          change wpAnyH _ _ _ _ _ _ _ (Act.put _ (some 60) _) _
          simp only [Act.put, List.setIfInBounds_toArray, List.set_cons_zero, List.set_cons_succ]
          refine wpAnyH_take (i := 5) (v := undef) rfl (by kernel_rfl) (by kernel_rfl) (by kernel_rfl) (fun _ _ _ h => h) (Or.inr ⟨by rfl, rfl⟩) (by assumption) ?_
          change wpAnyH _ _ _ _ _ _ _ (Act.put _ (some 61) _) _
          simp only [Act.put, List.setIfInBounds_toArray, List.set_cons_zero, List.set_cons_succ]
          refine wpAnyH_take (i := 6) (v := undef) rfl (by kernel_rfl) (by kernel_rfl) (by kernel_rfl) (fun _ _ _ h => h) (Or.inr ⟨by rfl, rfl⟩) (by assumption) ?_
          change wpAnyH _ _ _ _ _ _ _ (Act.put _ (some 62) _) _
          simp only [Act.put, List.setIfInBounds_toArray, List.set_cons_zero, List.set_cons_succ]
          refine wpAnyH_take (i := 7) (v := undef) rfl (by kernel_rfl) (by kernel_rfl) (by kernel_rfl) (fun _ _ _ h => h) (Or.inr ⟨by rfl, rfl⟩) (by assumption) ?_
          change wpAnyH _ _ _ _ _ _ _ (Act.put _ (some 63) _) _
          simp only [Act.put, List.setIfInBounds_toArray, List.set_cons_zero, List.set_cons_succ]
          refine wpAnyH_take (i := 8) (v := undef) rfl (by kernel_rfl) (by kernel_rfl) (by kernel_rfl) (fun _ _ _ h => h) (Or.inr ⟨by rfl, rfl⟩) (by assumption) ?_
          change wpAnyH _ _ _ _ _ _ _ (Act.put _ (some 64) _) _
          simp only [Act.put, List.setIfInBounds_toArray, List.set_cons_zero, List.set_cons_succ]
          refine wpAnyH_take (i := 9) (v := undef) rfl (by kernel_rfl) (by kernel_rfl) (by kernel_rfl) (fun _ _ _ h => h) (Or.inr ⟨by rfl, rfl⟩) (by assumption) ?_
          change wpAnyH _ _ _ _ _ _ _ (Act.put _ (some 65) _) _
          simp only [Act.put, List.setIfInBounds_toArray, List.set_cons_zero, List.set_cons_succ]
          refine wpAnyH_take (i := 10) (v := undef) rfl (by kernel_rfl) (by kernel_rfl) (by kernel_rfl) (fun _ _ _ h => h) (Or.inr ⟨by rfl, rfl⟩) (by assumption) ?_
          change wpAnyH _ _ _ _ _ _ _ (Act.put _ (some 66) _) _
          simp only [Act.put, List.setIfInBounds_toArray, List.set_cons_zero, List.set_cons_succ]
          refine wpAnyH_take (i := 11) (v := undef) rfl (by kernel_rfl) (by kernel_rfl) (by kernel_rfl) (fun _ _ _ h => h) (Or.inr ⟨by rfl, rfl⟩) (by assumption) ?_
          change wpAnyH _ _ _ _ _ _ _ (Act.put _ (some 67) _) _
          simp only [Act.put, List.setIfInBounds_toArray, List.set_cons_zero, List.set_cons_succ]
          refine wpAnyH_take (i := 12) (v := undef) rfl (by kernel_rfl) (by kernel_rfl) (by kernel_rfl) (fun _ _ _ h => h) (Or.inr ⟨by rfl, rfl⟩) (by assumption) ?_
          change wpAnyH _ _ _ _ _ _ _ (Act.put _ (some 68) _) _
          simp only [Act.put, List.setIfInBounds_toArray, List.set_cons_zero, List.set_cons_succ]
          refine wpAnyH_take (i := 13) (v := undef) rfl (by kernel_rfl) (by kernel_rfl) (by kernel_rfl) (fun _ _ _ h => h) (Or.inr ⟨by rfl, rfl⟩) (by assumption) ?_
          change wpAnyH _ _ _ _ _ _ _ (Act.put _ (some 69) _) _
          simp only [Act.put, List.setIfInBounds_toArray, List.set_cons_zero, List.set_cons_succ]
          refine wpAnyH_take (i := 14) (v := undef) rfl (by kernel_rfl) (by kernel_rfl) (by kernel_rfl) (fun _ _ _ h => h) (Or.inr ⟨by rfl, rfl⟩) (by assumption) ?_
          change wpAnyH _ _ _ _ _ _ _ (Act.put _ (some 70) _) _
          simp only [Act.put, List.setIfInBounds_toArray, List.set_cons_zero, List.set_cons_succ]
          refine wpAnyH_take (i := 15) (v := undef) rfl (by kernel_rfl) (by kernel_rfl) (by kernel_rfl) (fun _ _ _ h => h) (Or.inr ⟨by rfl, rfl⟩) (by assumption) ?_
          change wpAnyH _ _ _ _ _ _ _ (Act.put _ (some 71) _) _
          simp only [Act.put, List.setIfInBounds_toArray, List.set_cons_zero, List.set_cons_succ]
          refine wpAnyH_take (i := 16) (v := undef) rfl (by kernel_rfl) (by kernel_rfl) (by kernel_rfl) (fun _ _ _ h => h) (Or.inr ⟨by rfl, rfl⟩) (by assumption) ?_
          change wpAnyH _ _ _ _ _ _ _ (Act.put _ (some 72) _) _
          simp only [Act.put, List.setIfInBounds_toArray, List.set_cons_zero, List.set_cons_succ]
          refine wpAnyH_take (i := 17) (v := undef) rfl (by kernel_rfl) (by kernel_rfl) (by kernel_rfl) (fun _ _ _ h => h) (Or.inr ⟨by rfl, rfl⟩) (by assumption) ?_
          change wpAnyH _ _ _ _ _ _ _ (Act.put _ (some 73) _) _
          simp only [Act.put, List.setIfInBounds_toArray, List.set_cons_zero, List.set_cons_succ]
          refine wpAnyH_take (i := 18) (v := undef) rfl (by kernel_rfl) (by kernel_rfl) (by kernel_rfl) (fun _ _ _ h => h) (Or.inr ⟨by rfl, rfl⟩) (by assumption) ?_
          change wpAnyH _ _ _ _ _ _ _ (Act.put _ (some 74) _) _
          simp only [Act.put, List.setIfInBounds_toArray, List.set_cons_zero, List.set_cons_succ]
          refine wpAnyH_take (i := 19) (v := undef) rfl (by kernel_rfl) (by kernel_rfl) (by kernel_rfl) (fun _ _ _ h => h) (Or.inr ⟨by rfl, rfl⟩) (by assumption) ?_
          change wpAnyH _ _ _ _ _ _ _ (Act.put _ (some 75) _) _
          simp only [Act.put, List.setIfInBounds_toArray, List.set_cons_zero, List.set_cons_succ]
          refine wpAnyH_take (i := 20) (v := undef) rfl (by kernel_rfl) (by kernel_rfl) (by kernel_rfl) (fun _ _ _ h => h) (Or.inr ⟨by rfl, rfl⟩) (by assumption) ?_
          change wpAnyH _ _ _ _ _ _ _ (Act.put _ (some 76) _) _
          simp only [Act.put, List.setIfInBounds_toArray, List.set_cons_zero, List.set_cons_succ]
          refine wpAnyH_take (i := 21) (v := undef) rfl (by kernel_rfl) (by kernel_rfl) (by kernel_rfl) (fun _ _ _ h => h) (Or.inr ⟨by rfl, rfl⟩) (by assumption) ?_
          change wpAnyH _ _ _ _ _ _ _ (Act.put _ (some 77) _) _
          simp only [Act.put, List.setIfInBounds_toArray, List.set_cons_zero, List.set_cons_succ]
          refine wpAnyH_take (i := 22) (v := undef) rfl (by kernel_rfl) (by kernel_rfl) (by kernel_rfl) (fun _ _ _ h => h) (Or.inr ⟨by rfl, rfl⟩) (by assumption) ?_
          change wpAnyH _ _ _ _ _ _ _ (Act.put _ (some 78) _) _
          simp only [Act.put, List.setIfInBounds_toArray, List.set_cons_zero, List.set_cons_succ]
          refine wpAnyH_take (i := 23) (v := undef) rfl (by kernel_rfl) (by kernel_rfl) (by kernel_rfl) (fun _ _ _ h => h) (Or.inr ⟨by rfl, rfl⟩) (by assumption) ?_
          change wpAnyH _ _ _ _ _ _ _ (Act.put _ (some 79) _) _
          simp only [Act.put, List.setIfInBounds_toArray, List.set_cons_zero, List.set_cons_succ]
          refine wpAnyH_take (i := 24) (v := undef) rfl (by kernel_rfl) (by kernel_rfl) (by kernel_rfl) (fun _ _ _ h => h) (Or.inr ⟨by rfl, rfl⟩) (by assumption) ?_
          change wpAnyH _ _ _ _ _ _ _ (Act.put _ (some 80) _) _
          simp only [Act.put, List.setIfInBounds_toArray, List.set_cons_zero, List.set_cons_succ]
          refine wpAnyH_take (i := 25) (v := ?_) rfl (by kernel_rfl) (by kernel_rfl) (by kernel_rfl) (fun _ _ _ h => h) (Or.inl ⟨by rfl, ?_⟩) (by assumption) ?_
          rotate_left
          · (intro wS hSw; have a0' := hSw.1.1 0 _ rfl; have a1' := hSw.1.1 1 _ rfl; have a2' := hSw.1.1 2 _ rfl; have a3' := hSw.1.1 3 _ rfl; have a4' := hSw.1.1 4 _ rfl; have az := hSw.1.2.2; have p0 := hSw.2.1 0 _ rfl; have p1 := hSw.2.1 1 _ rfl; have p2 := hSw.2.1 2 _ rfl; have p3 := hSw.2.1 3 _ rfl; have p4 := hSw.2.1 4 _ rfl; have pz := hSw.2.2.2; go_simp; try with_reducible rfl)
          change wpAnyH _ _ _ _ _ _ _ (Act.put _ (some 81) _) _
          simp only [Act.put, List.setIfInBounds_toArray, List.set_cons_zero, List.set_cons_succ]
          refine wpAnyH_take (i := 26) (v := ?_) rfl (by kernel_rfl) (by kernel_rfl) (by kernel_rfl) (fun _ _ _ h => h) (Or.inl ⟨by rfl, ?_⟩) (by assumption) ?_
          rotate_left
          · (intro wS hSw; have a0' := hSw.1.1 0 _ rfl; have a1' := hSw.1.1 1 _ rfl; have a2' := hSw.1.1 2 _ rfl; have a3' := hSw.1.1 3 _ rfl; have a4' := hSw.1.1 4 _ rfl; have az := hSw.1.2.2; have p0 := hSw.2.1 0 _ rfl; have p1 := hSw.2.1 1 _ rfl; have p2 := hSw.2.1 2 _ rfl; have p3 := hSw.2.1 3 _ rfl; have p4 := hSw.2.1 4 _ rfl; have pz := hSw.2.2.2; go_simp; try with_reducible rfl)
          change wpAnyH _ _ _ _ _ _ _ (Act.put _ (some 6) _) _
          simp only [Act.put, List.setIfInBounds_toArray, List.set_cons_zero, List.set_cons_succ]
          refine wpAnyH_done (by kernel_rfl) ?_ _
          refine NoPanic.normal ?_
          have F9 := F_0.out.2
          go_wp2_with (fail)
          go_ret
          exact ⟨rfl, F9⟩
        · obtain ⟨y, v0, v1, v2, v3, v4, b0, b1, b2, b3, b4, s1, s2, s3, s4, s5⟩ := S.out h
          have e : (f == g) = false := by simp [h]
          have S1 : Hid _ := s1
          have S2 : Hid _ := s2
          have S3 : Hid _ := s3
          have S4 : Hid _ := s4
          have S5 : Hid _ := s5
          clear S s1 s2 s3 s4 s5 h
          have F_0 : Hid ((Cs _ na [.int .i64 a0, .int .i64 a1, .int .i64 a2, .int .i64 a3, .int .i64 a4] ∧ Cs _ w.heap.size [.int .i64 ka, .int .i64 kb, .int .i64 kc, .int .i64 kd, .int .i64 ke]) ∧ Below w.heap.size w _) := ⟨⟨Cs.drew K7.out.1.1, Cs.drew K7.out.1.2⟩, Below.drew K7.out.2⟩
          refine wp_region_noPanic ?_
          refine wp_region_held_drew (S := fun w' => Cs w' na [.int .i64 a0, .int .i64 a1, .int .i64 a2, .int .i64 a3, .int .i64 a4] ∧ Cs w' w.heap.size [.int .i64 ka, .int .i64 kb, .int .i64 kc, .int .i64 kd, .int .i64 ke]) (by kernel_rfl) ?_ (fun hHeld => ?_)
          · exact F_0.out.1
          refine wpAnyH_take (i := 0) (v := ?_) rfl (by kernel_rfl) (by kernel_rfl) (by kernel_rfl) (fun _ _ _ h => h) (Or.inl ⟨by rfl, ?_⟩) (by assumption) ?_
          rotate_left
          · (intro wS hSw; have a0' := hSw.1.1 0 _ rfl; have a1' := hSw.1.1 1 _ rfl; have a2' := hSw.1.1 2 _ rfl; have a3' := hSw.1.1 3 _ rfl; have a4' := hSw.1.1 4 _ rfl; have az := hSw.1.2.2; have p0 := hSw.2.1 0 _ rfl; have p1 := hSw.2.1 1 _ rfl; have p2 := hSw.2.1 2 _ rfl; have p3 := hSw.2.1 3 _ rfl; have p4 := hSw.2.1 4 _ rfl; have pz := hSw.2.2.2; go_simp; try with_reducible rfl)
          change wpAnyH _ _ _ _ _ _ _ (Act.put _ (some 56) _) _
          simp only [Act.put, List.setIfInBounds_toArray, List.set_cons_zero, List.set_cons_succ]
          refine wpAnyH_take (i := 1) (v := ?_) rfl (by kernel_rfl) (by kernel_rfl) (by kernel_rfl) (fun _ _ _ h => h) (Or.inl ⟨by rfl, ?_⟩) (by assumption) ?_
          rotate_left
          · (intro wS hSw; have a0' := hSw.1.1 0 _ rfl; have a1' := hSw.1.1 1 _ rfl; have a2' := hSw.1.1 2 _ rfl; have a3' := hSw.1.1 3 _ rfl; have a4' := hSw.1.1 4 _ rfl; have az := hSw.1.2.2; have p0 := hSw.2.1 0 _ rfl; have p1 := hSw.2.1 1 _ rfl; have p2 := hSw.2.1 2 _ rfl; have p3 := hSw.2.1 3 _ rfl; have p4 := hSw.2.1 4 _ rfl; have pz := hSw.2.2.2; go_simp; try with_reducible rfl)
          change wpAnyH _ _ _ _ _ _ _ (Act.put _ (some 57) _) _
          simp only [Act.put, List.setIfInBounds_toArray, List.set_cons_zero, List.set_cons_succ]
          refine wpAnyH_take (i := 2) (v := ?_) rfl (by kernel_rfl) (by kernel_rfl) (by kernel_rfl) (fun _ _ _ h => h) (Or.inl ⟨by rfl, ?_⟩) (by assumption) ?_
          rotate_left
          · (intro wS hSw; have a0' := hSw.1.1 0 _ rfl; have a1' := hSw.1.1 1 _ rfl; have a2' := hSw.1.1 2 _ rfl; have a3' := hSw.1.1 3 _ rfl; have a4' := hSw.1.1 4 _ rfl; have az := hSw.1.2.2; have p0 := hSw.2.1 0 _ rfl; have p1 := hSw.2.1 1 _ rfl; have p2 := hSw.2.1 2 _ rfl; have p3 := hSw.2.1 3 _ rfl; have p4 := hSw.2.1 4 _ rfl; have pz := hSw.2.2.2; go_simp; try with_reducible rfl)
          change wpAnyH _ _ _ _ _ _ _ (Act.put _ (some 58) _) _
          simp only [Act.put, List.setIfInBounds_toArray, List.set_cons_zero, List.set_cons_succ]
          refine wpAnyH_take (i := 3) (v := ?_) rfl (by kernel_rfl) (by kernel_rfl) (by kernel_rfl) (fun _ _ _ h => h) (Or.inl ⟨by rfl, ?_⟩) (by assumption) ?_
          rotate_left
          · (intro wS hSw; have a0' := hSw.1.1 0 _ rfl; have a1' := hSw.1.1 1 _ rfl; have a2' := hSw.1.1 2 _ rfl; have a3' := hSw.1.1 3 _ rfl; have a4' := hSw.1.1 4 _ rfl; have az := hSw.1.2.2; have p0 := hSw.2.1 0 _ rfl; have p1 := hSw.2.1 1 _ rfl; have p2 := hSw.2.1 2 _ rfl; have p3 := hSw.2.1 3 _ rfl; have p4 := hSw.2.1 4 _ rfl; have pz := hSw.2.2.2; go_simp; try with_reducible rfl)
          change wpAnyH _ _ _ _ _ _ _ (Act.put _ (some 59) _) _
          simp only [Act.put, List.setIfInBounds_toArray, List.set_cons_zero, List.set_cons_succ]
          refine wpAnyH_take (i := 4) (v := ?_) rfl (by kernel_rfl) (by kernel_rfl) (by kernel_rfl) (fun _ _ _ h => h) (Or.inl ⟨by rfl, ?_⟩) (by assumption) ?_
          rotate_left
          · (intro wS hSw; have a0' := hSw.1.1 0 _ rfl; have a1' := hSw.1.1 1 _ rfl; have a2' := hSw.1.1 2 _ rfl; have a3' := hSw.1.1 3 _ rfl; have a4' := hSw.1.1 4 _ rfl; have az := hSw.1.2.2; have p0 := hSw.2.1 0 _ rfl; have p1 := hSw.2.1 1 _ rfl; have p2 := hSw.2.1 2 _ rfl; have p3 := hSw.2.1 3 _ rfl; have p4 := hSw.2.1 4 _ rfl; have pz := hSw.2.2.2; go_simp; try with_reducible rfl)
          change wpAnyH _ _ _ _ _ _ _ (Act.put _ (some 60) _) _
          simp only [Act.put, List.setIfInBounds_toArray, List.set_cons_zero, List.set_cons_succ]
          refine wpAnyH_take (i := 5) (v := ?_) rfl (by kernel_rfl) (by kernel_rfl) (by kernel_rfl) (fun _ _ _ h => h) (Or.inl ⟨by rfl, ?_⟩) (by assumption) ?_
          rotate_left
          · (intro wS hSw; have a0' := hSw.1.1 0 _ rfl; have a1' := hSw.1.1 1 _ rfl; have a2' := hSw.1.1 2 _ rfl; have a3' := hSw.1.1 3 _ rfl; have a4' := hSw.1.1 4 _ rfl; have az := hSw.1.2.2; have p0 := hSw.2.1 0 _ rfl; have p1 := hSw.2.1 1 _ rfl; have p2 := hSw.2.1 2 _ rfl; have p3 := hSw.2.1 3 _ rfl; have p4 := hSw.2.1 4 _ rfl; have pz := hSw.2.2.2; go_simp; try with_reducible rfl)
          change wpAnyH _ _ _ _ _ _ _ (Act.put _ (some 61) _) _
          simp only [Act.put, List.setIfInBounds_toArray, List.set_cons_zero, List.set_cons_succ]
          refine wpAnyH_take (i := 7) (v := ?_) rfl (by kernel_rfl) (by kernel_rfl) (by kernel_rfl) (fun _ _ _ h => h) (Or.inl ⟨by rfl, ?_⟩) (by assumption) ?_
          rotate_left
          · (intro wS hSw; have a0' := hSw.1.1 0 _ rfl; have a1' := hSw.1.1 1 _ rfl; have a2' := hSw.1.1 2 _ rfl; have a3' := hSw.1.1 3 _ rfl; have a4' := hSw.1.1 4 _ rfl; have az := hSw.1.2.2; have p0 := hSw.2.1 0 _ rfl; have p1 := hSw.2.1 1 _ rfl; have p2 := hSw.2.1 2 _ rfl; have p3 := hSw.2.1 3 _ rfl; have p4 := hSw.2.1 4 _ rfl; have pz := hSw.2.2.2; go_simp; try with_reducible rfl)
          change wpAnyH _ _ _ _ _ _ _ (Act.put _ (some 63) _) _
          simp only [Act.put, List.setIfInBounds_toArray, List.set_cons_zero, List.set_cons_succ]
          refine wpAnyH_take (i := 8) (v := ?_) rfl (by kernel_rfl) (by kernel_rfl) (by kernel_rfl) (fun _ _ _ h => h) (Or.inl ⟨by rfl, ?_⟩) (by assumption) ?_
          rotate_left
          · (intro wS hSw; have a0' := hSw.1.1 0 _ rfl; have a1' := hSw.1.1 1 _ rfl; have a2' := hSw.1.1 2 _ rfl; have a3' := hSw.1.1 3 _ rfl; have a4' := hSw.1.1 4 _ rfl; have az := hSw.1.2.2; have p0 := hSw.2.1 0 _ rfl; have p1 := hSw.2.1 1 _ rfl; have p2 := hSw.2.1 2 _ rfl; have p3 := hSw.2.1 3 _ rfl; have p4 := hSw.2.1 4 _ rfl; have pz := hSw.2.2.2; go_simp; try with_reducible rfl)
          change wpAnyH _ _ _ _ _ _ _ (Act.put _ (some 64) _) _
          simp only [Act.put, List.setIfInBounds_toArray, List.set_cons_zero, List.set_cons_succ]
          refine wpAnyH_ready (rs := [6]) (by kernel_rfl) (by simp) ?_
          refine AllReadyH.cons rfl (fun K hK => ?_) AllReadyH.nil
          go_simp
          refine (S1.out _).mono ?_
          rintro e v1 ⟨rfl, hv1⟩
          have F_1 : Hid ((Cs v1 na [.int .i64 a0, .int .i64 a1, .int .i64 a2, .int .i64 a3, .int .i64 a4] ∧ Cs v1 w.heap.size [.int .i64 ka, .int .i64 kb, .int .i64 kc, .int .i64 kd, .int .i64 ke]) ∧ Below w.heap.size w v1) := ⟨⟨Cs.later hv1 F_0.out.1.1, Cs.later hv1 F_0.out.1.2⟩, F_0.out.2.trans (hv1.mono F_0.out.2.size)⟩
          clear hv1 F_0
          (try go_wp2_with (fail))
          refine hK.out _ _ ?_ (fun hHeld => ?_)
          · exact F_1.out.1
          clear hK K
          refine wpAnyH_ready (rs := [9]) (by kernel_rfl) (by simp) ?_
          refine AllReadyH.cons rfl (fun K hK => ?_) AllReadyH.nil
          go_simp
          refine (S2.out _).mono ?_
          rintro e v2 ⟨rfl, hv2⟩
          have F_2 : Hid ((Cs v2 na [.int .i64 a0, .int .i64 a1, .int .i64 a2, .int .i64 a3, .int .i64 a4] ∧ Cs v2 w.heap.size [.int .i64 ka, .int .i64 kb, .int .i64 kc, .int .i64 kd, .int .i64 ke]) ∧ Below w.heap.size w v2) := ⟨⟨Cs.later hv2 F_1.out.1.1, Cs.later hv2 F_1.out.1.2⟩, F_1.out.2.trans (hv2.mono F_1.out.2.size)⟩
          clear hv2 F_1
          (try go_wp2_with (fail))
          refine hK.out _ _ ?_ (fun hHeld => ?_)
          · exact F_2.out.1
          clear hK K
          refine wpAnyH_take (i := 10) (v := ?_) rfl (by kernel_rfl) (by kernel_rfl) (by kernel_rfl) (fun _ _ _ h => h) (Or.inl ⟨by rfl, ?_⟩) (by assumption) ?_
          rotate_left
          · (intro wS hSw; have a0' := hSw.1.1 0 _ rfl; have a1' := hSw.1.1 1 _ rfl; have a2' := hSw.1.1 2 _ rfl; have a3' := hSw.1.1 3 _ rfl; have a4' := hSw.1.1 4 _ rfl; have az := hSw.1.2.2; have p0 := hSw.2.1 0 _ rfl; have p1 := hSw.2.1 1 _ rfl; have p2 := hSw.2.1 2 _ rfl; have p3 := hSw.2.1 3 _ rfl; have p4 := hSw.2.1 4 _ rfl; have pz := hSw.2.2.2; go_simp; try with_reducible rfl)
          change wpAnyH _ _ _ _ _ _ _ (Act.put _ (some 66) _) _
          simp only [Act.put, List.setIfInBounds_toArray, List.set_cons_zero, List.set_cons_succ]
          refine wpAnyH_take (i := 11) (v := ?_) rfl (by kernel_rfl) (by kernel_rfl) (by kernel_rfl) (fun _ _ _ h => h) (Or.inl ⟨by rfl, ?_⟩) (by assumption) ?_
          rotate_left
          · (intro wS hSw; have a0' := hSw.1.1 0 _ rfl; have a1' := hSw.1.1 1 _ rfl; have a2' := hSw.1.1 2 _ rfl; have a3' := hSw.1.1 3 _ rfl; have a4' := hSw.1.1 4 _ rfl; have az := hSw.1.2.2; have p0 := hSw.2.1 0 _ rfl; have p1 := hSw.2.1 1 _ rfl; have p2 := hSw.2.1 2 _ rfl; have p3 := hSw.2.1 3 _ rfl; have p4 := hSw.2.1 4 _ rfl; have pz := hSw.2.2.2; go_simp; try with_reducible rfl)
          change wpAnyH _ _ _ _ _ _ _ (Act.put _ (some 67) _) _
          simp only [Act.put, List.setIfInBounds_toArray, List.set_cons_zero, List.set_cons_succ]
          refine wpAnyH_take (i := 12) (v := ?_) rfl (by kernel_rfl) (by kernel_rfl) (by kernel_rfl) (fun _ _ _ h => h) (Or.inl ⟨by rfl, ?_⟩) (by assumption) ?_
          rotate_left
          · (intro wS hSw; have a0' := hSw.1.1 0 _ rfl; have a1' := hSw.1.1 1 _ rfl; have a2' := hSw.1.1 2 _ rfl; have a3' := hSw.1.1 3 _ rfl; have a4' := hSw.1.1 4 _ rfl; have az := hSw.1.2.2; have p0 := hSw.2.1 0 _ rfl; have p1 := hSw.2.1 1 _ rfl; have p2 := hSw.2.1 2 _ rfl; have p3 := hSw.2.1 3 _ rfl; have p4 := hSw.2.1 4 _ rfl; have pz := hSw.2.2.2; go_simp; try with_reducible rfl)
          change wpAnyH _ _ _ _ _ _ _ (Act.put _ (some 68) _) _
          simp only [Act.put, List.setIfInBounds_toArray, List.set_cons_zero, List.set_cons_succ]
          refine wpAnyH_take (i := 13) (v := ?_) rfl (by kernel_rfl) (by kernel_rfl) (by kernel_rfl) (fun _ _ _ h => h) (Or.inl ⟨by rfl, ?_⟩) (by assumption) ?_
          rotate_left
          · (intro wS hSw; have a0' := hSw.1.1 0 _ rfl; have a1' := hSw.1.1 1 _ rfl; have a2' := hSw.1.1 2 _ rfl; have a3' := hSw.1.1 3 _ rfl; have a4' := hSw.1.1 4 _ rfl; have az := hSw.1.2.2; have p0 := hSw.2.1 0 _ rfl; have p1 := hSw.2.1 1 _ rfl; have p2 := hSw.2.1 2 _ rfl; have p3 := hSw.2.1 3 _ rfl; have p4 := hSw.2.1 4 _ rfl; have pz := hSw.2.2.2; go_simp; try with_reducible rfl)
          change wpAnyH _ _ _ _ _ _ _ (Act.put _ (some 69) _) _
          simp only [Act.put, List.setIfInBounds_toArray, List.set_cons_zero, List.set_cons_succ]
          refine wpAnyH_take (i := 14) (v := ?_) rfl (by kernel_rfl) (by kernel_rfl) (by kernel_rfl) (fun _ _ _ h => h) (Or.inl ⟨by rfl, ?_⟩) (by assumption) ?_
          rotate_left
          · (intro wS hSw; have a0' := hSw.1.1 0 _ rfl; have a1' := hSw.1.1 1 _ rfl; have a2' := hSw.1.1 2 _ rfl; have a3' := hSw.1.1 3 _ rfl; have a4' := hSw.1.1 4 _ rfl; have az := hSw.1.2.2; have p0 := hSw.2.1 0 _ rfl; have p1 := hSw.2.1 1 _ rfl; have p2 := hSw.2.1 2 _ rfl; have p3 := hSw.2.1 3 _ rfl; have p4 := hSw.2.1 4 _ rfl; have pz := hSw.2.2.2; go_simp; try with_reducible rfl)
          change wpAnyH _ _ _ _ _ _ _ (Act.put _ (some 70) _) _
          simp only [Act.put, List.setIfInBounds_toArray, List.set_cons_zero, List.set_cons_succ]
          refine wpAnyH_take (i := 16) (v := ?_) rfl (by kernel_rfl) (by kernel_rfl) (by kernel_rfl) (fun _ _ _ h => h) (Or.inl ⟨by rfl, ?_⟩) (by assumption) ?_
          rotate_left
          · (intro wS hSw; have a0' := hSw.1.1 0 _ rfl; have a1' := hSw.1.1 1 _ rfl; have a2' := hSw.1.1 2 _ rfl; have a3' := hSw.1.1 3 _ rfl; have a4' := hSw.1.1 4 _ rfl; have az := hSw.1.2.2; have p0 := hSw.2.1 0 _ rfl; have p1 := hSw.2.1 1 _ rfl; have p2 := hSw.2.1 2 _ rfl; have p3 := hSw.2.1 3 _ rfl; have p4 := hSw.2.1 4 _ rfl; have pz := hSw.2.2.2; go_simp; try with_reducible rfl)
          change wpAnyH _ _ _ _ _ _ _ (Act.put _ (some 72) _) _
          simp only [Act.put, List.setIfInBounds_toArray, List.set_cons_zero, List.set_cons_succ]
          refine wpAnyH_take (i := 17) (v := ?_) rfl (by kernel_rfl) (by kernel_rfl) (by kernel_rfl) (fun _ _ _ h => h) (Or.inl ⟨by rfl, ?_⟩) (by assumption) ?_
          rotate_left
          · (intro wS hSw; have a0' := hSw.1.1 0 _ rfl; have a1' := hSw.1.1 1 _ rfl; have a2' := hSw.1.1 2 _ rfl; have a3' := hSw.1.1 3 _ rfl; have a4' := hSw.1.1 4 _ rfl; have az := hSw.1.2.2; have p0 := hSw.2.1 0 _ rfl; have p1 := hSw.2.1 1 _ rfl; have p2 := hSw.2.1 2 _ rfl; have p3 := hSw.2.1 3 _ rfl; have p4 := hSw.2.1 4 _ rfl; have pz := hSw.2.2.2; go_simp; try with_reducible rfl)
          change wpAnyH _ _ _ _ _ _ _ (Act.put _ (some 73) _) _
          simp only [Act.put, List.setIfInBounds_toArray, List.set_cons_zero, List.set_cons_succ]
          refine wpAnyH_take (i := 18) (v := ?_) rfl (by kernel_rfl) (by kernel_rfl) (by kernel_rfl) (fun _ _ _ h => h) (Or.inl ⟨by rfl, ?_⟩) (by assumption) ?_
          rotate_left
          · (intro wS hSw; have a0' := hSw.1.1 0 _ rfl; have a1' := hSw.1.1 1 _ rfl; have a2' := hSw.1.1 2 _ rfl; have a3' := hSw.1.1 3 _ rfl; have a4' := hSw.1.1 4 _ rfl; have az := hSw.1.2.2; have p0 := hSw.2.1 0 _ rfl; have p1 := hSw.2.1 1 _ rfl; have p2 := hSw.2.1 2 _ rfl; have p3 := hSw.2.1 3 _ rfl; have p4 := hSw.2.1 4 _ rfl; have pz := hSw.2.2.2; go_simp; try with_reducible rfl)
          change wpAnyH _ _ _ _ _ _ _ (Act.put _ (some 74) _) _
          simp only [Act.put, List.setIfInBounds_toArray, List.set_cons_zero, List.set_cons_succ]
          refine wpAnyH_take (i := 20) (v := ?_) rfl (by kernel_rfl) (by kernel_rfl) (by kernel_rfl) (fun _ _ _ h => h) (Or.inl ⟨by rfl, ?_⟩) (by assumption) ?_
          rotate_left
          · (intro wS hSw; have a0' := hSw.1.1 0 _ rfl; have a1' := hSw.1.1 1 _ rfl; have a2' := hSw.1.1 2 _ rfl; have a3' := hSw.1.1 3 _ rfl; have a4' := hSw.1.1 4 _ rfl; have az := hSw.1.2.2; have p0 := hSw.2.1 0 _ rfl; have p1 := hSw.2.1 1 _ rfl; have p2 := hSw.2.1 2 _ rfl; have p3 := hSw.2.1 3 _ rfl; have p4 := hSw.2.1 4 _ rfl; have pz := hSw.2.2.2; go_simp; try with_reducible rfl)
          change wpAnyH _ _ _ _ _ _ _ (Act.put _ (some 76) _) _
          simp only [Act.put, List.setIfInBounds_toArray, List.set_cons_zero, List.set_cons_succ]
          refine wpAnyH_take (i := 21) (v := ?_) rfl (by kernel_rfl) (by kernel_rfl) (by kernel_rfl) (fun _ _ _ h => h) (Or.inl ⟨by rfl, ?_⟩) (by assumption) ?_
          rotate_left
          · (intro wS hSw; have a0' := hSw.1.1 0 _ rfl; have a1' := hSw.1.1 1 _ rfl; have a2' := hSw.1.1 2 _ rfl; have a3' := hSw.1.1 3 _ rfl; have a4' := hSw.1.1 4 _ rfl; have az := hSw.1.2.2; have p0 := hSw.2.1 0 _ rfl; have p1 := hSw.2.1 1 _ rfl; have p2 := hSw.2.1 2 _ rfl; have p3 := hSw.2.1 3 _ rfl; have p4 := hSw.2.1 4 _ rfl; have pz := hSw.2.2.2; go_simp; try with_reducible rfl)
          change wpAnyH _ _ _ _ _ _ _ (Act.put _ (some 77) _) _
          simp only [Act.put, List.setIfInBounds_toArray, List.set_cons_zero, List.set_cons_succ]
          refine wpAnyH_ready (rs := [15]) (by kernel_rfl) (by simp) ?_
          refine AllReadyH.cons rfl (fun K hK => ?_) AllReadyH.nil
          go_simp
          refine (S3.out _).mono ?_
          rintro e v3 ⟨rfl, hv3⟩
          have F_3 : Hid ((Cs v3 na [.int .i64 a0, .int .i64 a1, .int .i64 a2, .int .i64 a3, .int .i64 a4] ∧ Cs v3 w.heap.size [.int .i64 ka, .int .i64 kb, .int .i64 kc, .int .i64 kd, .int .i64 ke]) ∧ Below w.heap.size w v3) := ⟨⟨Cs.later hv3 F_2.out.1.1, Cs.later hv3 F_2.out.1.2⟩, F_2.out.2.trans (hv3.mono F_2.out.2.size)⟩
          clear hv3 F_2
          (try go_wp2_with (fail))
          refine hK.out _ _ ?_ (fun hHeld => ?_)
          · exact F_3.out.1
          clear hK K
          refine wpAnyH_ready (rs := [19]) (by kernel_rfl) (by simp) ?_
          refine AllReadyH.cons rfl (fun K hK => ?_) AllReadyH.nil
          go_simp
          refine (S4.out _).mono ?_
          rintro e v4 ⟨rfl, hv4⟩
          have F_4 : Hid ((Cs v4 na [.int .i64 a0, .int .i64 a1, .int .i64 a2, .int .i64 a3, .int .i64 a4] ∧ Cs v4 w.heap.size [.int .i64 ka, .int .i64 kb, .int .i64 kc, .int .i64 kd, .int .i64 ke]) ∧ Below w.heap.size w v4) := ⟨⟨Cs.later hv4 F_3.out.1.1, Cs.later hv4 F_3.out.1.2⟩, F_3.out.2.trans (hv4.mono F_3.out.2.size)⟩
          clear hv4 F_3
          (try go_wp2_with (fail))
          refine hK.out _ _ ?_ (fun hHeld => ?_)
          · exact F_4.out.1
          clear hK K
          refine wpAnyH_ready (rs := [22]) (by kernel_rfl) (by simp) ?_
          refine AllReadyH.cons rfl (fun K hK => ?_) AllReadyH.nil
          go_simp
          refine (S5.out _).mono ?_
          rintro e v5 ⟨rfl, hv5⟩
          have F_5 : Hid ((Cs v5 na [.int .i64 a0, .int .i64 a1, .int .i64 a2, .int .i64 a3, .int .i64 a4] ∧ Cs v5 w.heap.size [.int .i64 ka, .int .i64 kb, .int .i64 kc, .int .i64 kd, .int .i64 ke]) ∧ Below w.heap.size w v5) := ⟨⟨Cs.later hv5 F_4.out.1.1, Cs.later hv5 F_4.out.1.2⟩, F_4.out.2.trans (hv5.mono F_4.out.2.size)⟩
          clear hv5 F_4
          (try go_wp2_with (fail))
          refine hK.out _ _ ?_ (fun hHeld => ?_)
          · exact F_5.out.1
          clear hK K
          refine wpAnyH_take (i := 23) (v := ?_) rfl (by kernel_rfl) (by kernel_rfl) (by kernel_rfl) (fun _ _ _ h => h) (Or.inl ⟨by rfl, ?_⟩) (by assumption) ?_
          rotate_left
          · (intro wS hSw; have a0' := hSw.1.1 0 _ rfl; have a1' := hSw.1.1 1 _ rfl; have a2' := hSw.1.1 2 _ rfl; have a3' := hSw.1.1 3 _ rfl; have a4' := hSw.1.1 4 _ rfl; have az := hSw.1.2.2; have p0 := hSw.2.1 0 _ rfl; have p1 := hSw.2.1 1 _ rfl; have p2 := hSw.2.1 2 _ rfl; have p3 := hSw.2.1 3 _ rfl; have p4 := hSw.2.1 4 _ rfl; have pz := hSw.2.2.2; go_simp; try with_reducible rfl)
          change wpAnyH _ _ _ _ _ _ _ (Act.put _ (some 79) _) _
          simp only [Act.put, List.setIfInBounds_toArray, List.set_cons_zero, List.set_cons_succ]
          refine wpAnyH_take (i := 24) (v := ?_) rfl (by kernel_rfl) (by kernel_rfl) (by kernel_rfl) (fun _ _ _ h => h) (Or.inl ⟨by rfl, ?_⟩) (by assumption) ?_
          rotate_left
          · (intro wS hSw; have a0' := hSw.1.1 0 _ rfl; have a1' := hSw.1.1 1 _ rfl; have a2' := hSw.1.1 2 _ rfl; have a3' := hSw.1.1 3 _ rfl; have a4' := hSw.1.1 4 _ rfl; have az := hSw.1.2.2; have p0 := hSw.2.1 0 _ rfl; have p1 := hSw.2.1 1 _ rfl; have p2 := hSw.2.1 2 _ rfl; have p3 := hSw.2.1 3 _ rfl; have p4 := hSw.2.1 4 _ rfl; have pz := hSw.2.2.2; go_simp; try with_reducible rfl)
          change wpAnyH _ _ _ _ _ _ _ (Act.put _ (some 80) _) _
          simp only [Act.put, List.setIfInBounds_toArray, List.set_cons_zero, List.set_cons_succ]
          refine wpAnyH_take (i := 25) (v := ?_) rfl (by kernel_rfl) (by kernel_rfl) (by kernel_rfl) (fun _ _ _ h => h) (Or.inl ⟨by rfl, ?_⟩) (by assumption) ?_
          rotate_left
          · (intro wS hSw; have a0' := hSw.1.1 0 _ rfl; have a1' := hSw.1.1 1 _ rfl; have a2' := hSw.1.1 2 _ rfl; have a3' := hSw.1.1 3 _ rfl; have a4' := hSw.1.1 4 _ rfl; have az := hSw.1.2.2; have p0 := hSw.2.1 0 _ rfl; have p1 := hSw.2.1 1 _ rfl; have p2 := hSw.2.1 2 _ rfl; have p3 := hSw.2.1 3 _ rfl; have p4 := hSw.2.1 4 _ rfl; have pz := hSw.2.2.2; go_simp; try with_reducible rfl)
          change wpAnyH _ _ _ _ _ _ _ (Act.put _ (some 81) _) _
          simp only [Act.put, List.setIfInBounds_toArray, List.set_cons_zero, List.set_cons_succ]
          refine wpAnyH_take (i := 26) (v := ?_) rfl (by kernel_rfl) (by kernel_rfl) (by kernel_rfl) (fun _ _ _ h => h) (Or.inl ⟨by rfl, ?_⟩) (by assumption) ?_
          rotate_left
          · (intro wS hSw; have a0' := hSw.1.1 0 _ rfl; have a1' := hSw.1.1 1 _ rfl; have a2' := hSw.1.1 2 _ rfl; have a3' := hSw.1.1 3 _ rfl; have a4' := hSw.1.1 4 _ rfl; have az := hSw.1.2.2; have p0 := hSw.2.1 0 _ rfl; have p1 := hSw.2.1 1 _ rfl; have p2 := hSw.2.1 2 _ rfl; have p3 := hSw.2.1 3 _ rfl; have p4 := hSw.2.1 4 _ rfl; have pz := hSw.2.2.2; go_simp; try with_reducible rfl)
          change wpAnyH _ _ _ _ _ _ _ (Act.put _ (some 6) _) _
          simp only [Act.put, List.setIfInBounds_toArray, List.set_cons_zero, List.set_cons_succ]
          refine wpAnyH_done (by kernel_rfl) ?_ _
          refine NoPanic.normal ?_
          have F9 := F_5.out.2
          go_wp2_with (fail)
          go_ret
          exact ⟨rfl, F9⟩
    · have CZ : Hid (∀ w, Calls Tryd.prog 17 #[.agg #[.int .i64 ka, .int .i64 kb, .int .i64 kc, .int .i64 kd, .int .i64 ke], .int .i64 f] w fun e w' => e = .returned (.int .i64 0) ∧ Below w.heap.size w w') := fun w => by
        have := at_is ka kb kc kd ke f w
        rw [at_no hf] at this
        exact this
      rw [with_no hf]
      have p0 := u_p.1 0 _ rfl
      have p1 := u_p.1 1 _ rfl
      have p2 := u_p.1 2 _ rfl
      have p3 := u_p.1 3 _ rfl
      have p4 := u_p.1 4 _ rfl
      have pz := u_p.2.2
      have hs := HB2.size
      by_cases f0 : f < 0
      · clear hf u_p
        go_wp2_with (fail)
        refine (CZ.out _).mono ?_
        rintro e w3 ⟨rfl, hw3⟩
        have HB3 : Below w.heap.size w w3 := Below.trans (show Below w.heap.size w _ by go_grown) (hw3.mono (by simp; omega))
        clear p0 p1 p2 p3 p4 pz HB2 hs hw3
        go_wp2
        go_ret
        exact ⟨rfl, HB3⟩
      · have f4 : 4 < f := by omega
        clear hf u_p
        go_wp2_with (fail)
        refine (CZ.out _).mono ?_
        rintro e w3 ⟨rfl, hw3⟩
        have HB3 : Below w.heap.size w w3 := Below.trans (show Below w.heap.size w _ by go_grown) (hw3.mono (by simp; omega))
        clear p0 p1 p2 p3 p4 pz HB2 hs hw3
        go_wp2
        go_ret
        exact ⟨rfl, HB3⟩

end Go.Proofs.YtaeejemknmjglaaDoor.Sp
