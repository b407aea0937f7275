/-
  Contracts of package amount's Text and Binary, at this program. Conditions: the two tables of suffixes lie as the program's text lays them.
-/
import Derived.Test.YtpbgolcimbjekaaGreatDoorQ11
namespace Go.Proofs.YtpbgolcimbjekaaGreatDoor
open Go.RowKit

theorem sh_le (v : Nat) : ∀ (k a t : Nat), (sh v k a t).2 ≤ t + k
  | 0, a, t => by simp [sh]
  | k + 1, a, t => by
    rw [sh]; split
    · have := sh_le v k (a / v) (t + 1); omega
    · simp
theorem decF_len : ∀ (k a : Nat), (decF k a).length ≤ k
  | 0, a => by simp [decF]
  | k + 1, a => by
    rw [decF_succ]; split
    · simp
    · have := decF_len k (a / 10); simp; omega
theorem dec_len (a : Nat) : (dec a).length ≤ 39 := decF_len 39 a
theorem ba_size (l : List UInt8) : (ba l).size = l.length := by simp [ba, ByteArray.size]
theorem decs_len (t : Nat) (h : t < 10) : (decs.getD t []).length ≤ 2 := by
  match t, h with
  | 0, _ => decide
  | 1, _ => decide
  | 2, _ => decide
  | 3, _ => decide
  | 4, _ => decide
  | 5, _ => decide
  | 6, _ => decide
  | 7, _ => decide
  | 8, _ => decide
  | 9, _ => decide
theorem bins_len (t : Nat) (h : t < 6) : (bins.getD t []).length ≤ 2 := by
  match t, h with
  | 0, _ => decide
  | 1, _ => decide
  | 2, _ => decide
  | 3, _ => decide
  | 4, _ => decide
  | 5, _ => decide
theorem ba_append (a b : List UInt8) : (ba a ++ ba b).data.toList = a ++ b := by simp [ba]

set_option maxHeartbeats 4000000 in
set_option maxRecDepth 100000 in
theorem text_amount {ah al : Int} {a : Nat} (i : Is ah al a) (w : World) (hL : LaidW w) :
    Calls Tryz.prog 39 #[.agg #[.int .u64 ah, .int .u64 al]] w fun e w' => (∃ t : ByteArray, e = .returned (.string t) ∧ t.data.toList = textL a) ∧ Below w.heap.size w w' := by
  have HL : Hid (LaidW w) := hL
  clear hL
  go_enter Tryz.func39, Tryz.ntmps39
  go_wp2_with (fail)
  refine (isAmount_is i _).mono ?_
  rintro e w1 ⟨rfl, hw1⟩
  have HBw1 : Below w.heap.size w w1 := Below.trans (by go_grown) (hw1.mono (by first | omega | (simp; done) | (simp; omega)))
  have p_p : Box w1 (w.heap.size) (ah) (al) := Box.later hw1 (by repeat (first | assumption | (refine Box.new _ _ _ _ _ ?_; simp; done) | refine Box.alloc ?_ _ | refine Box.drew ?_ | (apply Box.put) | (refine Box.beside ?_ _ _ _ (by omega))))
  have q_p := p_p
  obtain ⟨p0, p1, p2, p3, p4⟩ := p_p
  have hsw1 := hw1.size
  (try simp at hsw1)
  clear hw1
  have HL1 : Hid (LaidW w1) := HL.out.later HBw1
  by_cases c : a ≤ most
  · rw [decide_eq_true c]
    by_cases z : a = 0
    · obtain ⟨rfl, rfl⟩ := i.nought.2 z
      have X : Hid (textL a = [48]) := by unfold Hid textL; rw [if_pos c, if_pos z]
      go_wp2
      go_ret
      exact ⟨⟨_, rfl, X.out.symm⟩, by go_grown⟩
    · have nz : ah ≠ 0 ∨ (ah = 0 ∧ al ≠ 0) := by
        by_cases h : ah = 0
        · exact Or.inr ⟨h, fun h' => z (i.nought.1 ⟨h, h'⟩)⟩
        · exact Or.inl h
      obtain ⟨R, t, hR⟩ : ∃ R t, sh 1000 9 a 0 = (R, t) := ⟨_, _, rfl⟩
      have r9 : t ≤ 9 := by have := sh_le 1000 9 a 0; rw [hR] at this; simpa using this
      have X : Hid (textL a = dec R ++ decs.getD t []) := by unfold Hid textL; rw [if_pos c, if_neg z, hR]
      have SH : Hid (∀ w, Calls Tryz.prog 64 #[.agg #[.int .u64 ah, .int .u64 al], .int .u64 1000, .int .i64 9] w fun e w' => ∃ h l : Int, e = .returned (.tuple #[.agg #[.int .u64 h, .int .u64 l], .int .i64 ((t : Nat) : Int)]) ∧ Is h l R ∧ Below w.heap.size w w') := fun w => by
        have := shortened_is i (v := 1000) (m := 9) rfl (by omega) (by omega) rfl (by omega) w
        rw [hR] at this
        exact this
      clear hR c z
      rcases nz with nz | ⟨rfl, nz⟩
      all_goals
        go_wp2_with (fail)
        refine (SH.out _).mono ?_
        rintro e w2 ⟨h, l, rfl, j, hw2⟩
        have HBw2 : Below w.heap.size w w2 := Below.trans (by go_grown) (hw2.mono (by first | omega | (simp; done) | (simp; omega)))
        have hsw2 := hw2.size
        (try simp at hsw2)
        clear hw2
        have HL2 : Hid (LaidW w2) := HL.out.later HBw2
        clear SH HL1 p0 p1 p2 p3 p4 q_p HBw1
        obtain ⟨D, hD⟩ : ∃ D, D = dec R := ⟨_, rfl⟩
        have CT : Hid (∀ w, Calls Tryz.prog 65 #[.agg #[.int .u64 h, .int .u64 l]] w fun e w' => e = .returned (.string (ba D)) ∧ Below w.heap.size w w') := fun w => by
          rw [hD]; exact text_is j w
        rw [← hD] at X
        have hsz : ¬ 9223372036854775807 < (ba D).size + (decB t).size := by
          unfold decB
          rw [ba_size, ba_size, hD]
          have h1 := dec_len R
          have h2 := decs_len t (by omega)
          omega
        clear hD
        go_wp2_with (fail)
        have q_s : Box (w2.alloc (.cells #[.int .u64 h, .int .u64 l] 42)) w2.heap.size h l := Box.new _ _ _ _ _ rfl
        have HL3 : LaidW (w2.alloc (.cells #[.int .u64 h, .int .u64 l] 42)) := HL2.out.alloc _
        have HB1 : Below w.heap.size w (w2.alloc (.cells #[.int .u64 h, .int .u64 l] 42)) := by go_grown
        generalize w2.alloc (.cells #[.int .u64 h, .int .u64 l] 42) = W1 at *
        have dc := HL3.dec t (by omega)
        have t0 : (0 : Int) ≤ (t : Int) := by omega
        have t1 : (t : Int) < 10 := by omega
        refine wp_region_noPanic ?_
        refine wp_region_held_drew (S := fun w' => Box w' w2.heap.size h l ∧ w'.cell? ⟨2, t, none⟩ = some (.string (decB t))) (by kernel_rfl) ?_ (fun hHeld => ?_)
        · exact ⟨q_s, dc⟩
        refine wpAnyH_take (i := 0) (v := ?_) rfl (by kernel_rfl) (by kernel_rfl) (by kernel_rfl) (fun _ _ _ h => h) (Or.inl ⟨by rfl, ?_⟩) (by assumption) ?_
        rotate_left
        · (intro wS hSw; obtain ⟨⟨g0, g1, -, -, -⟩, g2⟩ := hSw; go_simp; try with_reducible rfl)
        change wpAnyH _ _ _ _ _ _ _ (Act.put _ (some 16) _) _
        simp only [Act.put, List.setIfInBounds_toArray, List.set_cons_zero, List.set_cons_succ]
        refine wpAnyH_take (i := 2) (v := ?_) rfl (by kernel_rfl) (by kernel_rfl) (by kernel_rfl) (fun _ _ _ h => h) (Or.inl ⟨by rfl, ?_⟩) (by assumption) ?_
        rotate_left
        · (intro wS hSw; obtain ⟨⟨g0, g1, -, -, -⟩, g2⟩ := hSw; go_simp; try with_reducible rfl)
        change wpAnyH _ _ _ _ _ _ _ (Act.put _ (some 18) _) _
        simp only [Act.put, List.setIfInBounds_toArray, List.set_cons_zero, List.set_cons_succ]
        refine wpAnyH_take (i := 3) (v := ?_) rfl (by kernel_rfl) (by kernel_rfl) (by kernel_rfl) (fun _ _ _ h => h) (Or.inl ⟨by rfl, ?_⟩) (by assumption) ?_
        rotate_left
        · (intro wS hSw; obtain ⟨⟨g0, g1, -, -, -⟩, g2⟩ := hSw; go_simp; try with_reducible rfl)
        change wpAnyH _ _ _ _ _ _ _ (Act.put _ (some 19) _) _
        simp only [Act.put, List.setIfInBounds_toArray, List.set_cons_zero, List.set_cons_succ]
        refine wpAnyH_take (i := 4) (v := ?_) rfl (by kernel_rfl) (by kernel_rfl) (by kernel_rfl) (fun _ _ _ h => h) (Or.inl ⟨by rfl, ?_⟩) (by assumption) ?_
        rotate_left
        · (intro wS hSw; obtain ⟨⟨g0, g1, -, -, -⟩, g2⟩ := hSw; go_simp; try with_reducible rfl)
        change wpAnyH _ _ _ _ _ _ _ (Act.put _ (some 20) _) _
        simp only [Act.put, List.setIfInBounds_toArray, List.set_cons_zero, List.set_cons_succ]
        refine wpAnyH_named ?_
        intro A hA
        clear hHeld
        refine wpAnyH_inv (I := fun L a W => ∃ (c1 c5 c6 : Bool) (s17 s21 s2 : Value), L = #[true, c1, true, true, true, c5, c6] ∧ a = (((A.put (some 17) s17).put (some 21) s21).put (some 2) s2) ∧ Hid (Below W1.heap.size W1.drew W) ∧ Hid (c1 = true → s17 = .string (ba D)) ∧ Hid (c5 = true → s21 = .string (ba D ++ decB t)) ∧ Hid (c6 = true → s2 = .string (ba D ++ decB t))) ?hS ?hz (by kernel_rfl) ?hsteps ?hend _ _ _ _ (by decide) ?h0
        case hS => rintro L a W ⟨c1, c5, c6, s17, s21, s2, -, -, K, -⟩; have hb := K.out; clear K; exact (fun h => h) (⟨Box.later (W := W1.drew) hb q_s, cell_later (w := W1.drew) hb dc⟩)
        case hz => rintro L a W ⟨c1, c5, c6, s17, s21, s2, rfl, -⟩; rfl
        case h0 => exact ⟨false, false, false, A.eval (.tmp 17), A.eval (.tmp 21), A.eval (.tmp 2), rfl, by simp only [put_self], Below.refl _ _, fun h => Bool.noConfusion h, fun h => Bool.noConfusion h, fun h => Bool.noConfusion h⟩
        case hend =>
          rintro L a W ⟨c1, c5, c6, s17, s21, s2, rfl, rfl, K, k1, k5, k6⟩ hall
          obtain rfl : c1 = true := hall 1
          obtain rfl : c5 = true := hall 5
          obtain rfl : c6 = true := hall 6
          obtain rfl := k1.out rfl
          obtain rfl := k5.out rfl
          obtain rfl := k6.out rfl
          clear k1 k5 k6
          refine NoPanic.normal ?_
          subst hA
          simp only [Act.put, List.setIfInBounds_toArray, List.set_cons_zero, List.set_cons_succ]
          have HBW : Below w.heap.size w W := HB1.trans ((of_drew' K.out).mono (by have := HB1.size; omega))
          go_wp2
          go_ret
          exact ⟨⟨_, rfl, by rw [X.out]; exact ba_append _ _⟩, HBW⟩
        case hsteps =>
          refine StepsI.skip (i := 0) (by rintro L a W ⟨c1, c5, c6, s17, s21, s2, rfl, -⟩; rfl) ?_
          refine StepsI.cons (i := 1) rfl ?_ ?_
          · rintro L a W ⟨c1, c5, c6, s17, s21, s2, rfl, rfl, K, k1, k5, k6⟩ h0 hd KK hK
            obtain rfl : c1 = false := h0
            subst hA
            simp only [Act.put, List.setIfInBounds_toArray, List.set_cons_zero, List.set_cons_succ]
            clear hd
            go_simp
            refine (CT.out _).mono ?_
            rintro e w2 ⟨rfl, hw2⟩
            (try go_wp2_with (fail))
            exact hK.out _ _ ⟨true, c5, c6, .string (ba D), s21, s2, rfl, by simp only [Act.put, List.setIfInBounds_toArray, List.set_cons_zero, List.set_cons_succ], K.out.trans (hw2.mono K.out.size), fun _ => rfl, k5.out, k6.out⟩
          refine StepsI.skip (i := 2) (by rintro L a W ⟨c1, c5, c6, s17, s21, s2, rfl, -⟩; rfl) ?_
          refine StepsI.skip (i := 3) (by rintro L a W ⟨c1, c5, c6, s17, s21, s2, rfl, -⟩; rfl) ?_
          refine StepsI.skip (i := 4) (by rintro L a W ⟨c1, c5, c6, s17, s21, s2, rfl, -⟩; rfl) ?_
          refine StepsI.cons (i := 5) rfl ?_ ?_
          · rintro L a W ⟨c1, c5, c6, s17, s21, s2, rfl, rfl, K, k1, k5, k6⟩ h0 hd KK hK
            obtain rfl : c5 = false := h0
            obtain rfl : c1 = true := hd ⟨1, .data⟩ (by simp) rfl
            have e1 := k1.out rfl
            subst e1
            subst hA
            simp only [Act.put, List.setIfInBounds_toArray, List.set_cons_zero, List.set_cons_succ]
            clear hd
            go_simp
            exact hK.out _ _ ⟨true, true, c6, .string (ba D), .string (ba D ++ decB t), s2, rfl, by simp only [Act.put, List.setIfInBounds_toArray, List.set_cons_zero, List.set_cons_succ], K.out, fun _ => rfl, fun _ => rfl, k6.out⟩
          refine StepsI.cons (i := 6) rfl ?_ ?_
          · rintro L a W ⟨c1, c5, c6, s17, s21, s2, rfl, rfl, K, k1, k5, k6⟩ h0 hd KK hK
            obtain rfl : c6 = false := h0
            obtain rfl : c5 = true := hd ⟨5, .data⟩ (by simp) rfl
            have e5 := k5.out rfl
            subst e5
            subst hA
            simp only [Act.put, List.setIfInBounds_toArray, List.set_cons_zero, List.set_cons_succ]
            clear hd
            go_simp
            exact hK.out _ _ ⟨c1, true, true, s17, .string (ba D ++ decB t), .string (ba D ++ decB t), rfl, by simp only [Act.put, List.setIfInBounds_toArray, List.set_cons_zero, List.set_cons_succ], K.out, k1.out, fun _ => rfl, fun _ => rfl⟩
          exact StepsI.nil
  · rw [decide_eq_false c]
    have X : Hid (textL a = []) := by unfold Hid textL; rw [if_neg c]
    go_wp2
    go_ret
    exact ⟨⟨_, rfl, X.out.symm⟩, by go_grown⟩

set_option maxHeartbeats 4000000 in
set_option maxRecDepth 100000 in
theorem binary_amount {ah al : Int} {a : Nat} (i : Is ah al a) (w : World) (hL : LaidW w) :
    Calls Tryz.prog 41 #[.agg #[.int .u64 ah, .int .u64 al]] w fun e w' => (∃ t : ByteArray, e = .returned (.string t) ∧ t.data.toList = binL a) ∧ Below w.heap.size w w' := by
  have HL : Hid (LaidW w) := hL
  clear hL
  go_enter Tryz.func41, Tryz.ntmps41
  go_wp2_with (fail)
  refine (isAmount_is i _).mono ?_
  rintro e w1 ⟨rfl, hw1⟩
  have HBw1 : Below w.heap.size w w1 := Below.trans (by go_grown) (hw1.mono (by first | omega | (simp; done) | (simp; omega)))
  have p_p : Box w1 (w.heap.size) (ah) (al) := Box.later hw1 (by repeat (first | assumption | (refine Box.new _ _ _ _ _ ?_; simp; done) | refine Box.alloc ?_ _ | refine Box.drew ?_ | (apply Box.put) | (refine Box.beside ?_ _ _ _ (by omega))))
  have q_p := p_p
  obtain ⟨p0, p1, p2, p3, p4⟩ := p_p
  have hsw1 := hw1.size
  (try simp at hsw1)
  clear hw1
  by_cases c : a ≤ most
  · rw [decide_eq_true c]
    go_wp2_with (fail)
    refine (by_is i (v := 1000000000) rfl (by omega) (by omega) _).mono ?_
    rintro e w2 ⟨uh, ul, r, rfl, j, hr, hw2⟩
    have HBw2 : Below w.heap.size w w2 := Below.trans (by go_grown) (hw2.mono (by first | omega | (simp; done) | (simp; omega)))
    have p_p : Box w2 (w.heap.size) (ah) (al) := Box.later hw2 (by repeat (first | assumption | (refine Box.new _ _ _ _ _ ?_; simp; done) | refine Box.alloc ?_ _ | refine Box.drew ?_ | (apply Box.put) | (refine Box.beside ?_ _ _ _ (by omega))))
    clear q_p p0 p1 p2 p3 p4
    have q_p := p_p
    obtain ⟨p0, p1, p2, p3, p4⟩ := p_p
    have hsw2 := hw2.size
    (try simp at hsw2)
    clear hw2
    by_cases z : a % 1000000000 ≠ 0 ∨ a / 1000000000 = 0
    · have X : Hid (binL a = textL a) := by unfold Hid binL; rw [if_pos c, if_pos z]
      have HL2 : Hid (LaidW w2) := HL.out.later HBw2
      by_cases r0 : r = 0
      · obtain ⟨rfl, rfl⟩ := j.nought.2 (by omega)
        subst r0
        clear hr z c
        go_wp2_with (fail)
        refine (text_amount i _ (HL2.out.alloc _)).mono ?_
        rintro e w3 ⟨⟨t, rfl, ht⟩, hw3⟩
        rw [← X.out] at ht
        have HBw3 : Below w.heap.size w w3 := Below.trans (by go_grown) (hw3.mono (by first | omega | (simp; done) | (simp; omega)))
        have hsw3 := hw3.size
        (try simp at hsw3)
        clear hw3
        have HT : Hid _ := ht
        clear ht
        go_wp2
        go_ret
        exact ⟨⟨_, rfl, HT.out⟩, by go_grown⟩
      · have rb : (r != 0) = true := by simp [r0]
        clear hr z c
        go_wp2_with (fail)
        refine (text_amount i _ (HL2.out.alloc _)).mono ?_
        rintro e w3 ⟨⟨t, rfl, ht⟩, hw3⟩
        rw [← X.out] at ht
        have HBw3 : Below w.heap.size w w3 := Below.trans (by go_grown) (hw3.mono (by first | omega | (simp; done) | (simp; omega)))
        have hsw3 := hw3.size
        (try simp at hsw3)
        clear hw3
        have HT : Hid _ := ht
        clear ht
        go_wp2
        go_ret
        exact ⟨⟨_, rfl, HT.out⟩, by go_grown⟩
    · obtain rfl : r = 0 := by omega
      have nz : uh ≠ 0 ∨ (uh = 0 ∧ ul ≠ 0) := by
        by_cases h : uh = 0
        · exact Or.inr ⟨h, fun h' => z (Or.inr (j.nought.1 ⟨h, h'⟩))⟩
        · exact Or.inl h
      obtain ⟨R, t, hR⟩ : ∃ R t, sh 1024 6 (a / 1000000000) 0 = (R, t) := ⟨_, _, rfl⟩
      have r9 : t ≤ 6 := by have := sh_le 1024 6 (a / 1000000000) 0; rw [hR] at this; simpa using this
      have SH : Hid (∀ w, Calls Tryz.prog 64 #[.agg #[.int .u64 uh, .int .u64 ul], .int .u64 1024, .int .i64 6] w fun e w' => ∃ h l : Int, e = .returned (.tuple #[.agg #[.int .u64 h, .int .u64 l], .int .i64 ((t : Nat) : Int)]) ∧ Is h l R ∧ Below w.heap.size w w') := fun w => by
        have := shortened_is j (v := 1024) (m := 6) rfl (by omega) (by omega) rfl (by omega) w
        rw [hR] at this
        exact this
      have X : Hid (binL a = if t = 0 then textL a else dec R ++ bins.getD (t - 1) []) := by unfold Hid binL; rw [if_pos c, if_neg z, hR]
      clear hR c z hr
      rcases nz with nz | ⟨rfl, nz⟩
      all_goals
        go_wp2_with (fail)
        refine (SH.out _).mono ?_
        rintro e w3 ⟨h, l, rfl, jj, hw3⟩
        have HBw3 : Below w.heap.size w w3 := Below.trans (by go_grown) (hw3.mono (by first | omega | (simp; done) | (simp; omega)))
        have p_p : Box w3 (w.heap.size) (ah) (al) := Box.later hw3 (by repeat (first | assumption | (refine Box.new _ _ _ _ _ ?_; simp; done) | refine Box.alloc ?_ _ | refine Box.drew ?_ | (apply Box.put) | (refine Box.beside ?_ _ _ _ (by omega))))
        clear q_p p0 p1 p2 p3 p4
        have q_p := p_p
        obtain ⟨p0, p1, p2, p3, p4⟩ := p_p
        have hsw3 := hw3.size
        (try simp at hsw3)
        clear hw3
        have HL3 : Hid (LaidW w3) := HL.out.later HBw3
        clear SH
        by_cases tz : t = 0
        · subst tz
          rw [if_pos rfl] at X
          go_wp2_with (fail)
          refine (text_amount i _ (HL3.out.alloc _)).mono ?_
          rintro e w4 ⟨⟨t, rfl, ht⟩, hw4⟩
          rw [← X.out] at ht
          have HBw4 : Below w.heap.size w w4 := Below.trans (by go_grown) (hw4.mono (by first | omega | (simp; done) | (simp; omega)))
          have hsw4 := hw4.size
          (try simp at hsw4)
          clear hw4
          have HT : Hid _ := ht
          clear ht
          go_wp2
          go_ret
          exact ⟨⟨_, rfl, HT.out⟩, by go_grown⟩
        · rw [if_neg tz] at X
          obtain ⟨k, rfl⟩ : ∃ k, t = k + 1 := ⟨t - 1, by omega⟩
          rw [show k + 1 - 1 = k by omega] at X
          obtain ⟨D, hD⟩ : ∃ D, D = dec R := ⟨_, rfl⟩
          have CT : Hid (∀ w, Calls Tryz.prog 65 #[.agg #[.int .u64 h, .int .u64 l]] w fun e w' => e = .returned (.string (ba D)) ∧ Below w.heap.size w w') := fun w => by
            rw [hD]; exact text_is jj w
          rw [← hD] at X
          have hsz : ¬ 9223372036854775807 < (ba D).size + (binB k).size := by
            unfold binB
            rw [ba_size, ba_size, hD]
            have h1 := dec_len R
            have h2 := bins_len k (by omega)
            omega
          clear hD
          clear p0 p1 p2 p3 p4 q_p HBw1 HBw2
          have tc : ((k : Int) + 1 == 0) = false := by simp; omega
          go_wp2_with (fail)
          have q_s : Box (w3.alloc (.cells #[.int .u64 h, .int .u64 l] 42)) w3.heap.size h l := Box.new _ _ _ _ _ rfl
          have HL4 : LaidW (w3.alloc (.cells #[.int .u64 h, .int .u64 l] 42)) := HL3.out.alloc _
          have HB1 : Below w.heap.size w (w3.alloc (.cells #[.int .u64 h, .int .u64 l] 42)) := by go_grown
          generalize w3.alloc (.cells #[.int .u64 h, .int .u64 l] 42) = W1 at *
          have dc := HL4.bin k (by omega)
          have t0 : (0 : Int) ≤ (k : Int) := by omega
          have t1 : (k : Int) < 6 := by omega
          have wk : IntKind.i64.wrap (k : Int) = (k : Int) := by rw [IntKind.wrap_i64]; omega
          refine wp_region_noPanic ?_
          refine wp_region_held_drew (S := fun w' => Box w' w3.heap.size h l ∧ w'.cell? ⟨3, k, none⟩ = some (.string (binB k))) (by kernel_rfl) ?_ (fun hHeld => ?_)
          · exact ⟨q_s, dc⟩
          refine wpAnyH_take (i := 0) (v := ?_) rfl (by kernel_rfl) (by kernel_rfl) (by kernel_rfl) (fun _ _ _ h => h) (Or.inl ⟨by rfl, ?_⟩) (by assumption) ?_
          rotate_left
          · (intro wS hSw; obtain ⟨⟨g0, g1, -, -, -⟩, g2⟩ := hSw; go_simp; try with_reducible rfl)
          change wpAnyH _ _ _ _ _ _ _ (Act.put _ (some 35) _) _
          simp only [Act.put, List.setIfInBounds_toArray, List.set_cons_zero, List.set_cons_succ]
          refine wpAnyH_take (i := 2) (v := ?_) rfl (by kernel_rfl) (by kernel_rfl) (by kernel_rfl) (fun _ _ _ h => h) (Or.inl ⟨by rfl, ?_⟩) (by assumption) ?_
          rotate_left
          · (intro wS hSw; obtain ⟨⟨g0, g1, -, -, -⟩, g2⟩ := hSw; go_simp; try with_reducible rfl)
          change wpAnyH _ _ _ _ _ _ _ (Act.put _ (some 37) _) _
          simp only [Act.put, List.setIfInBounds_toArray, List.set_cons_zero, List.set_cons_succ]
          refine wpAnyH_take (i := 3) (v := ?_) rfl (by kernel_rfl) (by kernel_rfl) (by kernel_rfl) (fun _ _ _ h => h) (Or.inl ⟨by rfl, ?_⟩) (by assumption) ?_
          rotate_left
          · (intro wS hSw; obtain ⟨⟨g0, g1, -, -, -⟩, g2⟩ := hSw; go_simp; try with_reducible rfl)
          change wpAnyH _ _ _ _ _ _ _ (Act.put _ (some 38) _) _
          simp only [Act.put, List.setIfInBounds_toArray, List.set_cons_zero, List.set_cons_succ]
          refine wpAnyH_take (i := 4) (v := ?_) rfl (by kernel_rfl) (by kernel_rfl) (by kernel_rfl) (fun _ _ _ h => h) (Or.inl ⟨by rfl, ?_⟩) (by assumption) ?_
          rotate_left
          · (intro wS hSw; obtain ⟨⟨g0, g1, -, -, -⟩, g2⟩ := hSw; go_simp; try with_reducible rfl)
          change wpAnyH _ _ _ _ _ _ _ (Act.put _ (some 39) _) _
          simp only [Act.put, List.setIfInBounds_toArray, List.set_cons_zero, List.set_cons_succ]
          refine wpAnyH_take (i := 5) (v := ?_) rfl (by kernel_rfl) (by kernel_rfl) (by kernel_rfl) (fun _ _ _ h => h) (Or.inl ⟨by rfl, ?_⟩) (by assumption) ?_
          rotate_left
          · (intro wS hSw; obtain ⟨⟨g0, g1, -, -, -⟩, g2⟩ := hSw; go_simp; try with_reducible rfl)
          change wpAnyH _ _ _ _ _ _ _ (Act.put _ (some 40) _) _
          simp only [Act.put, List.setIfInBounds_toArray, List.set_cons_zero, List.set_cons_succ]
          refine wpAnyH_named ?_
          intro A hA
          clear hHeld
          refine wpAnyH_inv (I := fun L a W => ∃ (c1 c6 c7 : Bool) (s36 s41 s2 : Value), L = #[true, c1, true, true, true, true, c6, c7] ∧ a = (((A.put (some 36) s36).put (some 41) s41).put (some 2) s2) ∧ Hid (Below W1.heap.size W1.drew W) ∧ Hid (c1 = true → s36 = .string (ba D)) ∧ Hid (c6 = true → s41 = .string (ba D ++ binB k)) ∧ Hid (c7 = true → s2 = .string (ba D ++ binB k))) ?hS ?hz (by kernel_rfl) ?hsteps ?hend _ _ _ _ (by decide) ?h0
          case hS => rintro L a W ⟨c1, c6, c7, s36, s41, s2, -, -, K, -⟩; have hb := K.out; clear K; exact (fun h => h) (⟨Box.later (W := W1.drew) hb q_s, cell_later (w := W1.drew) hb dc⟩)
          case hz => rintro L a W ⟨c1, c6, c7, s36, s41, s2, rfl, -⟩; rfl
          case h0 => exact ⟨false, false, false, A.eval (.tmp 36), A.eval (.tmp 41), A.eval (.tmp 2), rfl, by simp only [put_self], Below.refl _ _, fun h => Bool.noConfusion h, fun h => Bool.noConfusion h, fun h => Bool.noConfusion h⟩
          case hend =>
            rintro L a W ⟨c1, c6, c7, s36, s41, s2, rfl, rfl, K, k1, k6, k7⟩ hall
            obtain rfl : c1 = true := hall 1
            obtain rfl : c6 = true := hall 6
            obtain rfl : c7 = true := hall 7
            obtain rfl := k1.out rfl
            obtain rfl := k6.out rfl
            obtain rfl := k7.out rfl
            clear k1 k6 k7
            refine NoPanic.normal ?_
            subst hA
            simp only [Act.put, List.setIfInBounds_toArray, List.set_cons_zero, List.set_cons_succ]
            have HBW : Below w.heap.size w W := HB1.trans ((of_drew' K.out).mono (by have := HB1.size; omega))
            go_wp2
            go_ret
            exact ⟨⟨_, rfl, by rw [X.out]; exact ba_append _ _⟩, HBW⟩
          case hsteps =>
            refine StepsI.skip (i := 0) (by rintro L a W ⟨c1, c6, c7, s36, s41, s2, rfl, -⟩; rfl) ?_
            refine StepsI.cons (i := 1) rfl ?_ ?_
            · rintro L a W ⟨c1, c6, c7, s36, s41, s2, rfl, rfl, K, k1, k6, k7⟩ h0 hd KK hK
              obtain rfl : c1 = false := h0
              subst hA
              simp only [Act.put, List.setIfInBounds_toArray, List.set_cons_zero, List.set_cons_succ]
              clear hd
              go_simp
              refine (CT.out _).mono ?_
              rintro e w2 ⟨rfl, hw2⟩
              (try go_wp2_with (fail))
              exact hK.out _ _ ⟨true, c6, c7, .string (ba D), s41, s2, rfl, by simp only [Act.put, List.setIfInBounds_toArray, List.set_cons_zero, List.set_cons_succ], K.out.trans (hw2.mono K.out.size), fun _ => rfl, k6.out, k7.out⟩
            refine StepsI.skip (i := 2) (by rintro L a W ⟨c1, c6, c7, s36, s41, s2, rfl, -⟩; rfl) ?_
            refine StepsI.skip (i := 3) (by rintro L a W ⟨c1, c6, c7, s36, s41, s2, rfl, -⟩; rfl) ?_
            refine StepsI.skip (i := 4) (by rintro L a W ⟨c1, c6, c7, s36, s41, s2, rfl, -⟩; rfl) ?_
            refine StepsI.skip (i := 5) (by rintro L a W ⟨c1, c6, c7, s36, s41, s2, rfl, -⟩; rfl) ?_
            refine StepsI.cons (i := 6) rfl ?_ ?_
            · rintro L a W ⟨c1, c6, c7, s36, s41, s2, rfl, rfl, K, k1, k6, k7⟩ h0 hd KK hK
              obtain rfl : c6 = false := h0
              obtain rfl : c1 = true := hd ⟨1, .data⟩ (by simp) rfl
              have e1 := k1.out rfl
              subst e1
              subst hA
              simp only [Act.put, List.setIfInBounds_toArray, List.set_cons_zero, List.set_cons_succ]
              clear hd
              go_simp
              exact hK.out _ _ ⟨true, true, c7, .string (ba D), .string (ba D ++ binB k), s2, rfl, by simp only [Act.put, List.setIfInBounds_toArray, List.set_cons_zero, List.set_cons_succ], K.out, fun _ => rfl, fun _ => rfl, k7.out⟩
            refine StepsI.cons (i := 7) rfl ?_ ?_
            · rintro L a W ⟨c1, c6, c7, s36, s41, s2, rfl, rfl, K, k1, k6, k7⟩ h0 hd KK hK
              obtain rfl : c7 = false := h0
              obtain rfl : c6 = true := hd ⟨6, .data⟩ (by simp) rfl
              have e6 := k6.out rfl
              subst e6
              subst hA
              simp only [Act.put, List.setIfInBounds_toArray, List.set_cons_zero, List.set_cons_succ]
              clear hd
              go_simp
              exact hK.out _ _ ⟨c1, true, true, s36, .string (ba D ++ binB k), .string (ba D ++ binB k), rfl, by simp only [Act.put, List.setIfInBounds_toArray, List.set_cons_zero, List.set_cons_succ], K.out, k1.out, fun _ => rfl, fun _ => rfl⟩
            exact StepsI.nil
  · rw [decide_eq_false c]
    have X : Hid (binL a = []) := by unfold Hid binL; rw [if_neg c]
    go_wp2
    go_ret
    exact ⟨⟨_, rfl, X.out.symm⟩, by go_grown⟩

end Go.Proofs.YtpbgolcimbjekaaGreatDoor
