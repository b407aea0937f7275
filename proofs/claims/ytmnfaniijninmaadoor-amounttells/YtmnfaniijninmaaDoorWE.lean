/-
  The walk of the statement AmountTells at this program: it returns true. Conditions: the words are words, n is a number of the machine, the two tables of suffixes lie as the program's text lays them.
-/
import Derived.Test.YtmnfaniijninmaaDoorWD
namespace Go.Proofs.YtmnfaniijninmaaDoor
open Go.RowKit

theorem rtext_det {h l : Int} {v : Nat} (i : Is h l v) (am : v ≤ most) (w : World) :
    Calls Tryd.prog 11 #[.agg #[.int .u64 h, .int .u64 l]] w fun e w' => e = .returned (.string (ba (textL v))) ∧ Below w.heap.size w w' := by
  refine (rtextAmount_is i am w).mono ?_
  rintro e w' ⟨⟨t, rfl, ht⟩, hw⟩
  exact ⟨by rw [ba_eq ht]; rfl, hw⟩
theorem rbin_det {h l : Int} {v : Nat} (i : Is h l v) (am : v ≤ most) (w : World) :
    Calls Tryd.prog 12 #[.agg #[.int .u64 h, .int .u64 l]] w fun e w' => e = .returned (.string (ba (binL v))) ∧ Below w.heap.size w w' := by
  refine (rbinAmount_is i am w).mono ?_
  rintro e w' ⟨⟨t, rfl, ht⟩, hw⟩
  exact ⟨by rw [ba_eq ht]; rfl, hw⟩
/-- Both answers for so many of a number: one number, and errors that go together. -/
theorem both_units {h l : Int} {a : Nat} (i : Is h l a) : ∃ (n g : Int) (o : Bool), ((g = 0 ∧ o = true) ∨ (g = 15 ∧ o = false)) ∧
    (∀ w, Calls Tryd.prog 13 #[.agg #[.int .u64 h, .int .u64 l]] w fun e w' => e = .returned (.tuple #[.int .i64 n, .int .i64 g]) ∧ Below w.heap.size w w') ∧
    (∀ w, Calls Tryd.prog 14 #[.agg #[.int .u64 h, .int .u64 l], .int .u64 1000000000] w fun e w' => e = .returned (.tuple #[.int .i64 n, .bool o]) ∧ Below w.heap.size w w') := by
  by_cases c : up a 1000000000 ≤ 1152921504606846976
  · have am : a ≤ most := by unfold up at c; unfold most; omega
    refine ⟨((up a 1000000000 : Nat) : Int), 0, true, Or.inl ⟨rfl, rfl⟩, fun w => (units_is i w).mono ?_, fun w => (parts_is i (v := 1000000000) rfl (by omega) (by omega) w).mono ?_⟩
    · rintro e w' ⟨⟨n, g, rfl, f⟩, hw⟩
      rcases f with ⟨_, rfl, rfl⟩ | ⟨f, _⟩
      · exact ⟨rfl, hw⟩
      · omega
    · rintro e w' ⟨⟨n, o, rfl, f⟩, hw⟩
      rcases f with ⟨_, _, rfl, rfl⟩ | ⟨f, _⟩
      · exact ⟨rfl, hw⟩
      · exact absurd ⟨am, c⟩ f
  · refine ⟨0, 15, false, Or.inr ⟨rfl, rfl⟩, fun w => (units_is i w).mono ?_, fun w => (parts_is i (v := 1000000000) rfl (by omega) (by omega) w).mono ?_⟩
    · rintro e w' ⟨⟨n, g, rfl, f⟩, hw⟩
      rcases f with ⟨f, _⟩ | ⟨_, rfl, rfl⟩
      · omega
      · exact ⟨rfl, hw⟩
    · rintro e w' ⟨⟨n, o, rfl, f⟩, hw⟩
      rcases f with ⟨_, f, _⟩ | ⟨_, rfl, rfl⟩
      · omega
      · exact ⟨rfl, hw⟩
theorem both_milli {h l : Int} {a : Nat} (i : Is h l a) : ∃ (n g : Int) (o : Bool), ((g = 0 ∧ o = true) ∨ (g = 15 ∧ o = false)) ∧
    (∀ w, Calls Tryd.prog 15 #[.agg #[.int .u64 h, .int .u64 l]] w fun e w' => e = .returned (.tuple #[.int .i64 n, .int .i64 g]) ∧ Below w.heap.size w w') ∧
    (∀ w, Calls Tryd.prog 14 #[.agg #[.int .u64 h, .int .u64 l], .int .u64 1000000] w fun e w' => e = .returned (.tuple #[.int .i64 n, .bool o]) ∧ Below w.heap.size w w') := by
  by_cases c : up a 1000000 ≤ 1152921504606846976
  · have am : a ≤ most := by unfold up at c; unfold most; omega
    refine ⟨((up a 1000000 : Nat) : Int), 0, true, Or.inl ⟨rfl, rfl⟩, fun w => (milli_is i w).mono ?_, fun w => (parts_is i (v := 1000000) rfl (by omega) (by omega) w).mono ?_⟩
    · rintro e w' ⟨⟨n, g, rfl, f⟩, hw⟩
      rcases f with ⟨_, rfl, rfl⟩ | ⟨f, _⟩
      · exact ⟨rfl, hw⟩
      · omega
    · rintro e w' ⟨⟨n, o, rfl, f⟩, hw⟩
      rcases f with ⟨_, _, rfl, rfl⟩ | ⟨f, _⟩
      · exact ⟨rfl, hw⟩
      · exact absurd ⟨am, c⟩ f
  · refine ⟨0, 15, false, Or.inr ⟨rfl, rfl⟩, fun w => (milli_is i w).mono ?_, fun w => (parts_is i (v := 1000000) rfl (by omega) (by omega) w).mono ?_⟩
    · rintro e w' ⟨⟨n, g, rfl, f⟩, hw⟩
      rcases f with ⟨f, _⟩ | ⟨_, rfl, rfl⟩
      · omega
      · exact ⟨rfl, hw⟩
    · rintro e w' ⟨⟨n, o, rfl, f⟩, hw⟩
      rcases f with ⟨_, f, _⟩ | ⟨_, rfl, rfl⟩
      · omega
      · exact ⟨rfl, hw⟩
/-- So many of so much, by the program and by the document. -/
theorem both_so {n : Int} (v : Nat) (n0 : 0 ≤ n) (n1 : n ≤ 1152921504606846976) (v1 : v ≤ 1000000000) : ∃ (h l : Int) (D : Int), Is h l (n.toNat * v) ∧
    (∀ w, Calls Tryd.prog 21 #[dv n, dv (v : Int)] w fun x w' => x = .returned (dv D) ∧ Below w.heap.size w w') ∧
    (∀ w, Calls Tryd.prog 22 #[dv D] w fun x w' => x = .returned (.tuple #[.agg #[.int .u64 h, .int .u64 l], .bool true]) ∧ Below w.heap.size w w') := by
  have p20 := pow20
  have pl : n.toNat * v ≤ 1152921504606846976000000000 := Nat.mul_le_mul (show n.toNat ≤ 1152921504606846976 by omega) v1
  obtain ⟨h, l, j⟩ := Is.ex (a := n.toNat * v) (by omega)
  have e : n * (v : Int) = ((n.toNat * v : Nat) : Int) := by
    rw [Int.natCast_mul]
    congr 1
    omega
  refine ⟨h, l, n * (v : Int), j, fun w => times_dv n (v : Int) w n0 (by omega) (by omega) (by omega), fun w => ?_⟩
  rw [e]
  have := wide_dv ((n.toNat * v : Nat) : Int) w (by omega) (by omega)
  have hw : wh ((n.toNat * v : Nat) : Int) = h := by
    have q := j.words
    unfold wh; rw [if_pos (by omega), q.1]; simp
  have lw : wl ((n.toNat * v : Nat) : Int) = l := by
    have q := j.words
    unfold wl; rw [if_pos (by omega), q.2]; simp
  have tw : wt ((n.toNat * v : Nat) : Int) = true := by unfold wt; exact decide_eq_true (by omega)
  rw [hw, lw, tw] at this
  exact this

set_option maxHeartbeats 2000000 in
set_option maxRecDepth 100000 in
theorem amountTells_any {ah al n : Int} {a : Nat} (i : Is ah al a) (w : World) (hL : LaidW w) :
    Calls Tryd.prog 4 #[.agg #[.int .u64 ah, .int .u64 al], .int .i64 n] w fun e w' => e = .returned (.bool true) ∧ Below w.heap.size w w' := by
  have HL : Hid (LaidW w) := hL
  clear hL
  obtain ⟨T, hT⟩ : ∃ T, T = ba (textL a) := ⟨_, rfl⟩
  obtain ⟨B, hB⟩ : ∃ B, B = ba (binL a) := ⟨_, rfl⟩
  have CT : Hid (∀ w, LaidW w → Calls Tryd.prog 16 #[.agg #[.int .u64 ah, .int .u64 al]] w fun e w' => e = .returned (.string T) ∧ Below w.heap.size w w') := fun w hL => by rw [hT]; exact text_det i w hL
  have CB : Hid (∀ w, LaidW w → Calls Tryd.prog 17 #[.agg #[.int .u64 ah, .int .u64 al]] w fun e w' => e = .returned (.string B) ∧ Below w.heap.size w w') := fun w hL => by rw [hB]; exact bin_det i w hL
  have RT : Hid (a ≤ most → ∀ w, Calls Tryd.prog 11 #[.agg #[.int .u64 ah, .int .u64 al]] w fun e w' => e = .returned (.string T) ∧ Below w.heap.size w w') := fun am w => by rw [hT]; exact rtext_det i am w
  have RB : Hid (a ≤ most → ∀ w, Calls Tryd.prog 12 #[.agg #[.int .u64 ah, .int .u64 al]] w fun e w' => e = .returned (.string B) ∧ Below w.heap.size w w') := fun am w => by rw [hB]; exact rbin_det i am w
  have CF : Hid (∀ w, Calls Tryd.prog 10 #[.agg #[.int .u64 ah, .int .u64 al]] w fun e w' => e = .returned (.bool (decide (a ≤ most))) ∧ Below w.heap.size w w') := fun w => fits_is i w
  have HE : Hid (¬ a ≤ most → T = ⟨#[]⟩ ∧ B = ⟨#[]⟩) := by
    intro h
    obtain ⟨t1, t2⟩ := text_over h
    rw [hT, hB, t1, t2]
    exact ⟨rfl, rfl⟩
  obtain ⟨n1, g1, o1, ho1, hu1, hp1⟩ := both_units i
  obtain ⟨n2, g2, o2, ho2, hu2, hp2⟩ := both_milli i
  have U1 : Hid _ := hu1
  have P1 : Hid _ := hp1
  have U2 : Hid _ := hu2
  have P2 : Hid _ := hp2
  have O1 : Hid _ := ho1
  have O2 : Hid _ := ho2
  clear hT hB hu1 hp1 hu2 hp2 ho1 ho2 i
  go_enter Tryd.func4, Tryd.ntmps4
  go_wp2_with (fail)
  refine (first_is _ (HL.out.alloc _)).mono ?_
  rintro e w1 ⟨rfl, hw1⟩
  have HBw1 : Below w.heap.size w w1 := Below.trans (by go_grown) (hw1.mono (by first | omega | (simp; done) | (simp; omega)))
  have p_a : Box w1 (w.heap.size) (ah) (al) := Box.later hw1 (by repeat (first | assumption | (refine Box.new _ _ _ _ _ ?_; simp; done) | refine Box.alloc ?_ _ | refine Box.drew ?_ | (apply Box.put) | (refine Box.beside ?_ _ _ _ (by omega))))
  have q_a := p_a
  obtain ⟨a0, a1, a2, a3, a4⟩ := p_a
  have hsw1 := hw1.size
  (try simp at hsw1)
  clear hw1
  have F0 : Keep w [(w.heap.size, ah, al)] w1 := ⟨fun x hx => by simp at hx; subst hx; exact q_a, HL.out.later HBw1, HBw1⟩
  clear HL
  go_wp2_with (fail)
  refine (CF.out _).mono ?_
  rintro e w2 ⟨rfl, hw2⟩
  have F1 : Keep w [(w.heap.size, ah, al)] w2 := F0.later hw2
  clear hw2 F0 q_a a0 a1 a2 a3 a4 HBw1 hsw1 CF
  go_upto_if 27 with (fail)
  go_cut [5, 6] (fun s5 s6 wc => s5 = .string T ∧ s6 = .string B ∧ Hid (Keep w [(w.heap.size, ah, al)] wc))
  case first =>
    by_cases am : a ≤ most
    · rw [decide_eq_true am]
      have RT1 : Hid _ := RT.out am
      have RB1 : Hid _ := RB.out am
      clear RT RB CT CB U1 P1 U2 P2 O1 O2 HE
      go_upto_region 5 with (fail)
      refine wp_region_noPanic ?_
      refine wp_region_held_drew (S := fun w' => Box w' w.heap.size ah al) (by kernel_rfl) ?_ (fun hHeld => ?_)
      · exact F1.drew.1 (w.heap.size, ah, al) (by simp)
      refine wpAnyH_take (i := 0) (v := ?_) rfl (by kernel_rfl) (by kernel_rfl) (by kernel_rfl) (fun _ _ _ h => h) (Or.inl ⟨by rfl, ?_⟩) (by assumption) ?_
      rotate_left
      · (intro wS hSw; obtain ⟨g0, g1, -, -, -⟩ := hSw; go_simp; try with_reducible rfl)
      change wpAnyH _ _ _ _ _ _ _ (Act.put _ (some 28) _) _
      simp only [Act.put, List.setIfInBounds_toArray, List.set_cons_zero, List.set_cons_succ]
      refine wpAnyH_take (i := 2) (v := ?_) rfl (by kernel_rfl) (by kernel_rfl) (by kernel_rfl) (fun _ _ _ h => h) (Or.inl ⟨by rfl, ?_⟩) (by assumption) ?_
      rotate_left
      · (intro wS hSw; obtain ⟨g0, g1, -, -, -⟩ := hSw; go_simp; try with_reducible rfl)
      change wpAnyH _ _ _ _ _ _ _ (Act.put _ (some 30) _) _
      simp only [Act.put, List.setIfInBounds_toArray, List.set_cons_zero, List.set_cons_succ]
      refine wpAnyH_named ?_
      intro A hA
      clear hHeld
      refine wpAnyH_inv (I := fun L a W => ∃ (c1 c3 c4 c5 : Bool) (s29 s31 s5 s6 : Value), L = #[true, c1, true, c3, c4, c5] ∧ a = ((((A.put (some 29) s29).put (some 31) s31).put (some 5) s5).put (some 6) s6) ∧ Hid (Keep w [(w.heap.size, ah, al)] W) ∧ Hid (c1 = true → s29 = .string T) ∧ Hid (c3 = true → s31 = .string B) ∧ Hid (c4 = true → s5 = .string T) ∧ Hid (c5 = true → s6 = .string B)) ?hS ?hz (by kernel_rfl) ?hsteps ?hend _ _ _ _ (by decide) ?h0
      case hS => rintro L a W ⟨c1, c3, c4, c5, s29, s31, s5, s6, -, -, K, -⟩; exact (fun h => h) (K.out.1 (w.heap.size, ah, al) (by simp))
      case hz => rintro L a W ⟨c1, c3, c4, c5, s29, s31, s5, s6, rfl, -⟩; rfl
      case h0 => exact ⟨false, false, false, false, A.eval (.tmp 29), A.eval (.tmp 31), A.eval (.tmp 5), A.eval (.tmp 6), rfl, by simp only [put_self], F1.drew, fun h => Bool.noConfusion h, fun h => Bool.noConfusion h, fun h => Bool.noConfusion h, fun h => Bool.noConfusion h⟩
      case hend =>
        rintro L a W ⟨c1, c3, c4, c5, s29, s31, s5, s6, rfl, rfl, K, k1, k3, k4, k5⟩ hall
        obtain rfl : c1 = true := hall 1
        obtain rfl : c3 = true := hall 3
        obtain rfl : c4 = true := hall 4
        obtain rfl : c5 = true := hall 5
        obtain rfl := k1.out rfl
        obtain rfl := k3.out rfl
        obtain rfl := k4.out rfl
        obtain rfl := k5.out rfl
        clear k1 k3 k4 k5
        refine NoPanic.normal ?_
        subst hA
        simp only [Act.put, List.setIfInBounds_toArray, List.set_cons_zero, List.set_cons_succ]
        go_wp2_with (fail)
        go_meet
        case rel => exact ⟨rfl, rfl, K⟩
      case hsteps =>
        refine StepsI.skip (i := 0) (by rintro L a W ⟨c1, c3, c4, c5, s29, s31, s5, s6, rfl, -⟩; rfl) ?_
        refine StepsI.cons (i := 1) rfl ?_ ?_
        · rintro L a W ⟨c1, c3, c4, c5, s29, s31, s5, s6, rfl, rfl, K, k1, k3, k4, k5⟩ h0 hd KK hK
          obtain rfl : c1 = false := h0
          subst hA
          simp only [Act.put, List.setIfInBounds_toArray, List.set_cons_zero, List.set_cons_succ]
          clear hd
          go_simp
          refine (RT1.out _).mono ?_
          rintro e w2 ⟨rfl, hw2⟩
          (try go_wp2_with (fail))
          exact hK.out _ _ ⟨true, c3, c4, c5, .string T, s31, s5, s6, rfl, by simp only [Act.put, List.setIfInBounds_toArray, List.set_cons_zero, List.set_cons_succ], K.out.later hw2, fun _ => rfl, k3.out, k4.out, k5.out⟩
        refine StepsI.skip (i := 2) (by rintro L a W ⟨c1, c3, c4, c5, s29, s31, s5, s6, rfl, -⟩; rfl) ?_
        refine StepsI.cons (i := 3) rfl ?_ ?_
        · rintro L a W ⟨c1, c3, c4, c5, s29, s31, s5, s6, rfl, rfl, K, k1, k3, k4, k5⟩ h0 hd KK hK
          obtain rfl : c3 = false := h0
          subst hA
          simp only [Act.put, List.setIfInBounds_toArray, List.set_cons_zero, List.set_cons_succ]
          clear hd
          go_simp
          refine (RB1.out _).mono ?_
          rintro e w2 ⟨rfl, hw2⟩
          (try go_wp2_with (fail))
          exact hK.out _ _ ⟨c1, true, c4, c5, s29, .string B, s5, s6, rfl, by simp only [Act.put, List.setIfInBounds_toArray, List.set_cons_zero, List.set_cons_succ], K.out.later hw2, k1.out, fun _ => rfl, k4.out, k5.out⟩
        refine StepsI.cons (i := 4) rfl ?_ ?_
        · rintro L a W ⟨c1, c3, c4, c5, s29, s31, s5, s6, rfl, rfl, K, k1, k3, k4, k5⟩ h0 hd KK hK
          obtain rfl : c4 = false := h0
          obtain rfl : c1 = true := hd ⟨1, .data⟩ (by simp) rfl
          have e1 := k1.out rfl
          subst e1
          subst hA
          simp only [Act.put, List.setIfInBounds_toArray, List.set_cons_zero, List.set_cons_succ]
          clear hd
          go_simp
          exact hK.out _ _ ⟨true, c3, true, c5, .string T, s31, .string T, s6, rfl, by simp only [Act.put, List.setIfInBounds_toArray, List.set_cons_zero, List.set_cons_succ], K, fun _ => rfl, k3.out, fun _ => rfl, k5.out⟩
        refine StepsI.cons (i := 5) rfl ?_ ?_
        · rintro L a W ⟨c1, c3, c4, c5, s29, s31, s5, s6, rfl, rfl, K, k1, k3, k4, k5⟩ h0 hd KK hK
          obtain rfl : c5 = false := h0
          obtain rfl : c3 = true := hd ⟨3, .data⟩ (by simp) rfl
          have e3 := k3.out rfl
          subst e3
          subst hA
          simp only [Act.put, List.setIfInBounds_toArray, List.set_cons_zero, List.set_cons_succ]
          clear hd
          go_simp
          exact hK.out _ _ ⟨c1, true, c4, true, s29, .string B, s5, .string B, rfl, by simp only [Act.put, List.setIfInBounds_toArray, List.set_cons_zero, List.set_cons_succ], K, k1.out, fun _ => rfl, k4.out, fun _ => rfl⟩
        exact StepsI.nil
    · rw [decide_eq_false am]
      obtain ⟨rfl, rfl⟩ := HE.out am
      go_wp2_with (fail)
      go_meet
      case rel => exact ⟨rfl, rfl, F1⟩
  case rest =>
    obtain ⟨rfl, rfl, F2⟩ := hcut
    clear F1 RT RB HE
    have q_a : Box wc w.heap.size ah al := F2.out.1 (w.heap.size, ah, al) (by simp)
    have HLc : Hid (LaidW wc) := F2.out.2.1
    have HBc : Below w.heap.size w wc := F2.out.2.2
    have hsc := HBc.size
    obtain ⟨a0, a1, a2, a3, a4⟩ := id q_a
    clear F2
    go_wp2_with (fail)
    refine (U1.out _).mono ?_
    rintro e w3 ⟨rfl, hw3⟩
    have HL3 : Hid (LaidW w3) := HLc.out.later hw3
    have HBw3 : Below w.heap.size w w3 := Below.trans (by go_grown) (hw3.mono (by first | omega | (simp; done) | (simp; omega)))
    have p_a : Box w3 (w.heap.size) (ah) (al) := Box.later hw3 (by repeat (first | assumption | (refine Box.new _ _ _ _ _ ?_; simp; done) | refine Box.alloc ?_ _ | refine Box.drew ?_ | (apply Box.put) | (refine Box.beside ?_ _ _ _ (by omega))))
    clear q_a a0 a1 a2 a3 a4
    have q_a := p_a
    obtain ⟨a0, a1, a2, a3, a4⟩ := p_a
    have hsw3 := hw3.size
    (try simp at hsw3)
    clear hw3
    go_wp2_with (fail)
    refine (P1.out _).mono ?_
    rintro e w4 ⟨rfl, hw4⟩
    have HL4 : Hid (LaidW w4) := HL3.out.later hw4
    have HBw4 : Below w.heap.size w w4 := Below.trans (by go_grown) (hw4.mono (by first | omega | (simp; done) | (simp; omega)))
    have p_a : Box w4 (w.heap.size) (ah) (al) := Box.later hw4 (by repeat (first | assumption | (refine Box.new _ _ _ _ _ ?_; simp; done) | refine Box.alloc ?_ _ | refine Box.drew ?_ | (apply Box.put) | (refine Box.beside ?_ _ _ _ (by omega))))
    clear q_a a0 a1 a2 a3 a4
    have q_a := p_a
    obtain ⟨a0, a1, a2, a3, a4⟩ := p_a
    have hsw4 := hw4.size
    (try simp at hsw4)
    clear hw4
    go_wp2_with (fail)
    refine (U2.out _).mono ?_
    rintro e w5 ⟨rfl, hw5⟩
    have HL5 : Hid (LaidW w5) := HL4.out.later hw5
    have HBw5 : Below w.heap.size w w5 := Below.trans (by go_grown) (hw5.mono (by first | omega | (simp; done) | (simp; omega)))
    have p_a : Box w5 (w.heap.size) (ah) (al) := Box.later hw5 (by repeat (first | assumption | (refine Box.new _ _ _ _ _ ?_; simp; done) | refine Box.alloc ?_ _ | refine Box.drew ?_ | (apply Box.put) | (refine Box.beside ?_ _ _ _ (by omega))))
    clear q_a a0 a1 a2 a3 a4
    have q_a := p_a
    obtain ⟨a0, a1, a2, a3, a4⟩ := p_a
    have hsw5 := hw5.size
    (try simp at hsw5)
    clear hw5
    go_wp2_with (fail)
    refine (P2.out _).mono ?_
    rintro e w6 ⟨rfl, hw6⟩
    have HL6 : Hid (LaidW w6) := HL5.out.later hw6
    have HBw6 : Below w.heap.size w w6 := Below.trans (by go_grown) (hw6.mono (by first | omega | (simp; done) | (simp; omega)))
    have p_a : Box w6 (w.heap.size) (ah) (al) := Box.later hw6 (by repeat (first | assumption | (refine Box.new _ _ _ _ _ ?_; simp; done) | refine Box.alloc ?_ _ | refine Box.drew ?_ | (apply Box.put) | (refine Box.beside ?_ _ _ _ (by omega))))
    clear q_a a0 a1 a2 a3 a4
    have q_a := p_a
    obtain ⟨a0, a1, a2, a3, a4⟩ := p_a
    have hsw6 := hw6.size
    (try simp at hsw6)
    clear hw6
    clear U1 U2 P1 P2 HLc HL3 HL4 HL5 HBc HBw3 HBw4 HBw5
    go_upto_region 10 with (fail)
    go_cut [99] (fun s99 wc => s99 = .bool false ∧ Hid (Below w.heap.size w wc))
    case first =>
      rcases O1.out with ⟨rfl, rfl⟩ | ⟨rfl, rfl⟩
      all_goals
        rcases O2.out with ⟨rfl, rfl⟩ | ⟨rfl, rfl⟩
        all_goals
          clear O1 O2
          go_wp2_with (fail)
          refine (CT.out _ HL6.out).mono ?_
          rintro e w7 ⟨rfl, hw7⟩
          have HL7 : Hid (LaidW w7) := HL6.out.later hw7
          have HBw7 : Below w.heap.size w w7 := Below.trans (by go_grown) (hw7.mono (by first | omega | (simp; done) | (simp; omega)))
          have p_a : Box w7 (w.heap.size) (ah) (al) := Box.later hw7 (by repeat (first | assumption | (refine Box.new _ _ _ _ _ ?_; simp; done) | refine Box.alloc ?_ _ | refine Box.drew ?_ | (apply Box.put) | (refine Box.beside ?_ _ _ _ (by omega))))
          clear q_a a0 a1 a2 a3 a4
          have q_a := p_a
          obtain ⟨a0, a1, a2, a3, a4⟩ := p_a
          have hsw7 := hw7.size
          (try simp at hsw7)
          clear hw7
          go_wp2_with (fail)
          refine (CB.out _ HL7.out).mono ?_
          rintro e w8 ⟨rfl, hw8⟩
          have HBw8 : Below w.heap.size w w8 := Below.trans (by go_grown) (hw8.mono (by first | omega | (simp; done) | (simp; omega)))
          have hsw8 := hw8.size
          (try simp at hsw8)
          clear hw8
          go_wp2_with (fail)
          go_meet
          case rel => exact ⟨by first | rfl | simp, HBw8⟩
    case rest =>
      obtain ⟨rfl, F3⟩ := hcut
      have HB3 : Below w.heap.size w wc := F3.out
      have hs3 := HB3.size
      clear CT CB HL6 F3 q_a a0 a1 a2 a3 a4 HBw6 O1 O2
      by_cases nn : n < 0
      · have C1 : Hid (∀ w, Calls Tryd.prog 18 #[.int .i64 n] w fun e w' => e = .returned (.tuple #[.agg #[.int .u64 0, .int .u64 0], .int .i64 2]) ∧ Below w.heap.size w w') := fun w => by
          refine (ofUnits_any n w).mono ?_
          rintro e w' ⟨⟨h, l, g, rfl, f⟩, hw⟩
          have : h = 0 ∧ l = 0 ∧ g = 2 := by
            rcases f with ⟨f, rfl, rfl, rfl⟩ | ⟨f, rfl, rfl, rfl⟩ | ⟨f1, f2, _, rfl⟩
            · first | exact ⟨rfl, rfl, rfl⟩ | (exfalso; omega)
            · first | exact ⟨rfl, rfl, rfl⟩ | (exfalso; omega)
            · exfalso; omega
          obtain ⟨rfl, rfl, rfl⟩ := this
          exact ⟨rfl, hw⟩
        have C2 : Hid (∀ w, Calls Tryd.prog 19 #[.int .i64 n] w fun e w' => e = .returned (.tuple #[.agg #[.int .u64 0, .int .u64 0], .int .i64 2]) ∧ Below w.heap.size w w') := fun w => by
          refine (ofMilli_any n w).mono ?_
          rintro e w' ⟨⟨h, l, g, rfl, f⟩, hw⟩
          have : h = 0 ∧ l = 0 ∧ g = 2 := by
            rcases f with ⟨f, rfl, rfl, rfl⟩ | ⟨f, rfl, rfl, rfl⟩ | ⟨f1, f2, _, rfl⟩
            · first | exact ⟨rfl, rfl, rfl⟩ | (exfalso; omega)
            · first | exact ⟨rfl, rfl, rfl⟩ | (exfalso; omega)
            · exfalso; omega
          obtain ⟨rfl, rfl, rfl⟩ := this
          exact ⟨rfl, hw⟩
        go_wp2_with (fail)
        refine (C1.out _).mono ?_
        rintro e w9 ⟨rfl, hw9⟩
        have HBw9 : Below w.heap.size w w9 := Below.trans (by go_grown) (hw9.mono (by first | omega | (simp; done) | (simp; omega)))
        have hsw9 := hw9.size
        (try simp at hsw9)
        clear hw9
        go_wp2_with (fail)
        refine (C2.out _).mono ?_
        rintro e w10 ⟨rfl, hw10⟩
        have HBw10 : Below w.heap.size w w10 := Below.trans (by go_grown) (hw10.mono (by first | omega | (simp; done) | (simp; omega)))
        have p_x : Box w10 (w9.heap.size) (0) (0) := Box.later hw10 (by repeat (first | assumption | (refine Box.new _ _ _ _ _ ?_; simp; done) | refine Box.alloc ?_ _ | refine Box.drew ?_ | (apply Box.put) | (refine Box.beside ?_ _ _ _ (by omega))))
        have q_x := p_x
        obtain ⟨x0, x1, x2, x3, x4⟩ := p_x
        have hsw10 := hw10.size
        (try simp at hsw10)
        clear hw10
        clear C1 C2
        go_wp2
        go_ret
        exact ⟨rfl, by go_grown⟩
      · by_cases nb : 1152921504606846976 < n
        · have C1 : Hid (∀ w, Calls Tryd.prog 18 #[.int .i64 n] w fun e w' => e = .returned (.tuple #[.agg #[.int .u64 0, .int .u64 0], .int .i64 15]) ∧ Below w.heap.size w w') := fun w => by
            refine (ofUnits_any n w).mono ?_
            rintro e w' ⟨⟨h, l, g, rfl, f⟩, hw⟩
            have : h = 0 ∧ l = 0 ∧ g = 15 := by
              rcases f with ⟨f, rfl, rfl, rfl⟩ | ⟨f, rfl, rfl, rfl⟩ | ⟨f1, f2, _, rfl⟩
              · first | exact ⟨rfl, rfl, rfl⟩ | (exfalso; omega)
              · first | exact ⟨rfl, rfl, rfl⟩ | (exfalso; omega)
              · exfalso; omega
            obtain ⟨rfl, rfl, rfl⟩ := this
            exact ⟨rfl, hw⟩
          have C2 : Hid (∀ w, Calls Tryd.prog 19 #[.int .i64 n] w fun e w' => e = .returned (.tuple #[.agg #[.int .u64 0, .int .u64 0], .int .i64 15]) ∧ Below w.heap.size w w') := fun w => by
            refine (ofMilli_any n w).mono ?_
            rintro e w' ⟨⟨h, l, g, rfl, f⟩, hw⟩
            have : h = 0 ∧ l = 0 ∧ g = 15 := by
              rcases f with ⟨f, rfl, rfl, rfl⟩ | ⟨f, rfl, rfl, rfl⟩ | ⟨f1, f2, _, rfl⟩
              · first | exact ⟨rfl, rfl, rfl⟩ | (exfalso; omega)
              · first | exact ⟨rfl, rfl, rfl⟩ | (exfalso; omega)
              · exfalso; omega
            obtain ⟨rfl, rfl, rfl⟩ := this
            exact ⟨rfl, hw⟩
          go_wp2_with (fail)
          refine (C1.out _).mono ?_
          rintro e w9 ⟨rfl, hw9⟩
          have HBw9 : Below w.heap.size w w9 := Below.trans (by go_grown) (hw9.mono (by first | omega | (simp; done) | (simp; omega)))
          have hsw9 := hw9.size
          (try simp at hsw9)
          clear hw9
          go_wp2_with (fail)
          refine (C2.out _).mono ?_
          rintro e w10 ⟨rfl, hw10⟩
          have HBw10 : Below w.heap.size w w10 := Below.trans (by go_grown) (hw10.mono (by first | omega | (simp; done) | (simp; omega)))
          have p_x : Box w10 (w9.heap.size) (0) (0) := Box.later hw10 (by repeat (first | assumption | (refine Box.new _ _ _ _ _ ?_; simp; done) | refine Box.alloc ?_ _ | refine Box.drew ?_ | (apply Box.put) | (refine Box.beside ?_ _ _ _ (by omega))))
          have q_x := p_x
          obtain ⟨x0, x1, x2, x3, x4⟩ := p_x
          have hsw10 := hw10.size
          (try simp at hsw10)
          clear hw10
          clear C1 C2
          go_wp2
          go_ret
          exact ⟨rfl, by go_grown⟩
        · have n0 : 0 ≤ n := by omega
          have nle : n ≤ 1152921504606846976 := by omega
          obtain ⟨xh, xl, D1, j1, t1, v1⟩ := both_so (n := n) 1000000000 n0 nle (by omega)
          obtain ⟨yh, yl, D2, j2, t2, v2⟩ := both_so (n := n) 1000000 n0 nle (by omega)
          have C1 : Hid (∀ w, Calls Tryd.prog 18 #[.int .i64 n] w fun e w' => e = .returned (.tuple #[.agg #[.int .u64 xh, .int .u64 xl], .int .i64 0]) ∧ Below w.heap.size w w') := fun w => by
            refine (ofUnits_any n w).mono ?_
            rintro e w' ⟨⟨h, l, g, rfl, f⟩, hw⟩
            rcases f with ⟨f, _⟩ | ⟨f, _⟩ | ⟨_, _, f, rfl⟩
            · omega
            · omega
            · obtain ⟨rfl, rfl⟩ := f.det j1
              exact ⟨rfl, hw⟩
          have C2 : Hid (∀ w, Calls Tryd.prog 19 #[.int .i64 n] w fun e w' => e = .returned (.tuple #[.agg #[.int .u64 yh, .int .u64 yl], .int .i64 0]) ∧ Below w.heap.size w w') := fun w => by
            refine (ofMilli_any n w).mono ?_
            rintro e w' ⟨⟨h, l, g, rfl, f⟩, hw⟩
            rcases f with ⟨f, _⟩ | ⟨f, _⟩ | ⟨_, _, f, rfl⟩
            · omega
            · omega
            · obtain ⟨rfl, rfl⟩ := f.det j2
              exact ⟨rfl, hw⟩
          obtain ⟨V1, hV1⟩ : ∃ V1 : Int, V1 = ((1000000000 : Nat) : Int) := ⟨_, rfl⟩
          obtain ⟨V2, hV2⟩ : ∃ V2 : Int, V2 = ((1000000 : Nat) : Int) := ⟨_, rfl⟩
          have R0 : Hid (∀ w, Calls Tryd.prog 20 #[.agg #[.int .u64 0, .int .u64 n]] w fun x w' => x = .returned (dv n) ∧ Below w.heap.size w w') := fun w => by
            have := rof_is (Is.small (u := n) (a := n.toNat) (by omega) (by omega)) w
            rw [show ((n.toNat : Nat) : Int) = n by omega] at this
            exact this
          have R1 : Hid (∀ w, Calls Tryd.prog 20 #[.agg #[.int .u64 0, .int .u64 1000000000]] w fun x w' => x = .returned (dv V1) ∧ Below w.heap.size w w') := fun w => by
            rw [hV1]; exact rof_is (Is.small (a := 1000000000) rfl (by omega)) w
          have R2 : Hid (∀ w, Calls Tryd.prog 20 #[.agg #[.int .u64 0, .int .u64 1000000]] w fun x w' => x = .returned (dv V2) ∧ Below w.heap.size w w') := fun w => by
            rw [hV2]; exact rof_is (Is.small (a := 1000000) rfl (by omega)) w
          rw [← hV1] at t1
          rw [← hV2] at t2
          have T1 : Hid _ := t1
          have T2 : Hid _ := t2
          have W1 : Hid _ := v1
          have W2 : Hid _ := v2
          have uw : IntKind.u64.wrap n = n := by rw [IntKind.wrap_u64]; omega
          clear t1 t2 v1 v2 j1 j2 hV1 hV2
          go_wp2_with (fail)
          refine (C1.out _).mono ?_
          rintro e w9 ⟨rfl, hw9⟩
          have HBw9 : Below w.heap.size w w9 := Below.trans (by go_grown) (hw9.mono (by first | omega | (simp; done) | (simp; omega)))
          have hsw9 := hw9.size
          (try simp at hsw9)
          clear hw9
          go_wp2_with (fail)
          refine (C2.out _).mono ?_
          rintro e w10 ⟨rfl, hw10⟩
          have HBw10 : Below w.heap.size w w10 := Below.trans (by go_grown) (hw10.mono (by first | omega | (simp; done) | (simp; omega)))
          have p_x : Box w10 (w9.heap.size) (xh) (xl) := Box.later hw10 (by repeat (first | assumption | (refine Box.new _ _ _ _ _ ?_; simp; done) | refine Box.alloc ?_ _ | refine Box.drew ?_ | (apply Box.put) | (refine Box.beside ?_ _ _ _ (by omega))))
          have q_x := p_x
          obtain ⟨x0, x1, x2, x3, x4⟩ := p_x
          have hsw10 := hw10.size
          (try simp at hsw10)
          clear hw10
          clear C1 C2
          go_wp2_with (fail)
          refine (R0.out _).mono ?_
          rintro e w11 ⟨rfl, hw11⟩
          have HBw11 : Below w.heap.size w w11 := Below.trans (by go_grown) (hw11.mono (by first | omega | (simp; done) | (simp; omega)))
          have p_x : Box w11 (w9.heap.size) (xh) (xl) := Box.later hw11 (by repeat (first | assumption | (refine Box.new _ _ _ _ _ ?_; simp; done) | refine Box.alloc ?_ _ | refine Box.drew ?_ | (apply Box.put) | (refine Box.beside ?_ _ _ _ (by omega))))
          have p_y : Box w11 (w10.heap.size) (yh) (yl) := Box.later hw11 (by repeat (first | assumption | (refine Box.new _ _ _ _ _ ?_; simp; done) | refine Box.alloc ?_ _ | refine Box.drew ?_ | (apply Box.put) | (refine Box.beside ?_ _ _ _ (by omega))))
          clear q_x x0 x1 x2 x3 x4
          have q_x := p_x
          obtain ⟨x0, x1, x2, x3, x4⟩ := p_x
          have q_y := p_y
          obtain ⟨y0, y1, y2, y3, y4⟩ := p_y
          have hsw11 := hw11.size
          (try simp at hsw11)
          clear hw11
          go_wp2_with (fail)
          refine (R1.out _).mono ?_
          rintro e w12 ⟨rfl, hw12⟩
          have HBw12 : Below w.heap.size w w12 := Below.trans (by go_grown) (hw12.mono (by first | omega | (simp; done) | (simp; omega)))
          have p_x : Box w12 (w9.heap.size) (xh) (xl) := Box.later hw12 (by repeat (first | assumption | (refine Box.new _ _ _ _ _ ?_; simp; done) | refine Box.alloc ?_ _ | refine Box.drew ?_ | (apply Box.put) | (refine Box.beside ?_ _ _ _ (by omega))))
          have p_y : Box w12 (w10.heap.size) (yh) (yl) := Box.later hw12 (by repeat (first | assumption | (refine Box.new _ _ _ _ _ ?_; simp; done) | refine Box.alloc ?_ _ | refine Box.drew ?_ | (apply Box.put) | (refine Box.beside ?_ _ _ _ (by omega))))
          clear q_x x0 x1 x2 x3 x4
          clear q_y y0 y1 y2 y3 y4
          have q_x := p_x
          obtain ⟨x0, x1, x2, x3, x4⟩ := p_x
          have q_y := p_y
          obtain ⟨y0, y1, y2, y3, y4⟩ := p_y
          have hsw12 := hw12.size
          (try simp at hsw12)
          clear hw12
          go_wp2_with (fail)
          refine (T1.out _).mono ?_
          rintro e w13 ⟨rfl, hw13⟩
          have HBw13 : Below w.heap.size w w13 := Below.trans (by go_grown) (hw13.mono (by first | omega | (simp; done) | (simp; omega)))
          have p_x : Box w13 (w9.heap.size) (xh) (xl) := Box.later hw13 (by repeat (first | assumption | (refine Box.new _ _ _ _ _ ?_; simp; done) | refine Box.alloc ?_ _ | refine Box.drew ?_ | (apply Box.put) | (refine Box.beside ?_ _ _ _ (by omega))))
          have p_y : Box w13 (w10.heap.size) (yh) (yl) := Box.later hw13 (by repeat (first | assumption | (refine Box.new _ _ _ _ _ ?_; simp; done) | refine Box.alloc ?_ _ | refine Box.drew ?_ | (apply Box.put) | (refine Box.beside ?_ _ _ _ (by omega))))
          clear q_x x0 x1 x2 x3 x4
          clear q_y y0 y1 y2 y3 y4
          have q_x := p_x
          obtain ⟨x0, x1, x2, x3, x4⟩ := p_x
          have q_y := p_y
          obtain ⟨y0, y1, y2, y3, y4⟩ := p_y
          have hsw13 := hw13.size
          (try simp at hsw13)
          clear hw13
          go_wp2_with (fail)
          refine (W1.out _).mono ?_
          rintro e w14 ⟨rfl, hw14⟩
          have HBw14 : Below w.heap.size w w14 := Below.trans (by go_grown) (hw14.mono (by first | omega | (simp; done) | (simp; omega)))
          have p_x : Box w14 (w9.heap.size) (xh) (xl) := Box.later hw14 (by repeat (first | assumption | (refine Box.new _ _ _ _ _ ?_; simp; done) | refine Box.alloc ?_ _ | refine Box.drew ?_ | (apply Box.put) | (refine Box.beside ?_ _ _ _ (by omega))))
          have p_y : Box w14 (w10.heap.size) (yh) (yl) := Box.later hw14 (by repeat (first | assumption | (refine Box.new _ _ _ _ _ ?_; simp; done) | refine Box.alloc ?_ _ | refine Box.drew ?_ | (apply Box.put) | (refine Box.beside ?_ _ _ _ (by omega))))
          clear q_x x0 x1 x2 x3 x4
          clear q_y y0 y1 y2 y3 y4
          have q_x := p_x
          obtain ⟨x0, x1, x2, x3, x4⟩ := p_x
          have q_y := p_y
          obtain ⟨y0, y1, y2, y3, y4⟩ := p_y
          have hsw14 := hw14.size
          (try simp at hsw14)
          clear hw14
          clear R1 T1 W1
          go_wp2_with (fail)
          refine (R0.out _).mono ?_
          rintro e w15 ⟨rfl, hw15⟩
          have HBw15 : Below w.heap.size w w15 := Below.trans (by go_grown) (hw15.mono (by first | omega | (simp; done) | (simp; omega)))
          have p_x : Box w15 (w9.heap.size) (xh) (xl) := Box.later hw15 (by repeat (first | assumption | (refine Box.new _ _ _ _ _ ?_; simp; done) | refine Box.alloc ?_ _ | refine Box.drew ?_ | (apply Box.put) | (refine Box.beside ?_ _ _ _ (by omega))))
          have p_y : Box w15 (w10.heap.size) (yh) (yl) := Box.later hw15 (by repeat (first | assumption | (refine Box.new _ _ _ _ _ ?_; simp; done) | refine Box.alloc ?_ _ | refine Box.drew ?_ | (apply Box.put) | (refine Box.beside ?_ _ _ _ (by omega))))
          have p_p : Box w15 (w14.heap.size) (xh) (xl) := Box.later hw15 (by repeat (first | assumption | (refine Box.new _ _ _ _ _ ?_; simp; done) | refine Box.alloc ?_ _ | refine Box.drew ?_ | (apply Box.put) | (refine Box.beside ?_ _ _ _ (by omega))))
          clear q_x x0 x1 x2 x3 x4
          clear q_y y0 y1 y2 y3 y4
          have q_x := p_x
          obtain ⟨x0, x1, x2, x3, x4⟩ := p_x
          have q_y := p_y
          obtain ⟨y0, y1, y2, y3, y4⟩ := p_y
          have q_p := p_p
          obtain ⟨p0, p1, p2, p3, p4⟩ := p_p
          have hsw15 := hw15.size
          (try simp at hsw15)
          clear hw15
          go_wp2_with (fail)
          refine (R2.out _).mono ?_
          rintro e w16 ⟨rfl, hw16⟩
          have HBw16 : Below w.heap.size w w16 := Below.trans (by go_grown) (hw16.mono (by first | omega | (simp; done) | (simp; omega)))
          have p_x : Box w16 (w9.heap.size) (xh) (xl) := Box.later hw16 (by repeat (first | assumption | (refine Box.new _ _ _ _ _ ?_; simp; done) | refine Box.alloc ?_ _ | refine Box.drew ?_ | (apply Box.put) | (refine Box.beside ?_ _ _ _ (by omega))))
          have p_y : Box w16 (w10.heap.size) (yh) (yl) := Box.later hw16 (by repeat (first | assumption | (refine Box.new _ _ _ _ _ ?_; simp; done) | refine Box.alloc ?_ _ | refine Box.drew ?_ | (apply Box.put) | (refine Box.beside ?_ _ _ _ (by omega))))
          have p_p : Box w16 (w14.heap.size) (xh) (xl) := Box.later hw16 (by repeat (first | assumption | (refine Box.new _ _ _ _ _ ?_; simp; done) | refine Box.alloc ?_ _ | refine Box.drew ?_ | (apply Box.put) | (refine Box.beside ?_ _ _ _ (by omega))))
          clear q_x x0 x1 x2 x3 x4
          clear q_y y0 y1 y2 y3 y4
          clear q_p p0 p1 p2 p3 p4
          have q_x := p_x
          obtain ⟨x0, x1, x2, x3, x4⟩ := p_x
          have q_y := p_y
          obtain ⟨y0, y1, y2, y3, y4⟩ := p_y
          have q_p := p_p
          obtain ⟨p0, p1, p2, p3, p4⟩ := p_p
          have hsw16 := hw16.size
          (try simp at hsw16)
          clear hw16
          go_wp2_with (fail)
          refine (T2.out _).mono ?_
          rintro e w17 ⟨rfl, hw17⟩
          have HBw17 : Below w.heap.size w w17 := Below.trans (by go_grown) (hw17.mono (by first | omega | (simp; done) | (simp; omega)))
          have p_x : Box w17 (w9.heap.size) (xh) (xl) := Box.later hw17 (by repeat (first | assumption | (refine Box.new _ _ _ _ _ ?_; simp; done) | refine Box.alloc ?_ _ | refine Box.drew ?_ | (apply Box.put) | (refine Box.beside ?_ _ _ _ (by omega))))
          have p_y : Box w17 (w10.heap.size) (yh) (yl) := Box.later hw17 (by repeat (first | assumption | (refine Box.new _ _ _ _ _ ?_; simp; done) | refine Box.alloc ?_ _ | refine Box.drew ?_ | (apply Box.put) | (refine Box.beside ?_ _ _ _ (by omega))))
          have p_p : Box w17 (w14.heap.size) (xh) (xl) := Box.later hw17 (by repeat (first | assumption | (refine Box.new _ _ _ _ _ ?_; simp; done) | refine Box.alloc ?_ _ | refine Box.drew ?_ | (apply Box.put) | (refine Box.beside ?_ _ _ _ (by omega))))
          clear q_x x0 x1 x2 x3 x4
          clear q_y y0 y1 y2 y3 y4
          clear q_p p0 p1 p2 p3 p4
          have q_x := p_x
          obtain ⟨x0, x1, x2, x3, x4⟩ := p_x
          have q_y := p_y
          obtain ⟨y0, y1, y2, y3, y4⟩ := p_y
          have q_p := p_p
          obtain ⟨p0, p1, p2, p3, p4⟩ := p_p
          have hsw17 := hw17.size
          (try simp at hsw17)
          clear hw17
          go_wp2_with (fail)
          refine (W2.out _).mono ?_
          rintro e w18 ⟨rfl, hw18⟩
          have HBw18 : Below w.heap.size w w18 := Below.trans (by go_grown) (hw18.mono (by first | omega | (simp; done) | (simp; omega)))
          have p_x : Box w18 (w9.heap.size) (xh) (xl) := Box.later hw18 (by repeat (first | assumption | (refine Box.new _ _ _ _ _ ?_; simp; done) | refine Box.alloc ?_ _ | refine Box.drew ?_ | (apply Box.put) | (refine Box.beside ?_ _ _ _ (by omega))))
          have p_y : Box w18 (w10.heap.size) (yh) (yl) := Box.later hw18 (by repeat (first | assumption | (refine Box.new _ _ _ _ _ ?_; simp; done) | refine Box.alloc ?_ _ | refine Box.drew ?_ | (apply Box.put) | (refine Box.beside ?_ _ _ _ (by omega))))
          have p_p : Box w18 (w14.heap.size) (xh) (xl) := Box.later hw18 (by repeat (first | assumption | (refine Box.new _ _ _ _ _ ?_; simp; done) | refine Box.alloc ?_ _ | refine Box.drew ?_ | (apply Box.put) | (refine Box.beside ?_ _ _ _ (by omega))))
          clear q_x x0 x1 x2 x3 x4
          clear q_y y0 y1 y2 y3 y4
          clear q_p p0 p1 p2 p3 p4
          have q_x := p_x
          obtain ⟨x0, x1, x2, x3, x4⟩ := p_x
          have q_y := p_y
          obtain ⟨y0, y1, y2, y3, y4⟩ := p_y
          have q_p := p_p
          obtain ⟨p0, p1, p2, p3, p4⟩ := p_p
          have hsw18 := hw18.size
          (try simp at hsw18)
          clear hw18
          clear R0 R2 T2 W2
          go_wp2
          go_ret
          exact ⟨rfl, by go_grown⟩

end Go.Proofs.YtmnfaniijninmaaDoor
