/-
  The walk of the statement AmountOrders at this program: it returns true. Conditions: the words are words, n is a number of the machine, the two tables of suffixes lie as the program's text lays them.
-/
import Derived.Test.YtmnfaniijninmaaDoorVM
namespace Go.Proofs.YtmnfaniijninmaaDoor
open Go.RowKit

theorem up_mono {a b v : Nat} (h : a ≤ b) : up a v ≤ up b v := Nat.div_le_div_right (by omega)
theorem up_mul {n v : Nat} (v0 : 1 < v) : up (n * v) v = n := by
  rw [← up_whole v0 (by simp), Nat.mul_div_cancel _ (by omega)]
theorem counted_two {a b v : Nat} {x y g h : Int} (ab : a ≤ b)
    (f : (up a v ≤ 1152921504606846976 ∧ x = (up a v : Nat) ∧ g = 0) ∨ (1152921504606846976 < up a v ∧ x = 0 ∧ g = 15))
    (k : (up b v ≤ 1152921504606846976 ∧ y = (up b v : Nat) ∧ h = 0) ∨ (1152921504606846976 < up b v ∧ y = 0 ∧ h = 15)) :
    (h = 0 ∧ g = 0 ∧ x ≤ y) ∨ h = 15 := by
  have := up_mono (v := v) ab
  omega
theorem cmp_pos {a b : Nat} (h : a ≤ b) : cmp (a : Int) (b : Int) ≤ 0 := by
  have := cmp_le a b
  rw [decide_eq_true h] at this
  exact of_decide_eq_true this
theorem cmp_neg {a b : Nat} (h : ¬ a ≤ b) : ¬ cmp (a : Int) (b : Int) ≤ 0 := by
  have := cmp_le a b
  rw [decide_eq_false h] at this
  exact of_decide_eq_false this

/-- What comes of so many, and back. -/
theorem back_units {n : Int} {h l g : Int}
    (f : (n < 0 ∧ h = 0 ∧ l = 0 ∧ g = 2) ∨ (1152921504606846976 < n ∧ h = 0 ∧ l = 0 ∧ g = 15) ∨ (0 ≤ n ∧ n ≤ 1152921504606846976 ∧ Is h l (n.toNat * 1000000000) ∧ g = 0)) :
    (g = 2 ∨ g = 15) ∨ (g = 0 ∧ ∀ w, Calls Tryd.prog 13 #[.agg #[.int .u64 h, .int .u64 l]] w fun e w' => e = .returned (.tuple #[.int .i64 n, .int .i64 0]) ∧ Below w.heap.size w w') := by
  rcases f with ⟨_, _, _, rfl⟩ | ⟨_, _, _, rfl⟩ | ⟨n0, n1, i, rfl⟩
  · exact Or.inl (Or.inl rfl)
  · exact Or.inl (Or.inr rfl)
  · refine Or.inr ⟨rfl, fun w => (units_is i w).mono ?_⟩
    rintro e w' ⟨⟨m, g, rfl, f⟩, hw⟩
    rw [up_mul (by omega)] at f
    rcases f with ⟨_, rfl, rfl⟩ | ⟨f, _⟩
    · rw [show ((n.toNat : Nat) : Int) = n by omega]; exact ⟨rfl, hw⟩
    · omega
theorem back_milli {n : Int} {h l g : Int}
    (f : (n < 0 ∧ h = 0 ∧ l = 0 ∧ g = 2) ∨ (1152921504606846976 < n ∧ h = 0 ∧ l = 0 ∧ g = 15) ∨ (0 ≤ n ∧ n ≤ 1152921504606846976 ∧ Is h l (n.toNat * 1000000) ∧ g = 0)) :
    (g = 2 ∨ g = 15) ∨ (g = 0 ∧ ∀ w, Calls Tryd.prog 15 #[.agg #[.int .u64 h, .int .u64 l]] w fun e w' => e = .returned (.tuple #[.int .i64 n, .int .i64 0]) ∧ Below w.heap.size w w') := by
  rcases f with ⟨_, _, _, rfl⟩ | ⟨_, _, _, rfl⟩ | ⟨n0, n1, i, rfl⟩
  · exact Or.inl (Or.inl rfl)
  · exact Or.inl (Or.inr rfl)
  · refine Or.inr ⟨rfl, fun w => (milli_is i w).mono ?_⟩
    rintro e w' ⟨⟨m, g, rfl, f⟩, hw⟩
    rw [up_mul (by omega)] at f
    rcases f with ⟨_, rfl, rfl⟩ | ⟨f, _⟩
    · rw [show ((n.toNat : Nat) : Int) = n by omega]; exact ⟨rfl, hw⟩
    · omega

set_option maxHeartbeats 8000000 in
set_option maxRecDepth 100000 in
theorem amountOrders_any {ah al bh bl n : Int} {a b : Nat} (i : Is ah al a) (j : Is bh bl b) (w : World) (hL : LaidW w) :
    Calls Tryd.prog 6 #[.agg #[.int .u64 ah, .int .u64 al], .agg #[.int .u64 bh, .int .u64 bl], .int .i64 n] w fun e w' => e = .returned (.bool true) ∧ Below w.heap.size w w' := by
  have HL : Hid (LaidW w) := hL
  clear hL
  go_enter Tryd.func6, Tryd.ntmps6
  go_wp2_with (fail)
  refine (first_is _ ((HL.out.alloc _).alloc _)).mono ?_
  rintro e w1 ⟨rfl, hw1⟩
  have HBw1 : Below w.heap.size w w1 := Below.trans (by go_grown) (hw1.mono (by first | omega | (simp; done) | (simp; omega)))
  have p_a : Box w1 (w.heap.size) (ah) (al) := Box.later hw1 (by repeat (first | assumption | (refine Box.new _ _ _ _ _ ?_; simp; done) | refine Box.alloc ?_ _ | refine Box.drew ?_ | (apply Box.put) | (refine Box.beside ?_ _ _ _ (by omega))))
  have p_b : Box w1 (w.heap.size + 1) (bh) (bl) := Box.later hw1 (by repeat (first | assumption | (refine Box.new _ _ _ _ _ ?_; simp; done) | refine Box.alloc ?_ _ | refine Box.drew ?_ | (apply Box.put) | (refine Box.beside ?_ _ _ _ (by omega))))
  have q_a := p_a
  obtain ⟨a0, a1, a2, a3, a4⟩ := p_a
  have q_b := p_b
  obtain ⟨b0, b1, b2, b3, b4⟩ := p_b
  have hsw1 := hw1.size
  (try simp at hsw1)
  clear hw1
  clear HL
  go_wp2_with (fail)
  refine (units_is i _).mono ?_
  rintro e w2 ⟨⟨x1, g1, rfl, f1⟩, hw2⟩
  have F1 : Hid _ := f1
  clear f1
  have HBw2 : Below w.heap.size w w2 := Below.trans (by go_grown) (hw2.mono (by first | omega | (simp; done) | (simp; omega)))
  have p_a : Box w2 (w.heap.size) (ah) (al) := Box.later hw2 (by repeat (first | assumption | (refine Box.new _ _ _ _ _ ?_; simp; done) | refine Box.alloc ?_ _ | refine Box.drew ?_ | (apply Box.put) | (refine Box.beside ?_ _ _ _ (by omega))))
  have p_b : Box w2 (w.heap.size + 1) (bh) (bl) := Box.later hw2 (by repeat (first | assumption | (refine Box.new _ _ _ _ _ ?_; simp; done) | refine Box.alloc ?_ _ | refine Box.drew ?_ | (apply Box.put) | (refine Box.beside ?_ _ _ _ (by omega))))
  clear q_a a0 a1 a2 a3 a4
  clear q_b b0 b1 b2 b3 b4
  have q_a := p_a
  obtain ⟨a0, a1, a2, a3, a4⟩ := p_a
  have q_b := p_b
  obtain ⟨b0, b1, b2, b3, b4⟩ := p_b
  have hsw2 := hw2.size
  (try simp at hsw2)
  clear hw2
  go_wp2_with (fail)
  refine (units_is j _).mono ?_
  rintro e w3 ⟨⟨y1, h1, rfl, k1⟩, hw3⟩
  have K1 : Hid _ := k1
  clear k1
  have HBw3 : Below w.heap.size w w3 := Below.trans (by go_grown) (hw3.mono (by first | omega | (simp; done) | (simp; omega)))
  have p_a : Box w3 (w.heap.size) (ah) (al) := Box.later hw3 (by repeat (first | assumption | (refine Box.new _ _ _ _ _ ?_; simp; done) | refine Box.alloc ?_ _ | refine Box.drew ?_ | (apply Box.put) | (refine Box.beside ?_ _ _ _ (by omega))))
  have p_b : Box w3 (w.heap.size + 1) (bh) (bl) := Box.later hw3 (by repeat (first | assumption | (refine Box.new _ _ _ _ _ ?_; simp; done) | refine Box.alloc ?_ _ | refine Box.drew ?_ | (apply Box.put) | (refine Box.beside ?_ _ _ _ (by omega))))
  clear q_a a0 a1 a2 a3 a4
  clear q_b b0 b1 b2 b3 b4
  have q_a := p_a
  obtain ⟨a0, a1, a2, a3, a4⟩ := p_a
  have q_b := p_b
  obtain ⟨b0, b1, b2, b3, b4⟩ := p_b
  have hsw3 := hw3.size
  (try simp at hsw3)
  clear hw3
  go_wp2_with (fail)
  refine (milli_is i _).mono ?_
  rintro e w4 ⟨⟨x2, g2, rfl, f2⟩, hw4⟩
  have F2 : Hid _ := f2
  clear f2
  have HBw4 : Below w.heap.size w w4 := Below.trans (by go_grown) (hw4.mono (by first | omega | (simp; done) | (simp; omega)))
  have p_a : Box w4 (w.heap.size) (ah) (al) := Box.later hw4 (by repeat (first | assumption | (refine Box.new _ _ _ _ _ ?_; simp; done) | refine Box.alloc ?_ _ | refine Box.drew ?_ | (apply Box.put) | (refine Box.beside ?_ _ _ _ (by omega))))
  have p_b : Box w4 (w.heap.size + 1) (bh) (bl) := Box.later hw4 (by repeat (first | assumption | (refine Box.new _ _ _ _ _ ?_; simp; done) | refine Box.alloc ?_ _ | refine Box.drew ?_ | (apply Box.put) | (refine Box.beside ?_ _ _ _ (by omega))))
  clear q_a a0 a1 a2 a3 a4
  clear q_b b0 b1 b2 b3 b4
  have q_a := p_a
  obtain ⟨a0, a1, a2, a3, a4⟩ := p_a
  have q_b := p_b
  obtain ⟨b0, b1, b2, b3, b4⟩ := p_b
  have hsw4 := hw4.size
  (try simp at hsw4)
  clear hw4
  go_wp2_with (fail)
  refine (milli_is j _).mono ?_
  rintro e w5 ⟨⟨y2, h2, rfl, k2⟩, hw5⟩
  have K2 : Hid _ := k2
  clear k2
  have HBw5 : Below w.heap.size w w5 := Below.trans (by go_grown) (hw5.mono (by first | omega | (simp; done) | (simp; omega)))
  have p_a : Box w5 (w.heap.size) (ah) (al) := Box.later hw5 (by repeat (first | assumption | (refine Box.new _ _ _ _ _ ?_; simp; done) | refine Box.alloc ?_ _ | refine Box.drew ?_ | (apply Box.put) | (refine Box.beside ?_ _ _ _ (by omega))))
  have p_b : Box w5 (w.heap.size + 1) (bh) (bl) := Box.later hw5 (by repeat (first | assumption | (refine Box.new _ _ _ _ _ ?_; simp; done) | refine Box.alloc ?_ _ | refine Box.drew ?_ | (apply Box.put) | (refine Box.beside ?_ _ _ _ (by omega))))
  clear q_a a0 a1 a2 a3 a4
  clear q_b b0 b1 b2 b3 b4
  have q_a := p_a
  obtain ⟨a0, a1, a2, a3, a4⟩ := p_a
  have q_b := p_b
  obtain ⟨b0, b1, b2, b3, b4⟩ := p_b
  have hsw5 := hw5.size
  (try simp at hsw5)
  clear hw5
  go_upto_region 7 with (fail)
  go_cut [74] (fun r wc => r = .bool false ∧ Below w.heap.size w wc)
  case first =>
    by_cases ab : a ≤ b
    · have c0 := cmp_pos ab
      have z1 := counted_two ab F1.out K1.out
      have z2 := counted_two ab F2.out K2.out
      clear F1 F2 K1 K2 ab
      rcases z1 with ⟨rfl, rfl, z1⟩ | rfl
      · have z1' : ¬ y1 < x1 := by omega
        rcases z2 with ⟨rfl, rfl, z2⟩ | rfl
        · have z2' : ¬ y2 < x2 := by omega
          go_wp2_with (fail)
          refine (compare_is i j _).mono ?_
          rintro e w6 ⟨rfl, hw6⟩
          have HBw6 : Below w.heap.size w w6 := Below.trans (by go_grown) (hw6.mono (by first | omega | (simp; done) | (simp; omega)))
          have hsw6 := hw6.size
          (try simp at hsw6)
          clear hw6
          go_wp2_with (fail)
          go_meet
          case rel => exact ⟨congrArg Value.bool (by simp; omega), HBw6⟩
        · go_wp2_with (fail)
          refine (compare_is i j _).mono ?_
          rintro e w6 ⟨rfl, hw6⟩
          have HBw6 : Below w.heap.size w w6 := Below.trans (by go_grown) (hw6.mono (by first | omega | (simp; done) | (simp; omega)))
          have hsw6 := hw6.size
          (try simp at hsw6)
          clear hw6
          go_wp2_with (fail)
          go_meet
          case rel => exact ⟨congrArg Value.bool (by simp; omega), HBw6⟩
      · rcases z2 with ⟨rfl, rfl, z2⟩ | rfl
        · have z2' : ¬ y2 < x2 := by omega
          go_wp2_with (fail)
          refine (compare_is i j _).mono ?_
          rintro e w6 ⟨rfl, hw6⟩
          have HBw6 : Below w.heap.size w w6 := Below.trans (by go_grown) (hw6.mono (by first | omega | (simp; done) | (simp; omega)))
          have hsw6 := hw6.size
          (try simp at hsw6)
          clear hw6
          go_wp2_with (fail)
          go_meet
          case rel => exact ⟨congrArg Value.bool (by simp; omega), HBw6⟩
        · go_wp2_with (fail)
          refine (compare_is i j _).mono ?_
          rintro e w6 ⟨rfl, hw6⟩
          have HBw6 : Below w.heap.size w w6 := Below.trans (by go_grown) (hw6.mono (by first | omega | (simp; done) | (simp; omega)))
          have hsw6 := hw6.size
          (try simp at hsw6)
          clear hw6
          go_wp2_with (fail)
          go_meet
          case rel => exact ⟨rfl, HBw6⟩
    · have c0 := cmp_neg ab
      go_wp2_with (fail)
      refine (compare_is i j _).mono ?_
      rintro e w6 ⟨rfl, hw6⟩
      have HBw6 : Below w.heap.size w w6 := Below.trans (by go_grown) (hw6.mono (by first | omega | (simp; done) | (simp; omega)))
      have hsw6 := hw6.size
      (try simp at hsw6)
      clear hw6
      go_wp2_with (fail)
      go_meet
      case rel => exact ⟨rfl, HBw6⟩
  case rest =>
    clear HBw1 HBw2 HBw3 HBw4 HBw5 a0 a1 a2 a3 a4 b0 b1 b2 b3 b4 q_a q_b i j F1 F2 K1 K2
    obtain ⟨rfl, HB6⟩ := hcut
    have hs6 := HB6.size
    go_wp2_with (fail)
    refine (ofUnits_any n _).mono ?_
    rintro e w7 ⟨⟨h, l, g, rfl, f⟩, hw7⟩
    have BU := back_units f
    have NN : Hid ((g = 0 → 0 ≤ n ∧ n ≤ 1152921504606846976) ∧ (g ≠ 0 → n < 0 ∨ 1152921504606846976 < n)) := by unfold Hid; omega
    clear f
    have HBw7 : Below w.heap.size w w7 := Below.trans (by go_grown) (hw7.mono (by first | omega | (simp; done) | (simp; omega)))
    have hsw7 := hw7.size
    (try simp at hsw7)
    clear hw7
    rcases BU with hg | ⟨rfl, hb⟩
    · have gz : (g == 0) = false := by rcases hg with rfl | rfl <;> rfl
      go_wp2_with (fail)
      refine (ofMilli_any n _).mono ?_
      rintro e w8 ⟨⟨h, l, g', rfl, f⟩, hw8⟩
      have gz' : (g' == 0) = false := by
        have := NN.out
        simp
        omega
      clear f NN
      have HBw8 : Below w.heap.size w w8 := Below.trans (by go_grown) (hw8.mono (by first | omega | (simp; done) | (simp; omega)))
      have hsw8 := hw8.size
      (try simp at hsw8)
      clear hw8
      go_wp2
      go_ret
      exact ⟨rfl, by go_grown⟩
    · have HBB : Hid _ := hb
      clear hb
      go_wp2_with (fail)
      refine (HBB.out _).mono ?_
      rintro e w8 ⟨rfl, hw8⟩
      have HBw8 : Below w.heap.size w w8 := Below.trans (by go_grown) (hw8.mono (by first | omega | (simp; done) | (simp; omega)))
      have hsw8 := hw8.size
      (try simp at hsw8)
      clear hw8
      clear HBB
      go_wp2_with (fail)
      refine (ofMilli_any n _).mono ?_
      rintro e w9 ⟨⟨h, l, g', rfl, f⟩, hw9⟩
      have BM := back_milli f
      obtain ⟨rfl, hb⟩ := BM.resolve_left (by have := NN.out.1 trivial; omega)
      have HBB : Hid _ := hb
      clear hb f NN BM
      have HBw9 : Below w.heap.size w w9 := Below.trans (by go_grown) (hw9.mono (by first | omega | (simp; done) | (simp; omega)))
      have hsw9 := hw9.size
      (try simp at hsw9)
      clear hw9
      go_wp2_with (fail)
      refine (HBB.out _).mono ?_
      rintro e w10 ⟨rfl, hw10⟩
      have HBw10 : Below w.heap.size w w10 := Below.trans (by go_grown) (hw10.mono (by first | omega | (simp; done) | (simp; omega)))
      have hsw10 := hw10.size
      (try simp at hsw10)
      clear hw10
      clear HBB
      go_wp2
      go_ret
      exact ⟨rfl, by go_grown⟩

end Go.Proofs.YtmnfaniijninmaaDoor
