/-
  VectorBack of this program: true for every two vectors. Conditions: the tables of the program lie as its text lays them.
-/
import Derived.Test.YtpbgolcimbjekaaDoorKI
namespace Go.Proofs.YtpbgolcimbjekaaDoor
open Go.RowKit

theorem vparse_back {c m h : Int} (k : Rt c m h) (w : World) (hL : LaidV w) : Calls Tryd.prog 20 #[.string ⟨(textV (c, m, h)).toArray⟩] w fun e w' => e = .returned (.tuple #[.agg #[.int .i64 c, .int .i64 m, .int .i64 h], .int .i64 0]) ∧ Below w.heap.size w w' := by
  have l := text_most (c, m, h)
  have := vparse_is ⟨(textV (c, m, h)).toArray⟩ (by show (textV (c, m, h)).toArray.size ≤ maxLen; rw [List.size_toArray]; unfold maxLen; omega) w hL
  rw [show (⟨(textV (c, m, h)).toArray⟩ : ByteArray).data.toList = textV (c, m, h) from List.toList_toArray, text_vec k] at this
  exact this
theorem vright_is {c m h : Int} (k : Rt c m h) (w : World) (hL : LaidV w) : Calls Tryd.prog 7 #[.agg #[.int .i64 c, .int .i64 m, .int .i64 h]] w fun e w' => e = .returned (.bool true) ∧ Below w.heap.size w w' := by
  have := right_any c m h w hL
  rwa [right_yes k] at this
theorem vright_not {c m h : Int} (k : ¬ Rt c m h) (w : World) (hL : LaidV w) : Calls Tryd.prog 7 #[.agg #[.int .i64 c, .int .i64 m, .int .i64 h]] w fun e w' => e = .returned (.bool false) ∧ Below w.heap.size w w' := by
  have := right_any c m h w hL
  rwa [right_no k] at this
theorem vsub_back {a b c d e f : Int} (k1 : Rt a b c) (k2 : Rt d e f) (k3 : Rt (a + d) (b + e) (c + f)) (w : World) (hL : LaidV w) :
    Calls Tryd.prog 16 #[.agg #[.int .i64 (a + d), .int .i64 (b + e), .int .i64 (c + f)], .agg #[.int .i64 d, .int .i64 e, .int .i64 f]] w fun x w' => x = .returned (.tuple #[.agg #[.int .i64 a, .int .i64 b, .int .i64 c], .bool true]) ∧ Below w.heap.size w w' := by
  have := vsub_any (a + d) (b + e) (c + f) d e f w hL
  rw [show a + d - d = a by omega, show b + e - e = b by omega, show c + f - f = c by omega, show both (a + d, b + e, c + f) (d, e, f) (a, b, c) = onl (a, b, c) from if_pos ⟨k3, k2⟩, onl_yes k1] at this
  exact this
theorem vadd_some {a b c d e f : Int} (k1 : Rt a b c) (k2 : Rt d e f) (k3 : Rt (a + d) (b + e) (c + f)) (w : World) (hL : LaidV w) :
    Calls Tryd.prog 14 #[.agg #[.int .i64 a, .int .i64 b, .int .i64 c], .agg #[.int .i64 d, .int .i64 e, .int .i64 f]] w fun x w' => x = .returned (.tuple #[.agg #[.int .i64 (a + d), .int .i64 (b + e), .int .i64 (c + f)], .bool true]) ∧ Below w.heap.size w w' := by
  have := vadd_any a b c d e f w hL
  rw [show both (a, b, c) (d, e, f) (a + d, b + e, c + f) = onl (a + d, b + e, c + f) from if_pos ⟨k1, k2⟩, onl_yes k3] at this
  exact this
theorem vadd_none {a b c d e f : Int} (k : ¬ (Rt a b c ∧ Rt d e f ∧ Rt (a + d) (b + e) (c + f))) (w : World) (hL : LaidV w) :
    Calls Tryd.prog 14 #[.agg #[.int .i64 a, .int .i64 b, .int .i64 c], .agg #[.int .i64 d, .int .i64 e, .int .i64 f]] w fun x w' => x = .returned (.tuple #[.agg #[.int .i64 0, .int .i64 0, .int .i64 0], .bool false]) ∧ Below w.heap.size w w' := by
  have := vadd_any a b c d e f w hL
  rw [show vo (both (a, b, c) (d, e, f) (a + d, b + e, c + f)) = .tuple #[.agg #[.int .i64 0, .int .i64 0, .int .i64 0], .bool false] by
    unfold both
    by_cases h : Rt a b c ∧ Rt d e f
    · rw [if_pos h, onl_no (fun g => k ⟨h.1, h.2, g⟩)]
    · rw [if_neg h]; rfl] at this
  exact this
theorem vfits_sum {a b c d e f : Int} (k2 : Rt d e f) (w : World) :
    Calls Tryd.prog 11 #[.agg #[.int .i64 a, .int .i64 b, .int .i64 c], .agg #[.int .i64 (a + d), .int .i64 (b + e), .int .i64 (c + f)]] w fun x w' => x = .returned (.bool true) ∧ Below w.heap.size w w' := by
  have := vfits_any a b c (a + d) (b + e) (c + f) w
  rwa [fits_yes (by unfold Rt at k2; omega)] at this
theorem vtext_not {c m h : Int} (k : ¬ Rt c m h) (w : World) (hL : LaidV w) : Calls Tryd.prog 21 #[.agg #[.int .i64 c, .int .i64 m, .int .i64 h]] w fun e w' => e = .returned (.string ⟨#[]⟩) ∧ Below w.heap.size w w' := vtext_wrong c m h w hL k

set_option maxHeartbeats 4000000 in
set_option maxRecDepth 100000 in
theorem vectorBack_any (a b c d e f : Int) (w : World) (hL : LaidV w) :
    Calls Tryd.prog 5 #[.agg #[.int .i64 a, .int .i64 b, .int .i64 c], .agg #[.int .i64 d, .int .i64 e, .int .i64 f]] w fun x w' => x = .returned (.bool true) ∧ Below w.heap.size w w' := by
  have HL : Hid (LaidV w) := hL
  clear hL
  go_enter Tryd.func5, Tryd.ntmps5
  go_wp2_with (fail)
  refine (vfirst_is _ ((HL.out.alloc _).alloc _)).mono ?_
  rintro x w1 ⟨rfl, hw1⟩
  have HBw1 : Below w.heap.size w w1 := Below.trans (by go_grown) (hw1.mono (by first | omega | (simp; done) | (simp; omega)))
  have p_a : Bx3 w1 (w.heap.size) (a) (b) (c) := Bx3.later hw1 (by repeat (first | assumption | (refine Bx3.new _ _ _ _ _ _ ?_; simp; done) | refine Bx3.alloc ?_ _ | refine Bx3.drew ?_ | refine Bx3.put ?_ _ _ _ | (refine Bx3.beside ?_ _ _ (by omega))))
  have p_d : Bx3 w1 (w.heap.size + 1) (d) (e) (f) := Bx3.later hw1 (by repeat (first | assumption | (refine Bx3.new _ _ _ _ _ _ ?_; simp; done) | refine Bx3.alloc ?_ _ | refine Bx3.drew ?_ | refine Bx3.put ?_ _ _ _ | (refine Bx3.beside ?_ _ _ (by omega))))
  have q_a := p_a
  obtain ⟨a0, a1, a2, a3, a4, a5, a6⟩ := p_a
  have q_d := p_d
  obtain ⟨d0, d1, d2, d3, d4, d5, d6⟩ := p_d
  have hsw1 := hw1.size
  (try simp at hsw1)
  clear hw1
  by_cases K : Rt a b c ∧ Rt d e f ∧ Rt (a + d) (b + e) (c + f)
  · have KK : Hid (Rt a b c ∧ Rt d e f ∧ Rt (a + d) (b + e) (c + f)) := K
    clear K
    obtain ⟨x, hx⟩ : ∃ x, x = a + d := ⟨_, rfl⟩
    obtain ⟨y, hy⟩ : ∃ y, y = b + e := ⟨_, rfl⟩
    obtain ⟨z, hz⟩ : ∃ z, z = c + f := ⟨_, rfl⟩
    have AD : Hid (∀ w, LaidV w → Calls Tryd.prog 14 #[.agg #[.int .i64 a, .int .i64 b, .int .i64 c], .agg #[.int .i64 d, .int .i64 e, .int .i64 f]] w fun r w' => r = .returned (.tuple #[.agg #[.int .i64 x, .int .i64 y, .int .i64 z], .bool true]) ∧ Below w.heap.size w w') := fun w hL => by rw [hx, hy, hz]; exact vadd_some KK.out.1 KK.out.2.1 KK.out.2.2 w hL
    have SU : Hid (∀ w, LaidV w → Calls Tryd.prog 16 #[.agg #[.int .i64 x, .int .i64 y, .int .i64 z], .agg #[.int .i64 d, .int .i64 e, .int .i64 f]] w fun r w' => r = .returned (.tuple #[.agg #[.int .i64 a, .int .i64 b, .int .i64 c], .bool true]) ∧ Below w.heap.size w w') := fun w hL => by rw [hx, hy, hz]; exact vsub_back KK.out.1 KK.out.2.1 KK.out.2.2 w hL
    have FI : Hid (∀ w, Calls Tryd.prog 11 #[.agg #[.int .i64 a, .int .i64 b, .int .i64 c], .agg #[.int .i64 x, .int .i64 y, .int .i64 z]] w fun r w' => r = .returned (.bool true) ∧ Below w.heap.size w w') := fun w => by rw [hx, hy, hz]; exact vfits_sum KK.out.2.1 w
    have RI : Hid (∀ w, LaidV w → Calls Tryd.prog 7 #[.agg #[.int .i64 x, .int .i64 y, .int .i64 z]] w fun r w' => r = .returned (.bool true) ∧ Below w.heap.size w w') := fun w hL => by rw [hx, hy, hz]; exact vright_is KK.out.2.2 w hL
    clear hx hy hz
    have KA : Hid (Rt a b c) := KK.out.1
    clear KK
    go_wp2_with (fail)
    refine (AD.out _ (HL.out.later HBw1)).mono ?_
    rintro r w2 ⟨rfl, hw2⟩
    have HBw2 : Below w.heap.size w w2 := Below.trans (by go_grown) (hw2.mono (by first | omega | (simp; done) | (simp; omega)))
    have p_a : Bx3 w2 (w.heap.size) (a) (b) (c) := Bx3.later hw2 (by repeat (first | assumption | (refine Bx3.new _ _ _ _ _ _ ?_; simp; done) | refine Bx3.alloc ?_ _ | refine Bx3.drew ?_ | refine Bx3.put ?_ _ _ _ | (refine Bx3.beside ?_ _ _ (by omega))))
    have p_d : Bx3 w2 (w.heap.size + 1) (d) (e) (f) := Bx3.later hw2 (by repeat (first | assumption | (refine Bx3.new _ _ _ _ _ _ ?_; simp; done) | refine Bx3.alloc ?_ _ | refine Bx3.drew ?_ | refine Bx3.put ?_ _ _ _ | (refine Bx3.beside ?_ _ _ (by omega))))
    clear q_a a0 a1 a2 a3 a4 a5 a6
    clear q_d d0 d1 d2 d3 d4 d5 d6
    have q_a := p_a
    obtain ⟨a0, a1, a2, a3, a4, a5, a6⟩ := p_a
    have q_d := p_d
    obtain ⟨d0, d1, d2, d3, d4, d5, d6⟩ := p_d
    have hsw2 := hw2.size
    (try simp at hsw2)
    clear hw2
    go_wp2_with (fail)
    refine (SU.out _ ((HL.out.later HBw2).alloc _)).mono ?_
    rintro r w3 ⟨rfl, hw3⟩
    have HBw3 : Below w.heap.size w w3 := Below.trans (by go_grown) (hw3.mono (by first | omega | (simp; done) | (simp; omega)))
    have p_a : Bx3 w3 (w.heap.size) (a) (b) (c) := Bx3.later hw3 (by repeat (first | assumption | (refine Bx3.new _ _ _ _ _ _ ?_; simp; done) | refine Bx3.alloc ?_ _ | refine Bx3.drew ?_ | refine Bx3.put ?_ _ _ _ | (refine Bx3.beside ?_ _ _ (by omega))))
    have p_s : Bx3 w3 (w2.heap.size) (x) (y) (z) := Bx3.later hw3 (by repeat (first | assumption | (refine Bx3.new _ _ _ _ _ _ ?_; simp; done) | refine Bx3.alloc ?_ _ | refine Bx3.drew ?_ | refine Bx3.put ?_ _ _ _ | (refine Bx3.beside ?_ _ _ (by omega))))
    clear q_a a0 a1 a2 a3 a4 a5 a6
    have q_a := p_a
    obtain ⟨a0, a1, a2, a3, a4, a5, a6⟩ := p_a
    have q_s := p_s
    obtain ⟨s0, s1, s2, s3, s4, s5, s6⟩ := p_s
    have hsw3 := hw3.size
    (try simp at hsw3)
    clear hw3
    clear q_d d0 d1 d2 d3 d4 d5 d6
    go_wp2_with (fail)
    refine (FI.out _).mono ?_
    rintro r w4 ⟨rfl, hw4⟩
    have HBw4 : Below w.heap.size w w4 := Below.trans (by go_grown) (hw4.mono (by first | omega | (simp; done) | (simp; omega)))
    have p_a : Bx3 w4 (w.heap.size) (a) (b) (c) := Bx3.later hw4 (by repeat (first | assumption | (refine Bx3.new _ _ _ _ _ _ ?_; simp; done) | refine Bx3.alloc ?_ _ | refine Bx3.drew ?_ | refine Bx3.put ?_ _ _ _ | (refine Bx3.beside ?_ _ _ (by omega))))
    have p_s : Bx3 w4 (w2.heap.size) (x) (y) (z) := Bx3.later hw4 (by repeat (first | assumption | (refine Bx3.new _ _ _ _ _ _ ?_; simp; done) | refine Bx3.alloc ?_ _ | refine Bx3.drew ?_ | refine Bx3.put ?_ _ _ _ | (refine Bx3.beside ?_ _ _ (by omega))))
    clear q_a a0 a1 a2 a3 a4 a5 a6
    clear q_s s0 s1 s2 s3 s4 s5 s6
    have q_a := p_a
    obtain ⟨a0, a1, a2, a3, a4, a5, a6⟩ := p_a
    have q_s := p_s
    obtain ⟨s0, s1, s2, s3, s4, s5, s6⟩ := p_s
    have hsw4 := hw4.size
    (try simp at hsw4)
    clear hw4
    go_wp2_with (fail)
    refine (RI.out _ (HL.out.later HBw4)).mono ?_
    rintro r w5 ⟨rfl, hw5⟩
    have HBw5 : Below w.heap.size w w5 := Below.trans (by go_grown) (hw5.mono (by first | omega | (simp; done) | (simp; omega)))
    have p_a : Bx3 w5 (w.heap.size) (a) (b) (c) := Bx3.later hw5 (by repeat (first | assumption | (refine Bx3.new _ _ _ _ _ _ ?_; simp; done) | refine Bx3.alloc ?_ _ | refine Bx3.drew ?_ | refine Bx3.put ?_ _ _ _ | (refine Bx3.beside ?_ _ _ (by omega))))
    clear q_a a0 a1 a2 a3 a4 a5 a6
    have q_a := p_a
    obtain ⟨a0, a1, a2, a3, a4, a5, a6⟩ := p_a
    have hsw5 := hw5.size
    (try simp at hsw5)
    clear hw5
    clear q_s s0 s1 s2 s3 s4 s5 s6
    go_wp2_with (fail)
    refine (vtext_is a b c _ (HL.out.later HBw5)).mono ?_
    rintro r w6 ⟨rfl, hw6⟩
    have HBw6 : Below w.heap.size w w6 := Below.trans (by go_grown) (hw6.mono (by first | omega | (simp; done) | (simp; omega)))
    have p_a : Bx3 w6 (w.heap.size) (a) (b) (c) := Bx3.later hw6 (by repeat (first | assumption | (refine Bx3.new _ _ _ _ _ _ ?_; simp; done) | refine Bx3.alloc ?_ _ | refine Bx3.drew ?_ | refine Bx3.put ?_ _ _ _ | (refine Bx3.beside ?_ _ _ (by omega))))
    clear q_a a0 a1 a2 a3 a4 a5 a6
    have q_a := p_a
    obtain ⟨a0, a1, a2, a3, a4, a5, a6⟩ := p_a
    have hsw6 := hw6.size
    (try simp at hsw6)
    clear hw6
    have TB : Hid (∀ w, LaidV w → Calls Tryd.prog 20 #[.string ⟨(textV (a, b, c)).toArray⟩] w fun e w' => e = .returned (.tuple #[.agg #[.int .i64 a, .int .i64 b, .int .i64 c], .int .i64 0]) ∧ Below w.heap.size w w') := fun w hL => vparse_back KA.out w hL
    generalize (textV (a, b, c)).toArray = T at TB ⊢
    go_wp2_with (fail)
    refine (TB.out _ (HL.out.later HBw6)).mono ?_
    rintro r w7 ⟨rfl, hw7⟩
    have HBw7 : Below w.heap.size w w7 := Below.trans (by go_grown) (hw7.mono (by first | omega | (simp; done) | (simp; omega)))
    have p_a : Bx3 w7 (w.heap.size) (a) (b) (c) := Bx3.later hw7 (by repeat (first | assumption | (refine Bx3.new _ _ _ _ _ _ ?_; simp; done) | refine Bx3.alloc ?_ _ | refine Bx3.drew ?_ | refine Bx3.put ?_ _ _ _ | (refine Bx3.beside ?_ _ _ (by omega))))
    clear q_a a0 a1 a2 a3 a4 a5 a6
    have q_a := p_a
    obtain ⟨a0, a1, a2, a3, a4, a5, a6⟩ := p_a
    have hsw7 := hw7.size
    (try simp at hsw7)
    clear hw7
    go_wp2
    go_ret
    exact ⟨rfl, by go_grown⟩
  · have AD : Hid (∀ w, LaidV w → Calls Tryd.prog 14 #[.agg #[.int .i64 a, .int .i64 b, .int .i64 c], .agg #[.int .i64 d, .int .i64 e, .int .i64 f]] w fun r w' => r = .returned (.tuple #[.agg #[.int .i64 0, .int .i64 0, .int .i64 0], .bool false]) ∧ Below w.heap.size w w') := fun w hL => vadd_none K w hL
    clear K
    go_wp2_with (fail)
    refine (AD.out _ (HL.out.later HBw1)).mono ?_
    rintro r w2 ⟨rfl, hw2⟩
    have HBw2 : Below w.heap.size w w2 := Below.trans (by go_grown) (hw2.mono (by first | omega | (simp; done) | (simp; omega)))
    have p_a : Bx3 w2 (w.heap.size) (a) (b) (c) := Bx3.later hw2 (by repeat (first | assumption | (refine Bx3.new _ _ _ _ _ _ ?_; simp; done) | refine Bx3.alloc ?_ _ | refine Bx3.drew ?_ | refine Bx3.put ?_ _ _ _ | (refine Bx3.beside ?_ _ _ (by omega))))
    clear q_a a0 a1 a2 a3 a4 a5 a6
    have q_a := p_a
    obtain ⟨a0, a1, a2, a3, a4, a5, a6⟩ := p_a
    have hsw2 := hw2.size
    (try simp at hsw2)
    clear hw2
    clear q_d d0 d1 d2 d3 d4 d5 d6
    by_cases k : Rt a b c
    · have KA : Hid (Rt a b c) := k
      clear k
      go_wp2_with (fail)
      refine (vtext_is a b c _ ((HL.out.later HBw2).alloc _)).mono ?_
      rintro r w3 ⟨rfl, hw3⟩
      have HBw3 : Below w.heap.size w w3 := Below.trans (by go_grown) (hw3.mono (by first | omega | (simp; done) | (simp; omega)))
      have p_a : Bx3 w3 (w.heap.size) (a) (b) (c) := Bx3.later hw3 (by repeat (first | assumption | (refine Bx3.new _ _ _ _ _ _ ?_; simp; done) | refine Bx3.alloc ?_ _ | refine Bx3.drew ?_ | refine Bx3.put ?_ _ _ _ | (refine Bx3.beside ?_ _ _ (by omega))))
      clear q_a a0 a1 a2 a3 a4 a5 a6
      have q_a := p_a
      obtain ⟨a0, a1, a2, a3, a4, a5, a6⟩ := p_a
      have hsw3 := hw3.size
      (try simp at hsw3)
      clear hw3
      have TB : Hid (∀ w, LaidV w → Calls Tryd.prog 20 #[.string ⟨(textV (a, b, c)).toArray⟩] w fun e w' => e = .returned (.tuple #[.agg #[.int .i64 a, .int .i64 b, .int .i64 c], .int .i64 0]) ∧ Below w.heap.size w w') := fun w hL => vparse_back KA.out w hL
      generalize (textV (a, b, c)).toArray = T at TB ⊢
      go_wp2_with (fail)
      refine (TB.out _ (HL.out.later HBw3)).mono ?_
      rintro r w4 ⟨rfl, hw4⟩
      have HBw4 : Below w.heap.size w w4 := Below.trans (by go_grown) (hw4.mono (by first | omega | (simp; done) | (simp; omega)))
      have p_a : Bx3 w4 (w.heap.size) (a) (b) (c) := Bx3.later hw4 (by repeat (first | assumption | (refine Bx3.new _ _ _ _ _ _ ?_; simp; done) | refine Bx3.alloc ?_ _ | refine Bx3.drew ?_ | refine Bx3.put ?_ _ _ _ | (refine Bx3.beside ?_ _ _ (by omega))))
      clear q_a a0 a1 a2 a3 a4 a5 a6
      have q_a := p_a
      obtain ⟨a0, a1, a2, a3, a4, a5, a6⟩ := p_a
      have hsw4 := hw4.size
      (try simp at hsw4)
      clear hw4
      go_wp2
      go_ret
      exact ⟨rfl, by go_grown⟩
    · have KA : Hid (¬ Rt a b c) := k
      clear k
      go_wp2_with (fail)
      refine (vtext_not KA.out _ ((HL.out.later HBw2).alloc _)).mono ?_
      rintro r w3 ⟨rfl, hw3⟩
      have HBw3 : Below w.heap.size w w3 := Below.trans (by go_grown) (hw3.mono (by first | omega | (simp; done) | (simp; omega)))
      have p_a : Bx3 w3 (w.heap.size) (a) (b) (c) := Bx3.later hw3 (by repeat (first | assumption | (refine Bx3.new _ _ _ _ _ _ ?_; simp; done) | refine Bx3.alloc ?_ _ | refine Bx3.drew ?_ | refine Bx3.put ?_ _ _ _ | (refine Bx3.beside ?_ _ _ (by omega))))
      clear q_a a0 a1 a2 a3 a4 a5 a6
      have q_a := p_a
      obtain ⟨a0, a1, a2, a3, a4, a5, a6⟩ := p_a
      have hsw3 := hw3.size
      (try simp at hsw3)
      clear hw3
      go_wp2_with (fail)
      refine (vparse_none _).mono ?_
      rintro r w4 ⟨rfl, hw4⟩
      have HBw4 : Below w.heap.size w w4 := Below.trans (by go_grown) (hw4.mono (by first | omega | (simp; done) | (simp; omega)))
      have p_a : Bx3 w4 (w.heap.size) (a) (b) (c) := Bx3.later hw4 (by repeat (first | assumption | (refine Bx3.new _ _ _ _ _ _ ?_; simp; done) | refine Bx3.alloc ?_ _ | refine Bx3.drew ?_ | refine Bx3.put ?_ _ _ _ | (refine Bx3.beside ?_ _ _ (by omega))))
      clear q_a a0 a1 a2 a3 a4 a5 a6
      have q_a := p_a
      obtain ⟨a0, a1, a2, a3, a4, a5, a6⟩ := p_a
      have hsw4 := hw4.size
      (try simp at hsw4)
      clear hw4
      go_wp2_with (fail)
      refine (vright_not KA.out _ ((HL.out.later HBw4).alloc _)).mono ?_
      rintro r w5 ⟨rfl, hw5⟩
      have HBw5 : Below w.heap.size w w5 := Below.trans (by go_grown) (hw5.mono (by first | omega | (simp; done) | (simp; omega)))
      have hsw5 := hw5.size
      (try simp at hsw5)
      clear hw5
      go_wp2
      go_ret
      exact ⟨rfl, by go_grown⟩

end Go.Proofs.YtpbgolcimbjekaaDoor
