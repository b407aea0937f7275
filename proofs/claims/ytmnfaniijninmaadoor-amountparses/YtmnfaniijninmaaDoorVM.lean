/-
  What the statements of layer 2 ask ahead of everything else ('first') is answered true, at this program. Conditions: the two tables of suffixes lie as the program's text lays them.
-/
import Derived.Test.YtmnfaniijninmaaDoorVL
namespace Go.Proofs.YtmnfaniijninmaaDoor
open Go.RowKit

theorem parse_lit {l : List UInt8} {v : Nat} {g : Int} (e : parseL l = (v, g)) (hv : v < 18446744073709551616) (hl : l.length ≤ 100) (w : World) (hL : LaidW w) :
    Calls Tryd.prog 8 #[.string ⟨l.toArray⟩] w fun e w' => e = .returned (.tuple #[.agg #[.int .u64 0, .int .u64 (v : Int)], .int .i64 g]) ∧ Below w.heap.size w w' := by
  refine (parse_amount ⟨l.toArray⟩ (by unfold maxLen; simp [ByteArray.size]; omega) w hL).mono ?_
  rintro e' w' ⟨⟨h, k, g', rfl, hg, i⟩, hw⟩
  simp only at hg i
  rw [e] at hg i
  subst hg
  obtain ⟨rfl, rfl⟩ := i.det (Is.small rfl hv)
  exact ⟨rfl, hw⟩
theorem units_lit {v n : Nat} (e : up v 1000000000 = n) (hv : v < 18446744073709551616) (hn : n ≤ 1152921504606846976) (w : World) :
    Calls Tryd.prog 13 #[.agg #[.int .u64 0, .int .u64 (v : Int)]] w fun e w' => e = .returned (.tuple #[.int .i64 (n : Int), .int .i64 0]) ∧ Below w.heap.size w w' := by
  refine (units_is (Is.small (a := v) rfl hv) w).mono ?_
  rintro e' w' ⟨⟨m, g, rfl, f⟩, hw⟩
  rw [e] at f
  rcases f with ⟨_, rfl, rfl⟩ | ⟨f, _⟩
  · exact ⟨rfl, hw⟩
  · omega
theorem milli_lit {v n : Nat} (e : up v 1000000 = n) (hv : v < 18446744073709551616) (hn : n ≤ 1152921504606846976) (w : World) :
    Calls Tryd.prog 15 #[.agg #[.int .u64 0, .int .u64 (v : Int)]] w fun e w' => e = .returned (.tuple #[.int .i64 (n : Int), .int .i64 0]) ∧ Below w.heap.size w w' := by
  refine (milli_is (Is.small (a := v) rfl hv) w).mono ?_
  rintro e' w' ⟨⟨m, g, rfl, f⟩, hw⟩
  rw [e] at f
  rcases f with ⟨_, rfl, rfl⟩ | ⟨f, _⟩
  · exact ⟨rfl, hw⟩
  · omega
theorem ba_eq {t : ByteArray} {l : List UInt8} (h : t.data.toList = l) : t = ⟨l.toArray⟩ := by
  cases t with | mk d => simp at h; subst h; simp
theorem text_lit {v : Nat} {l : List UInt8} (e : textL v = l) (hv : v < 18446744073709551616) (w : World) (hL : LaidW w) :
    Calls Tryd.prog 16 #[.agg #[.int .u64 0, .int .u64 (v : Int)]] w fun e w' => e = .returned (.string ⟨l.toArray⟩) ∧ Below w.heap.size w w' := by
  refine (text_amount (Is.small (a := v) rfl hv) w hL).mono ?_
  rintro e' w' ⟨⟨t, rfl, ht⟩, hw⟩
  rw [e] at ht
  obtain rfl := ba_eq ht
  exact ⟨rfl, hw⟩
theorem binary_lit {v : Nat} {l : List UInt8} (e : binL v = l) (hv : v < 18446744073709551616) (w : World) (hL : LaidW w) :
    Calls Tryd.prog 17 #[.agg #[.int .u64 0, .int .u64 (v : Int)]] w fun e w' => e = .returned (.string ⟨l.toArray⟩) ∧ Below w.heap.size w w' := by
  refine (binary_amount (Is.small (a := v) rfl hv) w hL).mono ?_
  rintro e' w' ⟨⟨t, rfl, ht⟩, hw⟩
  rw [e] at ht
  obtain rfl := ba_eq ht
  exact ⟨rfl, hw⟩
theorem one_lit (w : World) : Calls Tryd.prog 18 #[.int .i64 1] w fun e w' => e = .returned (.tuple #[.agg #[.int .u64 0, .int .u64 1000000000], .int .i64 0]) ∧ Below w.heap.size w w' := by
  refine (ofUnits_any 1 w).mono ?_
  rintro e' w' ⟨⟨h, l, g, rfl, f⟩, hw⟩
  rcases f with ⟨f, _⟩ | ⟨f, _⟩ | ⟨_, _, f, rfl⟩
  · omega
  · omega
  · obtain ⟨rfl, rfl⟩ := f.det (Is.small (u := 1000000000) (a := 1000000000) rfl (by omega))
    exact ⟨rfl, hw⟩

theorem first_p1 (w : World) (hL : LaidW w) : Calls Tryd.prog 8 #[.string ⟨#[49, 46, 53, 71, 105]⟩] w fun e w' => e = .returned (.tuple #[.agg #[.int .u64 0, .int .u64 1610612736000000000], .int .i64 0]) ∧ Below w.heap.size w w' := parse_lit parse_one (by omega) (by decide) w hL
theorem first_p2 (w : World) (hL : LaidW w) : Calls Tryd.prog 8 #[.string ⟨#[49, 48, 48, 109]⟩] w fun e w' => e = .returned (.tuple #[.agg #[.int .u64 0, .int .u64 100000000], .int .i64 0]) ∧ Below w.heap.size w w' := parse_lit parse_two (by omega) (by decide) w hL
theorem first_p3 (w : World) (hL : LaidW w) : Calls Tryd.prog 8 #[.string ⟨#[49, 101, 51]⟩] w fun e w' => e = .returned (.tuple #[.agg #[.int .u64 0, .int .u64 1000000000000], .int .i64 0]) ∧ Below w.heap.size w w' := parse_lit parse_three (by omega) (by decide) w hL
theorem first_p4 (w : World) (hL : LaidW w) : Calls Tryd.prog 8 #[.string ⟨#[49, 120]⟩] w fun e w' => e = .returned (.tuple #[.agg #[.int .u64 0, .int .u64 0], .int .i64 11]) ∧ Below w.heap.size w w' := parse_lit parse_four (by omega) (by decide) w hL
theorem first_u (w : World) : Calls Tryd.prog 13 #[.agg #[.int .u64 0, .int .u64 1610612736000000000]] w fun e w' => e = .returned (.tuple #[.int .i64 1610612736, .int .i64 0]) ∧ Below w.heap.size w w' := units_lit (v := 1610612736000000000) (n := 1610612736) (by decide +kernel) (by omega) (by omega) w
theorem first_m (w : World) : Calls Tryd.prog 15 #[.agg #[.int .u64 0, .int .u64 100000000]] w fun e w' => e = .returned (.tuple #[.int .i64 100, .int .i64 0]) ∧ Below w.heap.size w w' := milli_lit (v := 100000000) (n := 100) (by decide +kernel) (by omega) (by omega) w
theorem first_b (w : World) (hL : LaidW w) : Calls Tryd.prog 17 #[.agg #[.int .u64 0, .int .u64 1610612736000000000]] w fun e w' => e = .returned (.string ⟨#[49, 53, 51, 54, 77, 105]⟩) ∧ Below w.heap.size w w' := binary_lit bin_one (by omega) w hL
theorem first_t (w : World) (hL : LaidW w) : Calls Tryd.prog 16 #[.agg #[.int .u64 0, .int .u64 1000000000000]] w fun e w' => e = .returned (.string ⟨#[49, 107]⟩) ∧ Below w.heap.size w w' := text_lit text_three (by omega) w hL
theorem first_z (w : World) (hL : LaidW w) : Calls Tryd.prog 16 #[.agg #[.int .u64 0, .int .u64 0]] w fun e w' => e = .returned (.string ⟨#[48]⟩) ∧ Below w.heap.size w w' := text_lit text_none (by omega) w hL

set_option maxHeartbeats 4000000 in
set_option maxRecDepth 100000 in
theorem first_is (w : World) (hL : LaidW w) :
    Calls Tryd.prog 7 #[] w fun e w' => e = .returned (.bool true) ∧ Below w.heap.size w w' := by
  have HL : Hid (LaidW w) := hL
  clear hL
  go_enter Tryd.func7, Tryd.ntmps7
  go_wp2_with (fail)
  refine (first_p1 _ HL.out).mono ?_
  rintro e w1 ⟨rfl, hw1⟩
  have HBw1 : Below w.heap.size w w1 := Below.trans (by go_grown) (hw1.mono (by first | omega | (simp; done) | (simp; omega)))
  have hsw1 := hw1.size
  (try simp at hsw1)
  clear hw1
  go_wp2_with (fail)
  refine (first_u _).mono ?_
  rintro e w2 ⟨rfl, hw2⟩
  have HBw2 : Below w.heap.size w w2 := Below.trans (by go_grown) (hw2.mono (by first | omega | (simp; done) | (simp; omega)))
  have p_a : Box w2 (w1.heap.size) (0) (1610612736000000000) := Box.later hw2 (by repeat (first | assumption | (refine Box.new _ _ _ _ _ ?_; simp; done) | refine Box.alloc ?_ _ | refine Box.drew ?_ | (apply Box.put) | (refine Box.beside ?_ _ _ _ (by omega))))
  have q_a := p_a
  obtain ⟨a0, a1, a2, a3, a4⟩ := p_a
  have hsw2 := hw2.size
  (try simp at hsw2)
  clear hw2
  go_wp2_with (fail)
  refine (first_p2 _ (HL.out.later HBw2)).mono ?_
  rintro e w3 ⟨rfl, hw3⟩
  have HBw3 : Below w.heap.size w w3 := Below.trans (by go_grown) (hw3.mono (by first | omega | (simp; done) | (simp; omega)))
  have p_a : Box w3 (w1.heap.size) (0) (1610612736000000000) := Box.later hw3 (by repeat (first | assumption | (refine Box.new _ _ _ _ _ ?_; simp; done) | refine Box.alloc ?_ _ | refine Box.drew ?_ | (apply Box.put) | (refine Box.beside ?_ _ _ _ (by omega))))
  clear q_a a0 a1 a2 a3 a4
  have q_a := p_a
  obtain ⟨a0, a1, a2, a3, a4⟩ := p_a
  have hsw3 := hw3.size
  (try simp at hsw3)
  clear hw3
  go_wp2_with (fail)
  refine (first_m _).mono ?_
  rintro e w4 ⟨rfl, hw4⟩
  have HBw4 : Below w.heap.size w w4 := Below.trans (by go_grown) (hw4.mono (by first | omega | (simp; done) | (simp; omega)))
  have p_a : Box w4 (w1.heap.size) (0) (1610612736000000000) := Box.later hw4 (by repeat (first | assumption | (refine Box.new _ _ _ _ _ ?_; simp; done) | refine Box.alloc ?_ _ | refine Box.drew ?_ | (apply Box.put) | (refine Box.beside ?_ _ _ _ (by omega))))
  clear q_a a0 a1 a2 a3 a4
  have q_a := p_a
  obtain ⟨a0, a1, a2, a3, a4⟩ := p_a
  have hsw4 := hw4.size
  (try simp at hsw4)
  clear hw4
  go_wp2_with (fail)
  refine (first_p3 _ (HL.out.later HBw4)).mono ?_
  rintro e w5 ⟨rfl, hw5⟩
  have HBw5 : Below w.heap.size w w5 := Below.trans (by go_grown) (hw5.mono (by first | omega | (simp; done) | (simp; omega)))
  have p_a : Box w5 (w1.heap.size) (0) (1610612736000000000) := Box.later hw5 (by repeat (first | assumption | (refine Box.new _ _ _ _ _ ?_; simp; done) | refine Box.alloc ?_ _ | refine Box.drew ?_ | (apply Box.put) | (refine Box.beside ?_ _ _ _ (by omega))))
  clear q_a a0 a1 a2 a3 a4
  have q_a := p_a
  obtain ⟨a0, a1, a2, a3, a4⟩ := p_a
  have hsw5 := hw5.size
  (try simp at hsw5)
  clear hw5
  go_wp2_with (fail)
  refine (first_p4 _ ((HL.out.later HBw5).alloc _)).mono ?_
  rintro e w6 ⟨rfl, hw6⟩
  have HBw6 : Below w.heap.size w w6 := Below.trans (by go_grown) (hw6.mono (by first | omega | (simp; done) | (simp; omega)))
  have p_a : Box w6 (w1.heap.size) (0) (1610612736000000000) := Box.later hw6 (by repeat (first | assumption | (refine Box.new _ _ _ _ _ ?_; simp; done) | refine Box.alloc ?_ _ | refine Box.drew ?_ | (apply Box.put) | (refine Box.beside ?_ _ _ _ (by omega))))
  have p_c : Box w6 (w5.heap.size) (0) (1000000000000) := Box.later hw6 (by repeat (first | assumption | (refine Box.new _ _ _ _ _ ?_; simp; done) | refine Box.alloc ?_ _ | refine Box.drew ?_ | (apply Box.put) | (refine Box.beside ?_ _ _ _ (by omega))))
  clear q_a a0 a1 a2 a3 a4
  have q_a := p_a
  obtain ⟨a0, a1, a2, a3, a4⟩ := p_a
  have q_c := p_c
  obtain ⟨c0, c1, c2, c3, c4⟩ := p_c
  have hsw6 := hw6.size
  (try simp at hsw6)
  clear hw6
  go_wp2_with (fail)
  refine (one_lit _).mono ?_
  rintro e w7 ⟨rfl, hw7⟩
  have HBw7 : Below w.heap.size w w7 := Below.trans (by go_grown) (hw7.mono (by first | omega | (simp; done) | (simp; omega)))
  have p_a : Box w7 (w1.heap.size) (0) (1610612736000000000) := Box.later hw7 (by repeat (first | assumption | (refine Box.new _ _ _ _ _ ?_; simp; done) | refine Box.alloc ?_ _ | refine Box.drew ?_ | (apply Box.put) | (refine Box.beside ?_ _ _ _ (by omega))))
  have p_c : Box w7 (w5.heap.size) (0) (1000000000000) := Box.later hw7 (by repeat (first | assumption | (refine Box.new _ _ _ _ _ ?_; simp; done) | refine Box.alloc ?_ _ | refine Box.drew ?_ | (apply Box.put) | (refine Box.beside ?_ _ _ _ (by omega))))
  clear q_a a0 a1 a2 a3 a4
  clear q_c c0 c1 c2 c3 c4
  have q_a := p_a
  obtain ⟨a0, a1, a2, a3, a4⟩ := p_a
  have q_c := p_c
  obtain ⟨c0, c1, c2, c3, c4⟩ := p_c
  have hsw7 := hw7.size
  (try simp at hsw7)
  clear hw7
  go_wp2_with (fail)
  refine (first_b _ ((HL.out.later HBw7).alloc _)).mono ?_
  rintro e w8 ⟨rfl, hw8⟩
  have HBw8 : Below w.heap.size w w8 := Below.trans (by go_grown) (hw8.mono (by first | omega | (simp; done) | (simp; omega)))
  have p_c : Box w8 (w5.heap.size) (0) (1000000000000) := Box.later hw8 (by repeat (first | assumption | (refine Box.new _ _ _ _ _ ?_; simp; done) | refine Box.alloc ?_ _ | refine Box.drew ?_ | (apply Box.put) | (refine Box.beside ?_ _ _ _ (by omega))))
  have p_d : Box w8 (w7.heap.size) (0) (1000000000) := Box.later hw8 (by repeat (first | assumption | (refine Box.new _ _ _ _ _ ?_; simp; done) | refine Box.alloc ?_ _ | refine Box.drew ?_ | (apply Box.put) | (refine Box.beside ?_ _ _ _ (by omega))))
  clear q_c c0 c1 c2 c3 c4
  have q_c := p_c
  obtain ⟨c0, c1, c2, c3, c4⟩ := p_c
  have q_d := p_d
  obtain ⟨d0, d1, d2, d3, d4⟩ := p_d
  have hsw8 := hw8.size
  (try simp at hsw8)
  clear hw8
  go_wp2_with (fail)
  refine (first_t _ (HL.out.later HBw8)).mono ?_
  rintro e w9 ⟨rfl, hw9⟩
  have HBw9 : Below w.heap.size w w9 := Below.trans (by go_grown) (hw9.mono (by first | omega | (simp; done) | (simp; omega)))
  have p_d : Box w9 (w7.heap.size) (0) (1000000000) := Box.later hw9 (by repeat (first | assumption | (refine Box.new _ _ _ _ _ ?_; simp; done) | refine Box.alloc ?_ _ | refine Box.drew ?_ | (apply Box.put) | (refine Box.beside ?_ _ _ _ (by omega))))
  clear q_d d0 d1 d2 d3 d4
  have q_d := p_d
  obtain ⟨d0, d1, d2, d3, d4⟩ := p_d
  have hsw9 := hw9.size
  (try simp at hsw9)
  clear hw9
  go_wp2_with (fail)
  refine (first_z _ (HL.out.later HBw9)).mono ?_
  rintro e w10 ⟨rfl, hw10⟩
  have HBw10 : Below w.heap.size w w10 := Below.trans (by go_grown) (hw10.mono (by first | omega | (simp; done) | (simp; omega)))
  have hsw10 := hw10.size
  (try simp at hsw10)
  clear hw10
  go_wp2
  go_ret
  exact ⟨rfl, HBw10⟩

end Go.Proofs.YtmnfaniijninmaaDoor
