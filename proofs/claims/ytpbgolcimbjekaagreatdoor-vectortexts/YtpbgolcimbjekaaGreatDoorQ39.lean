/-
  VectorTexts of this program: true for every vector and every text. Conditions: the tables of the program lie as its text lays them; the text's length fits the machine.
-/
import Derived.Test.YtpbgolcimbjekaaGreatDoorQ38
namespace Go.Proofs.YtpbgolcimbjekaaGreatDoor
open Go.RowKit

set_option maxHeartbeats 4000000 in
set_option maxRecDepth 100000 in
theorem vectorTexts_any (a b c : Int) (s : ByteArray) (hm : s.size ≤ maxLen) (w : World) (hL : LaidV w) :
    Calls Tryz.prog 3 #[.agg #[.int .i64 a, .int .i64 b, .int .i64 c], .string s] w fun x w' => x = .returned (.bool true) ∧ Below w.heap.size w w' := by
  have HL : Hid (LaidV w) := hL
  have HM : Hid (s.size ≤ maxLen) := hm
  unfold maxLen at hm
  clear hL
  obtain ⟨⟨⟨px, py, pz⟩, pe⟩, hp⟩ : ∃ p, p = parseV s.data.toList := ⟨_, rfl⟩
  have C1 : Hid (∀ w, LaidV w → Calls Tryz.prog 7 #[.string s] w fun e w' => e = .returned (.tuple #[.agg #[.int .i64 px, .int .i64 py, .int .i64 pz], .int .i64 pe]) ∧ Below w.heap.size w w') := fun w hL => by
    have := vparse_is s HM.out w hL
    rw [← hp] at this
    exact this
  have C2 : Hid (s.size ≤ 300 → ∀ w, Calls Tryz.prog 8 #[.string s] w fun e w' => e = .returned (.tuple #[.agg #[.int .i64 px, .int .i64 py, .int .i64 pz], .int .i64 pe]) ∧ Below w.heap.size w w') := fun h w => by
    have := rvparse_is s h w
    rw [← hp] at this
    exact this
  clear hp
  obtain ⟨T, hT⟩ : ∃ T : Array UInt8, T = (textV (a, b, c)).toArray := ⟨_, rfl⟩
  have C3 : Hid (∀ w, LaidV w → Calls Tryz.prog 9 #[.agg #[.int .i64 a, .int .i64 b, .int .i64 c]] w fun e w' => e = .returned (.string ⟨T⟩) ∧ Below w.heap.size w w') := fun w hL => by rw [hT]; exact vtext_is a b c w hL
  have C4 : Hid (Rt a b c → ∀ w, Calls Tryz.prog 6 #[.agg #[.int .i64 a, .int .i64 b, .int .i64 c]] w fun e w' => e = .returned (.string ⟨T⟩) ∧ Below w.heap.size w w') := fun k w => by rw [hT]; exact rvtext_is k w
  have C5 : Hid (∀ w, Calls Tryz.prog 5 #[.agg #[.int .i64 a, .int .i64 b, .int .i64 c]] w fun e w' => e = .returned (.bool (rightB a b c)) ∧ Below w.heap.size w w') := fun w => refRight_any a b c w
  have TN : Hid (¬ Rt a b c → T = #[]) := fun k => by rw [hT, text_wrong k]
  clear hT
  go_enter Tryz.func3, Tryz.ntmps3
  go_wp2_with (fail)
  refine (vfirst_is _ (HL.out.alloc _)).mono ?_
  rintro x w1 ⟨rfl, hw1⟩
  have HBw1 : Below w.heap.size w w1 := Below.trans (by go_grown) (hw1.mono (by first | omega | (simp; done) | (simp; omega)))
  have p_a : Bx3 w1 (w.heap.size) (a) (b) (c) := Bx3.later hw1 (by repeat (first | assumption | (refine Bx3.new _ _ _ _ _ _ ?_; simp; done) | refine Bx3.alloc ?_ _ | refine Bx3.drew ?_ | refine Bx3.put ?_ _ _ _ | (refine Bx3.beside ?_ _ _ (by omega))))
  have q_a := p_a
  obtain ⟨a0, a1, a2, a3, a4, a5, a6⟩ := p_a
  have hsw1 := hw1.size
  (try simp at hsw1)
  clear hw1
  by_cases hl : 300 < s.size
  · have hl' : (300 : Int) < (s.size : Int) := by omega
    go_wp2
    go_ret
    exact ⟨rfl, by go_grown⟩
  have hl' : ¬ (300 : Int) < (s.size : Int) := by omega
  have L3 : Hid (s.size ≤ 300) := by unfold Hid; omega
  go_wp2_with (fail)
  refine (C5.out _).mono ?_
  rintro x w2 ⟨rfl, hw2⟩
  have HBw2 : Below w.heap.size w w2 := Below.trans (by go_grown) (hw2.mono (by first | omega | (simp; done) | (simp; omega)))
  have p_a : Bx3 w2 (w.heap.size) (a) (b) (c) := Bx3.later hw2 (by repeat (first | assumption | (refine Bx3.new _ _ _ _ _ _ ?_; simp; done) | refine Bx3.alloc ?_ _ | refine Bx3.drew ?_ | refine Bx3.put ?_ _ _ _ | (refine Bx3.beside ?_ _ _ (by omega))))
  clear q_a a0 a1 a2 a3 a4 a5 a6
  have q_a := p_a
  obtain ⟨a0, a1, a2, a3, a4, a5, a6⟩ := p_a
  have hsw2 := hw2.size
  (try simp at hsw2)
  clear hw2
  by_cases k : Rt a b c
  · rw [right_yes k]
    have KK : Hid (Rt a b c) := k
    clear k
    go_wp2_with (fail)
    refine (C4.out KK.out _).mono ?_
    rintro x w3 ⟨rfl, hw3⟩
    have HBw3 : Below w.heap.size w w3 := Below.trans (by go_grown) (hw3.mono (by first | omega | (simp; done) | (simp; omega)))
    have p_a : Bx3 w3 (w.heap.size) (a) (b) (c) := Bx3.later hw3 (by repeat (first | assumption | (refine Bx3.new _ _ _ _ _ _ ?_; simp; done) | refine Bx3.alloc ?_ _ | refine Bx3.drew ?_ | refine Bx3.put ?_ _ _ _ | (refine Bx3.beside ?_ _ _ (by omega))))
    clear q_a a0 a1 a2 a3 a4 a5 a6
    have q_a := p_a
    obtain ⟨a0, a1, a2, a3, a4, a5, a6⟩ := p_a
    have hsw3 := hw3.size
    (try simp at hsw3)
    clear hw3
    go_wp2_with (fail)
    refine (C1.out _ (HL.out.later HBw3)).mono ?_
    rintro x w4 ⟨rfl, hw4⟩
    have HBw4 : Below w.heap.size w w4 := Below.trans (by go_grown) (hw4.mono (by first | omega | (simp; done) | (simp; omega)))
    have p_a : Bx3 w4 (w.heap.size) (a) (b) (c) := Bx3.later hw4 (by repeat (first | assumption | (refine Bx3.new _ _ _ _ _ _ ?_; simp; done) | refine Bx3.alloc ?_ _ | refine Bx3.drew ?_ | refine Bx3.put ?_ _ _ _ | (refine Bx3.beside ?_ _ _ (by omega))))
    clear q_a a0 a1 a2 a3 a4 a5 a6
    have q_a := p_a
    obtain ⟨a0, a1, a2, a3, a4, a5, a6⟩ := p_a
    have hsw4 := hw4.size
    (try simp at hsw4)
    clear hw4
    go_wp2_with (fail)
    refine (C2.out L3.out _).mono ?_
    rintro x w5 ⟨rfl, hw5⟩
    have HBw5 : Below w.heap.size w w5 := Below.trans (by go_grown) (hw5.mono (by first | omega | (simp; done) | (simp; omega)))
    have p_a : Bx3 w5 (w.heap.size) (a) (b) (c) := Bx3.later hw5 (by repeat (first | assumption | (refine Bx3.new _ _ _ _ _ _ ?_; simp; done) | refine Bx3.alloc ?_ _ | refine Bx3.drew ?_ | refine Bx3.put ?_ _ _ _ | (refine Bx3.beside ?_ _ _ (by omega))))
    have p_p : Bx3 w5 (w4.heap.size) (px) (py) (pz) := Bx3.later hw5 (by repeat (first | assumption | (refine Bx3.new _ _ _ _ _ _ ?_; simp; done) | refine Bx3.alloc ?_ _ | refine Bx3.drew ?_ | refine Bx3.put ?_ _ _ _ | (refine Bx3.beside ?_ _ _ (by omega))))
    clear q_a a0 a1 a2 a3 a4 a5 a6
    have q_a := p_a
    obtain ⟨a0, a1, a2, a3, a4, a5, a6⟩ := p_a
    have q_p := p_p
    obtain ⟨p0, p1, p2, p3, p4, p5, p6⟩ := p_p
    have hsw5 := hw5.size
    (try simp at hsw5)
    clear hw5
    go_wp2_with (fail)
    refine (C3.out _ ((HL.out.later HBw5).alloc _)).mono ?_
    rintro x w6 ⟨rfl, hw6⟩
    have HBw6 : Below w.heap.size w w6 := Below.trans (by go_grown) (hw6.mono (by first | omega | (simp; done) | (simp; omega)))
    have p_p : Bx3 w6 (w4.heap.size) (px) (py) (pz) := Bx3.later hw6 (by repeat (first | assumption | (refine Bx3.new _ _ _ _ _ _ ?_; simp; done) | refine Bx3.alloc ?_ _ | refine Bx3.drew ?_ | refine Bx3.put ?_ _ _ _ | (refine Bx3.beside ?_ _ _ (by omega))))
    have p_q : Bx3 w6 (w5.heap.size) (px) (py) (pz) := Bx3.later hw6 (by repeat (first | assumption | (refine Bx3.new _ _ _ _ _ _ ?_; simp; done) | refine Bx3.alloc ?_ _ | refine Bx3.drew ?_ | refine Bx3.put ?_ _ _ _ | (refine Bx3.beside ?_ _ _ (by omega))))
    clear q_p p0 p1 p2 p3 p4 p5 p6
    have q_p := p_p
    obtain ⟨p0, p1, p2, p3, p4, p5, p6⟩ := p_p
    have q_q := p_q
    obtain ⟨q0, q1, q2, q3, q4, q5, q6⟩ := p_q
    have hsw6 := hw6.size
    (try simp at hsw6)
    clear hw6
    go_wp2
    go_ret
    exact ⟨rfl, by go_grown⟩
  · rw [right_no k]
    obtain rfl := TN.out k
    clear k
    go_wp2_with (fail)
    refine (C1.out _ (HL.out.later HBw2)).mono ?_
    rintro x w4 ⟨rfl, hw4⟩
    have HBw4 : Below w.heap.size w w4 := Below.trans (by go_grown) (hw4.mono (by first | omega | (simp; done) | (simp; omega)))
    have p_a : Bx3 w4 (w.heap.size) (a) (b) (c) := Bx3.later hw4 (by repeat (first | assumption | (refine Bx3.new _ _ _ _ _ _ ?_; simp; done) | refine Bx3.alloc ?_ _ | refine Bx3.drew ?_ | refine Bx3.put ?_ _ _ _ | (refine Bx3.beside ?_ _ _ (by omega))))
    clear q_a a0 a1 a2 a3 a4 a5 a6
    have q_a := p_a
    obtain ⟨a0, a1, a2, a3, a4, a5, a6⟩ := p_a
    have hsw4 := hw4.size
    (try simp at hsw4)
    clear hw4
    go_wp2_with (fail)
    refine (C2.out L3.out _).mono ?_
    rintro x w5 ⟨rfl, hw5⟩
    have HBw5 : Below w.heap.size w w5 := Below.trans (by go_grown) (hw5.mono (by first | omega | (simp; done) | (simp; omega)))
    have p_a : Bx3 w5 (w.heap.size) (a) (b) (c) := Bx3.later hw5 (by repeat (first | assumption | (refine Bx3.new _ _ _ _ _ _ ?_; simp; done) | refine Bx3.alloc ?_ _ | refine Bx3.drew ?_ | refine Bx3.put ?_ _ _ _ | (refine Bx3.beside ?_ _ _ (by omega))))
    have p_p : Bx3 w5 (w4.heap.size) (px) (py) (pz) := Bx3.later hw5 (by repeat (first | assumption | (refine Bx3.new _ _ _ _ _ _ ?_; simp; done) | refine Bx3.alloc ?_ _ | refine Bx3.drew ?_ | refine Bx3.put ?_ _ _ _ | (refine Bx3.beside ?_ _ _ (by omega))))
    clear q_a a0 a1 a2 a3 a4 a5 a6
    have q_a := p_a
    obtain ⟨a0, a1, a2, a3, a4, a5, a6⟩ := p_a
    have q_p := p_p
    obtain ⟨p0, p1, p2, p3, p4, p5, p6⟩ := p_p
    have hsw5 := hw5.size
    (try simp at hsw5)
    clear hw5
    go_wp2_with (fail)
    refine (C3.out _ ((HL.out.later HBw5).alloc _)).mono ?_
    rintro x w6 ⟨rfl, hw6⟩
    have HBw6 : Below w.heap.size w w6 := Below.trans (by go_grown) (hw6.mono (by first | omega | (simp; done) | (simp; omega)))
    have p_p : Bx3 w6 (w4.heap.size) (px) (py) (pz) := Bx3.later hw6 (by repeat (first | assumption | (refine Bx3.new _ _ _ _ _ _ ?_; simp; done) | refine Bx3.alloc ?_ _ | refine Bx3.drew ?_ | refine Bx3.put ?_ _ _ _ | (refine Bx3.beside ?_ _ _ (by omega))))
    have p_q : Bx3 w6 (w5.heap.size) (px) (py) (pz) := Bx3.later hw6 (by repeat (first | assumption | (refine Bx3.new _ _ _ _ _ _ ?_; simp; done) | refine Bx3.alloc ?_ _ | refine Bx3.drew ?_ | refine Bx3.put ?_ _ _ _ | (refine Bx3.beside ?_ _ _ (by omega))))
    clear q_p p0 p1 p2 p3 p4 p5 p6
    have q_p := p_p
    obtain ⟨p0, p1, p2, p3, p4, p5, p6⟩ := p_p
    have q_q := p_q
    obtain ⟨q0, q1, q2, q3, q4, q5, q6⟩ := p_q
    have hsw6 := hw6.size
    (try simp at hsw6)
    clear hw6
    go_wp2
    go_ret
    exact ⟨rfl, by go_grown⟩

end Go.Proofs.YtpbgolcimbjekaaGreatDoor
