/-
  What must be answered ahead of everything else, of package vector at this program. Conditions: the tables of the program lie as its text lays them.
-/
import Derived.Test.YtpbgolcimbjekaaGreatDoorQ21
import Derived.Test.YtpbgolcimbjekaaGreatDoorQ22
namespace Go.Proofs.YtpbgolcimbjekaaGreatDoor
open Go.RowKit

theorem vtext_is (c m h : Int) (w : World) (hL : LaidV w) :
    Calls Tryz.prog 9 #[.agg #[.int .i64 c, .int .i64 m, .int .i64 h]] w fun e w' => e = .returned (.string ⟨(textV (c, m, h)).toArray⟩) ∧ Below w.heap.size w w' := by
  unfold textV
  by_cases k : Rt c m h
  · rw [if_pos k]
    by_cases z : c = 0 ∧ m = 0 ∧ h = 0
    · obtain ⟨rfl, rfl, rfl⟩ := z
      exact vtext_zero w hL
    · rw [if_neg (fun e => z (by have := pts_none.1 e; injection this with a b; injection b with b d; exact ⟨a, b, d⟩))]
      exact vtext_some c m h w hL k z
  · rw [if_neg k]
    exact vtext_wrong c m h w hL k

theorem vf_p1 (w : World) (hL : LaidV w) : Calls Tryz.prog 7 #[.string ⟨#[99, 112, 117, 61, 53, 48, 48, 109, 44, 109, 101, 109, 111, 114, 121, 61, 49, 71, 105]⟩] w fun e w' => e = .returned (.tuple #[.agg #[.int .i64 500, .int .i64 1073741824, .int .i64 0], .int .i64 0]) ∧ Below w.heap.size w w' := by
  have e : parseV [99, 112, 117, 61, 53, 48, 48, 109, 44, 109, 101, 109, 111, 114, 121, 61, 49, 71, 105] = ((500, 1073741824, 0), 0) := by decide +kernel
  have := vparse_is ⟨#[99, 112, 117, 61, 53, 48, 48, 109, 44, 109, 101, 109, 111, 114, 121, 61, 49, 71, 105]⟩ (by decide) w hL
  rw [show (⟨#[99, 112, 117, 61, 53, 48, 48, 109, 44, 109, 101, 109, 111, 114, 121, 61, 49, 71, 105]⟩ : ByteArray).data.toList = [99, 112, 117, 61, 53, 48, 48, 109, 44, 109, 101, 109, 111, 114, 121, 61, 49, 71, 105] from rfl, e] at this
  exact this
theorem vf_p2 (w : World) (hL : LaidV w) : Calls Tryz.prog 7 #[.string ⟨#[99, 112, 117, 61, 49, 44, 99, 112, 117, 61, 50]⟩] w fun e w' => e = .returned (.tuple #[.agg #[.int .i64 0, .int .i64 0, .int .i64 0], .int .i64 11]) ∧ Below w.heap.size w w' := by
  have e : parseV [99, 112, 117, 61, 49, 44, 99, 112, 117, 61, 50] = ((0, 0, 0), 11) := by decide +kernel
  have := vparse_is ⟨#[99, 112, 117, 61, 49, 44, 99, 112, 117, 61, 50]⟩ (by decide) w hL
  rw [show (⟨#[99, 112, 117, 61, 49, 44, 99, 112, 117, 61, 50]⟩ : ByteArray).data.toList = [99, 112, 117, 61, 49, 44, 99, 112, 117, 61, 50] from rfl, e] at this
  exact this
theorem vf_a (w : World) (hL : LaidV w) : Calls Tryz.prog 10 #[.agg #[.int .i64 500, .int .i64 1073741824, .int .i64 0], .agg #[.int .i64 1, .int .i64 0, .int .i64 2097152]] w fun e w' => e = .returned (.tuple #[.agg #[.int .i64 501, .int .i64 1073741824, .int .i64 2097152], .bool true]) ∧ Below w.heap.size w w' := by
  have := vadd_any 500 1073741824 0 1 0 2097152 w hL
  rw [show both (500, 1073741824, 0) (1, 0, 2097152) (500 + 1, 1073741824 + 0, 0 + 2097152) = some (501, 1073741824, 2097152) by decide +kernel] at this
  exact this
theorem vf_s (w : World) (hL : LaidV w) : Calls Tryz.prog 11 #[.agg #[.int .i64 500, .int .i64 1073741824, .int .i64 0], .agg #[.int .i64 501, .int .i64 1073741824, .int .i64 2097152]] w fun e w' => e = .returned (.tuple #[.agg #[.int .i64 0, .int .i64 0, .int .i64 0], .bool false]) ∧ Below w.heap.size w w' := by
  have := vsub_any 500 1073741824 0 501 1073741824 2097152 w hL
  rw [show both (500, 1073741824, 0) (501, 1073741824, 2097152) (500 - 501, 1073741824 - 1073741824, 0 - 2097152) = none by decide +kernel] at this
  exact this
theorem vf_t (w : World) (hL : LaidV w) : Calls Tryz.prog 9 #[.agg #[.int .i64 501, .int .i64 1073741824, .int .i64 2097152]] w fun e w' => e = .returned (.string ⟨#[99, 112, 117, 61, 53, 48, 49, 109, 44, 109, 101, 109, 111, 114, 121, 61, 49, 71, 105, 44, 104, 117, 103, 101, 112, 97, 103, 101, 115, 61, 50, 77, 105]⟩) ∧ Below w.heap.size w w' := by
  have := vtext_is 501 1073741824 2097152 w hL
  rw [show textV (501, 1073741824, 2097152) = [99, 112, 117, 61, 53, 48, 49, 109, 44, 109, 101, 109, 111, 114, 121, 61, 49, 71, 105, 44, 104, 117, 103, 101, 112, 97, 103, 101, 115, 61, 50, 77, 105] by decide +kernel] at this
  exact this
theorem vf_r (w : World) (hL : LaidV w) : Calls Tryz.prog 13 #[.agg #[.int .i64 501, .int .i64 1073741824, .int .i64 2097152]] w fun e w' => e = .returned (.bool true) ∧ Below w.heap.size w w' := by
  have := right_any 501 1073741824 2097152 w hL
  rwa [show rightB 501 1073741824 2097152 = true by decide +kernel] at this
theorem vf_f (w : World) : Calls Tryz.prog 12 #[.agg #[.int .i64 500, .int .i64 1073741824, .int .i64 0], .agg #[.int .i64 501, .int .i64 1073741824, .int .i64 2097152]] w fun e w' => e = .returned (.bool true) ∧ Below w.heap.size w w' := by
  have := vfits_any 500 1073741824 0 501 1073741824 2097152 w
  rwa [show fitsB 500 1073741824 0 501 1073741824 2097152 = true by decide +kernel] at this
theorem vf_u (w : World) : Calls Tryz.prog 15 #[.agg #[.int .i64 500, .int .i64 1073741824, .int .i64 0], .agg #[.int .i64 501, .int .i64 1073741824, .int .i64 2097152]] w fun e w' => e = .returned (.agg #[.bool true, .bool false, .bool true]) ∧ Below w.heap.size w w' :=
  unlike_any 500 1073741824 0 501 1073741824 2097152 w
theorem vf_at (w : World) : Calls Tryz.prog 14 #[.agg #[.int .i64 501, .int .i64 1073741824, .int .i64 2097152], .int .i64 2] w fun e w' => e = .returned (.int .i64 2097152) ∧ Below w.heap.size w w' :=
  at_any 501 1073741824 2097152 2 w

theorem same3 (x y z : Bool) (w : World) : Sem.run Tryz.prog (Op.equalIn 10000 37 (.agg #[.bool x, .bool y, .bool z]) (.agg #[.bool x, .bool y, .bool z])) w = .ok true w := by
  cases x <;> cases y <;> cases z <;> kernel_rfl

set_option maxHeartbeats 4000000 in
set_option maxRecDepth 100000 in
theorem vfirst_is (w : World) (hL : LaidV w) :
    Calls Tryz.prog 4 #[] w fun e w' => e = .returned (.bool true) ∧ Below w.heap.size w w' := by
  have HL : Hid (LaidV w) := hL
  clear hL
  go_enter Tryz.func4, Tryz.ntmps4
  go_wp2_with (fail)
  refine (vf_p1 _ HL.out).mono ?_
  rintro e w1 ⟨rfl, hw1⟩
  have HBw1 : Below w.heap.size w w1 := Below.trans (by go_grown) (hw1.mono (by first | omega | (simp; done) | (simp; omega)))
  have hsw1 := hw1.size
  (try simp at hsw1)
  clear hw1
  go_wp2_with (fail)
  refine (vf_a _ ((HL.out.later HBw1).alloc _)).mono ?_
  rintro e w2 ⟨rfl, hw2⟩
  have HBw2 : Below w.heap.size w w2 := Below.trans (by go_grown) (hw2.mono (by first | omega | (simp; done) | (simp; omega)))
  have p_a : Bx3 w2 (w1.heap.size) (500) (1073741824) (0) := Bx3.later hw2 (by repeat (first | assumption | (refine Bx3.new _ _ _ _ _ _ ?_; simp; done) | refine Bx3.alloc ?_ _ | refine Bx3.drew ?_ | refine Bx3.put ?_ _ _ _ | (refine Bx3.beside ?_ _ _ (by omega))))
  have q_a := p_a
  obtain ⟨a0, a1, a2, a3, a4, a5, a6⟩ := p_a
  have hsw2 := hw2.size
  (try simp at hsw2)
  clear hw2
  go_wp2_with (fail)
  refine (vf_s _ ((HL.out.later HBw2).alloc _)).mono ?_
  rintro e w3 ⟨rfl, hw3⟩
  have HBw3 : Below w.heap.size w w3 := Below.trans (by go_grown) (hw3.mono (by first | omega | (simp; done) | (simp; omega)))
  have p_a : Bx3 w3 (w1.heap.size) (500) (1073741824) (0) := Bx3.later hw3 (by repeat (first | assumption | (refine Bx3.new _ _ _ _ _ _ ?_; simp; done) | refine Bx3.alloc ?_ _ | refine Bx3.drew ?_ | refine Bx3.put ?_ _ _ _ | (refine Bx3.beside ?_ _ _ (by omega))))
  have p_s : Bx3 w3 (w2.heap.size) (501) (1073741824) (2097152) := Bx3.later hw3 (by repeat (first | assumption | (refine Bx3.new _ _ _ _ _ _ ?_; simp; done) | refine Bx3.alloc ?_ _ | refine Bx3.drew ?_ | refine Bx3.put ?_ _ _ _ | (refine Bx3.beside ?_ _ _ (by omega))))
  clear q_a a0 a1 a2 a3 a4 a5 a6
  have q_a := p_a
  obtain ⟨a0, a1, a2, a3, a4, a5, a6⟩ := p_a
  have q_s := p_s
  obtain ⟨s0, s1, s2, s3, s4, s5, s6⟩ := p_s
  have hsw3 := hw3.size
  (try simp at hsw3)
  clear hw3
  go_wp2_with (fail)
  refine (vf_p2 _ ((HL.out.later HBw3).alloc _)).mono ?_
  rintro e w4 ⟨rfl, hw4⟩
  have HBw4 : Below w.heap.size w w4 := Below.trans (by go_grown) (hw4.mono (by first | omega | (simp; done) | (simp; omega)))
  have p_a : Bx3 w4 (w1.heap.size) (500) (1073741824) (0) := Bx3.later hw4 (by repeat (first | assumption | (refine Bx3.new _ _ _ _ _ _ ?_; simp; done) | refine Bx3.alloc ?_ _ | refine Bx3.drew ?_ | refine Bx3.put ?_ _ _ _ | (refine Bx3.beside ?_ _ _ (by omega))))
  have p_s : Bx3 w4 (w2.heap.size) (501) (1073741824) (2097152) := Bx3.later hw4 (by repeat (first | assumption | (refine Bx3.new _ _ _ _ _ _ ?_; simp; done) | refine Bx3.alloc ?_ _ | refine Bx3.drew ?_ | refine Bx3.put ?_ _ _ _ | (refine Bx3.beside ?_ _ _ (by omega))))
  clear q_a a0 a1 a2 a3 a4 a5 a6
  clear q_s s0 s1 s2 s3 s4 s5 s6
  have q_a := p_a
  obtain ⟨a0, a1, a2, a3, a4, a5, a6⟩ := p_a
  have q_s := p_s
  obtain ⟨s0, s1, s2, s3, s4, s5, s6⟩ := p_s
  have hsw4 := hw4.size
  (try simp at hsw4)
  clear hw4
  go_wp2_with (fail)
  refine (vf_t _ ((HL.out.later HBw4).alloc _)).mono ?_
  rintro e w5 ⟨rfl, hw5⟩
  have HBw5 : Below w.heap.size w w5 := Below.trans (by go_grown) (hw5.mono (by first | omega | (simp; done) | (simp; omega)))
  have p_a : Bx3 w5 (w1.heap.size) (500) (1073741824) (0) := Bx3.later hw5 (by repeat (first | assumption | (refine Bx3.new _ _ _ _ _ _ ?_; simp; done) | refine Bx3.alloc ?_ _ | refine Bx3.drew ?_ | refine Bx3.put ?_ _ _ _ | (refine Bx3.beside ?_ _ _ (by omega))))
  have p_s : Bx3 w5 (w2.heap.size) (501) (1073741824) (2097152) := Bx3.later hw5 (by repeat (first | assumption | (refine Bx3.new _ _ _ _ _ _ ?_; simp; done) | refine Bx3.alloc ?_ _ | refine Bx3.drew ?_ | refine Bx3.put ?_ _ _ _ | (refine Bx3.beside ?_ _ _ (by omega))))
  clear q_a a0 a1 a2 a3 a4 a5 a6
  clear q_s s0 s1 s2 s3 s4 s5 s6
  have q_a := p_a
  obtain ⟨a0, a1, a2, a3, a4, a5, a6⟩ := p_a
  have q_s := p_s
  obtain ⟨s0, s1, s2, s3, s4, s5, s6⟩ := p_s
  have hsw5 := hw5.size
  (try simp at hsw5)
  clear hw5
  go_wp2_with (fail)
  refine (vf_f _).mono ?_
  rintro e w6 ⟨rfl, hw6⟩
  have HBw6 : Below w.heap.size w w6 := Below.trans (by go_grown) (hw6.mono (by first | omega | (simp; done) | (simp; omega)))
  have p_a : Bx3 w6 (w1.heap.size) (500) (1073741824) (0) := Bx3.later hw6 (by repeat (first | assumption | (refine Bx3.new _ _ _ _ _ _ ?_; simp; done) | refine Bx3.alloc ?_ _ | refine Bx3.drew ?_ | refine Bx3.put ?_ _ _ _ | (refine Bx3.beside ?_ _ _ (by omega))))
  have p_s : Bx3 w6 (w2.heap.size) (501) (1073741824) (2097152) := Bx3.later hw6 (by repeat (first | assumption | (refine Bx3.new _ _ _ _ _ _ ?_; simp; done) | refine Bx3.alloc ?_ _ | refine Bx3.drew ?_ | refine Bx3.put ?_ _ _ _ | (refine Bx3.beside ?_ _ _ (by omega))))
  clear q_a a0 a1 a2 a3 a4 a5 a6
  clear q_s s0 s1 s2 s3 s4 s5 s6
  have q_a := p_a
  obtain ⟨a0, a1, a2, a3, a4, a5, a6⟩ := p_a
  have q_s := p_s
  obtain ⟨s0, s1, s2, s3, s4, s5, s6⟩ := p_s
  have hsw6 := hw6.size
  (try simp at hsw6)
  clear hw6
  go_wp2_with (fail)
  refine (vf_r _ (HL.out.later HBw6)).mono ?_
  rintro e w7 ⟨rfl, hw7⟩
  have HBw7 : Below w.heap.size w w7 := Below.trans (by go_grown) (hw7.mono (by first | omega | (simp; done) | (simp; omega)))
  have p_a : Bx3 w7 (w1.heap.size) (500) (1073741824) (0) := Bx3.later hw7 (by repeat (first | assumption | (refine Bx3.new _ _ _ _ _ _ ?_; simp; done) | refine Bx3.alloc ?_ _ | refine Bx3.drew ?_ | refine Bx3.put ?_ _ _ _ | (refine Bx3.beside ?_ _ _ (by omega))))
  have p_s : Bx3 w7 (w2.heap.size) (501) (1073741824) (2097152) := Bx3.later hw7 (by repeat (first | assumption | (refine Bx3.new _ _ _ _ _ _ ?_; simp; done) | refine Bx3.alloc ?_ _ | refine Bx3.drew ?_ | refine Bx3.put ?_ _ _ _ | (refine Bx3.beside ?_ _ _ (by omega))))
  clear q_a a0 a1 a2 a3 a4 a5 a6
  clear q_s s0 s1 s2 s3 s4 s5 s6
  have q_a := p_a
  obtain ⟨a0, a1, a2, a3, a4, a5, a6⟩ := p_a
  have q_s := p_s
  obtain ⟨s0, s1, s2, s3, s4, s5, s6⟩ := p_s
  have hsw7 := hw7.size
  (try simp at hsw7)
  clear hw7
  go_wp2_with (fail)
  refine (vf_at _).mono ?_
  rintro e w8 ⟨rfl, hw8⟩
  have HBw8 : Below w.heap.size w w8 := Below.trans (by go_grown) (hw8.mono (by first | omega | (simp; done) | (simp; omega)))
  have p_a : Bx3 w8 (w1.heap.size) (500) (1073741824) (0) := Bx3.later hw8 (by repeat (first | assumption | (refine Bx3.new _ _ _ _ _ _ ?_; simp; done) | refine Bx3.alloc ?_ _ | refine Bx3.drew ?_ | refine Bx3.put ?_ _ _ _ | (refine Bx3.beside ?_ _ _ (by omega))))
  have p_s : Bx3 w8 (w2.heap.size) (501) (1073741824) (2097152) := Bx3.later hw8 (by repeat (first | assumption | (refine Bx3.new _ _ _ _ _ _ ?_; simp; done) | refine Bx3.alloc ?_ _ | refine Bx3.drew ?_ | refine Bx3.put ?_ _ _ _ | (refine Bx3.beside ?_ _ _ (by omega))))
  clear q_a a0 a1 a2 a3 a4 a5 a6
  clear q_s s0 s1 s2 s3 s4 s5 s6
  have q_a := p_a
  obtain ⟨a0, a1, a2, a3, a4, a5, a6⟩ := p_a
  have q_s := p_s
  obtain ⟨s0, s1, s2, s3, s4, s5, s6⟩ := p_s
  have hsw8 := hw8.size
  (try simp at hsw8)
  clear hw8
  go_wp2_with (fail)
  refine (vf_u _).mono ?_
  rintro e w9 ⟨rfl, hw9⟩
  have HBw9 : Below w.heap.size w w9 := Below.trans (by go_grown) (hw9.mono (by first | omega | (simp; done) | (simp; omega)))
  have hsw9 := hw9.size
  (try simp at hsw9)
  clear hw9
  have sm : ∀ w : World, Sem.run Tryz.prog (Op.equalIn 10000 37 (.agg #[.bool true, .bool false, .bool true]) (.agg #[.bool true, .bool false, .bool true])) w = .ok true w := same3 true false true
  go_wp2_with (fail)
  refine (vtext_zero _ (HL.out.later HBw9)).mono ?_
  rintro e w10 ⟨rfl, hw10⟩
  have HBw10 : Below w.heap.size w w10 := Below.trans (by go_grown) (hw10.mono (by first | omega | (simp; done) | (simp; omega)))
  have hsw10 := hw10.size
  (try simp at hsw10)
  clear hw10
  go_wp2
  go_ret
  exact ⟨rfl, HBw10⟩

end Go.Proofs.YtpbgolcimbjekaaGreatDoor
