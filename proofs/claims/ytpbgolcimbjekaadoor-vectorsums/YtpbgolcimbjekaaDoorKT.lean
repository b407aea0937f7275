/-
  VectorSums of this program: true for every two vectors and every list of vectors. Conditions: the tables of the program lie as its text lays them; the list reads as a list of vectors.
-/
import Derived.Test.YtpbgolcimbjekaaDoorKS
namespace Go.Proofs.YtpbgolcimbjekaaDoor
open Go.RowKit

theorem vo_ex (o : Option (Int × Int × Int)) : ∃ (x y z : Int) (g : Bool), vo o = .tuple #[.agg #[.int .i64 x, .int .i64 y, .int .i64 z], .bool g] := ⟨_, _, _, _, rfl⟩

set_option maxHeartbeats 4000000 in
set_option maxRecDepth 100000 in
theorem vectorSums_any (a b c d e f : Int) {v : Value} {zs : List (Int × Int × Int)} (w : World) (hL : LaidV w) (h : RdV w v zs) :
    Calls Tryd.prog 4 #[.agg #[.int .i64 a, .int .i64 b, .int .i64 c], .agg #[.int .i64 d, .int .i64 e, .int .i64 f], v] w fun x w' => x = .returned (.bool true) ∧ Below w.heap.size w w' := by
  have HL : Hid (LaidV w) := hL
  have HZ : Hid (RdV w v zs) := h
  obtain ⟨xa, ya, za, ga, ea⟩ := vo_ex (both (a, b, c) (d, e, f) (a + d, b + e, c + f))
  obtain ⟨xs, ys, zs', gs, es⟩ := vo_ex (both (a, b, c) (d, e, f) (a - d, b - e, c - f))
  obtain ⟨xt, yt, zt, gt, et⟩ := vo_ex (sumL (0, 0, 0) zs)
  have C1 : Hid (∀ w, LaidV w → Calls Tryd.prog 14 #[.agg #[.int .i64 a, .int .i64 b, .int .i64 c], .agg #[.int .i64 d, .int .i64 e, .int .i64 f]] w fun x w' => x = .returned (.tuple #[.agg #[.int .i64 xa, .int .i64 ya, .int .i64 za], .bool ga]) ∧ Below w.heap.size w w') := fun w hL => by rw [← ea]; exact vadd_any a b c d e f w hL
  have C2 : Hid (∀ w, Calls Tryd.prog 15 #[.agg #[.int .i64 a, .int .i64 b, .int .i64 c], .agg #[.int .i64 d, .int .i64 e, .int .i64 f]] w fun x w' => x = .returned (.tuple #[.agg #[.int .i64 xa, .int .i64 ya, .int .i64 za], .bool ga]) ∧ Below w.heap.size w w') := fun w => by rw [← ea]; exact radd_any a b c d e f w
  have C3 : Hid (∀ w, LaidV w → Calls Tryd.prog 16 #[.agg #[.int .i64 a, .int .i64 b, .int .i64 c], .agg #[.int .i64 d, .int .i64 e, .int .i64 f]] w fun x w' => x = .returned (.tuple #[.agg #[.int .i64 xs, .int .i64 ys, .int .i64 zs'], .bool gs]) ∧ Below w.heap.size w w') := fun w hL => by rw [← es]; exact vsub_any a b c d e f w hL
  have C4 : Hid (∀ w, Calls Tryd.prog 17 #[.agg #[.int .i64 a, .int .i64 b, .int .i64 c], .agg #[.int .i64 d, .int .i64 e, .int .i64 f]] w fun x w' => x = .returned (.tuple #[.agg #[.int .i64 xs, .int .i64 ys, .int .i64 zs'], .bool gs]) ∧ Below w.heap.size w w') := fun w => by rw [← es]; exact rsub_any a b c d e f w
  have C5 : Hid (∀ w, LaidV w → RdV w v zs → Calls Tryd.prog 18 #[v] w fun x w' => x = .returned (.tuple #[.agg #[.int .i64 xt, .int .i64 yt, .int .i64 zt], .bool gt]) ∧ Below w.heap.size w w') := fun w hL h => by rw [← et]; exact vsum_any w hL h
  have C6 : Hid (∀ w, RdV w v zs → Calls Tryd.prog 19 #[v] w fun x w' => x = .returned (.tuple #[.agg #[.int .i64 xt, .int .i64 yt, .int .i64 zt], .bool gt]) ∧ Below w.heap.size w w') := fun w h => by rw [← et]; exact refSum_any w h
  clear ea es et hL
  obtain ⟨ad, cap, rfl, h1, h2, -⟩ := h
  have zl : zs.length ≤ maxLen := by omega
  unfold maxLen at zl
  go_enter Tryd.func4, Tryd.ntmps4
  go_wp2_with (fail)
  refine (vfirst_is _ ((HL.out.alloc _).alloc _)).mono ?_
  rintro x w1 ⟨rfl, hw1⟩
  have HBw1 : Below w.heap.size w w1 := Below.trans (by go_grown) (hw1.mono (by first | omega | (simp; done) | (simp; omega)))
  have p_a : Bx3 w1 (w.heap.size) (a) (b) (c) := Bx3.later hw1 (by repeat (first | assumption | (refine Bx3.new _ _ _ _ _ _ ?_; simp; done) | refine Bx3.alloc ?_ _ | refine Bx3.drew ?_ | refine Bx3.put ?_ _ _ _ | (refine Bx3.beside ?_ _ _ (by omega))))
  have p_d : Bx3 w1 (w.heap.size + 1) (d) (e) (f) := Bx3.later hw1 (by repeat (first | assumption | (refine Bx3.new _ _ _ _ _ _ ?_; simp; done) | refine Bx3.alloc ?_ _ | refine Bx3.drew ?_ | refine Bx3.put ?_ _ _ _ | (refine Bx3.beside ?_ _ _ (by omega))))
  have q_a := p_a
  obtain ⟨a0, a1, a2, a3, a4, a5, a6⟩ := p_a
  have q_d := p_d
  obtain ⟨d0, d1, d2, d3, d4, d5, d6⟩ := p_d
  have hsw1 := hw1.size
  (try simp at hsw1)
  clear hw1
  by_cases hl : 200 < zs.length
  · have hl' : (200 : Int) < (zs.length : Int) := by omega
    go_wp2
    go_ret
    exact ⟨rfl, by go_grown⟩
  have hl' : ¬ (200 : Int) < (zs.length : Int) := by omega
  go_wp2_with (fail)
  refine (C1.out _ (HL.out.later HBw1)).mono ?_
  rintro x w2 ⟨rfl, hw2⟩
  have HBw2 : Below w.heap.size w w2 := Below.trans (by go_grown) (hw2.mono (by first | omega | (simp; done) | (simp; omega)))
  have p_a : Bx3 w2 (w.heap.size) (a) (b) (c) := Bx3.later hw2 (by repeat (first | assumption | (refine Bx3.new _ _ _ _ _ _ ?_; simp; done) | refine Bx3.alloc ?_ _ | refine Bx3.drew ?_ | refine Bx3.put ?_ _ _ _ | (refine Bx3.beside ?_ _ _ (by omega))))
  have p_d : Bx3 w2 (w.heap.size + 1) (d) (e) (f) := Bx3.later hw2 (by repeat (first | assumption | (refine Bx3.new _ _ _ _ _ _ ?_; simp; done) | refine Bx3.alloc ?_ _ | refine Bx3.drew ?_ | refine Bx3.put ?_ _ _ _ | (refine Bx3.beside ?_ _ _ (by omega))))
  clear q_a a0 a1 a2 a3 a4 a5 a6
  clear q_d d0 d1 d2 d3 d4 d5 d6
  have q_a := p_a
  obtain ⟨a0, a1, a2, a3, a4, a5, a6⟩ := p_a
  have q_d := p_d
  obtain ⟨d0, d1, d2, d3, d4, d5, d6⟩ := p_d
  have hsw2 := hw2.size
  (try simp at hsw2)
  clear hw2
  go_wp2_with (fail)
  refine (C2.out _).mono ?_
  rintro x w3 ⟨rfl, hw3⟩
  have HBw3 : Below w.heap.size w w3 := Below.trans (by go_grown) (hw3.mono (by first | omega | (simp; done) | (simp; omega)))
  have p_a : Bx3 w3 (w.heap.size) (a) (b) (c) := Bx3.later hw3 (by repeat (first | assumption | (refine Bx3.new _ _ _ _ _ _ ?_; simp; done) | refine Bx3.alloc ?_ _ | refine Bx3.drew ?_ | refine Bx3.put ?_ _ _ _ | (refine Bx3.beside ?_ _ _ (by omega))))
  have p_d : Bx3 w3 (w.heap.size + 1) (d) (e) (f) := Bx3.later hw3 (by repeat (first | assumption | (refine Bx3.new _ _ _ _ _ _ ?_; simp; done) | refine Bx3.alloc ?_ _ | refine Bx3.drew ?_ | refine Bx3.put ?_ _ _ _ | (refine Bx3.beside ?_ _ _ (by omega))))
  have p_p : Bx3 w3 (w2.heap.size) (xa) (ya) (za) := Bx3.later hw3 (by repeat (first | assumption | (refine Bx3.new _ _ _ _ _ _ ?_; simp; done) | refine Bx3.alloc ?_ _ | refine Bx3.drew ?_ | refine Bx3.put ?_ _ _ _ | (refine Bx3.beside ?_ _ _ (by omega))))
  clear q_a a0 a1 a2 a3 a4 a5 a6
  clear q_d d0 d1 d2 d3 d4 d5 d6
  have q_a := p_a
  obtain ⟨a0, a1, a2, a3, a4, a5, a6⟩ := p_a
  have q_d := p_d
  obtain ⟨d0, d1, d2, d3, d4, d5, d6⟩ := p_d
  have q_p := p_p
  obtain ⟨p0, p1, p2, p3, p4, p5, p6⟩ := p_p
  have hsw3 := hw3.size
  (try simp at hsw3)
  clear hw3
  go_wp2_with (fail)
  refine (C3.out _ ((HL.out.later HBw3).alloc _)).mono ?_
  rintro x w4 ⟨rfl, hw4⟩
  have HBw4 : Below w.heap.size w w4 := Below.trans (by go_grown) (hw4.mono (by first | omega | (simp; done) | (simp; omega)))
  have p_a : Bx3 w4 (w.heap.size) (a) (b) (c) := Bx3.later hw4 (by repeat (first | assumption | (refine Bx3.new _ _ _ _ _ _ ?_; simp; done) | refine Bx3.alloc ?_ _ | refine Bx3.drew ?_ | refine Bx3.put ?_ _ _ _ | (refine Bx3.beside ?_ _ _ (by omega))))
  have p_d : Bx3 w4 (w.heap.size + 1) (d) (e) (f) := Bx3.later hw4 (by repeat (first | assumption | (refine Bx3.new _ _ _ _ _ _ ?_; simp; done) | refine Bx3.alloc ?_ _ | refine Bx3.drew ?_ | refine Bx3.put ?_ _ _ _ | (refine Bx3.beside ?_ _ _ (by omega))))
  have p_p : Bx3 w4 (w2.heap.size) (xa) (ya) (za) := Bx3.later hw4 (by repeat (first | assumption | (refine Bx3.new _ _ _ _ _ _ ?_; simp; done) | refine Bx3.alloc ?_ _ | refine Bx3.drew ?_ | refine Bx3.put ?_ _ _ _ | (refine Bx3.beside ?_ _ _ (by omega))))
  have p_q : Bx3 w4 (w3.heap.size) (xa) (ya) (za) := Bx3.later hw4 (by repeat (first | assumption | (refine Bx3.new _ _ _ _ _ _ ?_; simp; done) | refine Bx3.alloc ?_ _ | refine Bx3.drew ?_ | refine Bx3.put ?_ _ _ _ | (refine Bx3.beside ?_ _ _ (by omega))))
  clear q_a a0 a1 a2 a3 a4 a5 a6
  clear q_d d0 d1 d2 d3 d4 d5 d6
  clear q_p p0 p1 p2 p3 p4 p5 p6
  have q_a := p_a
  obtain ⟨a0, a1, a2, a3, a4, a5, a6⟩ := p_a
  have q_d := p_d
  obtain ⟨d0, d1, d2, d3, d4, d5, d6⟩ := p_d
  have q_p := p_p
  obtain ⟨p0, p1, p2, p3, p4, p5, p6⟩ := p_p
  have q_q := p_q
  obtain ⟨q0, q1, q2, q3, q4, q5, q6⟩ := p_q
  have hsw4 := hw4.size
  (try simp at hsw4)
  clear hw4
  go_wp2_with (fail)
  refine (C4.out _).mono ?_
  rintro x w5 ⟨rfl, hw5⟩
  have HBw5 : Below w.heap.size w w5 := Below.trans (by go_grown) (hw5.mono (by first | omega | (simp; done) | (simp; omega)))
  have p_p : Bx3 w5 (w2.heap.size) (xa) (ya) (za) := Bx3.later hw5 (by repeat (first | assumption | (refine Bx3.new _ _ _ _ _ _ ?_; simp; done) | refine Bx3.alloc ?_ _ | refine Bx3.drew ?_ | refine Bx3.put ?_ _ _ _ | (refine Bx3.beside ?_ _ _ (by omega))))
  have p_q : Bx3 w5 (w3.heap.size) (xa) (ya) (za) := Bx3.later hw5 (by repeat (first | assumption | (refine Bx3.new _ _ _ _ _ _ ?_; simp; done) | refine Bx3.alloc ?_ _ | refine Bx3.drew ?_ | refine Bx3.put ?_ _ _ _ | (refine Bx3.beside ?_ _ _ (by omega))))
  have p_r : Bx3 w5 (w4.heap.size) (xs) (ys) (zs') := Bx3.later hw5 (by repeat (first | assumption | (refine Bx3.new _ _ _ _ _ _ ?_; simp; done) | refine Bx3.alloc ?_ _ | refine Bx3.drew ?_ | refine Bx3.put ?_ _ _ _ | (refine Bx3.beside ?_ _ _ (by omega))))
  clear q_p p0 p1 p2 p3 p4 p5 p6
  clear q_q q0 q1 q2 q3 q4 q5 q6
  have q_p := p_p
  obtain ⟨p0, p1, p2, p3, p4, p5, p6⟩ := p_p
  have q_q := p_q
  obtain ⟨q0, q1, q2, q3, q4, q5, q6⟩ := p_q
  have q_r := p_r
  obtain ⟨r0, r1, r2, r3, r4, r5, r6⟩ := p_r
  have hsw5 := hw5.size
  (try simp at hsw5)
  clear hw5
  clear q_a q_d a0 a1 a2 a3 a4 a5 a6 d0 d1 d2 d3 d4 d5 d6
  go_wp2_with (fail)
  refine (C5.out _ ((HL.out.later HBw5).alloc _) (HZ.out.later (Below.alloc HBw5 HBw5.size _))).mono ?_
  rintro x w6 ⟨rfl, hw6⟩
  have HBw6 : Below w.heap.size w w6 := Below.trans (by go_grown) (hw6.mono (by first | omega | (simp; done) | (simp; omega)))
  have p_p : Bx3 w6 (w2.heap.size) (xa) (ya) (za) := Bx3.later hw6 (by repeat (first | assumption | (refine Bx3.new _ _ _ _ _ _ ?_; simp; done) | refine Bx3.alloc ?_ _ | refine Bx3.drew ?_ | refine Bx3.put ?_ _ _ _ | (refine Bx3.beside ?_ _ _ (by omega))))
  have p_q : Bx3 w6 (w3.heap.size) (xa) (ya) (za) := Bx3.later hw6 (by repeat (first | assumption | (refine Bx3.new _ _ _ _ _ _ ?_; simp; done) | refine Bx3.alloc ?_ _ | refine Bx3.drew ?_ | refine Bx3.put ?_ _ _ _ | (refine Bx3.beside ?_ _ _ (by omega))))
  have p_r : Bx3 w6 (w4.heap.size) (xs) (ys) (zs') := Bx3.later hw6 (by repeat (first | assumption | (refine Bx3.new _ _ _ _ _ _ ?_; simp; done) | refine Bx3.alloc ?_ _ | refine Bx3.drew ?_ | refine Bx3.put ?_ _ _ _ | (refine Bx3.beside ?_ _ _ (by omega))))
  have p_s : Bx3 w6 (w5.heap.size) (xs) (ys) (zs') := Bx3.later hw6 (by repeat (first | assumption | (refine Bx3.new _ _ _ _ _ _ ?_; simp; done) | refine Bx3.alloc ?_ _ | refine Bx3.drew ?_ | refine Bx3.put ?_ _ _ _ | (refine Bx3.beside ?_ _ _ (by omega))))
  clear q_p p0 p1 p2 p3 p4 p5 p6
  clear q_q q0 q1 q2 q3 q4 q5 q6
  clear q_r r0 r1 r2 r3 r4 r5 r6
  have q_p := p_p
  obtain ⟨p0, p1, p2, p3, p4, p5, p6⟩ := p_p
  have q_q := p_q
  obtain ⟨q0, q1, q2, q3, q4, q5, q6⟩ := p_q
  have q_r := p_r
  obtain ⟨r0, r1, r2, r3, r4, r5, r6⟩ := p_r
  have q_s := p_s
  obtain ⟨s0, s1, s2, s3, s4, s5, s6⟩ := p_s
  have hsw6 := hw6.size
  (try simp at hsw6)
  clear hw6
  go_wp2_with (fail)
  refine (C6.out _ (HZ.out.later (Below.alloc HBw6 HBw6.size _))).mono ?_
  rintro x w7 ⟨rfl, hw7⟩
  have HBw7 : Below w.heap.size w w7 := Below.trans (by go_grown) (hw7.mono (by first | omega | (simp; done) | (simp; omega)))
  have p_p : Bx3 w7 (w2.heap.size) (xa) (ya) (za) := Bx3.later hw7 (by repeat (first | assumption | (refine Bx3.new _ _ _ _ _ _ ?_; simp; done) | refine Bx3.alloc ?_ _ | refine Bx3.drew ?_ | refine Bx3.put ?_ _ _ _ | (refine Bx3.beside ?_ _ _ (by omega))))
  have p_q : Bx3 w7 (w3.heap.size) (xa) (ya) (za) := Bx3.later hw7 (by repeat (first | assumption | (refine Bx3.new _ _ _ _ _ _ ?_; simp; done) | refine Bx3.alloc ?_ _ | refine Bx3.drew ?_ | refine Bx3.put ?_ _ _ _ | (refine Bx3.beside ?_ _ _ (by omega))))
  have p_r : Bx3 w7 (w4.heap.size) (xs) (ys) (zs') := Bx3.later hw7 (by repeat (first | assumption | (refine Bx3.new _ _ _ _ _ _ ?_; simp; done) | refine Bx3.alloc ?_ _ | refine Bx3.drew ?_ | refine Bx3.put ?_ _ _ _ | (refine Bx3.beside ?_ _ _ (by omega))))
  have p_s : Bx3 w7 (w5.heap.size) (xs) (ys) (zs') := Bx3.later hw7 (by repeat (first | assumption | (refine Bx3.new _ _ _ _ _ _ ?_; simp; done) | refine Bx3.alloc ?_ _ | refine Bx3.drew ?_ | refine Bx3.put ?_ _ _ _ | (refine Bx3.beside ?_ _ _ (by omega))))
  have p_t : Bx3 w7 (w6.heap.size) (xt) (yt) (zt) := Bx3.later hw7 (by repeat (first | assumption | (refine Bx3.new _ _ _ _ _ _ ?_; simp; done) | refine Bx3.alloc ?_ _ | refine Bx3.drew ?_ | refine Bx3.put ?_ _ _ _ | (refine Bx3.beside ?_ _ _ (by omega))))
  clear q_p p0 p1 p2 p3 p4 p5 p6
  clear q_q q0 q1 q2 q3 q4 q5 q6
  clear q_r r0 r1 r2 r3 r4 r5 r6
  clear q_s s0 s1 s2 s3 s4 s5 s6
  have q_p := p_p
  obtain ⟨p0, p1, p2, p3, p4, p5, p6⟩ := p_p
  have q_q := p_q
  obtain ⟨q0, q1, q2, q3, q4, q5, q6⟩ := p_q
  have q_r := p_r
  obtain ⟨r0, r1, r2, r3, r4, r5, r6⟩ := p_r
  have q_s := p_s
  obtain ⟨s0, s1, s2, s3, s4, s5, s6⟩ := p_s
  have q_t := p_t
  obtain ⟨t0, t1, t2, t3, t4, t5, t6⟩ := p_t
  have hsw7 := hw7.size
  (try simp at hsw7)
  clear hw7
  go_wp2
  go_ret
  exact ⟨rfl, by go_grown⟩

end Go.Proofs.YtpbgolcimbjekaaDoor
