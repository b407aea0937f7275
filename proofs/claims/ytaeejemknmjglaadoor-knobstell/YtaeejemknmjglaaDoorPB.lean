/-
  Contracts of package vector's sums at this program, and of the document's own. Conditions: the tables of the program lie as its text lays them.
-/
import Derived.Test.YtaeejemknmjglaaDoorPA
namespace Go.Proofs.YtaeejemknmjglaaDoor.Sp
open Go.RowKit

/-- What is right, and true; else nothing and false. -/
def onl (x : Int × Int × Int) : Option (Int × Int × Int) := if Rt x.1 x.2.1 x.2.2 then some x else none
def vo (x : Option (Int × Int × Int)) : Value := .tuple #[vv (x.getD (0, 0, 0)), .bool x.isSome]
theorem onl_yes {c m h : Int} (k : Rt c m h) : vo (onl (c, m, h)) = .tuple #[.agg #[.int .i64 c, .int .i64 m, .int .i64 h], .bool true] := by
  unfold onl; rw [if_pos k]; rfl
theorem onl_no {c m h : Int} (k : ¬ Rt c m h) : vo (onl (c, m, h)) = .tuple #[.agg #[.int .i64 0, .int .i64 0, .int .i64 0], .bool false] := by
  unfold onl; rw [if_neg k]; rfl

set_option maxHeartbeats 1000000 in
theorem only_any (c m h : Int) (w : World) (hL : LaidS w) :
    Calls Tryd.prog 71 #[.agg #[.int .i64 c, .int .i64 m, .int .i64 h]] w fun e w' => e = .returned (vo (onl (c, m, h))) ∧ Below w.heap.size w w' := by
  obtain ⟨R, hR⟩ : ∃ R, R = vo (onl (c, m, h)) := ⟨_, rfl⟩
  rw [← hR]
  have HR : Hid (R = vo (onl (c, m, h))) := hR
  have HL : Hid (LaidS w) := hL
  clear hR hL
  go_enter Tryd.func71, Tryd.ntmps71
  go_wp2_with (fail)
  refine (right_any c m h _ ((HL.out.alloc _).alloc _)).mono ?_
  rintro e w1 ⟨rfl, hw1⟩
  have q_p : Bx3 w1 w.heap.size c m h := Bx3.later hw1 ((Bx3.new _ _ _ _ _ _ rfl).alloc _)
  have q_r : Bx3 w1 (w.heap.size + 1) 0 0 0 := Bx3.later hw1 (Bx3.new _ _ _ _ _ _ (by simp))
  have HB : Below w.heap.size w w1 := Below.trans (by go_grown) (hw1.mono (by simp; omega))
  clear hw1
  obtain ⟨p0, p1, p2, p3, p4, p5, p6⟩ := q_p
  obtain ⟨r0, r1, r2, r3, r4, r5, r6⟩ := q_r
  have hs := HB.size
  by_cases k : Rt c m h
  · have K : Hid (Rt c m h) := k
    rw [right_yes k]
    clear k
    go_wp2
    refine bodyPost_ret (v := .tuple #[.agg #[.int .i64 c, .int .i64 m, .int .i64 h], .bool true]) (by simp [results, Tryd.results71, go_sem, r0, r1, r2]) rfl ?_
    exact ⟨by rw [HR.out, onl_yes K.out], by go_grown⟩
  · have K : Hid (¬ Rt c m h) := k
    rw [right_no k]
    clear k
    go_wp2
    refine bodyPost_ret (v := .tuple #[.agg #[.int .i64 0, .int .i64 0, .int .i64 0], .bool false]) (by simp [results, Tryd.results71, go_sem, r0, r1, r2]) rfl ?_
    exact ⟨by rw [HR.out, onl_no K.out], by go_grown⟩

/-- Both right, and what comes of them: else nothing. -/
def both (x y z : Int × Int × Int) : Option (Int × Int × Int) := if Rt x.1 x.2.1 x.2.2 ∧ Rt y.1 y.2.1 y.2.2 then onl z else none

set_option maxHeartbeats 2000000 in
theorem vadd_any (a b c d e f : Int) (w : World) (hL : LaidS w) :
    Calls Tryd.prog 67 #[.agg #[.int .i64 a, .int .i64 b, .int .i64 c], .agg #[.int .i64 d, .int .i64 e, .int .i64 f]] w fun x w' => x = .returned (vo (both (a, b, c) (d, e, f) (a + d, b + e, c + f))) ∧ Below w.heap.size w w' := by
  obtain ⟨R, hR⟩ : ∃ R, R = vo (both (a, b, c) (d, e, f) (a + d, b + e, c + f)) := ⟨_, rfl⟩
  rw [← hR]
  have HR : Hid (R = vo (both (a, b, c) (d, e, f) (a + d, b + e, c + f))) := hR
  have HL : Hid (LaidS w) := hL
  clear hR hL
  go_enter Tryd.func67, Tryd.ntmps67
  go_wp2_with (fail)
  refine (right_any a b c _ (((HL.out.alloc _).alloc _).alloc _)).mono ?_
  rintro x w1 ⟨rfl, hw1⟩
  have q_p : Bx3 w1 w.heap.size a b c := Bx3.later hw1 (((Bx3.new _ _ _ _ _ _ rfl).alloc _).alloc _)
  have q_q : Bx3 w1 (w.heap.size + 1) d e f := Bx3.later hw1 ((Bx3.new _ _ _ _ _ _ (by simp)).alloc _)
  have q_r : Bx3 w1 (w.heap.size + 2) 0 0 0 := Bx3.later hw1 (Bx3.new _ _ _ _ _ _ (by simp))
  have HB : Below w.heap.size w w1 := Below.trans (by go_grown) (hw1.mono (by simp; omega))
  have HL1 : Hid (LaidS w1) := HL.out.later HB
  clear hw1 HL
  have hs := HB.size
  by_cases k : Rt a b c
  · have K : Hid (Rt a b c) := k
    rw [right_yes k]
    clear k
    obtain ⟨p0, p1, p2, p3, p4, p5, p6⟩ := id q_p
    obtain ⟨q0, q1, q2, q3, q4, q5, q6⟩ := id q_q
    go_wp2_with (fail)
    refine (right_any d e f _ HL1.out).mono ?_
    rintro x w2 ⟨rfl, hw2⟩
    have u_p := q_p.later hw2
    have u_q := q_q.later hw2
    have u_r := q_r.later hw2
    have HB2 : Below w.heap.size w w2 := HB.trans (hw2.mono HB.size)
    have HL2 : Hid (LaidS w2) := HL1.out.later hw2
    clear q_p q_q q_r p0 p1 p2 p3 p4 p5 p6 q0 q1 q2 q3 q4 q5 q6 HL1 HB hw2 hs
    have hs := HB2.size
    obtain ⟨p0, p1, p2, p3, p4, p5, p6⟩ := id u_p
    obtain ⟨q0, q1, q2, q3, q4, q5, q6⟩ := id u_q
    obtain ⟨r0, r1, r2, r3, r4, r5, r6⟩ := id u_r
    by_cases l : Rt d e f
    · have L : Hid (Rt d e f) := l
      rw [right_yes l]
      have E : Hid (both (a, b, c) (d, e, f) (a + d, b + e, c + f) = onl (a + d, b + e, c + f)) := if_pos ⟨K.out, l⟩
      obtain ⟨a0, a1, b0, b1, c0, c1, -⟩ := K.out
      obtain ⟨d0, d1, e0, e1, f0, f1, -⟩ := l
      go_wp2_with (fail)
      refine (only_any (a + d) (b + e) (c + f) _ HL2.out).mono ?_
      rintro x w3 ⟨rfl, hw3⟩
      obtain ⟨r0, r1, r2, r3, r4, r5, r6⟩ := u_r.later hw3
      have HB3 : Below w.heap.size w w3 := HB2.trans (hw3.mono HB2.size)
      obtain ⟨o, ho⟩ : ∃ o, o = onl (a + d, b + e, c + f) := ⟨_, rfl⟩
      rw [← ho]
      have E2 := HR.out
      rw [E.out, ← ho] at E2
      have E3 : Hid _ := E2
      clear E E2 HR ho u_p u_q u_r p0 p1 p2 p3 p4 p5 p6 q0 q1 q2 q3 q4 q5 q6 HB2 hw3 hs K L a0 a1 b0 b1 c0 c1 d0 d1 e0 e1 f0 f1
      have hs := HB3.size
      match o, E3 with
      | none, E3 =>
        rw [show vo none = .tuple #[.agg #[.int .i64 0, .int .i64 0, .int .i64 0], .bool false] from rfl]
        go_wp2
        refine bodyPost_ret (v := .tuple #[.agg #[.int .i64 0, .int .i64 0, .int .i64 0], .bool false]) (by simp [results, Tryd.results67, go_sem, r0, r1, r2]) rfl ?_
        exact ⟨by rw [E3.out]; rfl, by go_grown⟩
      | some (x, y, z), E3 =>
        rw [show vo (some (x, y, z)) = .tuple #[.agg #[.int .i64 x, .int .i64 y, .int .i64 z], .bool true] from rfl]
        go_wp2
        refine bodyPost_ret (v := .tuple #[.agg #[.int .i64 x, .int .i64 y, .int .i64 z], .bool true]) (by simp [results, Tryd.results67, go_sem, r0, r1, r2]) rfl ?_
        exact ⟨by rw [E3.out]; rfl, by go_grown⟩
    · rw [right_no l]
      have E : Hid (both (a, b, c) (d, e, f) (a + d, b + e, c + f) = none) := if_neg (fun k => l k.2)
      clear l
      go_wp2
      refine bodyPost_ret (v := .tuple #[.agg #[.int .i64 0, .int .i64 0, .int .i64 0], .bool false]) (by simp [results, Tryd.results67, go_sem, r0, r1, r2]) rfl ?_
      exact ⟨by rw [HR.out, E.out]; rfl, by go_grown⟩
  · rw [right_no k]
    have E : Hid (both (a, b, c) (d, e, f) (a + d, b + e, c + f) = none) := if_neg (fun l => k l.1)
    clear k
    obtain ⟨r0, r1, r2, r3, r4, r5, r6⟩ := id q_r
    go_wp2
    refine bodyPost_ret (v := .tuple #[.agg #[.int .i64 0, .int .i64 0, .int .i64 0], .bool false]) (by simp [results, Tryd.results67, go_sem, r0, r1, r2]) rfl ?_
    exact ⟨by rw [HR.out, E.out]; rfl, by go_grown⟩

set_option maxHeartbeats 2000000 in
theorem radd_any (a b c d e f : Int) (w : World) :
    Calls Tryd.prog 63 #[.agg #[.int .i64 a, .int .i64 b, .int .i64 c], .agg #[.int .i64 d, .int .i64 e, .int .i64 f]] w fun x w' => x = .returned (vo (both (a, b, c) (d, e, f) (a + d, b + e, c + f))) ∧ Below w.heap.size w w' := by
  obtain ⟨R, hR⟩ : ∃ R, R = vo (both (a, b, c) (d, e, f) (a + d, b + e, c + f)) := ⟨_, rfl⟩
  rw [← hR]
  have HR : Hid (R = vo (both (a, b, c) (d, e, f) (a + d, b + e, c + f))) := hR
  clear hR
  go_enter Tryd.func63, Tryd.ntmps63
  go_wp2_with (fail)
  refine (refRight_any a b c _).mono ?_
  rintro x w1 ⟨rfl, hw1⟩
  have q_p : Bx3 w1 w.heap.size a b c := Bx3.later hw1 (((Bx3.new _ _ _ _ _ _ rfl).alloc _).alloc _)
  have q_q : Bx3 w1 (w.heap.size + 1) d e f := Bx3.later hw1 ((Bx3.new _ _ _ _ _ _ (by simp)).alloc _)
  have q_r : Bx3 w1 (w.heap.size + 2) 0 0 0 := Bx3.later hw1 (Bx3.new _ _ _ _ _ _ (by simp))
  have HB : Below w.heap.size w w1 := Below.trans (by go_grown) (hw1.mono (by simp; omega))
  clear hw1
  have hs := HB.size
  by_cases k : Rt a b c
  · have K : Hid (Rt a b c) := k
    rw [right_yes k]
    clear k
    obtain ⟨p0, p1, p2, p3, p4, p5, p6⟩ := id q_p
    obtain ⟨q0, q1, q2, q3, q4, q5, q6⟩ := id q_q
    go_wp2_with (fail)
    refine (refRight_any d e f _).mono ?_
    rintro x w2 ⟨rfl, hw2⟩
    have u_p := q_p.later hw2
    have u_q := q_q.later hw2
    have u_r := q_r.later hw2
    have HB2 : Below w.heap.size w w2 := HB.trans (hw2.mono HB.size)
    clear q_p q_q q_r p0 p1 p2 p3 p4 p5 p6 q0 q1 q2 q3 q4 q5 q6 HB hw2 hs
    have hs := HB2.size
    obtain ⟨p0, p1, p2, p3, p4, p5, p6⟩ := id u_p
    obtain ⟨q0, q1, q2, q3, q4, q5, q6⟩ := id u_q
    obtain ⟨r0, r1, r2, r3, r4, r5, r6⟩ := id u_r
    by_cases l : Rt d e f
    · have L : Hid (Rt d e f) := l
      rw [right_yes l]
      have E : Hid (both (a, b, c) (d, e, f) (a + d, b + e, c + f) = onl (a + d, b + e, c + f)) := if_pos ⟨K.out, l⟩
      obtain ⟨a0, a1, b0, b1, c0, c1, -⟩ := K.out
      obtain ⟨d0, d1, e0, e1, f0, f1, -⟩ := l
      go_wp2_with (fail)
      refine (refRight_any (a + d) (b + e) (c + f) _).mono ?_
      rintro x w3 ⟨rfl, hw3⟩
      have u_s : Bx3 w3 w2.heap.size (a + d) (b + e) (c + f) := Bx3.later hw3 (Bx3.new _ _ _ _ _ _ rfl)
      obtain ⟨s0, s1, s2, s3, s4, s5, s6⟩ := u_s
      obtain ⟨r0, r1, r2, r3, r4, r5, r6⟩ := (u_r.alloc _).later hw3
      have HB3 : Below w.heap.size w w3 := Below.trans (show Below w.heap.size w _ by go_grown) (hw3.mono (by simp; omega))
      have nb : w.heap.size + 2 < w2.heap.size := u_r.2.2.2.2.2.2
      clear u_p u_q u_r p0 p1 p2 p3 p4 p5 p6 q0 q1 q2 q3 q4 q5 q6 HB2 hw3 hs K L a0 a1 b0 b1 c0 c1 d0 d1 e0 e1 f0 f1
      have hs := HB3.size
      by_cases g : Rt (a + d) (b + e) (c + f)
      · have G : Hid (Rt (a + d) (b + e) (c + f)) := g
        rw [right_yes g]
        clear g
        go_wp2
        refine bodyPost_ret (v := .tuple #[.agg #[.int .i64 (a + d), .int .i64 (b + e), .int .i64 (c + f)], .bool true]) (by simp [results, Tryd.results63, go_sem, r0, r1, r2]) rfl ?_
        exact ⟨by rw [HR.out, E.out, onl_yes G.out], by go_grown⟩
      · have G : Hid (¬ Rt (a + d) (b + e) (c + f)) := g
        rw [right_no g]
        clear g
        go_wp2
        refine bodyPost_ret (v := .tuple #[.agg #[.int .i64 0, .int .i64 0, .int .i64 0], .bool false]) (by simp [results, Tryd.results63, go_sem, r0, r1, r2]) rfl ?_
        exact ⟨by rw [HR.out, E.out, onl_no G.out], by go_grown⟩
    · rw [right_no l]
      have E : Hid (both (a, b, c) (d, e, f) (a + d, b + e, c + f) = none) := if_neg (fun k => l k.2)
      clear l
      go_wp2
      refine bodyPost_ret (v := .tuple #[.agg #[.int .i64 0, .int .i64 0, .int .i64 0], .bool false]) (by simp [results, Tryd.results63, go_sem, r0, r1, r2]) rfl ?_
      exact ⟨by rw [HR.out, E.out]; rfl, by go_grown⟩
  · rw [right_no k]
    have E : Hid (both (a, b, c) (d, e, f) (a + d, b + e, c + f) = none) := if_neg (fun l => k l.1)
    clear k
    obtain ⟨r0, r1, r2, r3, r4, r5, r6⟩ := id q_r
    go_wp2
    refine bodyPost_ret (v := .tuple #[.agg #[.int .i64 0, .int .i64 0, .int .i64 0], .bool false]) (by simp [results, Tryd.results63, go_sem, r0, r1, r2]) rfl ?_
    exact ⟨by rw [HR.out, E.out]; rfl, by go_grown⟩

end Go.Proofs.YtaeejemknmjglaaDoor.Sp
