/-
  The walk of the statement CheckedNarrows at this program: it returns true. Conditions: numbers of 64 bits, with and without a sign.
-/
import Derived.Test.YtfbkmifgnpapbaaCC
import Derived.Test.YtfbkmifgnpapbaaG
import Derived.BigQuiet
import Derived.Deep.CutRange
import Derived.Deep.DeepCutAuto
namespace Go.Proofs.Ytfbkmifgnpapbaa
open Go.RowKit

theorem zig_neg {n : Int} (h : n < 0) : ((Lib.zigzag n : Nat) : Int) = 2 * -(n + 1) + 1 := by
  unfold Lib.zigzag
  rw [if_neg (by omega)]
  omega
theorem zig_pos {n : Int} (h : 0 ≤ n) : ((Lib.zigzag n : Nat) : Int) = 2 * n := by
  rw [Lib.zigzag_nonneg h]
  omega
theorem zag_odd {u : Int} (h : (u % 2 == 1) = true) : zag u = -(u / 2) - 1 := if_pos (by simpa using h)
theorem zag_even {u : Int} (h : (u % 2 == 1) = false) : zag u = u / 2 := if_neg (by simpa using h)
theorem held_lt {n least most : Int} (h : n < least) : heldv n least most = least := if_pos h
theorem held_gt {n least most : Int} (h : ¬ n < least) (g : n > most) : heldv n least most = most := by
  unfold heldv
  rw [if_neg h, if_pos g]
theorem held_in {n least most : Int} (h : ¬ n < least) (g : ¬ n > most) : heldv n least most = n := by
  unfold heldv
  rw [if_neg h, if_neg g]

set_option maxHeartbeats 8000000 in
set_option maxRecDepth 100000 in
theorem lawnarrows_any (n u least most : Int) (w : World) (hn : In64 n) (u0 : 0 ≤ u) (u1 : u < 18446744073709551616) :
    Calls Try.prog 5 #[.agg #[.int .i64 n, .int .u64 u, .int .i64 least, .int .i64 most]] w fun e w' => e = .returned (.bool true) ∧ Below w.heap.size w w' := by
  have HN : Hid (In64 n) := hn
  unfold In64 at hn
  go_enter Try.func5, Try.ntmps5
  go_wp2_with (fail)
  refine (cfirst_any _).mono ?_
  rintro e w1 ⟨rfl, hw1⟩
  have C0 := cell_later hw1 (a := ⟨w.heap.size, 0, none⟩) (v := .int .i64 n) (by simp [go_sem])
  have C1 := cell_later hw1 (a := ⟨w.heap.size, 1, none⟩) (v := .int .u64 u) (by simp [go_sem])
  have C2 := cell_later hw1 (a := ⟨w.heap.size, 2, none⟩) (v := .int .i64 least) (by simp [go_sem])
  have C3 := cell_later hw1 (a := ⟨w.heap.size, 3, none⟩) (v := .int .i64 most) (by simp [go_sem])
  obtain ⟨HB1, -, -, s1⟩ := aft hw1 (B := w.heap.size) (W0 := w) (by go_grown) (by first | omega | (simp; done) | (simp; omega))
  clear hw1
  (try simp at s1)
  go_upto_region 3 with (fail)
  go_quiet (fail)
  have HB2 : Below w.heap.size w (w1.drewN nq) := ⟨HB1.os, HB1.tape, HB1.output, HB1.size, HB1.block⟩
  generalize w1.drewN nq = w2 at HB2 ⊢
  clear C0 C1 C2 C3 HB1 s1
  by_cases c1 : n < -2147483648
  · go_wp2_with (fail)
    refine (byte_any n _ HN.out).mono ?_
    rw [show narv 0 255 n = 0 from if_neg (by omega), show narb 0 255 n = false from decide_eq_false (by omega)]
    rintro e w' ⟨rfl, rfl⟩
    go_wp2_with (fail)
    refine (short_any n _ HN.out).mono ?_
    rw [show narv (-32768) 32767 n = 0 from if_neg (by omega), show narb (-32768) 32767 n = false from decide_eq_false (by omega)]
    rintro e w' ⟨rfl, rfl⟩
    go_wp2_with (fail)
    refine (narrow_any n _ HN.out).mono ?_
    rw [show narv (-2147483648) 2147483647 n = 0 from if_neg (by omega), show narb (-2147483648) 2147483647 n = false from decide_eq_false (by omega)]
    rintro e w' ⟨rfl, rfl⟩
    go_wp2_with (fail)
    all_goals
      refine (zig_any n _ HN.out).mono ?_
      first | rw [zig_neg (by omega)] | rw [zig_pos (by omega)]
      rintro e w' ⟨rfl, rfl⟩
      go_wp2_with (fail)
      refine (zag_any u _ u0 u1).mono ?_
      first | rw [zag_odd (by assumption)] | rw [zag_even (by assumption)]
      rintro e w' ⟨rfl, rfl⟩
      go_wp2_with (fail)
      refine (held_any n least most _).mono ?_
      first | rw [held_lt (by omega)] | rw [held_gt (by omega) (by omega)] | rw [held_in (by omega) (by omega)]
      rintro e w' ⟨rfl, rfl⟩
      go_wp2
      go_ret
      exact ⟨rfl, HB2⟩
  by_cases c2 : n < -32768
  · have q2 : (-2147483648) ≤ n ∧ n ≤ 2147483647 := by omega
    obtain ⟨q2a, q2b⟩ := q2
    go_wp2_with (fail)
    refine (byte_any n _ HN.out).mono ?_
    rw [show narv 0 255 n = 0 from if_neg (by omega), show narb 0 255 n = false from decide_eq_false (by omega)]
    rintro e w' ⟨rfl, rfl⟩
    go_wp2_with (fail)
    refine (short_any n _ HN.out).mono ?_
    rw [show narv (-32768) 32767 n = 0 from if_neg (by omega), show narb (-32768) 32767 n = false from decide_eq_false (by omega)]
    rintro e w' ⟨rfl, rfl⟩
    go_wp2_with (fail)
    refine (narrow_any n _ HN.out).mono ?_
    rw [show narv (-2147483648) 2147483647 n = n from if_pos (by omega), show narb (-2147483648) 2147483647 n = true from decide_eq_true (by omega)]
    rintro e w' ⟨rfl, rfl⟩
    go_wp2_with (fail)
    all_goals
      refine (zig_any n _ HN.out).mono ?_
      first | rw [zig_neg (by omega)] | rw [zig_pos (by omega)]
      rintro e w' ⟨rfl, rfl⟩
      go_wp2_with (fail)
      refine (zag_any u _ u0 u1).mono ?_
      first | rw [zag_odd (by assumption)] | rw [zag_even (by assumption)]
      rintro e w' ⟨rfl, rfl⟩
      go_wp2_with (fail)
      refine (held_any n least most _).mono ?_
      first | rw [held_lt (by omega)] | rw [held_gt (by omega) (by omega)] | rw [held_in (by omega) (by omega)]
      rintro e w' ⟨rfl, rfl⟩
      go_wp2
      go_ret
      exact ⟨rfl, HB2⟩
  by_cases c3 : n < 0
  · have q1 : (-32768) ≤ n ∧ n ≤ 32767 := by omega
    obtain ⟨q1a, q1b⟩ := q1
    have q2 : (-2147483648) ≤ n ∧ n ≤ 2147483647 := by omega
    obtain ⟨q2a, q2b⟩ := q2
    go_wp2_with (fail)
    refine (byte_any n _ HN.out).mono ?_
    rw [show narv 0 255 n = 0 from if_neg (by omega), show narb 0 255 n = false from decide_eq_false (by omega)]
    rintro e w' ⟨rfl, rfl⟩
    go_wp2_with (fail)
    refine (short_any n _ HN.out).mono ?_
    rw [show narv (-32768) 32767 n = n from if_pos (by omega), show narb (-32768) 32767 n = true from decide_eq_true (by omega)]
    rintro e w' ⟨rfl, rfl⟩
    go_wp2_with (fail)
    refine (narrow_any n _ HN.out).mono ?_
    rw [show narv (-2147483648) 2147483647 n = n from if_pos (by omega), show narb (-2147483648) 2147483647 n = true from decide_eq_true (by omega)]
    rintro e w' ⟨rfl, rfl⟩
    go_wp2_with (fail)
    all_goals
      refine (zig_any n _ HN.out).mono ?_
      first | rw [zig_neg (by omega)] | rw [zig_pos (by omega)]
      rintro e w' ⟨rfl, rfl⟩
      go_wp2_with (fail)
      refine (zag_any u _ u0 u1).mono ?_
      first | rw [zag_odd (by assumption)] | rw [zag_even (by assumption)]
      rintro e w' ⟨rfl, rfl⟩
      go_wp2_with (fail)
      refine (held_any n least most _).mono ?_
      first | rw [held_lt (by omega)] | rw [held_gt (by omega) (by omega)] | rw [held_in (by omega) (by omega)]
      rintro e w' ⟨rfl, rfl⟩
      go_wp2
      go_ret
      exact ⟨rfl, HB2⟩
  by_cases c4 : n ≤ 255
  · have q0 : 0 ≤ n ∧ n ≤ 255 := by omega
    obtain ⟨q0a, q0b⟩ := q0
    have q1 : (-32768) ≤ n ∧ n ≤ 32767 := by omega
    obtain ⟨q1a, q1b⟩ := q1
    have q2 : (-2147483648) ≤ n ∧ n ≤ 2147483647 := by omega
    obtain ⟨q2a, q2b⟩ := q2
    go_wp2_with (fail)
    refine (byte_any n _ HN.out).mono ?_
    rw [show narv 0 255 n = n from if_pos (by omega), show narb 0 255 n = true from decide_eq_true (by omega)]
    rintro e w' ⟨rfl, rfl⟩
    go_wp2_with (fail)
    refine (short_any n _ HN.out).mono ?_
    rw [show narv (-32768) 32767 n = n from if_pos (by omega), show narb (-32768) 32767 n = true from decide_eq_true (by omega)]
    rintro e w' ⟨rfl, rfl⟩
    go_wp2_with (fail)
    refine (narrow_any n _ HN.out).mono ?_
    rw [show narv (-2147483648) 2147483647 n = n from if_pos (by omega), show narb (-2147483648) 2147483647 n = true from decide_eq_true (by omega)]
    rintro e w' ⟨rfl, rfl⟩
    go_wp2_with (fail)
    all_goals
      refine (zig_any n _ HN.out).mono ?_
      first | rw [zig_neg (by omega)] | rw [zig_pos (by omega)]
      rintro e w' ⟨rfl, rfl⟩
      go_wp2_with (fail)
      refine (zag_any u _ u0 u1).mono ?_
      first | rw [zag_odd (by assumption)] | rw [zag_even (by assumption)]
      rintro e w' ⟨rfl, rfl⟩
      go_wp2_with (fail)
      refine (held_any n least most _).mono ?_
      first | rw [held_lt (by omega)] | rw [held_gt (by omega) (by omega)] | rw [held_in (by omega) (by omega)]
      rintro e w' ⟨rfl, rfl⟩
      go_wp2
      go_ret
      exact ⟨rfl, HB2⟩
  by_cases c5 : n ≤ 32767
  · have q1 : (-32768) ≤ n ∧ n ≤ 32767 := by omega
    obtain ⟨q1a, q1b⟩ := q1
    have q2 : (-2147483648) ≤ n ∧ n ≤ 2147483647 := by omega
    obtain ⟨q2a, q2b⟩ := q2
    go_wp2_with (fail)
    refine (byte_any n _ HN.out).mono ?_
    rw [show narv 0 255 n = 0 from if_neg (by omega), show narb 0 255 n = false from decide_eq_false (by omega)]
    rintro e w' ⟨rfl, rfl⟩
    go_wp2_with (fail)
    refine (short_any n _ HN.out).mono ?_
    rw [show narv (-32768) 32767 n = n from if_pos (by omega), show narb (-32768) 32767 n = true from decide_eq_true (by omega)]
    rintro e w' ⟨rfl, rfl⟩
    go_wp2_with (fail)
    refine (narrow_any n _ HN.out).mono ?_
    rw [show narv (-2147483648) 2147483647 n = n from if_pos (by omega), show narb (-2147483648) 2147483647 n = true from decide_eq_true (by omega)]
    rintro e w' ⟨rfl, rfl⟩
    go_wp2_with (fail)
    all_goals
      refine (zig_any n _ HN.out).mono ?_
      first | rw [zig_neg (by omega)] | rw [zig_pos (by omega)]
      rintro e w' ⟨rfl, rfl⟩
      go_wp2_with (fail)
      refine (zag_any u _ u0 u1).mono ?_
      first | rw [zag_odd (by assumption)] | rw [zag_even (by assumption)]
      rintro e w' ⟨rfl, rfl⟩
      go_wp2_with (fail)
      refine (held_any n least most _).mono ?_
      first | rw [held_lt (by omega)] | rw [held_gt (by omega) (by omega)] | rw [held_in (by omega) (by omega)]
      rintro e w' ⟨rfl, rfl⟩
      go_wp2
      go_ret
      exact ⟨rfl, HB2⟩
  by_cases c6 : n ≤ 2147483647
  · have q2 : (-2147483648) ≤ n ∧ n ≤ 2147483647 := by omega
    obtain ⟨q2a, q2b⟩ := q2
    go_wp2_with (fail)
    refine (byte_any n _ HN.out).mono ?_
    rw [show narv 0 255 n = 0 from if_neg (by omega), show narb 0 255 n = false from decide_eq_false (by omega)]
    rintro e w' ⟨rfl, rfl⟩
    go_wp2_with (fail)
    refine (short_any n _ HN.out).mono ?_
    rw [show narv (-32768) 32767 n = 0 from if_neg (by omega), show narb (-32768) 32767 n = false from decide_eq_false (by omega)]
    rintro e w' ⟨rfl, rfl⟩
    go_wp2_with (fail)
    refine (narrow_any n _ HN.out).mono ?_
    rw [show narv (-2147483648) 2147483647 n = n from if_pos (by omega), show narb (-2147483648) 2147483647 n = true from decide_eq_true (by omega)]
    rintro e w' ⟨rfl, rfl⟩
    go_wp2_with (fail)
    all_goals
      refine (zig_any n _ HN.out).mono ?_
      first | rw [zig_neg (by omega)] | rw [zig_pos (by omega)]
      rintro e w' ⟨rfl, rfl⟩
      go_wp2_with (fail)
      refine (zag_any u _ u0 u1).mono ?_
      first | rw [zag_odd (by assumption)] | rw [zag_even (by assumption)]
      rintro e w' ⟨rfl, rfl⟩
      go_wp2_with (fail)
      refine (held_any n least most _).mono ?_
      first | rw [held_lt (by omega)] | rw [held_gt (by omega) (by omega)] | rw [held_in (by omega) (by omega)]
      rintro e w' ⟨rfl, rfl⟩
      go_wp2
      go_ret
      exact ⟨rfl, HB2⟩
  · go_wp2_with (fail)
    refine (byte_any n _ HN.out).mono ?_
    rw [show narv 0 255 n = 0 from if_neg (by omega), show narb 0 255 n = false from decide_eq_false (by omega)]
    rintro e w' ⟨rfl, rfl⟩
    go_wp2_with (fail)
    refine (short_any n _ HN.out).mono ?_
    rw [show narv (-32768) 32767 n = 0 from if_neg (by omega), show narb (-32768) 32767 n = false from decide_eq_false (by omega)]
    rintro e w' ⟨rfl, rfl⟩
    go_wp2_with (fail)
    refine (narrow_any n _ HN.out).mono ?_
    rw [show narv (-2147483648) 2147483647 n = 0 from if_neg (by omega), show narb (-2147483648) 2147483647 n = false from decide_eq_false (by omega)]
    rintro e w' ⟨rfl, rfl⟩
    go_wp2_with (fail)
    all_goals
      refine (zig_any n _ HN.out).mono ?_
      first | rw [zig_neg (by omega)] | rw [zig_pos (by omega)]
      rintro e w' ⟨rfl, rfl⟩
      go_wp2_with (fail)
      refine (zag_any u _ u0 u1).mono ?_
      first | rw [zag_odd (by assumption)] | rw [zag_even (by assumption)]
      rintro e w' ⟨rfl, rfl⟩
      go_wp2_with (fail)
      refine (held_any n least most _).mono ?_
      first | rw [held_lt (by omega)] | rw [held_gt (by omega) (by omega)] | rw [held_in (by omega) (by omega)]
      rintro e w' ⟨rfl, rfl⟩
      go_wp2
      go_ret
      exact ⟨rfl, HB2⟩

end Go.Proofs.Ytfbkmifgnpapbaa
