/-
  Contracts of package amount's counted, Units, Milli, shortened, timesTens and byTens, at this program. Conditions: as each names them.
-/
import Derived.Test.YtpbgolcimbjekaaGreatDoorQ05
namespace Go.Proofs.YtpbgolcimbjekaaGreatDoor
open Go.RowKit

/-- How often so much is in a, rounded up, if that is at most 2^60. -/
def Counted (a v : Nat) (e : Ending) : Prop := ∃ n g : Int, e = .returned (.tuple #[.int .i64 n, .int .i64 g]) ∧
  ((up a v ≤ 1152921504606846976 ∧ n = (up a v : Nat) ∧ g = 0) ∨ (1152921504606846976 < up a v ∧ n = 0 ∧ g = 15))

set_option maxHeartbeats 1000000 in
theorem counted_is {ah al u : Int} {a v : Nat} (i : Is ah al a) (hu : u = (v : Int)) (v0 : 1 < v) (v1 : v < 18446744073709551616) (w : World) :
    Calls Tryz.prog 82 #[.agg #[.int .u64 ah, .int .u64 al], .int .u64 u] w fun e w' => Counted a v e ∧ Below w.heap.size w w' := by
  subst hu
  go_enter Tryz.func82, Tryz.ntmps82
  go_wp2_with (fail)
  refine (byUp_is i rfl v0 v1 _).mono ?_
  rintro e w1 ⟨h, l, rfl, j, hw1⟩
  have HBw1 : Below w.heap.size w w1 := Below.trans (by go_grown) (hw1.mono (by first | omega | (simp; done) | (simp; omega)))
  have hsw1 := hw1.size
  (try simp at hsw1)
  clear hw1
  go_wp2_with (fail)
  refine (uint_is j _).mono ?_
  rintro e w2 ⟨n, he, hn, hw2⟩
  by_cases c : up a v < 18446744073709551616
  · rw [decide_eq_true c] at he
    rw [if_pos c] at hn
    subst he
    have HBw2 : Below w.heap.size w w2 := Below.trans (by go_grown) (hw2.mono (by first | omega | (simp; done) | (simp; omega)))
    have hsw2 := hw2.size
    (try simp at hsw2)
    clear hw2
    have n0 : 0 ≤ n := by omega
    have HN : Hid _ := hn
    clear hn
    by_cases d : 1152921504606846976 < n
    · go_wp2
      go_ret2
      exact ⟨⟨_, _, rfl, Or.inr ⟨by have := HN.out; omega, rfl, rfl⟩⟩, by go_grown⟩
    · go_wp2
      go_ret2
      exact ⟨⟨_, _, rfl, Or.inl ⟨by have := HN.out; omega, HN.out, rfl⟩⟩, by go_grown⟩
  · rw [decide_eq_false c] at he
    subst he
    have HBw2 : Below w.heap.size w w2 := Below.trans (by go_grown) (hw2.mono (by first | omega | (simp; done) | (simp; omega)))
    have hsw2 := hw2.size
    (try simp at hsw2)
    clear hw2
    clear hn
    go_wp2
    go_ret2
    exact ⟨⟨_, _, rfl, Or.inr ⟨by omega, rfl, rfl⟩⟩, by go_grown⟩

set_option maxHeartbeats 1000000 in
theorem units_is {ah al : Int} {a : Nat} (i : Is ah al a) (w : World) :
    Calls Tryz.prog 57 #[.agg #[.int .u64 ah, .int .u64 al]] w fun e w' => Counted a 1000000000 e ∧ Below w.heap.size w w' := by
  go_enter Tryz.func57, Tryz.ntmps57
  go_wp2_with (fail)
  refine (counted_is i (v := 1000000000) rfl (by omega) (by omega) _).mono ?_
  rintro e w1 ⟨⟨n, g, rfl, f⟩, hw1⟩
  have HBw1 : Below w.heap.size w w1 := Below.trans (by go_grown) (hw1.mono (by first | omega | (simp; done) | (simp; omega)))
  have hsw1 := hw1.size
  (try simp at hsw1)
  clear hw1
  go_wp2
  go_ret2
  exact ⟨⟨_, _, rfl, f⟩, by go_grown⟩

set_option maxHeartbeats 1000000 in
theorem milli_is {ah al : Int} {a : Nat} (i : Is ah al a) (w : World) :
    Calls Tryz.prog 56 #[.agg #[.int .u64 ah, .int .u64 al]] w fun e w' => Counted a 1000000 e ∧ Below w.heap.size w w' := by
  go_enter Tryz.func56, Tryz.ntmps56
  go_wp2_with (fail)
  refine (counted_is i (v := 1000000) rfl (by omega) (by omega) _).mono ?_
  rintro e w1 ⟨⟨n, g, rfl, f⟩, hw1⟩
  have HBw1 : Below w.heap.size w w1 := Below.trans (by go_grown) (hw1.mono (by first | omega | (simp; done) | (simp; omega)))
  have hsw1 := hw1.size
  (try simp at hsw1)
  clear hw1
  go_wp2
  go_ret2
  exact ⟨⟨_, _, rfl, f⟩, by go_grown⟩

/-- a by v as often as there is no rest, at most so many times; and how often that was. -/
def sh (v : Nat) : Nat → Nat → Nat → Nat × Nat
  | 0, a, t => (a, t)
  | k + 1, a, t => if a % v = 0 then sh v k (a / v) (t + 1) else (a, t)

set_option maxHeartbeats 2000000 in
theorem shortened_is {ah al u n : Int} {a v m : Nat} (i : Is ah al a) (hu : u = (v : Int)) (v0 : 0 < v) (v1 : v < 18446744073709551616) (hn : n = (m : Int)) (m1 : m ≤ 100) (w : World) :
    Calls Tryz.prog 64 #[.agg #[.int .u64 ah, .int .u64 al], .int .u64 u, .int .i64 n] w fun e w' =>
      ∃ h l : Int, e = .returned (.tuple #[.agg #[.int .u64 h, .int .u64 l], .int .i64 ((sh v m a 0).2 : Nat)]) ∧ Is h l (sh v m a 0).1 ∧ Below w.heap.size w w' := by
  subst hu hn
  obtain ⟨R, hR⟩ : ∃ R, R = sh v m a 0 := ⟨_, rfl⟩
  rw [← hR]
  have HR : Hid (sh v m a 0 = R) := hR.symm
  clear hR
  go_enter Tryz.func64, Tryz.ntmps64
  go_wp2
  go_loopw [13] (fun f wr => ∃ (j x : Nat) (h l : Int), f = .int .i64 j ∧ j ≤ m ∧ Is h l x ∧ Hid (sh v (m - j) x j = R) ∧ Box wr w.heap.size h l ∧ Box wr (w.heap.size + 1) 0 0 ∧ Below w.heap.size w wr) (fun f _ => m - (intOf f).toNat)
  case atStart => exact ⟨0, a, ah, al, rfl, by omega, i, HR, (by repeat (first | assumption | (refine Box.new _ _ _ _ _ ?_; simp; done) | refine Box.alloc ?_ _ | refine Box.drew ?_ | (apply Box.put) | (refine Box.beside ?_ _ _ _ (by omega)))), (by repeat (first | assumption | (refine Box.new _ _ _ _ _ ?_; simp; done) | refine Box.alloc ?_ _ | refine Box.drew ?_ | (apply Box.put) | (refine Box.beside ?_ _ _ _ (by omega)))), by go_grown⟩
  case round =>
    obtain ⟨j, x, h, l, rfl, jm, i, HS, q_p, q_s, HB⟩ := hrel
    obtain ⟨p0, p1, p2, p3, p4⟩ := id q_p
    obtain ⟨s0, s1, s2, s3, s4⟩ := id q_s
    by_cases c : j < m
    · obtain ⟨k, hk⟩ : ∃ k, m - j = k + 1 := ⟨m - j - 1, by omega⟩
      rw [hk, sh] at HS
      have K : Hid (m - (j + 1) = k) := by unfold Hid; omega
      clear hk
      go_wp2_with (fail)
      refine (by_is i rfl v0 v1 _).mono ?_
      rintro e w1 ⟨h1, l1, r, rfl, y, hr, hw1⟩
      have HBw1 : Below w.heap.size w w1 := Below.trans (by go_grown) (hw1.mono (by first | omega | (simp; done) | (simp; omega)))
      have p_p : Box w1 (w.heap.size) (h) (l) := Box.later hw1 (by repeat (first | assumption | (refine Box.new _ _ _ _ _ ?_; simp; done) | refine Box.alloc ?_ _ | refine Box.drew ?_ | (apply Box.put) | (refine Box.beside ?_ _ _ _ (by omega))))
      have p_s : Box w1 (w.heap.size + 1) (0) (0) := Box.later hw1 (by repeat (first | assumption | (refine Box.new _ _ _ _ _ ?_; simp; done) | refine Box.alloc ?_ _ | refine Box.drew ?_ | (apply Box.put) | (refine Box.beside ?_ _ _ _ (by omega))))
      clear q_p p0 p1 p2 p3 p4
      clear q_s s0 s1 s2 s3 s4
      have q_p := p_p
      obtain ⟨p0, p1, p2, p3, p4⟩ := p_p
      have q_s := p_s
      obtain ⟨s0, s1, s2, s3, s4⟩ := p_s
      have hsw1 := hw1.size
      (try simp at hsw1)
      clear hw1
      by_cases d : r = 0
      · have E := HS.out
        rw [if_pos (by omega), ← K.out] at E
        have E' : Hid _ := E
        clear HS E K hr
        subst d
        go_wp2
        go_roundw
        case rel => exact ⟨j + 1, x / v, h1, l1, by go_num, by omega, y, E', (by repeat (first | assumption | (refine Box.new _ _ _ _ _ ?_; simp; done) | refine Box.alloc ?_ _ | refine Box.drew ?_ | (apply Box.put) | (refine Box.beside ?_ _ _ _ (by omega)))), (by repeat (first | assumption | (refine Box.new _ _ _ _ _ ?_; simp; done) | refine Box.alloc ?_ _ | refine Box.drew ?_ | (apply Box.put) | (refine Box.beside ?_ _ _ _ (by omega)))), by go_grown⟩
        case measure => simp [intOf]; omega
      · have E := HS.out
        rw [if_neg (by omega)] at E
        clear HS K hr
        have rb : (r == 0) = false := by simp [d]
        go_wp2
        subst E
        refine bodyPost_ret (v := .tuple #[.agg #[.int .u64 h, .int .u64 l], .int .i64 (j : Int)]) (by simp [results, Tryz.results64, go_sem, s0, s1, s4]) rfl ?_
        exact ⟨_, _, rfl, i, by go_grown⟩
    · have E := HS.out
      rw [show m - j = 0 by omega, sh] at E
      have jm' : j = m := by omega
      clear HS
      subst E jm'
      go_wp2
      refine bodyPost_ret (v := .tuple #[.agg #[.int .u64 h, .int .u64 l], .int .i64 (j : Int)]) (by simp [results, Tryz.results64, go_sem, s0, s1]) rfl ?_
      exact ⟨_, _, rfl, i, by go_grown⟩

set_option maxHeartbeats 2000000 in
theorem timesTens_is {ah al n : Int} {a m : Nat} (i : Is ah al a) (hn : n = (m : Int)) (m1 : m ≤ 1000) (w : World) :
    Calls Tryz.prog 76 #[.agg #[.int .u64 ah, .int .u64 al], .int .i64 n] w fun e w' =>
      ∃ (h l : Int) (o : Bool), e = .returned (.tuple #[.agg #[.int .u64 h, .int .u64 l], .bool o]) ∧ FitsN h l o (a * 10 ^ m) ∧ Below w.heap.size w w' := by
  subst hn
  go_enter Tryz.func76, Tryz.ntmps76
  go_wp2
  go_loopw [9] (fun f wr => ∃ (j : Nat) (h l : Int), f = .int .i64 j ∧ j ≤ m ∧ Is h l (a * 10 ^ j) ∧ Box wr w.heap.size h l ∧ Box wr (w.heap.size + 1) 0 0 ∧ Below w.heap.size w wr) (fun f _ => m - (intOf f).toNat)
  case atStart => exact ⟨0, ah, al, rfl, by omega, by simpa using i, (by repeat (first | assumption | (refine Box.new _ _ _ _ _ ?_; simp; done) | refine Box.alloc ?_ _ | refine Box.drew ?_ | (apply Box.put) | (refine Box.beside ?_ _ _ _ (by omega)))), (by repeat (first | assumption | (refine Box.new _ _ _ _ _ ?_; simp; done) | refine Box.alloc ?_ _ | refine Box.drew ?_ | (apply Box.put) | (refine Box.beside ?_ _ _ _ (by omega)))), by go_grown⟩
  case round =>
    obtain ⟨j, h, l, rfl, jm, i, q_p, q_s, HB⟩ := hrel
    obtain ⟨p0, p1, p2, p3, p4⟩ := id q_p
    obtain ⟨s0, s1, s2, s3, s4⟩ := id q_s
    by_cases c : j < m
    · go_wp2_with (fail)
      refine (times_is i (v := 10) rfl (by omega) _).mono ?_
      rintro e w1 ⟨h1, l1, o, rfl, f, hw1⟩
      have HBw1 : Below w.heap.size w w1 := Below.trans (by go_grown) (hw1.mono (by first | omega | (simp; done) | (simp; omega)))
      have p_p : Box w1 (w.heap.size) (h) (l) := Box.later hw1 (by repeat (first | assumption | (refine Box.new _ _ _ _ _ ?_; simp; done) | refine Box.alloc ?_ _ | refine Box.drew ?_ | (apply Box.put) | (refine Box.beside ?_ _ _ _ (by omega))))
      have p_s : Box w1 (w.heap.size + 1) (0) (0) := Box.later hw1 (by repeat (first | assumption | (refine Box.new _ _ _ _ _ ?_; simp; done) | refine Box.alloc ?_ _ | refine Box.drew ?_ | (apply Box.put) | (refine Box.beside ?_ _ _ _ (by omega))))
      clear q_p p0 p1 p2 p3 p4
      clear q_s s0 s1 s2 s3 s4
      have q_p := p_p
      obtain ⟨p0, p1, p2, p3, p4⟩ := p_p
      have q_s := p_s
      obtain ⟨s0, s1, s2, s3, s4⟩ := p_s
      have hsw1 := hw1.size
      (try simp at hsw1)
      clear hw1
      rw [Nat.mul_assoc, ← Nat.pow_succ] at f
      rcases f with ⟨rfl, f⟩ | ⟨rfl, rfl, rfl, f⟩
      · go_wp2
        go_roundw
        case rel => exact ⟨j + 1, h1, l1, by go_num, by omega, f, (by repeat (first | assumption | (refine Box.new _ _ _ _ _ ?_; simp; done) | refine Box.alloc ?_ _ | refine Box.drew ?_ | (apply Box.put) | (refine Box.beside ?_ _ _ _ (by omega)))), (by repeat (first | assumption | (refine Box.new _ _ _ _ _ ?_; simp; done) | refine Box.alloc ?_ _ | refine Box.drew ?_ | (apply Box.put) | (refine Box.beside ?_ _ _ _ (by omega)))), by go_grown⟩
        case measure => simp [intOf]; omega
      · have g : 340282366920938463463374607431768211456 ≤ a * 10 ^ m := Nat.le_trans f (Nat.mul_le_mul_left _ (Nat.pow_le_pow_right (by omega) (by omega)))
        have G : Hid _ := g
        clear f g
        go_wp2
        refine bodyPost_ret (v := .tuple #[.agg #[.int .u64 0, .int .u64 0], .bool false]) (by simp [results, Tryz.results76, go_sem, s0, s1, s4]) rfl ?_
        exact ⟨_, _, _, rfl, Or.inr ⟨rfl, rfl, rfl, G.out⟩, by go_grown⟩
    · have jm' : j = m := by omega
      subst jm'
      go_wp2
      refine bodyPost_ret (v := .tuple #[.agg #[.int .u64 h, .int .u64 l], .bool true]) (by simp [results, Tryz.results76, go_sem, s0, s1]) rfl ?_
      exact ⟨_, _, _, rfl, Or.inl ⟨rfl, i⟩, by go_grown⟩

/-- By ten, rounded up, so many times. -/
def ups : Nat → Nat → Nat
  | 0, a => a
  | k + 1, a => ups k (up a 10)

set_option maxHeartbeats 2000000 in
theorem byTens_is {ah al n : Int} {a m : Nat} (i : Is ah al a) (hn : n = (m : Int)) (m1 : m ≤ 1000) (w : World) :
    Calls Tryz.prog 78 #[.agg #[.int .u64 ah, .int .u64 al], .int .i64 n] w fun e w' =>
      ∃ (h l : Int), e = .returned (.agg #[.int .u64 h, .int .u64 l]) ∧ Is h l (ups m a) ∧ Below w.heap.size w w' := by
  subst hn
  obtain ⟨R, hR⟩ : ∃ R, R = ups m a := ⟨_, rfl⟩
  rw [← hR]
  have HR : Hid (ups m a = R) := hR.symm
  clear hR
  go_enter Tryz.func78, Tryz.ntmps78
  go_wp2
  go_loopw [6] (fun f wr => ∃ (j x : Nat) (h l : Int), f = .int .i64 j ∧ j ≤ m ∧ Is h l x ∧ Hid (ups (m - j) x = R) ∧ Box wr w.heap.size h l ∧ Box wr (w.heap.size + 1) 0 0 ∧ Below w.heap.size w wr) (fun f _ => m - (intOf f).toNat)
  case atStart => exact ⟨0, a, ah, al, rfl, by omega, i, HR, (by repeat (first | assumption | (refine Box.new _ _ _ _ _ ?_; simp; done) | refine Box.alloc ?_ _ | refine Box.drew ?_ | (apply Box.put) | (refine Box.beside ?_ _ _ _ (by omega)))), (by repeat (first | assumption | (refine Box.new _ _ _ _ _ ?_; simp; done) | refine Box.alloc ?_ _ | refine Box.drew ?_ | (apply Box.put) | (refine Box.beside ?_ _ _ _ (by omega)))), by go_grown⟩
  case round =>
    obtain ⟨j, x, h, l, rfl, jm, i, HS, q_p, q_s, HB⟩ := hrel
    obtain ⟨p0, p1, p2, p3, p4⟩ := id q_p
    obtain ⟨s0, s1, s2, s3, s4⟩ := id q_s
    by_cases c : j < m
    · obtain ⟨k, hk⟩ : ∃ k, m - j = k + 1 := ⟨m - j - 1, by omega⟩
      rw [hk, ups, show k = m - (j + 1) by omega] at HS
      clear hk
      go_wp2_with (fail)
      refine (byUp_is i (v := 10) rfl (by omega) (by omega) _).mono ?_
      rintro e w1 ⟨h1, l1, rfl, y, hw1⟩
      have HBw1 : Below w.heap.size w w1 := Below.trans (by go_grown) (hw1.mono (by first | omega | (simp; done) | (simp; omega)))
      have p_p : Box w1 (w.heap.size) (h) (l) := Box.later hw1 (by repeat (first | assumption | (refine Box.new _ _ _ _ _ ?_; simp; done) | refine Box.alloc ?_ _ | refine Box.drew ?_ | (apply Box.put) | (refine Box.beside ?_ _ _ _ (by omega))))
      have p_s : Box w1 (w.heap.size + 1) (0) (0) := Box.later hw1 (by repeat (first | assumption | (refine Box.new _ _ _ _ _ ?_; simp; done) | refine Box.alloc ?_ _ | refine Box.drew ?_ | (apply Box.put) | (refine Box.beside ?_ _ _ _ (by omega))))
      clear q_p p0 p1 p2 p3 p4
      clear q_s s0 s1 s2 s3 s4
      have q_p := p_p
      obtain ⟨p0, p1, p2, p3, p4⟩ := p_p
      have q_s := p_s
      obtain ⟨s0, s1, s2, s3, s4⟩ := p_s
      have hsw1 := hw1.size
      (try simp at hsw1)
      clear hw1
      go_wp2
      go_roundw
      case rel => exact ⟨j + 1, up x 10, h1, l1, by go_num, by omega, y, HS, (by repeat (first | assumption | (refine Box.new _ _ _ _ _ ?_; simp; done) | refine Box.alloc ?_ _ | refine Box.drew ?_ | (apply Box.put) | (refine Box.beside ?_ _ _ _ (by omega)))), (by repeat (first | assumption | (refine Box.new _ _ _ _ _ ?_; simp; done) | refine Box.alloc ?_ _ | refine Box.drew ?_ | (apply Box.put) | (refine Box.beside ?_ _ _ _ (by omega)))), by go_grown⟩
      case measure => simp [intOf]; omega
    · have E := HS.out
      rw [show m - j = 0 by omega, ups] at E
      clear HS
      subst E
      go_wp2
      refine bodyPost_ret (v := .agg #[.int .u64 h, .int .u64 l]) (by simp [results, Tryz.results78, go_sem, s0, s1]) rfl ?_
      exact ⟨_, _, rfl, i, by go_grown⟩

end Go.Proofs.YtpbgolcimbjekaaGreatDoor
