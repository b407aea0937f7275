/-
  Contracts of package amount's functions on numbers, at this program: so many units or thousandths, whether it is an amount, rounding up. Conditions: as each names them.
-/
import Derived.Test.YtpbgolcimbjekaaGreatDoorVA
import Derived.Deep.RegionWith
import Derived.Deep.CutRange
import Derived.Deep.DeepCutAuto
namespace Go.Proofs.YtpbgolcimbjekaaGreatDoor
open Go.RowKit

set_option maxHeartbeats 1000000 in
theorem so_is (n u : Int) (k v : Nat) (hn : n = (k : Int)) (k1 : k ≤ 1152921504606846976) (hu : u = (v : Int)) (v1 : v ≤ 1000000000) (w : World) :
    Calls Tryz.prog 63 #[.int .i64 n, .int .u64 u] w fun e w' =>
      ∃ h l : Int, e = .returned (.tuple #[.agg #[.int .u64 h, .int .u64 l], .int .i64 0]) ∧ Is h l (k * v) ∧ Below w.heap.size w w' := by
  have p : k * v ≤ 1152921504606846976000000000 := Nat.mul_le_mul k1 v1
  have P : Hid _ := p
  clear p
  have n0 : 0 ≤ n := by omega
  have n1 : n ≤ 1152921504606846976 := by omega
  have HN : Hid _ := hn
  clear hn
  go_enter Tryz.func63, Tryz.ntmps63
  go_wp2_with (fail)
  refine (of_any _ _).mono ?_
  rintro e w1 ⟨rfl, hw1⟩
  have HBw1 : Below w.heap.size w w1 := Below.trans (by go_grown) (hw1.mono (by first | omega | (simp; done) | (simp; omega)))
  have p_r : Box w1 (w.heap.size) (0) (0) := Box.later hw1 (by repeat (first | assumption | (refine Box.new _ _ _ _ _ ?_; simp; done) | refine Box.alloc ?_ _ | refine Box.drew ?_ | (apply Box.put) | (refine Box.beside ?_ _ _ _ (by omega))))
  have q_r := p_r
  obtain ⟨r0, r1, r2, r3, r4⟩ := p_r
  have hsw1 := hw1.size
  (try simp at hsw1)
  clear hw1
  go_wp2_with (fail)
  have i0 : Is 0 n k := Is.small HN.out (by omega)
  refine (times_is (v := v) i0 (by rfl) (by omega) _).mono ?_
  rintro e w2 ⟨h, l, o, rfl, f, hw2⟩
  obtain ⟨rfl, i⟩ := f.ok (by have := P.out; omega)
  clear i0 f
  have HBw2 : Below w.heap.size w w2 := Below.trans (by go_grown) (hw2.mono (by first | omega | (simp; done) | (simp; omega)))
  have p_r : Box w2 (w.heap.size) (0) (0) := Box.later hw2 (by repeat (first | assumption | (refine Box.new _ _ _ _ _ ?_; simp; done) | refine Box.alloc ?_ _ | refine Box.drew ?_ | (apply Box.put) | (refine Box.beside ?_ _ _ _ (by omega))))
  clear q_r r0 r1 r2 r3 r4
  have q_r := p_r
  obtain ⟨r0, r1, r2, r3, r4⟩ := p_r
  have hsw2 := hw2.size
  (try simp at hsw2)
  clear hw2
  go_wp2
  refine bodyPost_ret (v := .tuple #[.agg #[.int .u64 h, .int .u64 l], .int .i64 0]) (by simp [results, Tryz.results63, go_sem, r0, r1, r4]) rfl ?_
  exact ⟨_, _, rfl, i, by go_grown⟩

set_option maxHeartbeats 1000000 in
theorem so_neg (n u : Int) (hn : n < 0) (w : World) :
    Calls Tryz.prog 63 #[.int .i64 n, .int .u64 u] w fun e w' =>
      e = .returned (.tuple #[.agg #[.int .u64 0, .int .u64 0], .int .i64 2]) ∧ Below w.heap.size w w' := by
  go_enter Tryz.func63, Tryz.ntmps63
  go_wp2
  go_returns
  exact ⟨rfl, by go_grown⟩

set_option maxHeartbeats 1000000 in
theorem so_over (n u : Int) (hn : 1152921504606846976 < n) (w : World) :
    Calls Tryz.prog 63 #[.int .i64 n, .int .u64 u] w fun e w' =>
      e = .returned (.tuple #[.agg #[.int .u64 0, .int .u64 0], .int .i64 15]) ∧ Below w.heap.size w w' := by
  go_enter Tryz.func63, Tryz.ntmps63
  go_wp2
  go_returns
  exact ⟨rfl, by go_grown⟩

/-- What 'so many times that' answers. -/
def So (n : Int) (v : Nat) (e : Ending) : Prop := ∃ h l g : Int, e = .returned (.tuple #[.agg #[.int .u64 h, .int .u64 l], .int .i64 g]) ∧
  ((n < 0 ∧ h = 0 ∧ l = 0 ∧ g = 2) ∨ (1152921504606846976 < n ∧ h = 0 ∧ l = 0 ∧ g = 15) ∨ (0 ≤ n ∧ n ≤ 1152921504606846976 ∧ Is h l (n.toNat * v) ∧ g = 0))

theorem so_any (n u : Int) (v : Nat) (hu : u = (v : Int)) (v1 : v ≤ 1000000000) (w : World) :
    Calls Tryz.prog 63 #[.int .i64 n, .int .u64 u] w fun e w' => So n v e ∧ Below w.heap.size w w' := by
  by_cases c : n < 0
  · refine (so_neg n u c w).mono ?_
    rintro e w' ⟨he, hw⟩
    exact ⟨⟨_, _, _, he, Or.inl ⟨c, rfl, rfl, rfl⟩⟩, hw⟩
  · by_cases d : 1152921504606846976 < n
    · refine (so_over n u d w).mono ?_
      rintro e w' ⟨he, hw⟩
      exact ⟨⟨_, _, _, he, Or.inr (Or.inl ⟨d, rfl, rfl, rfl⟩)⟩, hw⟩
    · refine (so_is n u n.toNat v (by omega) (by omega) hu v1 w).mono ?_
      rintro e w' ⟨h, l, he, i, hw⟩
      exact ⟨⟨_, _, _, he, Or.inr (Or.inr ⟨by omega, by omega, i, rfl⟩)⟩, hw⟩

set_option maxHeartbeats 1000000 in
theorem ofUnits_any (n : Int) (w : World) :
    Calls Tryz.prog 40 #[.int .i64 n] w fun e w' => So n 1000000000 e ∧ Below w.heap.size w w' := by
  go_enter Tryz.func40, Tryz.ntmps40
  go_wp2_with (fail)
  refine (so_any n 1000000000 1000000000 rfl (by omega) _).mono ?_
  rintro e w1 ⟨⟨h, l, g, rfl, f⟩, hw1⟩
  have HBw1 : Below w.heap.size w w1 := Below.trans (by go_grown) (hw1.mono (by first | omega | (simp; done) | (simp; omega)))
  have p_r : Box w1 (w.heap.size) (0) (0) := Box.later hw1 (by repeat (first | assumption | (refine Box.new _ _ _ _ _ ?_; simp; done) | refine Box.alloc ?_ _ | refine Box.drew ?_ | (apply Box.put) | (refine Box.beside ?_ _ _ _ (by omega))))
  have q_r := p_r
  obtain ⟨r0, r1, r2, r3, r4⟩ := p_r
  have hsw1 := hw1.size
  (try simp at hsw1)
  clear hw1
  go_wp2
  refine bodyPost_ret (v := .tuple #[.agg #[.int .u64 h, .int .u64 l], .int .i64 g]) (by simp [results, Tryz.results40, go_sem, r0, r1]) rfl ?_
  exact ⟨⟨_, _, _, rfl, f⟩, by go_grown⟩

set_option maxHeartbeats 1000000 in
theorem ofMilli_any (n : Int) (w : World) :
    Calls Tryz.prog 38 #[.int .i64 n] w fun e w' => So n 1000000 e ∧ Below w.heap.size w w' := by
  go_enter Tryz.func38, Tryz.ntmps38
  go_wp2_with (fail)
  refine (so_any n 1000000 1000000 rfl (by omega) _).mono ?_
  rintro e w1 ⟨⟨h, l, g, rfl, f⟩, hw1⟩
  have HBw1 : Below w.heap.size w w1 := Below.trans (by go_grown) (hw1.mono (by first | omega | (simp; done) | (simp; omega)))
  have p_r : Box w1 (w.heap.size) (0) (0) := Box.later hw1 (by repeat (first | assumption | (refine Box.new _ _ _ _ _ ?_; simp; done) | refine Box.alloc ?_ _ | refine Box.drew ?_ | (apply Box.put) | (refine Box.beside ?_ _ _ _ (by omega))))
  have q_r := p_r
  obtain ⟨r0, r1, r2, r3, r4⟩ := p_r
  have hsw1 := hw1.size
  (try simp at hsw1)
  clear hw1
  go_wp2
  refine bodyPost_ret (v := .tuple #[.agg #[.int .u64 h, .int .u64 l], .int .i64 g]) (by simp [results, Tryz.results38, go_sem, r0, r1]) rfl ?_
  exact ⟨⟨_, _, _, rfl, f⟩, by go_grown⟩

/-- 2^60 units. -/
def most : Nat := 1152921504606846976000000000

theorem cmp_le (a b : Nat) : decide (cmp (a : Int) (b : Int) ≤ 0) = decide (a ≤ b) := by
  rw [decide_eq_decide]
  unfold cmp
  split
  · omega
  · split <;> omega

set_option maxHeartbeats 1000000 in
theorem isAmount_is {h l : Int} {a : Nat} (i : Is h l a) (w : World) :
    Calls Tryz.prog 55 #[.agg #[.int .u64 h, .int .u64 l]] w fun e w' => e = .returned (.bool (decide (a ≤ most))) ∧ Below w.heap.size w w' := by
  go_enter Tryz.func55, Tryz.ntmps55
  go_wp2_with (fail)
  refine (ofUnits_any 1152921504606846976 _).mono ?_
  rintro e w1 ⟨⟨h1, l1, g, rfl, f⟩, hw1⟩
  have j : Is h1 l1 most := by
    rcases f with ⟨f, _⟩ | ⟨f, _⟩ | ⟨_, _, f, _⟩
    · omega
    · omega
    · exact f
  clear f
  have HBw1 : Below w.heap.size w w1 := Below.trans (by go_grown) (hw1.mono (by first | omega | (simp; done) | (simp; omega)))
  have p_r : Box w1 (w.heap.size) (h) (l) := Box.later hw1 (by repeat (first | assumption | (refine Box.new _ _ _ _ _ ?_; simp; done) | refine Box.alloc ?_ _ | refine Box.drew ?_ | (apply Box.put) | (refine Box.beside ?_ _ _ _ (by omega))))
  have q_r := p_r
  obtain ⟨r0, r1, r2, r3, r4⟩ := p_r
  have hsw1 := hw1.size
  (try simp at hsw1)
  clear hw1
  go_wp2_with (fail)
  refine (compare_is i j _).mono ?_
  rintro e w2 ⟨rfl, hw2⟩
  have HBw2 : Below w.heap.size w w2 := Below.trans (by go_grown) (hw2.mono (by first | omega | (simp; done) | (simp; omega)))
  have hsw2 := hw2.size
  (try simp at hsw2)
  clear hw2
  go_wp2
  go_ret
  exact ⟨congrArg Ending.returned (congrArg Value.bool (cmp_le a most)), by go_grown⟩

end Go.Proofs.YtpbgolcimbjekaaGreatDoor
