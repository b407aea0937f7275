/-
  The walk of the statement AmountOrders at this program: it returns true. Conditions: the words are words, n is a number of the machine, the two tables of suffixes lie as the program's text lays them.
-/
import Derived.Test.YtpbgolcimbjekaaGreatDoorVM
namespace Go.Proofs.YtpbgolcimbjekaaGreatDoor
open Go.RowKit

theorem up_mono {a b v : Nat} (h : a ≤ b) : up a v ≤ up b v := Nat.div_le_div_right (by omega)
theorem up_mul {n v : Nat} (v0 : 1 < v) : up (n * v) v = n := by
  rw [← up_whole v0 (by simp), Nat.mul_div_cancel _ (by omega)]
theorem counted_two {a b v : Nat} {x y g h : Int} (ab : a ≤ b)
    (f : (up a v ≤ 1152921504606846976 ∧ x = (up a v : Nat) ∧ g = 0) ∨ (1152921504606846976 < up a v ∧ x = 0 ∧ g = 15))
    (k : (up b v ≤ 1152921504606846976 ∧ y = (up b v : Nat) ∧ h = 0) ∨ (1152921504606846976 < up b v ∧ y = 0 ∧ h = 15)) :
    (h = 0 ∧ g = 0 ∧ x ≤ y) ∨ h = 15 := by
  have := up_mono (v := v) ab
  omega
theorem cmp_pos {a b : Nat} (h : a ≤ b) : cmp (a : Int) (b : Int) ≤ 0 := by
  have := cmp_le a b
  rw [decide_eq_true h] at this
  exact of_decide_eq_true this
theorem cmp_neg {a b : Nat} (h : ¬ a ≤ b) : ¬ cmp (a : Int) (b : Int) ≤ 0 := by
  have := cmp_le a b
  rw [decide_eq_false h] at this
  exact of_decide_eq_false this

/-- What comes of so many, and back. -/
theorem back_units {n : Int} {h l g : Int}
    (f : (n < 0 ∧ h = 0 ∧ l = 0 ∧ g = 2) ∨ (1152921504606846976 < n ∧ h = 0 ∧ l = 0 ∧ g = 15) ∨ (0 ≤ n ∧ n ≤ 1152921504606846976 ∧ Is h l (n.toNat * 1000000000) ∧ g = 0)) :
    (g = 2 ∨ g = 15) ∨ (g = 0 ∧ ∀ w, Calls Tryz.prog 57 #[.agg #[.int .u64 h, .int .u64 l]] w fun e w' => e = .returned (.tuple #[.int .i64 n, .int .i64 0]) ∧ Below w.heap.size w w') := by
  rcases f with ⟨_, _, _, rfl⟩ | ⟨_, _, _, rfl⟩ | ⟨n0, n1, i, rfl⟩
  · exact Or.inl (Or.inl rfl)
  · exact Or.inl (Or.inr rfl)
  · refine Or.inr ⟨rfl, fun w => (units_is i w).mono ?_⟩
    rintro e w' ⟨⟨m, g, rfl, f⟩, hw⟩
    rw [up_mul (by omega)] at f
    rcases f with ⟨_, rfl, rfl⟩ | ⟨f, _⟩
    · rw [show ((n.toNat : Nat) : Int) = n by omega]; exact ⟨rfl, hw⟩
    · omega
theorem back_milli {n : Int} {h l g : Int}
    (f : (n < 0 ∧ h = 0 ∧ l = 0 ∧ g = 2) ∨ (1152921504606846976 < n ∧ h = 0 ∧ l = 0 ∧ g = 15) ∨ (0 ≤ n ∧ n ≤ 1152921504606846976 ∧ Is h l (n.toNat * 1000000) ∧ g = 0)) :
    (g = 2 ∨ g = 15) ∨ (g = 0 ∧ ∀ w, Calls Tryz.prog 56 #[.agg #[.int .u64 h, .int .u64 l]] w fun e w' => e = .returned (.tuple #[.int .i64 n, .int .i64 0]) ∧ Below w.heap.size w w') := by
  rcases f with ⟨_, _, _, rfl⟩ | ⟨_, _, _, rfl⟩ | ⟨n0, n1, i, rfl⟩
  · exact Or.inl (Or.inl rfl)
  · exact Or.inl (Or.inr rfl)
  · refine Or.inr ⟨rfl, fun w => (milli_is i w).mono ?_⟩
    rintro e w' ⟨⟨m, g, rfl, f⟩, hw⟩
    rw [up_mul (by omega)] at f
    rcases f with ⟨_, rfl, rfl⟩ | ⟨f, _⟩
    · rw [show ((n.toNat : Nat) : Int) = n by omega]; exact ⟨rfl, hw⟩
    · omega

end Go.Proofs.YtpbgolcimbjekaaGreatDoor
