/-
  The contract of the document's own product for layer 1 (twenty digits of sixteen bits) at this program: Times. Conditions: digits lie below 2^16; the eight least digits of each count.
-/
import Derived.Test.YtaeejemknmjglaaDoorV
namespace Go.Proofs.YtaeejemknmjglaaDoor
open Go.RowKit

theorem sv_upd (F : Nat → Int) (p : Nat) (v : Int) (n : Nat) : sv (upd F p v) n = sv F n + (if p < n then (v - F p) * 65536 ^ p else 0) := by
  induction n with
  | zero => simp [sv]
  | succ n ih =>
    simp only [sv]
    rw [ih]
    by_cases e : n = p
    · subst e
      rw [if_neg (by omega), if_pos (by omega)]
      have : upd F n v n = v := by simp [upd]
      rw [this]; grind
    · have : upd F p v n = F n := by simp [upd, e]
      rw [this]
      by_cases c : p < n
      · rw [if_pos c, if_pos (by omega)]; omega
      · rw [if_neg c, if_neg (by omega)]; omega
theorem upd_digs (F : Nat → Int) (h : Digs F) (p : Nat) (v : Int) (v0 : 0 ≤ v) (v1 : v < 65536) : Digs (upd F p v) := by
  intro i; unfold upd; split
  · exact ⟨v0, v1⟩
  · exact h i
theorem zero_digs : Digs (fun _ => 0) := fun _ => ⟨Int.le_refl 0, (by decide : (0 : Int) < 65536)⟩
theorem prod_bd (a b : Int) (a0 : 0 ≤ a) (a1 : a < 65536) (b0 : 0 ≤ b) (b1 : b < 65536) : 0 ≤ a * b ∧ a * b ≤ 4294836225 := by
  refine ⟨Int.mul_nonneg a0 b0, ?_⟩
  have : a * b ≤ 65535 * 65535 := Int.mul_le_mul (by omega) (by omega) b0 (by omega)
  omega

/-- One step of a row: what is carried, what is added. -/
theorem row_step (F : Nat → Int) (S0 di c t x : Int) (e : Nat → Int) (i k : Nat) (hik : i + k < 20) (hx : x = F (i + k) + c + t) (ht : (k < 8 ∧ t = di * e k) ∨ (8 ≤ k ∧ t = 0))
    (h : sv F 20 + c * 65536 ^ (i + k) = S0 + di * 65536 ^ i * sv e (min k 8)) :
    sv (upd F (i + k) (x % 65536)) 20 + x / 65536 * 65536 ^ (i + (k + 1)) = S0 + di * 65536 ^ i * sv e (min (k + 1) 8) := by
  rw [sv_upd, if_pos hik, show i + (k + 1) = (i + k) + 1 by omega, Int.pow_succ]
  have q := Int.mul_ediv_add_emod x 65536
  have e1 : (x % 65536 - F (i + k)) * 65536 ^ (i + k) + x / 65536 * (65536 ^ (i + k) * 65536) = (c + t) * 65536 ^ (i + k) := by
    have : (x % 65536 - F (i + k)) * 65536 ^ (i + k) + x / 65536 * (65536 ^ (i + k) * 65536) = (65536 * (x / 65536) + x % 65536 - F (i + k)) * 65536 ^ (i + k) := by grind
    rw [this, q, hx]; grind
  have e2 : (c + t) * 65536 ^ (i + k) = c * 65536 ^ (i + k) + t * 65536 ^ (i + k) := by grind
  rcases ht with ⟨h8, rfl⟩ | ⟨h8, rfl⟩
  · rw [Nat.min_eq_left (by omega)] at h
    rw [Nat.min_eq_left (by omega)]
    have e3 : di * 65536 ^ i * sv e (k + 1) = di * 65536 ^ i * sv e k + di * e k * 65536 ^ (i + k) := by
      simp only [sv, Int.pow_add]; grind
    rw [e3]
    omega
  · rw [Nat.min_eq_right (by omega)] at h
    rw [Nat.min_eq_right (by omega)]
    omega
theorem row_end (F : Nat → Int) (d e : Nat → Int) (i : Nat) (h : sv F 20 + 0 * 65536 ^ (i + 12) = sv d i * sv e 8 + d i * 65536 ^ i * sv e (min 12 8)) : sv F 20 = sv d (i + 1) * sv e 8 := by
  rw [show min 12 8 = 8 from rfl] at h
  have e1 : sv d (i + 1) = sv d i + d i * 65536 ^ i := rfl
  rw [e1, Int.add_mul]
  generalize sv e 8 = E at *
  omega

end Go.Proofs.YtaeejemknmjglaaDoor
