/-
  The contract of the document's own answer for a number's text at this program: its decimal digits. Conditions: the words are words.
-/
import Derived.Test.YtaeejemknmjglaaDoorTA
import Derived.Test.YtaeejemknmjglaaDoorVA
import Derived.Lib.ItoaNum
namespace Go.Proofs.YtaeejemknmjglaaDoor
open Go.RowKit

theorem dec_digits : ∀ a : Nat, a < 340282366920938463463374607431768211456 → dec a = Lib.decDigits a := fun a => by
  induction a using Nat.strongRecOn with
  | _ a ih =>
    intro h
    by_cases k : a < 10
    · rw [dec_lt k, Lib.decDigits, dif_pos k]
    · rw [dec_ge (by omega) h, Lib.decDigits, dif_neg k, ih (a / 10) (by omega) (by omega)]
theorem rtext_low (a : Nat) (h : a < 18446744073709551616) (w : World) :
    Calls Tryd.prog 58 #[.agg #[.int .u64 0, .int .u64 a]] w fun e w' =>
      e = .returned (.string ⟨(Lib.decDigits a).toArray⟩) ∧ Below w.heap.size w w' := by
  refine (rtext_any 0 a w (by omega) (by omega) (by omega) (by omega)).mono ?_
  rintro e w' ⟨n, he, n1, n2, p, q, hw⟩
  rw [show (0 : Int) * 18446744073709551616 + (a : Int) = (a : Int) by omega] at he p q
  obtain ⟨k, rfl⟩ : ∃ k, n = k + 1 := ⟨n - 1, by omega⟩
  refine ⟨?_, hw⟩
  have P : ∀ k : Nat, (10 : Int) ^ k = ((10 ^ k : Nat) : Int) := fun k => by simp
  have pos : ∀ k : Nat, 0 < 10 ^ k := fun k => Nat.pow_pos (by omega)
  rw [he, tx_dec k a (by omega) ?_ ?_, dec_digits a (by omega)]
  · rw [P] at q
    have q' : a / 10 ^ (k + 1) = 0 := by exact_mod_cast q
    exact (Nat.div_eq_zero_iff.1 q').resolve_left (by have := pos (k + 1); omega)
  · intro hk
    have := p (by omega)
    rw [P, show k + 1 - 1 = k by omega] at this
    have q' : ¬ a / 10 ^ k = 0 := fun h => this (by exact_mod_cast h)
    rw [Nat.div_eq_zero_iff] at q'
    omega

end Go.Proofs.YtaeejemknmjglaaDoor
