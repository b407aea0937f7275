/-
  The contract of math/bits.Div64 at this program: where the high word lies below the divisor, the quotient and the rest of two words by one. Conditions: 0 <= hi < y, all below 2^64.
-/
import Derived.Test.YtaeejemknmjglaaDoorB
import Derived.Test.YtaeejemknmjglaaDoorD
import Derived.Deep.QuietTactic
import Derived.BigQuiet
namespace Go.Proofs.YtaeejemknmjglaaDoor
open Go.RowKit

theorem rem_wrap (U x : Int) (h0 : 0 ≤ U - x) (h1 : U - x < 18446744073709551616) (_U0 : 0 ≤ U) (_U1 : U < 18446744073709551616) : IntKind.u64.wrap (U - IntKind.u64.wrap x) = U - x := by
  rw [IntKind.wrap_u64, IntKind.wrap_u64]; omega

theorem rem_wrap2 (U d x R : Int) (h : U * 4294967296 + d - x = R) (h0 : 0 ≤ R) (h1 : R < 18446744073709551616) :
    IntKind.u64.wrap (IntKind.u64.wrap (IntKind.u64.wrap (U * 4294967296) + d) - IntKind.u64.wrap x) = R := by
  simp only [IntKind.wrap_u64]; omega

theorem shr_nat (lo : Int) (l0 : 0 ≤ lo) (k : Nat) : lo / 2 ^ k = ((lo.toNat / 2 ^ k : Nat) : Int) := by
  obtain ⟨n, rfl⟩ := Int.eq_ofNat_of_zero_le l0
  simp

end Go.Proofs.YtaeejemknmjglaaDoor
