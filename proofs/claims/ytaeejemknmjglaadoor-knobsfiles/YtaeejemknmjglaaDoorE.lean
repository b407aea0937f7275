/-
  Contracts of package wide's Bits, Right, Left, Add, Sub, Times, By at this program: each over the numbers that its words make (the high word times 2^64, and the low one). Conditions: all words lie below 2^64.
-/
import Derived.Test.YtaeejemknmjglaaDoorC
import Derived.Test.YtaeejemknmjglaaDoorF
namespace Go.Proofs.YtaeejemknmjglaaDoor
open Go.RowKit

/-- What a sum, a product or a move up answers: the number V, if it has two words; else nothing. -/
def Fits (h l : Int) (b : Bool) (V : Int) : Prop := (b = true ∧ h * 18446744073709551616 + l = V) ∨ (b = false ∧ h = 0 ∧ l = 0 ∧ 340282366920938463463374607431768211456 ≤ V)

end Go.Proofs.YtaeejemknmjglaaDoor
