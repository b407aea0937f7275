/-
  Contracts of math/bits' Len64, LeadingZeros64 and Mul64 at this program. Conditions: the arguments lie below 2^64.
-/
import Derived.Test.YtfbkmifgnpapbaaA
import Derived.Test.YtfbkmifgnpapbaaM
import Derived.Shelf.Bits.Mul64
import Derived.Laws.MathBits
import Derived.Laws.Bits64b
namespace Go.Proofs.Ytfbkmifgnpapbaa
open Go.RowKit

end Go.Proofs.Ytfbkmifgnpapbaa
