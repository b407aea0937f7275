/-
  Contracts of the small functions of package wide (Of, Compare) at this program, and what they lean on. Conditions: each word lies below 2^64.
-/
import Derived.Test.YtaeejemknmjglaaDoorRows
import Derived.WalkKit
import Derived.WalkSpells
import Derived.WalkLawsBesides
import Derived.Handy
import Derived.Deep.Light
namespace Go.Proofs.YtaeejemknmjglaaDoor
open Go.RowKit

def cmp (x y : Int) : Int := if x = y then 0 else if x < y then -1 else 1

end Go.Proofs.YtaeejemknmjglaaDoor
