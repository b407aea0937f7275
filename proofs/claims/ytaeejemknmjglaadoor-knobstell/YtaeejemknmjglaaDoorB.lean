/-
  Contracts of math/bits' Len64, LeadingZeros64 and Mul64 at this program. Conditions: the arguments lie below 2^64.
-/
import Derived.Test.YtaeejemknmjglaaDoorA
import Derived.Test.YtaeejemknmjglaaDoorM
import Derived.Shelf.Bits.Mul64
import Derived.Laws.MathBits
import Derived.Laws.Bits64b
namespace Go.Proofs.YtaeejemknmjglaaDoor
open Go.RowKit

set_option maxHeartbeats 4000000 in
set_option maxRecDepth 100000 in
theorem len64_any (x : Int) (w : World) (h0 : 0 ≤ x) (h1 : x ≤ 18446744073709551615) :
    Calls Tryd.prog 77 #[.int .u64 x] w fun e w' => e = .returned (.int .i64 (bitLen x.toNat)) ∧ w' = w := by
  go_enter Tryd.func77, Tryd.ntmps77
  go_wp2
  all_goals (go_ret; refine ⟨congrArg Ending.returned (congrArg (Value.int IntKind.i64) ?_), rfl⟩; go_light)
  all_goals rw [len8tab_get]
  · exact len_end 56 56 _ x rfl (by omega) (by omega) (by omega) (by omega) (by omega)
  · exact len_end 48 48 _ x rfl (by omega) (by omega) (by omega) (by omega) (by omega)
  · exact len_end 40 40 _ x rfl (by omega) (by omega) (by omega) (by omega) (by omega)
  · exact len_end 32 32 _ x rfl (by omega) (by omega) (by omega) (by omega) (by omega)
  · exact len_end 24 24 _ x rfl (by omega) (by omega) (by omega) (by omega) (by omega)
  · exact len_end 16 16 _ x rfl (by omega) (by omega) (by omega) (by omega) (by omega)
  · exact len_end 8 8 _ x rfl (by omega) (by omega) (by omega) (by omega) (by omega)
  · rw [len_end0 x h0 (by omega), len_end0 x h0 (by omega)]

end Go.Proofs.YtaeejemknmjglaaDoor
