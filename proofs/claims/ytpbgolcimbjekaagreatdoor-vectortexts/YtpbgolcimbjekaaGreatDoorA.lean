/-
  Contracts of the small functions of package wide (Of, Compare) at this program, and what they lean on. Conditions: each word lies below 2^64.
-/
import Derived.Test.YtpbgolcimbjekaaGreatDoorRows
import Derived.WalkKit
import Derived.WalkSpells
import Derived.WalkLawsBesides
import Derived.Handy
import Derived.Deep.Light
namespace Go.Proofs.YtpbgolcimbjekaaGreatDoor
open Go.RowKit

set_option maxHeartbeats 400000 in
theorem of_any (u : Int) (w : World) :
    Calls Tryz.prog 84 #[.int .u64 u] w fun e w' => e = .returned (.agg #[.int .u64 0, .int .u64 u]) ∧ Below w.heap.size w w' := by
  go_enter Tryz.func84, Tryz.ntmps84
  go_wp2
  go_returns
  refine ⟨rfl, ?_⟩
  go_grown

def cmp (x y : Int) : Int := if x = y then 0 else if x < y then -1 else 1

set_option maxHeartbeats 400000 in
theorem compare_any (ah al bh bl : Int) (w : World) (a0 : 0 ≤ al) (a1 : al < 18446744073709551616) (b0 : 0 ≤ bl) (b1 : bl < 18446744073709551616) :
    Calls Tryz.prog 81 #[.agg #[.int .u64 ah, .int .u64 al], .agg #[.int .u64 bh, .int .u64 bl]] w fun e w' =>
      e = .returned (.int .i64 (cmp (ah * 18446744073709551616 + al) (bh * 18446744073709551616 + bl))) ∧ Below w.heap.size w w' := by
  go_enter Tryz.func81, Tryz.ntmps81
  go_wp2
  all_goals
    go_ret
    go_light
    refine ⟨congrArg Ending.returned (congrArg (Value.int IntKind.i64) ?_), by go_grown⟩
    unfold cmp
    first | rw [if_pos (by omega)] | rw [if_neg (by omega), if_pos (by omega)] | rw [if_neg (by omega), if_neg (by omega)]

end Go.Proofs.YtpbgolcimbjekaaGreatDoor
