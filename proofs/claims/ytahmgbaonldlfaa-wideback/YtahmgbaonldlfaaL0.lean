/-
  What a contract of a function says in whatever world: the value that it answers. Conditions: none.
-/
import Derived.Test.YtahmgbaonldlfaaK
namespace Go.Proofs.Ytahmgbaonldlfaa
open Go.RowKit

/-- In whatever world: the call answers just this value, and nothing old turns. -/
def Ret (f : Nat) (args : Array Value) (v : Value) : Prop := ∀ w, Calls Try.prog f args w fun e w' => e = .returned v ∧ Below w.heap.size w w'
def vw (h l : Int) : Value := .agg #[.int .u64 h, .int .u64 l]

end Go.Proofs.Ytahmgbaonldlfaa
