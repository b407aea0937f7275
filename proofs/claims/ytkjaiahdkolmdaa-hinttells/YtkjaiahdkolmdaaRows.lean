/-
  No cell of these rows narrows 'for every input' (looked for: loops, veiled, ifaces, maps, wideKeys, modest, calm, conditions, laid).
  DERIVED. THE GIVEN ROWS OF THIS SEAT. 3 by the template 'for every input the law returns true; each argument reads behind the call as it read before'; 0 by the template 'total and deterministic' (their statements: YtkjaiahdkolmdaaTotals.lean).
  GIVEN WITH THE SEED: the statements are not yours to turn. If you find one false, say at which input.
  Laid BY PROGRAM, IN A SANDBOX (cutbox-rows.mjs): the forced cells as the released guide's own fill.sh prints them over the translation 8639cec5aac1807e… (all of the seat's roots in one cut). By AI agents, Wed Nov 11 2026. No macro, syntax, notation, axiom, sorry.
-/
import Derived.Test.YtkjaiahdkolmdaaChecked
import GoSem.Claim
import GoSem.ClaimJoined
import GoSem.ClaimMapViews
import Derived.JoinedTies
import Derived.KernelRfl
namespace Go.Proofs.Ytkjaiahdkolmdaa
/- THE CELL 'sum', in the pinned program and in every row, IS THE sha256 OF THE DUMP (.gsa) THAT YtkjaiahdkolmdaaProg.lean LOADS. Nothing in Lean hashes anything: it is a label: what it is worth is what the hold of that sum in a sandbox is worth. -/
noncomputable def Try.pinned : Pinned := { name := "ytkjaiahdkolmdaa", sum := "8639cec5aac1807ed914968cec50b40733e921d00755952668d0e65c721e0fde", checked := Try.checked }
namespace Rows
def none {H : Type} : Left H := { results := [], args := [] }

/-- 'berthinglaw09.HintTells': WHATEVER THE INPUT: true; the input reads as it did. -/
def hintTellsSpec : ChangeSpec := { name := "hintTells", fn := fun _ => fun
  | [d] => { results := [.lit (.bool true)], args := [d] }
  | _ => none }
def hintTellsRow : OpenClaim := { program := "ytkjaiahdkolmdaa", sum := "8639cec5aac1807ed914968cec50b40733e921d00755952668d0e65c721e0fde", func := "berthing/berthinglaw09.HintTells", spec := "hintTells", unfollowed := true, recurses := true, apart := false }
def HintTellsSaid : Prop := hintTellsRow.holds Try.pinned (OpenSpec.ofChange hintTellsSpec)

/-- ITS FALSE NEIGHBOUR: 'it returns false'. Refute it at one input. -/
def hintTellsWrong : ChangeSpec := { name := "hintTells", fn := fun _ => fun
  | [d] => { results := [.lit (.bool false)], args := [d] }
  | _ => none }
def HintTellsWrongFalsely : Prop := hintTellsRow.holds Try.pinned (OpenSpec.ofChange hintTellsWrong)

/-- 'berthinglaw09.HintLeast': WHATEVER THE INPUT: true; the input reads as it did. -/
def hintLeastSpec : ChangeSpec := { name := "hintLeast", fn := fun _ => fun
  | [d] => { results := [.lit (.bool true)], args := [d] }
  | _ => none }
def hintLeastRow : OpenClaim := { program := "ytkjaiahdkolmdaa", sum := "8639cec5aac1807ed914968cec50b40733e921d00755952668d0e65c721e0fde", func := "berthing/berthinglaw09.HintLeast", spec := "hintLeast", unfollowed := true, recurses := true, apart := false }
def HintLeastSaid : Prop := hintLeastRow.holds Try.pinned (OpenSpec.ofChange hintLeastSpec)

/-- ITS FALSE NEIGHBOUR: 'it returns false'. Refute it at one input. -/
def hintLeastWrong : ChangeSpec := { name := "hintLeast", fn := fun _ => fun
  | [d] => { results := [.lit (.bool false)], args := [d] }
  | _ => none }
def HintLeastWrongFalsely : Prop := hintLeastRow.holds Try.pinned (OpenSpec.ofChange hintLeastWrong)

/-- 'berthinglaw09.HintMore': WHATEVER THE INPUT: true; the input reads as it did. -/
def hintMoreSpec : ChangeSpec := { name := "hintMore", fn := fun _ => fun
  | [d] => { results := [.lit (.bool true)], args := [d] }
  | _ => none }
def hintMoreRow : OpenClaim := { program := "ytkjaiahdkolmdaa", sum := "8639cec5aac1807ed914968cec50b40733e921d00755952668d0e65c721e0fde", func := "berthing/berthinglaw09.HintMore", spec := "hintMore", unfollowed := true, recurses := true, apart := false }
def HintMoreSaid : Prop := hintMoreRow.holds Try.pinned (OpenSpec.ofChange hintMoreSpec)

/-- ITS FALSE NEIGHBOUR: 'it returns false'. Refute it at one input. -/
def hintMoreWrong : ChangeSpec := { name := "hintMore", fn := fun _ => fun
  | [d] => { results := [.lit (.bool false)], args := [d] }
  | _ => none }
def HintMoreWrongFalsely : Prop := hintMoreRow.holds Try.pinned (OpenSpec.ofChange hintMoreWrong)

/- THE SECOND FORM. 'bulk': how many values and letters a reading holds, each counted each time it is reached (what is shared counts as often as it is met; a slice's spare places count too). A statement '..UptoSaid' is the law's where the arguments, and the package variables that the reading takes, are together of bulk at most 1048576: NARROWER than '..Said'. Prove '..Said' where nothing that the law and all that it calls make is longer than what came in: it says more and counts as full. Else prove '..UptoSaid'. A law counts once. -/
mutual
def uptoBulk {H : Type} : DataW H → Nat
  | .lit (.string bytes) => bytes.length + 1
  | .lit _ => 1
  | .nil => 1
  | .ptr d => uptoBulk d + 1
  | .slice elems spare => uptoBulkAll elems + uptoBulkAll spare + 1
  | .agg parts => uptoBulkAll parts + 1
  | .iface _ d => uptoBulk d + 1
  | .map entries => uptoBulkEntries entries + 1
  | .held _ => 1
def uptoBulkAll {H : Type} : List (DataW H) → Nat
  | [] => 0
  | d :: r => uptoBulk d + uptoBulkAll r
def uptoBulkEntries {H : Type} : List (Lit × DataW H) → Nat
  | [] => 0
  | x :: r => uptoBulkEntry x + uptoBulkEntries r
def uptoBulkEntry {H : Type} : Lit × DataW H → Nat
  | (.string bytes, d) => bytes.length + uptoBulk d + 1
  | (_, d) => uptoBulk d + 1
 end
def uptoSmall : (H : Type) → List (DataW H) → Bool := fun _ ds => decide (uptoBulkAll ds ≤ 1048576)
def OpenSpec.upto (s : _root_.Go.ChangeSpec) : _root_.Go.OpenSpec := { _root_.Go.OpenSpec.ofChange s with cond := some uptoSmall }

/-- 'berthinglaw09.HintTells', WHERE WHAT IT READS IS OF BULK AT MOST 1048576: true; the input reads as it did. -/
def hintTellsUptoRow : OpenClaim := { program := "ytkjaiahdkolmdaa", sum := "8639cec5aac1807ed914968cec50b40733e921d00755952668d0e65c721e0fde", func := "berthing/berthinglaw09.HintTells", spec := "hintTells", unfollowed := true, recurses := true, apart := false, narrowed := true }
def HintTellsUptoSaid : Prop := hintTellsUptoRow.holds Try.pinned (OpenSpec.upto hintTellsSpec)

/-- 'berthinglaw09.HintLeast', WHERE WHAT IT READS IS OF BULK AT MOST 1048576: true; the input reads as it did. -/
def hintLeastUptoRow : OpenClaim := { program := "ytkjaiahdkolmdaa", sum := "8639cec5aac1807ed914968cec50b40733e921d00755952668d0e65c721e0fde", func := "berthing/berthinglaw09.HintLeast", spec := "hintLeast", unfollowed := true, recurses := true, apart := false, narrowed := true }
def HintLeastUptoSaid : Prop := hintLeastUptoRow.holds Try.pinned (OpenSpec.upto hintLeastSpec)

/-- 'berthinglaw09.HintMore', WHERE WHAT IT READS IS OF BULK AT MOST 1048576: true; the input reads as it did. -/
def hintMoreUptoRow : OpenClaim := { program := "ytkjaiahdkolmdaa", sum := "8639cec5aac1807ed914968cec50b40733e921d00755952668d0e65c721e0fde", func := "berthing/berthinglaw09.HintMore", spec := "hintMore", unfollowed := true, recurses := true, apart := false, narrowed := true }
def HintMoreUptoSaid : Prop := hintMoreUptoRow.holds Try.pinned (OpenSpec.upto hintMoreSpec)

end Rows
end Go.Proofs.Ytkjaiahdkolmdaa
