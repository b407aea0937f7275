/-
  NARROWER THAN 'FOR EVERY INPUT', by the rows' own cells (each row's printed sentence says how): VectorTexts: laid.
  DERIVED. THE GIVEN ROWS OF THIS SEAT. 1 by the template 'for every input the law returns true; each argument reads behind the call as it read before'; 0 by the template 'total and deterministic' (their statements: YtpbgolcimbjekaaGreatDoorTotals.lean).
  GIVEN WITH THE SEED: the statements are not yours to turn. If you find one false, say at which input.
  Laid BY PROGRAM, IN A SANDBOX (cutbox-rows.mjs): the forced cells as the released guide's own fill.sh prints them over the translation f72b7257690fad7b… (all of the seat's roots in one cut). By AI agents, Wed Nov 11 2026. No macro, syntax, notation, axiom, sorry.
-/
import Derived.Test.YtpbgolcimbjekaaGreatDoorChecked
import GoSem.Claim
import GoSem.ClaimJoined
import GoSem.ClaimMapViews
import Derived.JoinedTies
import Derived.KernelRfl
namespace Go.Proofs.YtpbgolcimbjekaaGreatDoor
/- THE CELL 'sum', in the pinned program and in every row, IS THE sha256 OF THE DUMP (.gsa) THAT YtpbgolcimbjekaaGreatDoorProg.lean LOADS. Nothing in Lean hashes anything: it is a label: what it is worth is what the hold of that sum in a sandbox is worth. -/
noncomputable def Tryz.pinned : Pinned := { name := "ytpbgolcimbjekaagreatdoor", sum := "f72b7257690fad7b7f5e52feb33f1702be87a663aaebe58f9e2b71d527db9061", checked := Tryz.checked }
namespace Rows
def none {H : Type} : Left H := { results := [], args := [] }

/- WHAT THE LISTED PACKAGE-LEVEL VARIABLES READ AS WHEN THE CALL BEGINS. Each datum BY PROGRAM (the guide's laid-datum.mjs) off the statement by which the dump's own 'gosem.cut.vars' lays the variable. In a bare row this is a premise. The card (YtpbgolcimbjekaaGreatDoorCards.lean) ties it to the program's text. -/
def laid_berthing_amount_decimals {H : Type} : DataW H := .agg [.lit (.string [110]), .lit (.string [117]), .lit (.string [109]), .lit (.string []), .lit (.string [107]), .lit (.string [77]), .lit (.string [71]), .lit (.string [84]), .lit (.string [80]), .lit (.string [69])]
def laid_berthing_amount_binaries {H : Type} : DataW H := .agg [.lit (.string [75, 105]), .lit (.string [77, 105]), .lit (.string [71, 105]), .lit (.string [84, 105]), .lit (.string [80, 105]), .lit (.string [69, 105])]
def laid_berthing_vector_names {H : Type} : DataW H := .agg [.lit (.string [99, 112, 117]), .lit (.string [109, 101, 109, 111, 114, 121]), .lit (.string [104, 117, 103, 101, 112, 97, 103, 101, 115])]
def laid_berthing_vector_bounds {H : Type} : DataW H := .agg [.lit (.int .i64 1099511627776), .lit (.int .i64 1125899906842624), .lit (.int .i64 1125899906842624)]

/-- 'berthinglaw04.VectorTexts': WHATEVER THE INPUT: true; the input reads as it did. -/
def vectorTextsSpec : ChangeSpec := { name := "vectorTexts", fn := fun _ => fun
  | [d1, d2] => { results := [.lit (.bool true)], args := [d1, d2] }
  | _ => none }
def vectorTextsRow : OpenClaim := { program := "ytpbgolcimbjekaagreatdoor", sum := "f72b7257690fad7b7f5e52feb33f1702be87a663aaebe58f9e2b71d527db9061", func := "berthing/berthinglaw04.VectorTexts", spec := "vectorTexts", inPlace := ["internal/bytealg.IndexByteString", "internal/bytealg.IndexString", "math/bits.Add64", "internal/abi.NoEscape", "internal/bytealg.MakeNoZero"], named := ["internal/bytealg.MaxLen", "berthing/vector.names", "berthing/vector.bounds", "berthing/amount.decimals", "berthing/amount.binaries", "math/bits.divideError", "math/bits.overflowError"], apart := false, laid := [("berthing/amount.decimals", laid_berthing_amount_decimals), ("berthing/amount.binaries", laid_berthing_amount_binaries), ("berthing/vector.names", laid_berthing_vector_names), ("berthing/vector.bounds", laid_berthing_vector_bounds)] }
def VectorTextsSaid : Prop := vectorTextsRow.holds Tryz.pinned (OpenSpec.ofChange vectorTextsSpec)

/-- ITS FALSE NEIGHBOUR: 'it returns false'. Refute it at one input. -/
def vectorTextsWrong : ChangeSpec := { name := "vectorTexts", fn := fun _ => fun
  | [d1, d2] => { results := [.lit (.bool false)], args := [d1, d2] }
  | _ => none }
def VectorTextsWrongFalsely : Prop := vectorTextsRow.holds Tryz.pinned (OpenSpec.ofChange vectorTextsWrong)

/- THE SECOND FORM. 'bulk': how many values and letters a reading holds, each counted each time it is reached (what is shared counts as often as it is met; a slice's spare places count too). A statement '..UptoSaid' is the law's where the arguments, and the package variables that the reading takes, are together of bulk at most 1048576: NARROWER than '..Said'. Prove '..Said' where nothing that the law and all that it calls make is longer than what came in: it says more and counts as full. Else prove '..UptoSaid'. A law counts once. -/
mutual
def uptoBulk {H : Type} : DataW H → Nat
  | .lit (.string bytes) => bytes.length + 1
  | .lit _ => 1
  | .nil => 1
  | .ptr d => uptoBulk d + 1
  | .slice elems spare => uptoBulkAll elems + uptoBulkAll spare + 1
  | .agg parts => uptoBulkAll parts + 1
  | .iface _ d => uptoBulk d + 1
  | .map entries => uptoBulkEntries entries + 1
  | .held _ => 1
def uptoBulkAll {H : Type} : List (DataW H) → Nat
  | [] => 0
  | d :: r => uptoBulk d + uptoBulkAll r
def uptoBulkEntries {H : Type} : List (Lit × DataW H) → Nat
  | [] => 0
  | x :: r => uptoBulkEntry x + uptoBulkEntries r
def uptoBulkEntry {H : Type} : Lit × DataW H → Nat
  | (.string bytes, d) => bytes.length + uptoBulk d + 1
  | (_, d) => uptoBulk d + 1
 end
def uptoSmall : (H : Type) → List (DataW H) → Bool := fun _ ds => decide (uptoBulkAll ds ≤ 1048576)
def OpenSpec.upto (s : _root_.Go.ChangeSpec) : _root_.Go.OpenSpec := { _root_.Go.OpenSpec.ofChange s with cond := some uptoSmall }

/-- 'berthinglaw04.VectorTexts', WHERE WHAT IT READS IS OF BULK AT MOST 1048576: true; the input reads as it did. -/
def vectorTextsUptoRow : OpenClaim := { program := "ytpbgolcimbjekaagreatdoor", sum := "f72b7257690fad7b7f5e52feb33f1702be87a663aaebe58f9e2b71d527db9061", func := "berthing/berthinglaw04.VectorTexts", spec := "vectorTexts", inPlace := ["internal/bytealg.IndexByteString", "internal/bytealg.IndexString", "math/bits.Add64", "internal/abi.NoEscape", "internal/bytealg.MakeNoZero"], named := ["internal/bytealg.MaxLen", "berthing/vector.names", "berthing/vector.bounds", "berthing/amount.decimals", "berthing/amount.binaries", "math/bits.divideError", "math/bits.overflowError"], apart := false, laid := [("berthing/amount.decimals", laid_berthing_amount_decimals), ("berthing/amount.binaries", laid_berthing_amount_binaries), ("berthing/vector.names", laid_berthing_vector_names), ("berthing/vector.bounds", laid_berthing_vector_bounds)], narrowed := true }
def VectorTextsUptoSaid : Prop := vectorTextsUptoRow.holds Tryz.pinned (OpenSpec.upto vectorTextsSpec)

end Rows
end Go.Proofs.YtpbgolcimbjekaaGreatDoor
