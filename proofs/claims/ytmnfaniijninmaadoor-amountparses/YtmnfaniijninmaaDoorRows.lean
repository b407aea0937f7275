/-
  NARROWER THAN 'FOR EVERY INPUT', by the rows' own cells (each row's printed sentence says how): AmountParses: laid · AmountTells: laid · AmountBack: laid · AmountOrders: laid.
  DERIVED. THE GIVEN ROWS OF THIS SEAT. 4 by the template 'for every input the law returns true; each argument reads behind the call as it read before'; 0 by the template 'total and deterministic' (their statements: YtmnfaniijninmaaDoorTotals.lean).
  GIVEN WITH THE SEED: the statements are not yours to turn. If you find one false, say at which input.
  Laid BY PROGRAM, IN A SANDBOX (cutbox-rows.mjs): the forced cells as the released guide's own fill.sh prints them over the translation 8a57b3b05ad2b1d8… (all of the seat's roots in one cut). By AI agents, Wed Nov 11 2026. No macro, syntax, notation, axiom, sorry.
-/
import Derived.Test.YtmnfaniijninmaaDoorChecked
import GoSem.Claim
import GoSem.ClaimJoined
import GoSem.ClaimMapViews
import Derived.JoinedTies
import Derived.KernelRfl
namespace Go.Proofs.YtmnfaniijninmaaDoor
/- THE CELL 'sum', in the pinned program and in every row, IS THE sha256 OF THE DUMP (.gsa) THAT YtmnfaniijninmaaDoorProg.lean LOADS. Nothing in Lean hashes anything: it is a label: what it is worth is what the hold of that sum in a sandbox is worth. -/
noncomputable def Tryd.pinned : Pinned := { name := "ytmnfaniijninmaadoor", sum := "8a57b3b05ad2b1d8398c3e7d95703fb64a336f6d0ec24192a5f39b46ebf90dbd", checked := Tryd.checked }
namespace Rows
def none {H : Type} : Left H := { results := [], args := [] }

/- WHAT THE LISTED PACKAGE-LEVEL VARIABLES READ AS WHEN THE CALL BEGINS. Each datum BY PROGRAM (the guide's laid-datum.mjs) off the statement by which the dump's own 'gosem.cut.vars' lays the variable. In a bare row this is a premise. The card (YtmnfaniijninmaaDoorCards.lean) ties it to the program's text. -/
def laid_berthing_amount_decimals {H : Type} : DataW H := .agg [.lit (.string [110]), .lit (.string [117]), .lit (.string [109]), .lit (.string []), .lit (.string [107]), .lit (.string [77]), .lit (.string [71]), .lit (.string [84]), .lit (.string [80]), .lit (.string [69])]
def laid_berthing_amount_binaries {H : Type} : DataW H := .agg [.lit (.string [75, 105]), .lit (.string [77, 105]), .lit (.string [71, 105]), .lit (.string [84, 105]), .lit (.string [80, 105]), .lit (.string [69, 105])]

/-- 'berthinglaw02.AmountParses': WHATEVER THE INPUT: true; the input reads as it did. -/
def amountParsesSpec : ChangeSpec := { name := "amountParses", fn := fun _ => fun
  | [d] => { results := [.lit (.bool true)], args := [d] }
  | _ => none }
def amountParsesRow : OpenClaim := { program := "ytmnfaniijninmaadoor", sum := "8a57b3b05ad2b1d8398c3e7d95703fb64a336f6d0ec24192a5f39b46ebf90dbd", func := "berthing/berthinglaw02.AmountParses", spec := "amountParses", inPlace := ["internal/bytealg.IndexByteString", "internal/bytealg.IndexString", "math/bits.Add64"], named := ["internal/bytealg.MaxLen", "berthing/amount.decimals", "berthing/amount.binaries", "math/bits.divideError", "math/bits.overflowError"], apart := false, laid := [("berthing/amount.decimals", laid_berthing_amount_decimals), ("berthing/amount.binaries", laid_berthing_amount_binaries)] }
def AmountParsesSaid : Prop := amountParsesRow.holds Tryd.pinned (OpenSpec.ofChange amountParsesSpec)

/-- ITS FALSE NEIGHBOUR: 'it returns false'. Refute it at one input. -/
def amountParsesWrong : ChangeSpec := { name := "amountParses", fn := fun _ => fun
  | [d] => { results := [.lit (.bool false)], args := [d] }
  | _ => none }
def AmountParsesWrongFalsely : Prop := amountParsesRow.holds Tryd.pinned (OpenSpec.ofChange amountParsesWrong)

/-- 'berthinglaw02.AmountTells': WHATEVER THE INPUT: true; the input reads as it did. -/
def amountTellsSpec : ChangeSpec := { name := "amountTells", fn := fun _ => fun
  | [d1, d2] => { results := [.lit (.bool true)], args := [d1, d2] }
  | _ => none }
def amountTellsRow : OpenClaim := { program := "ytmnfaniijninmaadoor", sum := "8a57b3b05ad2b1d8398c3e7d95703fb64a336f6d0ec24192a5f39b46ebf90dbd", func := "berthing/berthinglaw02.AmountTells", spec := "amountTells", inPlace := ["internal/bytealg.IndexByteString", "internal/bytealg.IndexString", "math/bits.Add64"], named := ["internal/bytealg.MaxLen", "berthing/amount.decimals", "berthing/amount.binaries", "math/bits.divideError", "math/bits.overflowError"], apart := false, laid := [("berthing/amount.decimals", laid_berthing_amount_decimals), ("berthing/amount.binaries", laid_berthing_amount_binaries)] }
def AmountTellsSaid : Prop := amountTellsRow.holds Tryd.pinned (OpenSpec.ofChange amountTellsSpec)

/-- ITS FALSE NEIGHBOUR: 'it returns false'. Refute it at one input. -/
def amountTellsWrong : ChangeSpec := { name := "amountTells", fn := fun _ => fun
  | [d1, d2] => { results := [.lit (.bool false)], args := [d1, d2] }
  | _ => none }
def AmountTellsWrongFalsely : Prop := amountTellsRow.holds Tryd.pinned (OpenSpec.ofChange amountTellsWrong)

/-- 'berthinglaw02.AmountBack': WHATEVER THE INPUT: true; the input reads as it did. -/
def amountBackSpec : ChangeSpec := { name := "amountBack", fn := fun _ => fun
  | [d] => { results := [.lit (.bool true)], args := [d] }
  | _ => none }
def amountBackRow : OpenClaim := { program := "ytmnfaniijninmaadoor", sum := "8a57b3b05ad2b1d8398c3e7d95703fb64a336f6d0ec24192a5f39b46ebf90dbd", func := "berthing/berthinglaw02.AmountBack", spec := "amountBack", inPlace := ["internal/bytealg.IndexByteString", "internal/bytealg.IndexString", "math/bits.Add64", "math/bits.Sub64"], named := ["internal/bytealg.MaxLen", "berthing/amount.decimals", "berthing/amount.binaries", "math/bits.divideError", "math/bits.overflowError"], apart := false, laid := [("berthing/amount.decimals", laid_berthing_amount_decimals), ("berthing/amount.binaries", laid_berthing_amount_binaries)] }
def AmountBackSaid : Prop := amountBackRow.holds Tryd.pinned (OpenSpec.ofChange amountBackSpec)

/-- ITS FALSE NEIGHBOUR: 'it returns false'. Refute it at one input. -/
def amountBackWrong : ChangeSpec := { name := "amountBack", fn := fun _ => fun
  | [d] => { results := [.lit (.bool false)], args := [d] }
  | _ => none }
def AmountBackWrongFalsely : Prop := amountBackRow.holds Tryd.pinned (OpenSpec.ofChange amountBackWrong)

/-- 'berthinglaw02.AmountOrders': WHATEVER THE INPUT: true; the input reads as it did. -/
def amountOrdersSpec : ChangeSpec := { name := "amountOrders", fn := fun _ => fun
  | [d1, d2, d3] => { results := [.lit (.bool true)], args := [d1, d2, d3] }
  | _ => none }
def amountOrdersRow : OpenClaim := { program := "ytmnfaniijninmaadoor", sum := "8a57b3b05ad2b1d8398c3e7d95703fb64a336f6d0ec24192a5f39b46ebf90dbd", func := "berthing/berthinglaw02.AmountOrders", spec := "amountOrders", inPlace := ["internal/bytealg.IndexByteString", "internal/bytealg.IndexString", "math/bits.Add64"], named := ["internal/bytealg.MaxLen", "berthing/amount.decimals", "berthing/amount.binaries", "math/bits.divideError", "math/bits.overflowError"], apart := false, laid := [("berthing/amount.decimals", laid_berthing_amount_decimals), ("berthing/amount.binaries", laid_berthing_amount_binaries)] }
def AmountOrdersSaid : Prop := amountOrdersRow.holds Tryd.pinned (OpenSpec.ofChange amountOrdersSpec)

/-- ITS FALSE NEIGHBOUR: 'it returns false'. Refute it at one input. -/
def amountOrdersWrong : ChangeSpec := { name := "amountOrders", fn := fun _ => fun
  | [d1, d2, d3] => { results := [.lit (.bool false)], args := [d1, d2, d3] }
  | _ => none }
def AmountOrdersWrongFalsely : Prop := amountOrdersRow.holds Tryd.pinned (OpenSpec.ofChange amountOrdersWrong)

/- THE SECOND FORM. 'bulk': how many values and letters a reading holds, each counted each time it is reached (what is shared counts as often as it is met; a slice's spare places count too). A statement '..UptoSaid' is the law's where the arguments, and the package variables that the reading takes, are together of bulk at most 1048576: NARROWER than '..Said'. Prove '..Said' where nothing that the law and all that it calls make is longer than what came in: it says more and counts as full. Else prove '..UptoSaid'. A law counts once. -/
mutual
def uptoBulk {H : Type} : DataW H → Nat
  | .lit (.string bytes) => bytes.length + 1
  | .lit _ => 1
  | .nil => 1
  | .ptr d => uptoBulk d + 1
  | .slice elems spare => uptoBulkAll elems + uptoBulkAll spare + 1
  | .agg parts => uptoBulkAll parts + 1
  | .iface _ d => uptoBulk d + 1
  | .map entries => uptoBulkEntries entries + 1
  | .held _ => 1
def uptoBulkAll {H : Type} : List (DataW H) → Nat
  | [] => 0
  | d :: r => uptoBulk d + uptoBulkAll r
def uptoBulkEntries {H : Type} : List (Lit × DataW H) → Nat
  | [] => 0
  | x :: r => uptoBulkEntry x + uptoBulkEntries r
def uptoBulkEntry {H : Type} : Lit × DataW H → Nat
  | (.string bytes, d) => bytes.length + uptoBulk d + 1
  | (_, d) => uptoBulk d + 1
 end
def uptoSmall : (H : Type) → List (DataW H) → Bool := fun _ ds => decide (uptoBulkAll ds ≤ 1048576)
def OpenSpec.upto (s : _root_.Go.ChangeSpec) : _root_.Go.OpenSpec := { _root_.Go.OpenSpec.ofChange s with cond := some uptoSmall }

/-- 'berthinglaw02.AmountParses', WHERE WHAT IT READS IS OF BULK AT MOST 1048576: true; the input reads as it did. -/
def amountParsesUptoRow : OpenClaim := { program := "ytmnfaniijninmaadoor", sum := "8a57b3b05ad2b1d8398c3e7d95703fb64a336f6d0ec24192a5f39b46ebf90dbd", func := "berthing/berthinglaw02.AmountParses", spec := "amountParses", inPlace := ["internal/bytealg.IndexByteString", "internal/bytealg.IndexString", "math/bits.Add64"], named := ["internal/bytealg.MaxLen", "berthing/amount.decimals", "berthing/amount.binaries", "math/bits.divideError", "math/bits.overflowError"], apart := false, laid := [("berthing/amount.decimals", laid_berthing_amount_decimals), ("berthing/amount.binaries", laid_berthing_amount_binaries)], narrowed := true }
def AmountParsesUptoSaid : Prop := amountParsesUptoRow.holds Tryd.pinned (OpenSpec.upto amountParsesSpec)

/-- 'berthinglaw02.AmountTells', WHERE WHAT IT READS IS OF BULK AT MOST 1048576: true; the input reads as it did. -/
def amountTellsUptoRow : OpenClaim := { program := "ytmnfaniijninmaadoor", sum := "8a57b3b05ad2b1d8398c3e7d95703fb64a336f6d0ec24192a5f39b46ebf90dbd", func := "berthing/berthinglaw02.AmountTells", spec := "amountTells", inPlace := ["internal/bytealg.IndexByteString", "internal/bytealg.IndexString", "math/bits.Add64"], named := ["internal/bytealg.MaxLen", "berthing/amount.decimals", "berthing/amount.binaries", "math/bits.divideError", "math/bits.overflowError"], apart := false, laid := [("berthing/amount.decimals", laid_berthing_amount_decimals), ("berthing/amount.binaries", laid_berthing_amount_binaries)], narrowed := true }
def AmountTellsUptoSaid : Prop := amountTellsUptoRow.holds Tryd.pinned (OpenSpec.upto amountTellsSpec)

/-- 'berthinglaw02.AmountBack', WHERE WHAT IT READS IS OF BULK AT MOST 1048576: true; the input reads as it did. -/
def amountBackUptoRow : OpenClaim := { program := "ytmnfaniijninmaadoor", sum := "8a57b3b05ad2b1d8398c3e7d95703fb64a336f6d0ec24192a5f39b46ebf90dbd", func := "berthing/berthinglaw02.AmountBack", spec := "amountBack", inPlace := ["internal/bytealg.IndexByteString", "internal/bytealg.IndexString", "math/bits.Add64", "math/bits.Sub64"], named := ["internal/bytealg.MaxLen", "berthing/amount.decimals", "berthing/amount.binaries", "math/bits.divideError", "math/bits.overflowError"], apart := false, laid := [("berthing/amount.decimals", laid_berthing_amount_decimals), ("berthing/amount.binaries", laid_berthing_amount_binaries)], narrowed := true }
def AmountBackUptoSaid : Prop := amountBackUptoRow.holds Tryd.pinned (OpenSpec.upto amountBackSpec)

/-- 'berthinglaw02.AmountOrders', WHERE WHAT IT READS IS OF BULK AT MOST 1048576: true; the input reads as it did. -/
def amountOrdersUptoRow : OpenClaim := { program := "ytmnfaniijninmaadoor", sum := "8a57b3b05ad2b1d8398c3e7d95703fb64a336f6d0ec24192a5f39b46ebf90dbd", func := "berthing/berthinglaw02.AmountOrders", spec := "amountOrders", inPlace := ["internal/bytealg.IndexByteString", "internal/bytealg.IndexString", "math/bits.Add64"], named := ["internal/bytealg.MaxLen", "berthing/amount.decimals", "berthing/amount.binaries", "math/bits.divideError", "math/bits.overflowError"], apart := false, laid := [("berthing/amount.decimals", laid_berthing_amount_decimals), ("berthing/amount.binaries", laid_berthing_amount_binaries)], narrowed := true }
def AmountOrdersUptoSaid : Prop := amountOrdersUptoRow.holds Tryd.pinned (OpenSpec.upto amountOrdersSpec)

end Rows
end Go.Proofs.YtmnfaniijninmaaDoor
