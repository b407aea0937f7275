/-
  NARROWER THAN 'FOR EVERY INPUT', by the rows' own cells (each row's printed sentence says how): KnobsOf: laid · KnobsTell: laid · KnobsHold: laid · KnobsRise: laid · KnobsFiles: laid.
  DERIVED. THE GIVEN ROWS OF THIS SEAT. 5 by the template 'for every input the law returns true; each argument reads behind the call as it read before'; 0 by the template 'total and deterministic' (their statements: YtaeejemknmjglaaDoorTotals.lean).
  GIVEN WITH THE SEED: the statements are not yours to turn. If you find one false, say at which input.
  Laid BY PROGRAM, IN A SANDBOX (cutbox-rows.mjs): the forced cells as the released guide's own fill.sh prints them over the translation 4b8cb9538b92a982… (all of the seat's roots in one cut). By AI agents, Wed Nov 11 2026. No macro, syntax, notation, axiom, sorry.
-/
import Derived.Test.YtaeejemknmjglaaDoorChecked
import GoSem.Claim
import GoSem.ClaimJoined
import GoSem.ClaimMapViews
import Derived.JoinedTies
import Derived.KernelRfl
namespace Go.Proofs.YtaeejemknmjglaaDoor
/- THE CELL 'sum', in the pinned program and in every row, IS THE sha256 OF THE DUMP (.gsa) THAT YtaeejemknmjglaaDoorProg.lean LOADS. Nothing in Lean hashes anything: it is a label: what it is worth is what the hold of that sum in a sandbox is worth. -/
noncomputable def Tryd.pinned : Pinned := { name := "ytaeejemknmjglaadoor", sum := "4b8cb9538b92a98234c4c5bffb827c75a5b34cd74880f1d5640f9f9b800a169d", checked := Tryd.checked }
namespace Rows
def none {H : Type} : Left H := { results := [], args := [] }

/- WHAT THE LISTED PACKAGE-LEVEL VARIABLES READ AS WHEN THE CALL BEGINS. Each datum BY PROGRAM (the guide's laid-datum.mjs) off the statement by which the dump's own 'gosem.cut.vars' lays the variable. In a bare row this is a premise. The card (YtaeejemknmjglaaDoorCards.lean) ties it to the program's text. -/
def laid_math_bits_deBruijn32tab {H : Type} : DataW H := .agg [.lit (.int .u8 0), .lit (.int .u8 1), .lit (.int .u8 28), .lit (.int .u8 2), .lit (.int .u8 29), .lit (.int .u8 14), .lit (.int .u8 24), .lit (.int .u8 3), .lit (.int .u8 30), .lit (.int .u8 22), .lit (.int .u8 20), .lit (.int .u8 15), .lit (.int .u8 25), .lit (.int .u8 17), .lit (.int .u8 4), .lit (.int .u8 8), .lit (.int .u8 31), .lit (.int .u8 27), .lit (.int .u8 13), .lit (.int .u8 23), .lit (.int .u8 21), .lit (.int .u8 19), .lit (.int .u8 16), .lit (.int .u8 7), .lit (.int .u8 26), .lit (.int .u8 12), .lit (.int .u8 18), .lit (.int .u8 6), .lit (.int .u8 11), .lit (.int .u8 5), .lit (.int .u8 10), .lit (.int .u8 9)]
def laid_math_bits_deBruijn64tab {H : Type} : DataW H := .agg [.lit (.int .u8 0), .lit (.int .u8 1), .lit (.int .u8 56), .lit (.int .u8 2), .lit (.int .u8 57), .lit (.int .u8 49), .lit (.int .u8 28), .lit (.int .u8 3), .lit (.int .u8 61), .lit (.int .u8 58), .lit (.int .u8 42), .lit (.int .u8 50), .lit (.int .u8 38), .lit (.int .u8 29), .lit (.int .u8 17), .lit (.int .u8 4), .lit (.int .u8 62), .lit (.int .u8 47), .lit (.int .u8 59), .lit (.int .u8 36), .lit (.int .u8 45), .lit (.int .u8 43), .lit (.int .u8 51), .lit (.int .u8 22), .lit (.int .u8 53), .lit (.int .u8 39), .lit (.int .u8 33), .lit (.int .u8 30), .lit (.int .u8 24), .lit (.int .u8 18), .lit (.int .u8 12), .lit (.int .u8 5), .lit (.int .u8 63), .lit (.int .u8 55), .lit (.int .u8 48), .lit (.int .u8 27), .lit (.int .u8 60), .lit (.int .u8 41), .lit (.int .u8 37), .lit (.int .u8 16), .lit (.int .u8 46), .lit (.int .u8 35), .lit (.int .u8 44), .lit (.int .u8 21), .lit (.int .u8 52), .lit (.int .u8 32), .lit (.int .u8 23), .lit (.int .u8 11), .lit (.int .u8 54), .lit (.int .u8 26), .lit (.int .u8 40), .lit (.int .u8 15), .lit (.int .u8 34), .lit (.int .u8 20), .lit (.int .u8 31), .lit (.int .u8 10), .lit (.int .u8 25), .lit (.int .u8 14), .lit (.int .u8 19), .lit (.int .u8 9), .lit (.int .u8 13), .lit (.int .u8 8), .lit (.int .u8 7), .lit (.int .u8 6)]
def laid_internal_strconv_uint64pow10 {H : Type} : DataW H := .agg [.lit (.int .u64 1), .lit (.int .u64 10), .lit (.int .u64 100), .lit (.int .u64 1000), .lit (.int .u64 10000), .lit (.int .u64 100000), .lit (.int .u64 1000000), .lit (.int .u64 10000000), .lit (.int .u64 100000000), .lit (.int .u64 1000000000), .lit (.int .u64 10000000000), .lit (.int .u64 100000000000), .lit (.int .u64 1000000000000), .lit (.int .u64 10000000000000), .lit (.int .u64 100000000000000), .lit (.int .u64 1000000000000000), .lit (.int .u64 10000000000000000), .lit (.int .u64 100000000000000000), .lit (.int .u64 1000000000000000000), .lit (.int .u64 10000000000000000000)]
def laid_berthing_vector_bounds {H : Type} : DataW H := .agg [.lit (.int .i64 1099511627776), .lit (.int .i64 1125899906842624), .lit (.int .i64 1125899906842624)]
def laid_berthing_spec_bounded {H : Type} : DataW H := .agg [.lit (.int .i64 0), .lit (.int .i64 1)]
def laid_berthing_knobs_leasts {H : Type} : DataW H := .agg [.lit (.int .i64 0), .lit (.int .i64 1), .lit (.int .i64 0), .lit (.int .i64 0), .lit (.int .i64 0)]
def laid_berthing_knobs_mosts {H : Type} : DataW H := .agg [.lit (.int .i64 9007199254740992), .lit (.int .i64 10000), .lit (.int .i64 9007199254740992), .lit (.int .i64 9007199254740992), .lit (.int .i64 9007199254740992)]
def laid_berthing_knobs_endless {H : Type} : DataW H := .agg [.lit (.bool true), .lit (.bool false), .lit (.bool false), .lit (.bool true), .lit (.bool false)]

/-- 'berthinglaw06.KnobsOf': WHATEVER THE INPUT: true; the input reads as it did. -/
def knobsOfSpec : ChangeSpec := { name := "knobsOf", fn := fun _ => fun
  | [d1, d2] => { results := [.lit (.bool true)], args := [d1, d2] }
  | _ => none }
def knobsOfRow : OpenClaim := { program := "ytaeejemknmjglaadoor", sum := "4b8cb9538b92a98234c4c5bffb827c75a5b34cd74880f1d5640f9f9b800a169d", func := "berthing/berthinglaw06.KnobsOf", spec := "knobsOf", inPlace := ["internal/abi.NoEscape", "internal/bytealg.MakeNoZero"], unfollowed := true, recurses := true, named := ["berthing/spec.bounded", "berthing/vector.bounds", "internal/strconv.uint64pow10", "math/bits.deBruijn32tab", "math/bits.deBruijn64tab", "berthing/knobs.endless", "berthing/knobs.leasts", "berthing/knobs.mosts"], apart := false, laid := [("math/bits.deBruijn32tab", laid_math_bits_deBruijn32tab), ("math/bits.deBruijn64tab", laid_math_bits_deBruijn64tab), ("internal/strconv.uint64pow10", laid_internal_strconv_uint64pow10), ("berthing/vector.bounds", laid_berthing_vector_bounds), ("berthing/spec.bounded", laid_berthing_spec_bounded), ("berthing/knobs.leasts", laid_berthing_knobs_leasts), ("berthing/knobs.mosts", laid_berthing_knobs_mosts), ("berthing/knobs.endless", laid_berthing_knobs_endless)] }
def KnobsOfSaid : Prop := knobsOfRow.holds Tryd.pinned (OpenSpec.ofChange knobsOfSpec)

/-- ITS FALSE NEIGHBOUR: 'it returns false'. Refute it at one input. -/
def knobsOfWrong : ChangeSpec := { name := "knobsOf", fn := fun _ => fun
  | [d1, d2] => { results := [.lit (.bool false)], args := [d1, d2] }
  | _ => none }
def KnobsOfWrongFalsely : Prop := knobsOfRow.holds Tryd.pinned (OpenSpec.ofChange knobsOfWrong)

/-- 'berthinglaw06.KnobsTell': WHATEVER THE INPUT: true; the input reads as it did. -/
def knobsTellSpec : ChangeSpec := { name := "knobsTell", fn := fun _ => fun
  | [d] => { results := [.lit (.bool true)], args := [d] }
  | _ => none }
def knobsTellRow : OpenClaim := { program := "ytaeejemknmjglaadoor", sum := "4b8cb9538b92a98234c4c5bffb827c75a5b34cd74880f1d5640f9f9b800a169d", func := "berthing/berthinglaw06.KnobsTell", spec := "knobsTell", inPlace := ["internal/abi.NoEscape", "internal/bytealg.MakeNoZero"], unfollowed := true, recurses := true, named := ["berthing/spec.bounded", "berthing/vector.bounds", "internal/strconv.uint64pow10", "math/bits.deBruijn32tab", "math/bits.deBruijn64tab", "berthing/knobs.endless", "berthing/knobs.leasts", "berthing/knobs.mosts"], apart := false, laid := [("math/bits.deBruijn32tab", laid_math_bits_deBruijn32tab), ("math/bits.deBruijn64tab", laid_math_bits_deBruijn64tab), ("internal/strconv.uint64pow10", laid_internal_strconv_uint64pow10), ("berthing/vector.bounds", laid_berthing_vector_bounds), ("berthing/spec.bounded", laid_berthing_spec_bounded), ("berthing/knobs.leasts", laid_berthing_knobs_leasts), ("berthing/knobs.mosts", laid_berthing_knobs_mosts), ("berthing/knobs.endless", laid_berthing_knobs_endless)] }
def KnobsTellSaid : Prop := knobsTellRow.holds Tryd.pinned (OpenSpec.ofChange knobsTellSpec)

/-- ITS FALSE NEIGHBOUR: 'it returns false'. Refute it at one input. -/
def knobsTellWrong : ChangeSpec := { name := "knobsTell", fn := fun _ => fun
  | [d] => { results := [.lit (.bool false)], args := [d] }
  | _ => none }
def KnobsTellWrongFalsely : Prop := knobsTellRow.holds Tryd.pinned (OpenSpec.ofChange knobsTellWrong)

/-- 'berthinglaw06.KnobsHold': WHATEVER THE INPUT: true; the input reads as it did. -/
def knobsHoldSpec : ChangeSpec := { name := "knobsHold", fn := fun _ => fun
  | [d] => { results := [.lit (.bool true)], args := [d] }
  | _ => none }
def knobsHoldRow : OpenClaim := { program := "ytaeejemknmjglaadoor", sum := "4b8cb9538b92a98234c4c5bffb827c75a5b34cd74880f1d5640f9f9b800a169d", func := "berthing/berthinglaw06.KnobsHold", spec := "knobsHold", inPlace := ["internal/abi.NoEscape", "internal/bytealg.MakeNoZero"], unfollowed := true, recurses := true, named := ["berthing/spec.bounded", "berthing/vector.bounds", "internal/strconv.uint64pow10", "math/bits.deBruijn32tab", "math/bits.deBruijn64tab", "berthing/knobs.endless", "berthing/knobs.leasts", "berthing/knobs.mosts"], apart := false, laid := [("math/bits.deBruijn32tab", laid_math_bits_deBruijn32tab), ("math/bits.deBruijn64tab", laid_math_bits_deBruijn64tab), ("internal/strconv.uint64pow10", laid_internal_strconv_uint64pow10), ("berthing/vector.bounds", laid_berthing_vector_bounds), ("berthing/spec.bounded", laid_berthing_spec_bounded), ("berthing/knobs.leasts", laid_berthing_knobs_leasts), ("berthing/knobs.mosts", laid_berthing_knobs_mosts), ("berthing/knobs.endless", laid_berthing_knobs_endless)] }
def KnobsHoldSaid : Prop := knobsHoldRow.holds Tryd.pinned (OpenSpec.ofChange knobsHoldSpec)

/-- ITS FALSE NEIGHBOUR: 'it returns false'. Refute it at one input. -/
def knobsHoldWrong : ChangeSpec := { name := "knobsHold", fn := fun _ => fun
  | [d] => { results := [.lit (.bool false)], args := [d] }
  | _ => none }
def KnobsHoldWrongFalsely : Prop := knobsHoldRow.holds Tryd.pinned (OpenSpec.ofChange knobsHoldWrong)

/-- 'berthinglaw06.KnobsRise': WHATEVER THE INPUT: true; the input reads as it did. -/
def knobsRiseSpec : ChangeSpec := { name := "knobsRise", fn := fun _ => fun
  | [d1, d2] => { results := [.lit (.bool true)], args := [d1, d2] }
  | _ => none }
def knobsRiseRow : OpenClaim := { program := "ytaeejemknmjglaadoor", sum := "4b8cb9538b92a98234c4c5bffb827c75a5b34cd74880f1d5640f9f9b800a169d", func := "berthing/berthinglaw06.KnobsRise", spec := "knobsRise", inPlace := ["internal/abi.NoEscape", "internal/bytealg.MakeNoZero"], unfollowed := true, recurses := true, named := ["berthing/spec.bounded", "berthing/vector.bounds", "internal/strconv.uint64pow10", "math/bits.deBruijn32tab", "math/bits.deBruijn64tab", "berthing/knobs.endless", "berthing/knobs.leasts", "berthing/knobs.mosts"], apart := false, laid := [("math/bits.deBruijn32tab", laid_math_bits_deBruijn32tab), ("math/bits.deBruijn64tab", laid_math_bits_deBruijn64tab), ("internal/strconv.uint64pow10", laid_internal_strconv_uint64pow10), ("berthing/vector.bounds", laid_berthing_vector_bounds), ("berthing/spec.bounded", laid_berthing_spec_bounded), ("berthing/knobs.leasts", laid_berthing_knobs_leasts), ("berthing/knobs.mosts", laid_berthing_knobs_mosts), ("berthing/knobs.endless", laid_berthing_knobs_endless)] }
def KnobsRiseSaid : Prop := knobsRiseRow.holds Tryd.pinned (OpenSpec.ofChange knobsRiseSpec)

/-- ITS FALSE NEIGHBOUR: 'it returns false'. Refute it at one input. -/
def knobsRiseWrong : ChangeSpec := { name := "knobsRise", fn := fun _ => fun
  | [d1, d2] => { results := [.lit (.bool false)], args := [d1, d2] }
  | _ => none }
def KnobsRiseWrongFalsely : Prop := knobsRiseRow.holds Tryd.pinned (OpenSpec.ofChange knobsRiseWrong)

/-- 'berthinglaw06.KnobsFiles': WHATEVER THE INPUT: true; the input reads as it did. -/
def knobsFilesSpec : ChangeSpec := { name := "knobsFiles", fn := fun _ => fun
  | [d1, d2, d3] => { results := [.lit (.bool true)], args := [d1, d2, d3] }
  | _ => none }
def knobsFilesRow : OpenClaim := { program := "ytaeejemknmjglaadoor", sum := "4b8cb9538b92a98234c4c5bffb827c75a5b34cd74880f1d5640f9f9b800a169d", func := "berthing/berthinglaw06.KnobsFiles", spec := "knobsFiles", inPlace := ["internal/abi.NoEscape", "internal/bytealg.MakeNoZero"], unfollowed := true, recurses := true, named := ["berthing/spec.bounded", "berthing/vector.bounds", "internal/strconv.uint64pow10", "math/bits.deBruijn32tab", "math/bits.deBruijn64tab", "berthing/knobs.endless", "berthing/knobs.leasts", "berthing/knobs.mosts"], apart := false, laid := [("math/bits.deBruijn32tab", laid_math_bits_deBruijn32tab), ("math/bits.deBruijn64tab", laid_math_bits_deBruijn64tab), ("internal/strconv.uint64pow10", laid_internal_strconv_uint64pow10), ("berthing/vector.bounds", laid_berthing_vector_bounds), ("berthing/spec.bounded", laid_berthing_spec_bounded), ("berthing/knobs.leasts", laid_berthing_knobs_leasts), ("berthing/knobs.mosts", laid_berthing_knobs_mosts), ("berthing/knobs.endless", laid_berthing_knobs_endless)] }
def KnobsFilesSaid : Prop := knobsFilesRow.holds Tryd.pinned (OpenSpec.ofChange knobsFilesSpec)

/-- ITS FALSE NEIGHBOUR: 'it returns false'. Refute it at one input. -/
def knobsFilesWrong : ChangeSpec := { name := "knobsFiles", fn := fun _ => fun
  | [d1, d2, d3] => { results := [.lit (.bool false)], args := [d1, d2, d3] }
  | _ => none }
def KnobsFilesWrongFalsely : Prop := knobsFilesRow.holds Tryd.pinned (OpenSpec.ofChange knobsFilesWrong)

/- THE SECOND FORM. 'bulk': how many values and letters a reading holds, each counted each time it is reached (what is shared counts as often as it is met; a slice's spare places count too). A statement '..UptoSaid' is the law's where the arguments, and the package variables that the reading takes, are together of bulk at most 1048576: NARROWER than '..Said'. Prove '..Said' where nothing that the law and all that it calls make is longer than what came in: it says more and counts as full. Else prove '..UptoSaid'. A law counts once. -/
mutual
def uptoBulk {H : Type} : DataW H → Nat
  | .lit (.string bytes) => bytes.length + 1
  | .lit _ => 1
  | .nil => 1
  | .ptr d => uptoBulk d + 1
  | .slice elems spare => uptoBulkAll elems + uptoBulkAll spare + 1
  | .agg parts => uptoBulkAll parts + 1
  | .iface _ d => uptoBulk d + 1
  | .map entries => uptoBulkEntries entries + 1
  | .held _ => 1
def uptoBulkAll {H : Type} : List (DataW H) → Nat
  | [] => 0
  | d :: r => uptoBulk d + uptoBulkAll r
def uptoBulkEntries {H : Type} : List (Lit × DataW H) → Nat
  | [] => 0
  | x :: r => uptoBulkEntry x + uptoBulkEntries r
def uptoBulkEntry {H : Type} : Lit × DataW H → Nat
  | (.string bytes, d) => bytes.length + uptoBulk d + 1
  | (_, d) => uptoBulk d + 1
 end
def uptoSmall : (H : Type) → List (DataW H) → Bool := fun _ ds => decide (uptoBulkAll ds ≤ 1048576)
def OpenSpec.upto (s : _root_.Go.ChangeSpec) : _root_.Go.OpenSpec := { _root_.Go.OpenSpec.ofChange s with cond := some uptoSmall }

/-- 'berthinglaw06.KnobsOf', WHERE WHAT IT READS IS OF BULK AT MOST 1048576: true; the input reads as it did. -/
def knobsOfUptoRow : OpenClaim := { program := "ytaeejemknmjglaadoor", sum := "4b8cb9538b92a98234c4c5bffb827c75a5b34cd74880f1d5640f9f9b800a169d", func := "berthing/berthinglaw06.KnobsOf", spec := "knobsOf", inPlace := ["internal/abi.NoEscape", "internal/bytealg.MakeNoZero"], unfollowed := true, recurses := true, named := ["berthing/spec.bounded", "berthing/vector.bounds", "internal/strconv.uint64pow10", "math/bits.deBruijn32tab", "math/bits.deBruijn64tab", "berthing/knobs.endless", "berthing/knobs.leasts", "berthing/knobs.mosts"], apart := false, laid := [("math/bits.deBruijn32tab", laid_math_bits_deBruijn32tab), ("math/bits.deBruijn64tab", laid_math_bits_deBruijn64tab), ("internal/strconv.uint64pow10", laid_internal_strconv_uint64pow10), ("berthing/vector.bounds", laid_berthing_vector_bounds), ("berthing/spec.bounded", laid_berthing_spec_bounded), ("berthing/knobs.leasts", laid_berthing_knobs_leasts), ("berthing/knobs.mosts", laid_berthing_knobs_mosts), ("berthing/knobs.endless", laid_berthing_knobs_endless)], narrowed := true }
def KnobsOfUptoSaid : Prop := knobsOfUptoRow.holds Tryd.pinned (OpenSpec.upto knobsOfSpec)

/-- 'berthinglaw06.KnobsTell', WHERE WHAT IT READS IS OF BULK AT MOST 1048576: true; the input reads as it did. -/
def knobsTellUptoRow : OpenClaim := { program := "ytaeejemknmjglaadoor", sum := "4b8cb9538b92a98234c4c5bffb827c75a5b34cd74880f1d5640f9f9b800a169d", func := "berthing/berthinglaw06.KnobsTell", spec := "knobsTell", inPlace := ["internal/abi.NoEscape", "internal/bytealg.MakeNoZero"], unfollowed := true, recurses := true, named := ["berthing/spec.bounded", "berthing/vector.bounds", "internal/strconv.uint64pow10", "math/bits.deBruijn32tab", "math/bits.deBruijn64tab", "berthing/knobs.endless", "berthing/knobs.leasts", "berthing/knobs.mosts"], apart := false, laid := [("math/bits.deBruijn32tab", laid_math_bits_deBruijn32tab), ("math/bits.deBruijn64tab", laid_math_bits_deBruijn64tab), ("internal/strconv.uint64pow10", laid_internal_strconv_uint64pow10), ("berthing/vector.bounds", laid_berthing_vector_bounds), ("berthing/spec.bounded", laid_berthing_spec_bounded), ("berthing/knobs.leasts", laid_berthing_knobs_leasts), ("berthing/knobs.mosts", laid_berthing_knobs_mosts), ("berthing/knobs.endless", laid_berthing_knobs_endless)], narrowed := true }
def KnobsTellUptoSaid : Prop := knobsTellUptoRow.holds Tryd.pinned (OpenSpec.upto knobsTellSpec)

/-- 'berthinglaw06.KnobsHold', WHERE WHAT IT READS IS OF BULK AT MOST 1048576: true; the input reads as it did. -/
def knobsHoldUptoRow : OpenClaim := { program := "ytaeejemknmjglaadoor", sum := "4b8cb9538b92a98234c4c5bffb827c75a5b34cd74880f1d5640f9f9b800a169d", func := "berthing/berthinglaw06.KnobsHold", spec := "knobsHold", inPlace := ["internal/abi.NoEscape", "internal/bytealg.MakeNoZero"], unfollowed := true, recurses := true, named := ["berthing/spec.bounded", "berthing/vector.bounds", "internal/strconv.uint64pow10", "math/bits.deBruijn32tab", "math/bits.deBruijn64tab", "berthing/knobs.endless", "berthing/knobs.leasts", "berthing/knobs.mosts"], apart := false, laid := [("math/bits.deBruijn32tab", laid_math_bits_deBruijn32tab), ("math/bits.deBruijn64tab", laid_math_bits_deBruijn64tab), ("internal/strconv.uint64pow10", laid_internal_strconv_uint64pow10), ("berthing/vector.bounds", laid_berthing_vector_bounds), ("berthing/spec.bounded", laid_berthing_spec_bounded), ("berthing/knobs.leasts", laid_berthing_knobs_leasts), ("berthing/knobs.mosts", laid_berthing_knobs_mosts), ("berthing/knobs.endless", laid_berthing_knobs_endless)], narrowed := true }
def KnobsHoldUptoSaid : Prop := knobsHoldUptoRow.holds Tryd.pinned (OpenSpec.upto knobsHoldSpec)

/-- 'berthinglaw06.KnobsRise', WHERE WHAT IT READS IS OF BULK AT MOST 1048576: true; the input reads as it did. -/
def knobsRiseUptoRow : OpenClaim := { program := "ytaeejemknmjglaadoor", sum := "4b8cb9538b92a98234c4c5bffb827c75a5b34cd74880f1d5640f9f9b800a169d", func := "berthing/berthinglaw06.KnobsRise", spec := "knobsRise", inPlace := ["internal/abi.NoEscape", "internal/bytealg.MakeNoZero"], unfollowed := true, recurses := true, named := ["berthing/spec.bounded", "berthing/vector.bounds", "internal/strconv.uint64pow10", "math/bits.deBruijn32tab", "math/bits.deBruijn64tab", "berthing/knobs.endless", "berthing/knobs.leasts", "berthing/knobs.mosts"], apart := false, laid := [("math/bits.deBruijn32tab", laid_math_bits_deBruijn32tab), ("math/bits.deBruijn64tab", laid_math_bits_deBruijn64tab), ("internal/strconv.uint64pow10", laid_internal_strconv_uint64pow10), ("berthing/vector.bounds", laid_berthing_vector_bounds), ("berthing/spec.bounded", laid_berthing_spec_bounded), ("berthing/knobs.leasts", laid_berthing_knobs_leasts), ("berthing/knobs.mosts", laid_berthing_knobs_mosts), ("berthing/knobs.endless", laid_berthing_knobs_endless)], narrowed := true }
def KnobsRiseUptoSaid : Prop := knobsRiseUptoRow.holds Tryd.pinned (OpenSpec.upto knobsRiseSpec)

/-- 'berthinglaw06.KnobsFiles', WHERE WHAT IT READS IS OF BULK AT MOST 1048576: true; the input reads as it did. -/
def knobsFilesUptoRow : OpenClaim := { program := "ytaeejemknmjglaadoor", sum := "4b8cb9538b92a98234c4c5bffb827c75a5b34cd74880f1d5640f9f9b800a169d", func := "berthing/berthinglaw06.KnobsFiles", spec := "knobsFiles", inPlace := ["internal/abi.NoEscape", "internal/bytealg.MakeNoZero"], unfollowed := true, recurses := true, named := ["berthing/spec.bounded", "berthing/vector.bounds", "internal/strconv.uint64pow10", "math/bits.deBruijn32tab", "math/bits.deBruijn64tab", "berthing/knobs.endless", "berthing/knobs.leasts", "berthing/knobs.mosts"], apart := false, laid := [("math/bits.deBruijn32tab", laid_math_bits_deBruijn32tab), ("math/bits.deBruijn64tab", laid_math_bits_deBruijn64tab), ("internal/strconv.uint64pow10", laid_internal_strconv_uint64pow10), ("berthing/vector.bounds", laid_berthing_vector_bounds), ("berthing/spec.bounded", laid_berthing_spec_bounded), ("berthing/knobs.leasts", laid_berthing_knobs_leasts), ("berthing/knobs.mosts", laid_berthing_knobs_mosts), ("berthing/knobs.endless", laid_berthing_knobs_endless)], narrowed := true }
def KnobsFilesUptoSaid : Prop := knobsFilesUptoRow.holds Tryd.pinned (OpenSpec.upto knobsFilesSpec)

end Rows
end Go.Proofs.YtaeejemknmjglaaDoor
