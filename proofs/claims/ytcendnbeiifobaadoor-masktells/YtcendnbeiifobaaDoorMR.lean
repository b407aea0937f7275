/-
  What the cards of this seat want besides: a world in which the three tables lie as the rows list them; ints and slices of ints that are read. Conditions: none.
-/
import Derived.Test.YtcendnbeiifobaaDoorMB
import Derived.Test.YtcendnbeiifobaaDoorCards
import Derived.Test.YtcendnbeiifobaaDoorTie
import Derived.ProofKit
import Derived.OpenShut
import Derived.Lib.SmallJoins
import Derived.Deep.DeepHandedRow
import Derived.Lib.LaidTab
import Derived.Deep.Slices
import Derived.ChangeSlices
namespace Go.Proofs.YtcendnbeiifobaaDoor.Sp
open Go.ChangeShapes Go.WideShapes Go.ChangeAt Go.RowKit Go.Joins Go.Deep

theorem own : ownKnob Tryd.prog.godebug = none := by kernel_rfl
theorem laidOut : laidOutB Tryd.prog = true := by kernel_rfl
theorem cellsInt : Tryd.prog.cellsOf 3 = 1 := by kernel_rfl
/-- Nothing is wanted of the tables. -/
def Any (_ : World) : Prop := True
theorem any_laid {laid : List (String × DataW Unit)} {W : World} (_ : laidMetH Tryd.prog laid W) : Any W := trivial
/-- A block with these cells. -/
def laidAs (vs : List Value) : Obj → Obj
  | .cells _ t frozen => .cells vs.toArray t frozen
  | o => o
/-- What a table's datum holds, a cell each. -/
def laidCell : DataW Unit → Value
  | .lit (.int k n) => .int k n
  | _ => .bool false
def laidCells : DataW Unit → List Value
  | .agg l => l.map laidCell
  | _ => []
/-- A world with the three tables as they are laid. -/
def laidOver7 (W : World) : World :=
  { W with heap := ((W.heap.modify 2 (laidAs (laidCells Rows.laid_math_bits_deBruijn32tab))).modify 3 (laidAs (laidCells Rows.laid_math_bits_deBruijn64tab))).modify 0 (laidAs (laidCells Rows.laid_internal_strconv_uint64pow10)) }

abbrev In64 (n : Int) : Prop := -9223372036854775808 ≤ n ∧ n ≤ 9223372036854775807
theorem i64_bd {x : Int} (h : (Lit.int .i64 x).wf = true) : -9223372036854775808 ≤ x ∧ x ≤ 9223372036854775807 := by simpa [Lit.wf, IntKind.min, IntKind.max, IntKind.signed, IntKind.bits] using h
theorem u8_bd {x : Int} (h : (Lit.int .u8 x).wf = true) : 0 ≤ x ∧ x ≤ 255 := by simpa [Lit.wf, IntKind.min, IntKind.max, IntKind.signed, IntKind.bits] using h

/-- A slice of ints that is read: its numbers. -/
theorem read_ints {H : Type} {enc : TypeId × Value → H} {W : World} {a0 : Option Addr} {len cap fuel : Nat} {x : DataW H × List MemPlace}
    (h : DataW.trod enc Tryd.prog W 0 (fun _ => true) true fuel 26 [.slice a0 len cap] = some x) : ∃ zs : List Int, Mk.RdI W (.slice a0 len cap) zs := by
  rcases open_ints Tryd.underlying26 Tryd.underlying3 cellsInt h with ⟨hcs, -⟩ | ⟨a, len', cap', zs, hcs, _, hl, hm, hz, -, hcell, hwz⟩
  · simp at hcs
    obtain ⟨rfl, rfl, rfl⟩ := hcs
    exact ⟨[], none, 0, rfl, by simp, by simp [maxLen], fun j d hj => by simp at hj⟩
  · simp at hcs
    obtain ⟨rfl, rfl, rfl⟩ := hcs
    simp only [if_true] at hz
    have hlen : (zs.take len).length = len := by simp; omega
    refine ⟨zs.take len, some a, cap, by rw [hlen], by omega, hm, fun j d hj => ?_⟩
    have hjl : j < zs.length := by
      have := (List.getElem?_eq_some_iff.1 hj).1
      simp at this
      omega
    have hd : zs.getD j 0 = d := by
      rw [List.getElem?_take] at hj
      split at hj
      · rw [List.getD, hj]; rfl
      · cases hj
    have hc := hcell j hjl
    rw [hd] at hc
    have hs : a.spot = none := by
      have h0 := hcell 0 (by omega)
      have := World.cell?_spot h0
      simpa [Addr.add] using this
    obtain ⟨b, off, sp⟩ := a
    simp at hs
    subst hs
    refine ⟨b, off, rfl, ?_⟩
    rwa [add_plain] at hc

end Go.Proofs.YtcendnbeiifobaaDoor.Sp
