/-
  Maps from owners to spreads at this program: what a key reads as, what an element reads as, and a map as the list of its rows. Conditions: owners' texts within the reach.
-/
import Derived.Test.YtpefjcgccbfgbaaBF
import Derived.Maps.OwnSet
import Derived.Maps.RangeWalk
import Derived.Maps.Ext
import Derived.DeepKeys4
namespace Go.Proofs.Ytpefjcgccbfgbaa.Bk
open Go.RowKit Go.Maps

theorem laidOut : laidOutB Try.prog = true := by kernel_rfl
theorem ownRow : 45 < Try.prog.types.size := of_decide_eq_true (by kernel_rfl)
theorem ownK : Keyed Try.prog 45 := Keyed.of_law (deep_law_laid laidOut (m := 3) (by omega) ownRow (by kernel_rfl) (by kernel_rfl))
abbrev ownV (p c : ByteArray) (k : Int) : Value := .agg #[.string p, .string c, .int .i64 k]
theorem some_more {n t : Nat} (h : t < n) (k : 3 ≤ t) : ∃ m, n + 1 = m + 3 := ⟨n - 2, by omega⟩
theorem nTypes : ∃ n, Try.prog.types.size + 1 = n + 3 := some_more ownRow (by decide)
theorem ownKeyT : Try.prog.keyType 45 = true := by kernel_rfl
theorem ownCells : Try.prog.cellsOf 45 = 3 := by kernel_rfl
theorem strCells : Try.prog.cellsOf 9 = 1 := by kernel_rfl
theorem intCells : Try.prog.cellsOf 3 = 1 := by kernel_rfl
/-- What an owner reads as. -/
def keyL (p c : ByteArray) (k : Int) : Lit := .string (keyBytes [.string p.data.toList, .string c.data.toList, .int .i64 k])
theorem key_of {p c : ByteArray} {k : Int} (hp : p.size ≤ maxLen) (hc : c.size ≤ maxLen) (hk : (Lit.int .i64 k).wf = true) : keyOf Try.prog 45 (ownV p c k) = some (keyL p c k) := by
  obtain ⟨n, hn⟩ := nTypes
  unfold keyOf
  rw [hn]
  clear hn
  simp [Try.underlying45, ownKeyT, Value.formed, ownCells, Program.keyLits, Value.cells, Try.underlying9, Try.underlying3, strCells, intCells, hp, hc, hk, keyL]

end Go.Proofs.Ytpefjcgccbfgbaa.Bk
