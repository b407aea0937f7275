/-
  What the argument of the laws on hints reads as, at this program. Conditions: none.
-/
import Derived.Test.YtkjaiahdkolmdaaHR
import Derived.ProofKit
import Derived.OpenShut
import Derived.Lib.SmallJoins
import Derived.Deep.Slices
namespace Go.Proofs.Ytkjaiahdkolmdaa.Mk
open Go.ChangeShapes Go.WideShapes Go.ChangeAt Go.RowKit Go.Joins Go.Deep

theorem cellsInt : Try.prog.cellsOf 3 = 1 := by kernel_rfl
theorem cellsPr : Try.prog.cellsOf 25 = 2 := by kernel_rfl
theorem cellsSpr : Try.prog.cellsOf 23 = 8 := by kernel_rfl
theorem cellsTwo : Try.prog.cellsOf 24 = 16 := by kernel_rfl
theorem cellsCase : Try.prog.cellsOf 27 = 22 := by kernel_rfl
theorem array2 {α : Type} {cs : List α} (h : cs.length = 2) : ∃ c0 c1, cs = [c0, c1] := by
  match cs, h with
  | [c0, c1], _ => exact ⟨c0, c1, rfl⟩
theorem array6 {α : Type} {cs : List α} (h : cs.length = 6) : ∃ c0 c1 c2 c3 c4 c5, cs = [c0, c1, c2, c3, c4, c5] := by
  match cs, h with
  | [c0, c1, c2, c3, c4, c5], _ => exact ⟨c0, c1, c2, c3, c4, c5, rfl⟩
theorem array8 {α : Type} {cs : List α} (h : cs.length = 8) : ∃ c0 c1 c2 c3 c4 c5 c6 c7, cs = [c0, c1, c2, c3, c4, c5, c6, c7] := by
  match cs, h with
  | [c0, c1, c2, c3, c4, c5, c6, c7], _ => exact ⟨c0, c1, c2, c3, c4, c5, c6, c7, rfl⟩
theorem array22 {α : Type} {cs : List α} (h : cs.length = 22) : ∃ c0 c1 c2 c3 c4 c5 c6 c7 c8 c9 c10 c11 c12 c13 c14 c15 c16 c17 c18 c19 c20 c21, cs = [c0, c1, c2, c3, c4, c5, c6, c7, c8, c9, c10, c11, c12, c13, c14, c15, c16, c17, c18, c19, c20, c21] := by
  match cs, h with
  | [c0, c1, c2, c3, c4, c5, c6, c7, c8, c9, c10, c11, c12, c13, c14, c15, c16, c17, c18, c19, c20, c21], _ => exact ⟨c0, c1, c2, c3, c4, c5, c6, c7, c8, c9, c10, c11, c12, c13, c14, c15, c16, c17, c18, c19, c20, c21, rfl⟩
abbrev In64r (n : Int) : Prop := -9223372036854775808 ≤ n ∧ n ≤ 9223372036854775807
theorem i64_in {n : Int} (h : (Lit.int .i64 n).wf = true) : In64r n := by
  have h' : IntKind.i64.min ≤ n ∧ n ≤ 9223372036854775807 := by simpa [Lit.wf] using h
  have e : IntKind.i64.min = -9223372036854775808 := by decide
  unfold In64r
  omega
section
variable {H : Type} {enc : TypeId × Value → H} {W : World} {sp : Nat → Bool} {n : Nat}
theorem trod_struct6 {P : Program} {w : World} {base : Nat} {held : Bool} {t : TypeId} {f0 f1 f2 f3 f4 f5 : Field} {fuel : Nat} {cs : List Value} {x : DataW H × List MemPlace} (ht : P.underlying t = some (.struct #[f0, f1, f2, f3, f4, f5])) (h : DataW.trod enc P w base sp held fuel t cs = some x) :
    ∃ (y0 y1 y2 y3 y4 y5 : DataW H × List MemPlace) (m : Nat), cs.length = P.cellsOf t ∧ DataW.trod enc P w base sp held m f0.type ((cs.drop f0.offset).take (P.cellsOf f0.type)) = some y0 ∧ DataW.trod enc P w base sp held m f1.type ((cs.drop f1.offset).take (P.cellsOf f1.type)) = some y1 ∧
      DataW.trod enc P w base sp held m f2.type ((cs.drop f2.offset).take (P.cellsOf f2.type)) = some y2 ∧ DataW.trod enc P w base sp held m f3.type ((cs.drop f3.offset).take (P.cellsOf f3.type)) = some y3 ∧
      DataW.trod enc P w base sp held m f4.type ((cs.drop f4.offset).take (P.cellsOf f4.type)) = some y4 ∧ DataW.trod enc P w base sp held m f5.type ((cs.drop f5.offset).take (P.cellsOf f5.type)) = some y5 := by
  obtain ⟨xs, m, -, -, hl, hx, hf⟩ := DataW.trod_struct ht h
  obtain ⟨y0, y1, y2, y3, y4, y5, rfl⟩ := array6 (show xs.length = 6 from hx)
  exact ⟨y0, y1, y2, y3, y4, y5, m, hl, hf 0 f0 rfl, hf 1 f1 rfl, hf 2 f2 rfl, hf 3 f3 rfl, hf 4 f4 rfl, hf 5 f5 rfl⟩
theorem read_int {cs : List Value} {y : DataW H × List MemPlace} (h : DataW.trod enc Try.prog W 0 sp true n 3 cs = some y) : ∃ a : Int, cs = [.int .i64 a] ∧ In64r a := by
  obtain ⟨a, e0, -, w0⟩ := DataW.trod_int Try.underlying3 h
  exact ⟨a, e0, i64_in w0⟩
theorem read_two {cs : List Value} {y : DataW H × List MemPlace} (h : DataW.trod enc Try.prog W 0 sp true n 25 cs = some y) : ∃ K : Nat → Int, cs = kL K := by
  obtain ⟨xs, m, -, -, hl0, hl, hf⟩ := DataW.trod_array Try.underlying25 h
  rw [cellsPr] at hl0
  obtain ⟨c0, c1, rfl⟩ := array2 hl0
  obtain ⟨y0, y1, rfl⟩ := array2 hl
  have g0 := hf 0 (by omega)
  have g1 := hf 1 (by omega)
  simp [cellsInt] at g0 g1
  obtain ⟨a, e0, -⟩ := read_int g0
  obtain ⟨b, e1, -⟩ := read_int g1
  simp at e0 e1
  exact ⟨fun i => if i = 0 then a else b, by rw [e0, e1]; rfl⟩
theorem getD_in {l : List Int} (h : ∀ x ∈ l, In64r x) (i : Nat) : In64r (l.getD i 0) := by
  rw [List.getD]
  cases e : l[i]? with
  | none => exact ⟨by simp, by simp⟩
  | some x => exact h x (List.mem_of_getElem? e)
theorem read_spread {cs : List Value} {y : DataW H × List MemPlace} (h : DataW.trod enc Try.prog W 0 sp true n 23 cs = some y) : ∃ s : Nat → Int, cs = spL s ∧ ∀ i, In64r (s i) := by
  obtain ⟨xs, m, -, -, hl0, hl, hf⟩ := DataW.trod_array Try.underlying23 h
  rw [cellsSpr] at hl0
  obtain ⟨c0, c1, c2, c3, c4, c5, c6, c7, rfl⟩ := array8 hl0
  obtain ⟨y0, y1, y2, y3, y4, y5, y6, y7, rfl⟩ := array8 hl
  have g0 := hf 0 (by omega)
  have g1 := hf 1 (by omega)
  have g2 := hf 2 (by omega)
  have g3 := hf 3 (by omega)
  have g4 := hf 4 (by omega)
  have g5 := hf 5 (by omega)
  have g6 := hf 6 (by omega)
  have g7 := hf 7 (by omega)
  simp [cellsInt] at g0 g1 g2 g3 g4 g5 g6 g7
  obtain ⟨x0, e0, w0⟩ := read_int g0
  obtain ⟨x1, e1, w1⟩ := read_int g1
  obtain ⟨x2, e2, w2⟩ := read_int g2
  obtain ⟨x3, e3, w3⟩ := read_int g3
  obtain ⟨x4, e4, w4⟩ := read_int g4
  obtain ⟨x5, e5, w5⟩ := read_int g5
  obtain ⟨x6, e6, w6⟩ := read_int g6
  obtain ⟨x7, e7, w7⟩ := read_int g7
  simp at e0 e1 e2 e3 e4 e5 e6 e7
  refine ⟨fun i => [x0, x1, x2, x3, x4, x5, x6, x7].getD i 0, by rw [e0, e1, e2, e3, e4, e5, e6, e7]; rfl, fun i => getD_in (fun x hx => ?_) i⟩
  simp only [List.mem_cons, List.not_mem_nil, or_false] at hx
  rcases hx with rfl | rfl | rfl | rfl | rfl | rfl | rfl | rfl <;> assumption
theorem read_free {cs : List Value} {y : DataW H × List MemPlace} (h : DataW.trod enc Try.prog W 0 sp true n 24 cs = some y) (h16 : cs.length = 16) : ∃ F : Nat → Nat → Int, cs = frL F ∧ ∀ k i, In64r (F k i) := by
  obtain ⟨xs, m, -, -, hl0, hl, hf⟩ := DataW.trod_array Try.underlying24 h
  obtain ⟨y0, y1, rfl⟩ := array2 hl
  have g0 := hf 0 (by omega)
  have g1 := hf 1 (by omega)
  rw [cellsSpr] at g0 g1
  obtain ⟨s, e0, w0⟩ := read_spread (y := y0) (by simpa using g0)
  obtain ⟨u, e1, w1⟩ := read_spread (y := y1) (by simpa using g1)
  have e : cs = cs.take 8 ++ cs.drop 8 := (List.take_append_drop 8 cs).symm
  have e8 : (cs.drop 8).take 8 = cs.drop 8 := List.take_of_length_le (by rw [List.length_drop]; omega)
  have e0' : cs.take 8 = spL s := by simpa using e0
  have e1' : cs.drop 8 = spL u := by rw [← e8]; simpa using e1
  refine ⟨fun k => if k = 0 then s else u, ?_, fun k i => ?_⟩
  · rw [e, e0', e1']
    rfl
  · show In64r ((if k = 0 then s else u) i)
    split
    · exact w0 i
    · exact w1 i
theorem read_case {cs : List Value} {y : DataW H × List MemPlace} (h : DataW.trod enc Try.prog W 0 sp true n 27 cs = some y) :
    ∃ (F : Nat → Nat → Int) (nodes held mask : Int) (K : Nat → Int) (most : Int), cs = frL F ++ [.int .i64 nodes, .int .i64 held, .int .i64 mask, .int .i64 (K 0), .int .i64 (K 1), .int .i64 most] ∧ (∀ k i, In64r (F k i)) ∧ In64r nodes ∧ In64r held ∧ In64r mask ∧ In64r most := by
  obtain ⟨y0, y1, y2, y3, y4, y5, m, hl, g0, g1, g2, g3, g4, g5⟩ := trod_struct6 Try.underlying27 h
  rw [cellsCase] at hl
  obtain ⟨c0, c1, c2, c3, c4, c5, c6, c7, c8, c9, c10, c11, c12, c13, c14, c15, c16, c17, c18, c19, c20, c21, rfl⟩ := array22 hl
  have g0' : DataW.trod enc Try.prog W 0 sp true m 24 [c0, c1, c2, c3, c4, c5, c6, c7, c8, c9, c10, c11, c12, c13, c14, c15] = some y0 := by simpa [cellsTwo] using g0
  have g1' : DataW.trod enc Try.prog W 0 sp true m 3 [c16] = some y1 := by simpa [cellsInt] using g1
  have g2' : DataW.trod enc Try.prog W 0 sp true m 3 [c17] = some y2 := by simpa [cellsInt] using g2
  have g3' : DataW.trod enc Try.prog W 0 sp true m 3 [c18] = some y3 := by simpa [cellsInt] using g3
  have g4' : DataW.trod enc Try.prog W 0 sp true m 25 [c19, c20] = some y4 := by simpa [cellsPr] using g4
  have g5' : DataW.trod enc Try.prog W 0 sp true m 3 [c21] = some y5 := by simpa [cellsInt] using g5
  obtain ⟨F, e0, wF⟩ := read_free g0' rfl
  obtain ⟨nodes, e1, w1⟩ := read_int g1'
  obtain ⟨held, e2, w2⟩ := read_int g2'
  obtain ⟨mask, e3, w3⟩ := read_int g3'
  obtain ⟨K, e4⟩ := read_two g4'
  obtain ⟨most, e5, w5⟩ := read_int g5'
  simp only [List.cons.injEq, and_true] at e1 e2 e3 e4 e5
  refine ⟨F, nodes, held, mask, K, most, ?_, wF, w1, w2, w3, w5⟩
  rw [← e0, e1, e2, e3, e4.1, e4.2, e5]
  rfl
end

end Go.Proofs.Ytkjaiahdkolmdaa.Mk
