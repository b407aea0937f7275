/-
  What the case of the law BlocksPlay reads as. Conditions: none.
-/
import Derived.Test.YtpefjcgccbfgbaaOR
namespace Go.Proofs.Ytpefjcgccbfgbaa.Bk
open Go.ChangeShapes Go.WideShapes Go.ChangeAt Go.RowKit Go.Joins Go.Deep

section
variable {H : Type} {enc : TypeId × Value → H} {W : World} {n : Nat}
theorem read_case {cs : List Value} {y : DataW H × List MemPlace} (h : DataW.trod enc Try.prog W 0 (fun _ => true) true n 25 cs = some y) :
    ∃ (zv ov : Value) (zo ki : Int) (zs : List Zn) (qs : List Oq), cs = [zv, ov, .int .i64 zo, .int .i64 ki] ∧ RdZ W zv zs ∧ RdO W ov qs ∧ (Lit.int .i64 zo).wf = true ∧ (Lit.int .i64 ki).wf = true := by
  obtain ⟨y0, y1, y2, y3, m, -, hl, g0, g1, g2, g3⟩ := trod_struct4 Try.underlying25 h
  rw [cellsCase] at hl
  obtain ⟨c0, c1, c2, c3, rfl⟩ := array4 hl
  have g0' : DataW.trod enc Try.prog W 0 (fun _ => true) true m 22 [c0] = some y0 := by simpa [cellsZns] using g0
  have g1' : DataW.trod enc Try.prog W 0 (fun _ => true) true m 23 [c1] = some y1 := by simpa [cellsOps] using g1
  have g2' : DataW.trod enc Try.prog W 0 (fun _ => true) true m 3 [c2] = some y2 := by simpa [cellsInt] using g2
  have g3' : DataW.trod enc Try.prog W 0 (fun _ => true) true m 3 [c3] = some y3 := by simpa [cellsInt] using g3
  obtain ⟨zo, e2, -, w2⟩ := DataW.trod_int Try.underlying3 g2'
  obtain ⟨ki, e3, -, w3⟩ := DataW.trod_int Try.underlying3 g3'
  simp at e2 e3
  subst e2 e3
  have z0 : ∃ a0 len cap, c0 = .slice a0 len cap := by
    rcases open_slice Try.underlying22 g0' with ⟨hcs, -⟩ | ⟨a, len', cap', m', n', D, Pl, hcs, _⟩
    · simp at hcs; exact ⟨_, _, _, hcs⟩
    · simp at hcs; exact ⟨_, _, _, hcs⟩
  have z1 : ∃ a0 len cap, c1 = .slice a0 len cap := by
    rcases open_slice Try.underlying23 g1' with ⟨hcs, -⟩ | ⟨a, len', cap', m', n', D, Pl, hcs, _⟩
    · simp at hcs; exact ⟨_, _, _, hcs⟩
    · simp at hcs; exact ⟨_, _, _, hcs⟩
  obtain ⟨a0, l0, c0', rfl⟩ := z0
  obtain ⟨a1, l1, c1', rfl⟩ := z1
  obtain ⟨zs, hz⟩ := read_zns g0'
  obtain ⟨qs, hq⟩ := read_ops g1'
  exact ⟨_, _, zo, ki, zs, qs, rfl, hz, hq, w2, w3⟩
end

end Go.Proofs.Ytpefjcgccbfgbaa.Bk
