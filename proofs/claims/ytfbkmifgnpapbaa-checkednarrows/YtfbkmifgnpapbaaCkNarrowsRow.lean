/-
  The statement CheckedNarrows of this program, proved: for every case (a number, a word, and a range) it returns true (which numbers fit into fewer bits, numbers without a sign, and numbers held within a range are as the document says), and the argument reads as before. Conditions: none.
-/
import Derived.Test.YtfbkmifgnpapbaaCJ
import Derived.ProofKit
import Derived.Lib.SmallJoins
namespace Go.Proofs.Ytfbkmifgnpapbaa
open Go.ChangeShapes Go.WideShapes Go.ChangeAt Go.RowKit Go.Joins

theorem own : ownKnob Try.prog.godebug = none := by kernel_rfl
theorem laidOut : laidOutB Try.prog = true := by kernel_rfl
theorem cellsCase : Try.prog.cellsOf 40 = 4 := by kernel_rfl
theorem cellsWord : Try.prog.cellsOf 23 = 1 := by kernel_rfl
theorem cellsInt : Try.prog.cellsOf 3 = 1 := by kernel_rfl
theorem u64_bd {x : Int} (h : (Lit.int .u64 x).wf = true) : 0 ≤ x ∧ x ≤ 18446744073709551615 := by simpa [Lit.wf, IntKind.min, IntKind.max, IntKind.signed, IntKind.bits] using h
theorem i64_bd {x : Int} (h : (Lit.int .i64 x).wf = true) : -9223372036854775808 ≤ x ∧ x ≤ 9223372036854775807 := by simpa [Lit.wf, IntKind.min, IntKind.max, IntKind.signed, IntKind.bits] using h
theorem array4 {α : Type} {cs : Array α} (h : cs.size = 4) : ∃ c0 c1 c2 c3, cs = #[c0, c1, c2, c3] := by
  obtain ⟨l⟩ := cs
  match l, h with
  | [c0, c1, c2, c3], _ => exact ⟨c0, c1, c2, c3, rfl⟩

set_option maxRecDepth 100000 in
theorem checkedNarrows_lifted (os : Os) (started : os.Started) (H : Type) (enc : TypeId × Value → H) :
    ReturnsInHanded {} Try.checked os 5 .any (Rows.checkedNarrowsSpec.pre6 enc Try.prog Try.f5 Rows.checkedNarrowsRow.domain false) (Rows.checkedNarrowsSpec.post enc Try.prog Try.f5 false true false false) := by
  refine returnsInHanded_of_change (C := Try.checked) own started (by kernel_rfl) Try.func5
    (ChangeSpec.witness6 (enc := enc) (C := Try.checked) false ⟨#[], #[.agg #[.int .i64 0, .int .u64 0, .int .i64 0, .int .i64 0]], []⟩ 8 (by kernel_rfl) (by kernel_rfl) (by kernel_rfl) (by kernel_rfl)) ?_
  intro W base args ds gs before hval0 hW _ _
  have hval : ∀ (j : Nat) t v, Try.f5.params[j]? = some t → args[j]? = some v → Value.okWide Try.prog W .any base t v := hval0
  have hW' := hW
  have hlt := hW.lt
  obtain ⟨p, q, hA0, hV, rfl, _, _⟩ := hW
  have hA : DataW.TrodAll enc Try.prog W 0 (fun _ => true) true Try.f5.params.toList args.toList ds p := hA0
  rw [Try.params5] at hA hval
  obtain ⟨v0, d0, rfl, rfl, h0⟩ := trodAll_one hA
  obtain ⟨rfl, rfl⟩ := trodVars_none hV
  obtain ⟨cs, rfl, hsz⟩ := okWide_struct Try.underlying40 (hval 0 40 v0 rfl rfl)
  rw [cellsCase] at hsz
  obtain ⟨c0, c1, c2, c3, rfl⟩ := array4 hsz
  have hr := h0
  obtain ⟨fuel, hf⟩ := hr
  obtain ⟨y0, y1, y2, y3, m, -, -, g0, g1, g2, g3⟩ := trod_struct4 Try.underlying40 hf
  have g0' : DataW.trod enc Try.prog W 0 (fun _ => true) true m 3 [c0] = some y0 := by simpa [Value.cells, cellsInt] using g0
  have g1' : DataW.trod enc Try.prog W 0 (fun _ => true) true m 23 [c1] = some y1 := by simpa [Value.cells, cellsWord] using g1
  have g2' : DataW.trod enc Try.prog W 0 (fun _ => true) true m 3 [c2] = some y2 := by simpa [Value.cells, cellsInt] using g2
  have g3' : DataW.trod enc Try.prog W 0 (fun _ => true) true m 3 [c3] = some y3 := by simpa [Value.cells, cellsInt] using g3
  obtain ⟨n, e0, rfl, w0⟩ := DataW.trod_int Try.underlying3 g0'
  obtain ⟨u, e1, rfl, w1⟩ := DataW.trod_int Try.underlying23 g1'
  obtain ⟨least, e2, rfl, -⟩ := DataW.trod_int Try.underlying3 g2'
  obtain ⟨most, e3, rfl, -⟩ := DataW.trod_int Try.underlying3 g3'
  simp at e0 e1 e2 e3
  subst e0 e1 e2 e3
  have b0 := i64_bd w0
  have b1 := u64_bd w1
  clear hA0 hval0 hf g0 g1 g2 g3 g0' g1' g2' g3'
  simp only [List.append_nil] at hW' hlt
  refine (lawnarrows_any n u least most W b0 b1.1 (by omega)).mono fun e W' ⟨he, hb⟩ => ?_
  subst he
  exact ⟨_, rfl, _, _, p, [], p, [], hW', trodAll_cons_mk (shut_bool Try.underlying4 _) trodAll_mk0, trodAll_mk1 (Below.trod laidOut (by kernel_rfl) (of_decide_eq_true (by kernel_rfl)) h0 hb hlt), rfl, hb.frame _, fun h => Bool.noConfusion h⟩

theorem checkedNarrows_holds : Rows.CheckedNarrowsSaid :=
  OpenClaim.holds_of_wide 5 Try.f5 rfl rfl rfl rfl rfl rfl rfl ⟨rfl, rfl, rfl, rfl, rfl⟩ rfl rfl rfl rfl rfl (by kernel_rfl) Try.func5 (by kernel_rfl)
    (of_decide_eq_true (by kernel_rfl)) (by unfold Func.isWrapper; first | (rw [if_pos (by decide +kernel)]; kernel_rfl) | (rw [if_neg (by decide +kernel)]; exact ⟨rfl, rfl⟩))
    (fun os started H enc _ => checkedNarrows_lifted os started H enc)

end Go.Proofs.Ytfbkmifgnpapbaa
