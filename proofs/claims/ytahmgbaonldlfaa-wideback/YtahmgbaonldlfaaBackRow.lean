/-
  The statement WideBack of this program, proved: for every case (two wide numbers, a word, and how many bits) it returns true (what was added, multiplied or moved is undone, and a number's text is parsed to it), and the argument reads as before. Conditions: none.
-/
import Derived.Test.YtahmgbaonldlfaaQ
import Derived.ProofKit
import Derived.Lib.SmallJoins
namespace Go.Proofs.Ytahmgbaonldlfaa.Back
open Go.ChangeShapes Go.WideShapes Go.ChangeAt Go.RowKit Go.Joins

theorem own : ownKnob Try.prog.godebug = none := by kernel_rfl
theorem laidOut : laidOutB Try.prog = true := by kernel_rfl
theorem cellsCase : Try.prog.cellsOf 53 = 6 := by kernel_rfl
theorem cellsWide : Try.prog.cellsOf 24 = 2 := by kernel_rfl
theorem cellsWord : Try.prog.cellsOf 22 = 1 := by kernel_rfl
theorem cellsInt : Try.prog.cellsOf 3 = 1 := by kernel_rfl
theorem u64_bd {x : Int} (h : (Lit.int .u64 x).wf = true) : 0 ≤ x ∧ x ≤ 18446744073709551615 := by simpa [Lit.wf, IntKind.min, IntKind.max, IntKind.signed, IntKind.bits] using h
theorem i64_bd {x : Int} (h : (Lit.int .i64 x).wf = true) : -9223372036854775808 ≤ x ∧ x ≤ 9223372036854775807 := by simpa [Lit.wf, IntKind.min, IntKind.max, IntKind.signed, IntKind.bits] using h
theorem array6 {α : Type} {cs : Array α} (h : cs.size = 6) : ∃ c0 c1 c2 c3 c4 c5, cs = #[c0, c1, c2, c3, c4, c5] := by
  obtain ⟨l⟩ := cs
  match l, h with
  | [c0, c1, c2, c3, c4, c5], _ => exact ⟨c0, c1, c2, c3, c4, c5, rfl⟩

/-- Two words read as a wide number: they are numbers of their kind. -/
theorem open_two {H : Type} {enc : TypeId × Value → H} {W : World} {sp : Nat → Bool} {n : Nat} {c0 c1 : Value} {y : DataW H × List MemPlace}
    (h : DataW.trod enc Try.prog W 0 sp true n 24 [c0, c1] = some y) : ∃ a b : Int, c0 = .int .u64 a ∧ c1 = .int .u64 b ∧ (0 ≤ a ∧ a ≤ 18446744073709551615) ∧ (0 ≤ b ∧ b ≤ 18446744073709551615) := by
  obtain ⟨y0, y1, m, -, -, g0, g1⟩ := trod_struct2 Try.underlying24 h
  have g0' : DataW.trod enc Try.prog W 0 sp true m 22 [c0] = some y0 := by simpa [cellsWord] using g0
  have g1' : DataW.trod enc Try.prog W 0 sp true m 22 [c1] = some y1 := by simpa [cellsWord] using g1
  obtain ⟨a, e0, rfl, wa⟩ := DataW.trod_int Try.underlying22 g0'
  obtain ⟨b, e1, rfl, wb⟩ := DataW.trod_int Try.underlying22 g1'
  simp at e0 e1
  exact ⟨a, b, e0, e1, u64_bd wa, u64_bd wb⟩

set_option maxRecDepth 100000 in
theorem lifted (os : Os) (started : os.Started) (H : Type) (enc : TypeId × Value → H) :
    ReturnsInHanded {} Try.checked os 6 .any (Rows.wideBackSpec.pre6 enc Try.prog Try.f6 Rows.wideBackRow.domain false) (Rows.wideBackSpec.post enc Try.prog Try.f6 false true false false) := by
  refine returnsInHanded_of_change (C := Try.checked) own started (by kernel_rfl) Try.func6
    (ChangeSpec.witness6 (enc := enc) (C := Try.checked) false ⟨#[], #[.agg #[.int .u64 0, .int .u64 0, .int .u64 0, .int .u64 0, .int .u64 0, .int .i64 0]], []⟩ 8 (by kernel_rfl) (by kernel_rfl) (by kernel_rfl) (by kernel_rfl)) ?_
  intro W base args ds gs before hval0 hW _ _
  have hval : ∀ (j : Nat) t v, Try.f6.params[j]? = some t → args[j]? = some v → Value.okWide Try.prog W .any base t v := hval0
  have hW' := hW
  have hlt := hW.lt
  obtain ⟨p, q, hA0, hV, rfl, _, _⟩ := hW
  have hA : DataW.TrodAll enc Try.prog W 0 (fun _ => true) true Try.f6.params.toList args.toList ds p := hA0
  rw [Try.params6] at hA hval
  obtain ⟨v0, d0, rfl, rfl, h0⟩ := trodAll_one hA
  obtain ⟨rfl, rfl⟩ := trodVars_none hV
  obtain ⟨cs, rfl, hsz⟩ := okWide_struct Try.underlying53 (hval 0 53 v0 rfl rfl)
  rw [cellsCase] at hsz
  obtain ⟨c0, c1, c2, c3, c4, c5, rfl⟩ := array6 hsz
  have hr := h0
  obtain ⟨fuel, hf⟩ := hr
  obtain ⟨y0, y1, y2, y3, m, -, -, g0, g1, g2, g3⟩ := trod_struct4 Try.underlying53 hf
  have g0' : DataW.trod enc Try.prog W 0 (fun _ => true) true m 24 [c0, c1] = some y0 := by simpa [Value.cells, cellsWide] using g0
  have g1' : DataW.trod enc Try.prog W 0 (fun _ => true) true m 24 [c2, c3] = some y1 := by simpa [Value.cells, cellsWide] using g1
  have g2' : DataW.trod enc Try.prog W 0 (fun _ => true) true m 22 [c4] = some y2 := by simpa [Value.cells, cellsWord] using g2
  have g3' : DataW.trod enc Try.prog W 0 (fun _ => true) true m 3 [c5] = some y3 := by simpa [Value.cells, cellsInt] using g3
  obtain ⟨ah, al, rfl, rfl, x0, x1⟩ := open_two g0'
  obtain ⟨bh, bl, rfl, rfl, x2, x3⟩ := open_two g1'
  obtain ⟨u, e4, rfl, w4⟩ := DataW.trod_int Try.underlying22 g2'
  obtain ⟨n, e5, rfl, w5⟩ := DataW.trod_int Try.underlying3 g3'
  simp at e4 e5
  subst e4 e5
  have b4 := u64_bd w4
  have b5 := i64_bd w5
  clear hA0 hval0 hf g0 g1 g2 g3 g0' g1' g2' g3'
  simp only [List.append_nil] at hW' hlt
  refine (back_any ah al bh bl u n W x1.1 (by omega) x0.1 (by omega) x3.1 (by omega) x2.1 (by omega) b4.1 (by omega) b5.2).mono fun e W' ⟨he, hb⟩ => ?_
  subst he
  exact ⟨_, rfl, _, _, p, [], p, [], hW', trodAll_cons_mk (shut_bool Try.underlying4 _) trodAll_mk0, trodAll_mk1 (Below.trod laidOut (by kernel_rfl) (of_decide_eq_true (by kernel_rfl)) h0 hb hlt), rfl, hb.frame _, fun h => Bool.noConfusion h⟩

end Go.Proofs.Ytahmgbaonldlfaa.Back

namespace Go.Proofs.Ytahmgbaonldlfaa
theorem wideBack_holds : Rows.WideBackSaid :=
  OpenClaim.holds_of_wide 6 Try.f6 rfl rfl rfl rfl rfl rfl rfl ⟨rfl, rfl, rfl, rfl, rfl⟩ rfl rfl rfl rfl rfl (by kernel_rfl) Try.func6 (by kernel_rfl)
    (of_decide_eq_true (by kernel_rfl)) (by unfold Func.isWrapper; first | (rw [if_pos (by decide +kernel)]; kernel_rfl) | (rw [if_neg (by decide +kernel)]; exact ⟨rfl, rfl⟩))
    (fun os started H enc _ => Back.lifted os started H enc)
end Go.Proofs.Ytahmgbaonldlfaa
