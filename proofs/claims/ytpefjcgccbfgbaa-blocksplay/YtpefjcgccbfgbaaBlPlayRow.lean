/-
  The statement BlocksPlay of this program, proved: for every case it returns true (who holds what, in a table and its clones, is the document's), and the argument reads as before. Conditions: none.
-/
import Derived.Test.YtpefjcgccbfgbaaOP
import Derived.Test.YtpefjcgccbfgbaaOS
import Derived.ChangeSlices
namespace Go.Proofs.Ytpefjcgccbfgbaa.Bk
open Go.ChangeShapes Go.WideShapes Go.ChangeAt Go.RowKit Go.Joins

theorem own : ownKnob Try.prog.godebug = none := by kernel_rfl

set_option maxRecDepth 100000 in
theorem blocksPlay_lifted (os : Os) (started : os.Started) (H : Type) (enc : TypeId × Value → H) :
    ReturnsInHanded {} Try.checked os 3 .any (Rows.blocksPlaySpec.pre6 enc Try.prog Try.f3 Rows.blocksPlayRow.domain false) (Rows.blocksPlaySpec.post enc Try.prog Try.f3 false true false false) := by
  refine returnsInHanded_of_change (C := Try.checked) own started (by kernel_rfl) Try.func3
    (ChangeSpec.witness6 (enc := enc) (C := Try.checked) false ⟨#[], #[.agg #[.slice none 0 0, .slice none 0 0, .int .i64 0, .int .i64 0]], []⟩ 8 (by kernel_rfl) (by kernel_rfl) (by kernel_rfl) (by kernel_rfl)) ?_
  intro W base args ds gs before hval0 hW _ _
  have hval : ∀ (j : Nat) t v, Try.f3.params[j]? = some t → args[j]? = some v → Value.okWide Try.prog W .any base t v := hval0
  have hW' := hW
  have hlt := hW.lt
  obtain ⟨p, q, hA0, hV, rfl, _, _⟩ := hW
  have hA : DataW.TrodAll enc Try.prog W 0 (fun _ => true) true Try.f3.params.toList args.toList ds p := hA0
  rw [Try.params3] at hA hval
  obtain ⟨v0, d0, rfl, rfl, h0⟩ := trodAll_one hA
  obtain ⟨rfl, rfl⟩ := trodVars_none hV
  obtain ⟨cs0, rfl, hsz0⟩ := okWide_struct Try.underlying25 (hval 0 25 v0 rfl rfl)
  obtain ⟨zv, ov, zo, ki, zs, qs, ec0, rz, ro, wz, wk⟩ := (show ∃ (zv ov : Value) (zo ki : Int) (zs : List Zn) (qs : List Oq), cs0.toList = [zv, ov, .int .i64 zo, .int .i64 ki] ∧ RdZ W zv zs ∧ RdO W ov qs ∧ (Lit.int .i64 zo).wf = true ∧ (Lit.int .i64 ki).wf = true by
    obtain ⟨fuel, hf⟩ := id h0
    exact read_case hf)
  obtain ⟨cl0⟩ := cs0
  obtain rfl : cl0 = [zv, ov, .int .i64 zo, .int .i64 ki] := ec0
  clear hA0 hval0
  simp only [List.append_nil] at hW' hlt
  refine (play_is zo ki W rz ro wz wk).mono fun e W' ⟨he, hb⟩ => ?_
  subst he
  exact ⟨_, rfl, _, _, p, [], p, [], hW', trodAll_cons_mk (shut_bool Try.underlying4 _) trodAll_mk0, trodAll_mk1 (Below.trod laidOut (by kernel_rfl) (of_decide_eq_true (by kernel_rfl)) h0 hb hlt), rfl, hb.frame _, fun h => Bool.noConfusion h⟩

end Go.Proofs.Ytpefjcgccbfgbaa.Bk

namespace Go.Proofs.Ytpefjcgccbfgbaa
theorem blocksPlay_holds : Rows.BlocksPlaySaid :=
  OpenClaim.holds_of_wide 3 Try.f3 rfl rfl rfl rfl rfl rfl rfl ⟨rfl, rfl, rfl, rfl, rfl⟩ rfl rfl rfl rfl rfl (by kernel_rfl) Try.func3 (by kernel_rfl)
    (of_decide_eq_true (by kernel_rfl)) (by unfold Func.isWrapper; first | (rw [if_pos (by decide +kernel)]; kernel_rfl) | (rw [if_neg (by decide +kernel)]; exact ⟨rfl, rfl⟩))
    (fun os started H enc _ => Bk.blocksPlay_lifted os started H enc)

end Go.Proofs.Ytpefjcgccbfgbaa
