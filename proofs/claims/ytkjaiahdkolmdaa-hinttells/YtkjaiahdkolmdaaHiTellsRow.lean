/-
  HintTells (P9.1, P9.2): on every input the law returns true and leaves its input as it was; nothing is asked of the input but what the row asks.
-/
import Derived.Test.YtkjaiahdkolmdaaHW
import Derived.Test.YtkjaiahdkolmdaaHV
import Derived.ChangeSlices
namespace Go.Proofs.Ytkjaiahdkolmdaa.Mk
open Go.ChangeShapes Go.WideShapes Go.ChangeAt Go.RowKit Go.Joins

theorem laidOut : laidOutB Try.prog = true := by kernel_rfl
theorem own : ownKnob Try.prog.godebug = none := by kernel_rfl

set_option maxRecDepth 100000 in
theorem hintTells_lifted (os : Os) (started : os.Started) (H : Type) (enc : TypeId × Value → H) :
    ReturnsInHanded {} Try.checked os 3 .any (Rows.hintTellsSpec.pre6 enc Try.prog Try.f3 Rows.hintTellsRow.domain false) (Rows.hintTellsSpec.post enc Try.prog Try.f3 false true false false) := by
  refine returnsInHanded_of_change (C := Try.checked) own started (by kernel_rfl) Try.func3
    (ChangeSpec.witness6 (enc := enc) (C := Try.checked) false ⟨#[], #[.agg #[.int .i64 0, .int .i64 0, .int .i64 0, .int .i64 0, .int .i64 0, .int .i64 0, .int .i64 0, .int .i64 0, .int .i64 0, .int .i64 0, .int .i64 0, .int .i64 0, .int .i64 0, .int .i64 0, .int .i64 0, .int .i64 0, .int .i64 0, .int .i64 0, .int .i64 0, .int .i64 0, .int .i64 0, .int .i64 0]], []⟩ 8 (by kernel_rfl) (by kernel_rfl) (by kernel_rfl) (by kernel_rfl)) ?_
  intro W base args ds gs before hval0 hW _ _
  have hval : ∀ (j : Nat) t v, Try.f3.params[j]? = some t → args[j]? = some v → Value.okWide Try.prog W .any base t v := hval0
  have hW' := hW
  have hlt := hW.lt
  obtain ⟨p, q, hA0, hV, rfl, _, _⟩ := hW
  have hA : DataW.TrodAll enc Try.prog W 0 (fun _ => true) true Try.f3.params.toList args.toList ds p := hA0
  rw [Try.params3] at hA hval
  obtain ⟨v0, d0, rfl, rfl, h0⟩ := trodAll_one hA
  obtain ⟨rfl, rfl⟩ := trodVars_none hV
  obtain ⟨cs0, rfl, hsz0⟩ := okWide_struct Try.underlying27 (hval 0 27 v0 rfl rfl)
  obtain ⟨F, nodes, held, mask, K, most, ec0, wF, w1, w2, w3, w5⟩ : ∃ (F : Nat → Nat → Int) (nodes held mask : Int) (K : Nat → Int) (most : Int), cs0.toList = frL F ++ [.int .i64 nodes, .int .i64 held, .int .i64 mask, .int .i64 (K 0), .int .i64 (K 1), .int .i64 most] ∧ (∀ k i, In64r (F k i)) ∧ In64r nodes ∧ In64r held ∧ In64r mask ∧ In64r most := by
    obtain ⟨fuel, hf⟩ := id h0
    exact read_case hf
  obtain ⟨cl0⟩ := cs0
  obtain rfl : cl0 = frL F ++ [.int .i64 nodes, .int .i64 held, .int .i64 mask, .int .i64 (K 0), .int .i64 (K 1), .int .i64 most] := ec0
  clear hA0 hval0
  simp only [List.append_nil] at hW' hlt
  refine (tells_is F nodes held mask K most W).mono fun e W' ⟨he, hb⟩ => ?_
  subst he
  exact ⟨_, rfl, _, _, p, [], p, [], hW', trodAll_cons_mk (shut_bool Try.underlying4 _) trodAll_mk0, trodAll_mk1 (Below.trod laidOut (by kernel_rfl) (of_decide_eq_true (by kernel_rfl)) h0 hb hlt), rfl, hb.frame _, fun h => Bool.noConfusion h⟩

end Go.Proofs.Ytkjaiahdkolmdaa.Mk

namespace Go.Proofs.Ytkjaiahdkolmdaa
theorem hintTells_holds : Rows.HintTellsSaid :=
  OpenClaim.holds_of_wide 3 Try.f3 rfl rfl rfl rfl rfl rfl rfl ⟨rfl, rfl, rfl, rfl, rfl⟩ rfl rfl rfl rfl rfl (by kernel_rfl) Try.func3 (by kernel_rfl)
    (of_decide_eq_true (by kernel_rfl)) (by unfold Func.isWrapper; first | (rw [if_pos (by decide +kernel)]; kernel_rfl) | (rw [if_neg (by decide +kernel)]; exact ⟨rfl, rfl⟩))
    (fun os started H enc _ => Mk.hintTells_lifted os started H enc)

end Go.Proofs.Ytkjaiahdkolmdaa
