/-
  The statement BlocksHold of this program, proved: for all zones and ops it returns true (of no zone more is held than its room, and what is held and what is free is all of it), and the arguments read as before. Conditions: none.
-/
import Derived.Test.YtpefjcgccbfgbaaOE
import Derived.Test.YtpefjcgccbfgbaaOR
import Derived.ChangeSlices
namespace Go.Proofs.Ytpefjcgccbfgbaa.Bk
open Go.ChangeShapes Go.WideShapes Go.ChangeAt Go.RowKit Go.Joins

theorem own : ownKnob Try.prog.godebug = none := by kernel_rfl

set_option maxRecDepth 100000 in
theorem blocksHold_lifted (os : Os) (started : os.Started) (H : Type) (enc : TypeId × Value → H) :
    ReturnsInHanded {} Try.checked os 4 .any (Rows.blocksHoldSpec.pre6 enc Try.prog Try.f4 Rows.blocksHoldRow.domain false) (Rows.blocksHoldSpec.post enc Try.prog Try.f4 false true false false) := by
  refine returnsInHanded_of_change (C := Try.checked) own started (by kernel_rfl) Try.func4
    (ChangeSpec.witness6 (enc := enc) (C := Try.checked) false ⟨#[], #[.slice none 0 0, .slice none 0 0], []⟩ 8 (by kernel_rfl) (by kernel_rfl) (by kernel_rfl) (by kernel_rfl)) ?_
  intro W base args ds gs before hval0 hW _ _
  have hval : ∀ (j : Nat) t v, Try.f4.params[j]? = some t → args[j]? = some v → Value.okWide Try.prog W .any base t v := hval0
  have hW' := hW
  have hlt := hW.lt
  obtain ⟨p, q, hA0, hV, rfl, _, _⟩ := hW
  have hA : DataW.TrodAll enc Try.prog W 0 (fun _ => true) true Try.f4.params.toList args.toList ds p := hA0
  rw [Try.params4] at hA hval
  obtain ⟨v0, v1, d0, d1, p0, p1, rfl, rfl, rfl, h0, h1⟩ := trodAll_two hA
  obtain ⟨rfl, rfl⟩ := trodVars_none hV
  obtain ⟨s0, len0, cap0, rfl⟩ := okWide_slice Try.underlying22 (hval 0 22 v0 rfl rfl)
  obtain ⟨zs, zzs⟩ : ∃ l : List Zn, RdZ W (.slice s0 len0 cap0) l := by
    obtain ⟨fuel, hf⟩ := id h0
    have hf' : DataW.trod enc Try.prog W 0 (fun _ => true) true fuel 22 [.slice s0 len0 cap0] = some (d0, p0) := hf
    exact read_zns hf'
  obtain ⟨s1, len1, cap1, rfl⟩ := okWide_slice Try.underlying23 (hval 1 23 v1 rfl rfl)
  obtain ⟨qs, zqs⟩ : ∃ l : List Oq, RdO W (.slice s1 len1 cap1) l := by
    obtain ⟨fuel, hf⟩ := id h1
    have hf' : DataW.trod enc Try.prog W 0 (fun _ => true) true fuel 23 [.slice s1 len1 cap1] = some (d1, p1) := hf
    exact read_ops hf'
  clear hA0 hval0
  simp only [List.append_nil] at hW' hlt
  refine (hold_is W zzs zqs).mono fun e W' ⟨he, hb⟩ => ?_
  subst he
  exact ⟨_, rfl, _, _, _, [], _, [], hW', trodAll_cons_mk (shut_bool Try.underlying4 _) trodAll_mk0, (trodAll_cons_mk (Below.trod laidOut (by kernel_rfl) (of_decide_eq_true (by kernel_rfl)) h0 hb (fun x hx => hlt x (by simp [hx]))) (trodAll_cons_mk (Below.trod laidOut (by kernel_rfl) (of_decide_eq_true (by kernel_rfl)) h1 hb (fun x hx => hlt x (by simp [hx]))) trodAll_mk0)), rfl, hb.frame _, fun h => Bool.noConfusion h⟩

end Go.Proofs.Ytpefjcgccbfgbaa.Bk

namespace Go.Proofs.Ytpefjcgccbfgbaa
theorem blocksHold_holds : Rows.BlocksHoldSaid :=
  OpenClaim.holds_of_wide 4 Try.f4 rfl rfl rfl rfl rfl rfl rfl ⟨rfl, rfl, rfl, rfl, rfl⟩ rfl rfl rfl rfl rfl (by kernel_rfl) Try.func4 (by kernel_rfl)
    (of_decide_eq_true (by kernel_rfl)) (by unfold Func.isWrapper; first | (rw [if_pos (by decide +kernel)]; kernel_rfl) | (rw [if_neg (by decide +kernel)]; exact ⟨rfl, rfl⟩))
    (fun os started H enc _ => Bk.blocksHold_lifted os started H enc)

end Go.Proofs.Ytpefjcgccbfgbaa
