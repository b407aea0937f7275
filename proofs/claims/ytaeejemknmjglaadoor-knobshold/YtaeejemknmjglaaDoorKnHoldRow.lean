/-
  The statement KnobsHold of this program, proved: for every pod it returns true (a right pod's knobs are right, each container's are right and within them, and the sum of CPUMax is, too), and the arguments read as before. Conditions: the eight tables are as the program's text lays them (the card ties that).
-/
import Derived.Test.YtaeejemknmjglaaDoorRM
import Derived.Test.YtaeejemknmjglaaDoorRR
namespace Go.Proofs.YtaeejemknmjglaaDoor.Sp.knobsHold
open Go.ChangeShapes Go.WideShapes Go.ChangeAt Go.RowKit Go.Joins
open Go.ChangeMaps (open_string shut_string)

set_option maxRecDepth 100000 in
theorem contract (H : Type) (enc : TypeId × Value → H) (W : World) (base : Nat) (args : Array Value) (ds gs : List (DataW H)) (before : List MemPlace)
    (hval : ∀ (j : Nat) t v, Tryd.f5.params[j]? = some t → args[j]? = some v → Value.okWide Tryd.prog W .any base t v)
    (hW : DataW.Whole enc Tryd.prog Tryd.f5.params.toList Rows.knobsHoldSpec.vars false W args.toList ds gs before) (hL : laidMetH Tryd.prog Rows.knobsHoldRow.laid W) :
    Calls Tryd.prog 5 args W fun e W' => ∃ v, e = .returned v ∧ Rows.knobsHoldSpec.post enc Tryd.prog Tryd.f5 false true false false W args v W' := by
  have hT : LaidK W := laid_cells6 hL
  have hW' := hW
  have hlt := hW.lt
  obtain ⟨p, q, hA0, hV, rfl, hfz, hnd⟩ := hW
  have hA : DataW.TrodAll enc Tryd.prog W 0 (fun _ => true) true Tryd.f5.params.toList args.toList ds p := hA0
  rw [Tryd.params5] at hA hval
  obtain ⟨v0, d0, rfl, rfl, h0⟩ := trodAll_one hA
  obtain ⟨rfl, rfl⟩ := trodVars_none hV
  obtain ⟨cs0, rfl, hsz0⟩ := okWide_struct Tryd.underlying29 (hval 0 29 v0 rfl rfl)
  obtain ⟨pn, pr, po, pv, ps, ec0, wp, zp⟩ : ∃ (pn : ByteArray) (pr po : Int) (v : Value) (zs : List Ct), cs0.toList = [.string pn, .int .i64 pr, .int .i64 po, v] ∧ pn.size ≤ maxLen ∧ RdC W v zs := by
    obtain ⟨fuel, hf⟩ := id h0
    exact read_pod hf
  obtain ⟨cl0⟩ := cs0
  obtain rfl : cl0 = [.string pn, .int .i64 pr, .int .i64 po, pv] := ec0
  clear hA0
  simp only [List.append_nil] at hW' hlt
  refine (knobsHold_any pn pr po wp W hT zp).mono fun e W' ⟨he, hb⟩ => ?_
  subst he
  exact ⟨_, rfl, _, _, (p), [], (p), [], hW', trodAll_cons_mk (shut_bool Tryd.underlying4 _) trodAll_mk0, (trodAll_mk1 (Below.trod laidOut (by kernel_rfl) (of_decide_eq_true (by kernel_rfl)) h0 hb (fun x hx => hlt x (by simp [hx])))), rfl, hb.frame _, fun h => Bool.noConfusion h⟩

theorem laid_met (os : Os) : laidMet Tryd.prog Rows.knobsHoldRow.laid ((laidOver6 (World.holding Tryd.prog os ⟨#[], #[], []⟩)).forCall (fun _ _ => 0) ⟨#[], #[.agg #[.string ⟨#[]⟩, .int .i64 0, .int .i64 0, .slice none 0 0]], []⟩).memory :=
  laidMet_of_run' 8 (by kernel_rfl) (by kernel_rfl)
theorem reads (os : Os) {H : Type} (enc : TypeId × Value → H) : ∃ places, DataW.whole enc Tryd.prog ((laidOver6 (World.holding Tryd.prog os ⟨#[], #[], []⟩)).forCall (fun _ _ => 0) ⟨#[], #[.agg #[.string ⟨#[]⟩, .int .i64 0, .int .i64 0, .slice none 0 0]], []⟩).memory Tryd.f5.params.toList Rows.knobsHoldSpec.vars false (#[.agg #[.string ⟨#[]⟩, .int .i64 0, .int .i64 0, .slice none 0 0]] : Array Value).toList 8 = some ([.agg [.lit (.string []), .lit (.int .i64 0), .lit (.int .i64 0), .nil]], [], places) :=
  ⟨[], by kernel_rfl⟩

set_option maxRecDepth 100000 in
theorem lifted (os : Os) (started : os.Started) (H : Type) (enc : TypeId × Value → H) (F : Stop.Interp) :
    ReturnsInHanded {} Tryd.checked os 5 .any ((OpenSpec.ofChange Rows.knobsHoldSpec).preRow enc Tryd.prog Tryd.f5 Rows.knobsHoldRow.domain false Rows.knobsHoldRow.laid) (((OpenSpec.ofChange Rows.knobsHoldSpec).at F).post enc Tryd.prog Tryd.f5 false true false false) := by
  obtain ⟨places, hx⟩ := reads os enc
  refine returnsInHanded_of_row (C := Tryd.checked) (s := OpenSpec.ofChange Rows.knobsHoldSpec) own started (by kernel_rfl) Tryd.func5
    (witness_row_at (enc := enc) (C := Tryd.checked) false (laidOver6 (World.holding Tryd.prog os ⟨#[], #[], []⟩)) #[.agg #[.string ⟨#[]⟩, .int .i64 0, .int .i64 0, .slice none 0 0]] rfl (by kernel_rfl) (by kernel_rfl) (by kernel_rfl)
      (OpenSpec.preRow_of_cond 8 hx (by kernel_rfl) (fun k hk => by cases hk) (by kernel_rfl) (laid_met os))) ?_
  intro W base args ds gs before hval hW _ _ _ hL _ _
  exact contract H enc W base args ds gs before hval hW hL

theorem said : Rows.KnobsHoldSaid :=
  OpenClaim.holds_of_cond 5 Tryd.f5 rfl rfl rfl rfl rfl rfl rfl ⟨rfl, rfl, rfl, rfl, rfl⟩ rfl rfl rfl rfl rfl (by kernel_rfl) Tryd.func5 (by kernel_rfl)
    (of_decide_eq_true (by kernel_rfl)) (by unfold Func.isWrapper; first | (rw [if_pos (by decide +kernel)]; kernel_rfl) | (rw [if_neg (by decide +kernel)]; exact ⟨rfl, rfl⟩))
    (fun os started H enc _ F => by rw [OpenClaim.pre_eq_preRow]; exact lifted os started H enc F)

theorem plain (f : FuncId) (fn : Func) (hf : Tryd.pinned.checked.prog.funcNamed "berthing/berthinglaw06.KnobsHold" = some f) (hfn : Tryd.pinned.checked.prog.funcs[f]? = some fn) :
    false = Tryd.pinned.checked.prog.looks [] ∧ ∀ (j : Nat) t, fn.params[j]? = some t → Tryd.pinned.checked.prog.wantsStandIn t = false := by
  obtain rfl : f = 5 := Option.some.inj ((show Tryd.prog.funcNamed "berthing/berthinglaw06.KnobsHold" = some 5 by kernel_rfl).symm.trans hf) |>.symm
  obtain rfl : fn = Tryd.f5 := (Option.some.inj (Tryd.func5.symm.trans hfn)).symm
  refine ⟨by kernel_rfl, fun j t ht => ?_⟩
  rw [Tryd.params5] at ht
  have hm := Array.mem_of_getElem? ht
  have hs : t = 29 := by simpa using hm
  rcases hs with rfl
  · exact (show Tryd.prog.wantsStandIn 29 = false by kernel_rfl)

end Go.Proofs.YtaeejemknmjglaaDoor.Sp.knobsHold

namespace Go.Proofs.YtaeejemknmjglaaDoor
theorem knobsHold_card : Rows.KnobsHoldCardSaid :=
  Claim7.holds_tied_plain_at .later [] _ _ _ _ Sp.knobsHold.said (fun _ h => by cases h) (by kernel_rfl) (fun _ h => by cases h) knobsHold_row_tie rfl ⟨rfl, rfl⟩ (by kernel_rfl) rfl Sp.knobsHold.plain (by kernel_rfl)
end Go.Proofs.YtaeejemknmjglaaDoor
