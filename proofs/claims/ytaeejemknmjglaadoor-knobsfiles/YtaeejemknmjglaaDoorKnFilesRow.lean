/-
  The statement KnobsFiles of this program, proved: for all knobs, files and numbers it returns true (a number that is written into a file is there, and files don't touch one another), and the arguments read as before. Conditions: the eight tables are as the program's text lays them (the card ties that).
-/
import Derived.Test.YtaeejemknmjglaaDoorRJ
import Derived.Test.YtaeejemknmjglaaDoorRR
namespace Go.Proofs.YtaeejemknmjglaaDoor.Sp.knobsFiles
open Go.ChangeShapes Go.WideShapes Go.ChangeAt Go.RowKit Go.Joins
open Go.ChangeMaps (open_string shut_string)

set_option maxRecDepth 100000 in
theorem contract (H : Type) (enc : TypeId × Value → H) (W : World) (base : Nat) (args : Array Value) (ds gs : List (DataW H)) (before : List MemPlace)
    (hval : ∀ (j : Nat) t v, Tryd.f7.params[j]? = some t → args[j]? = some v → Value.okWide Tryd.prog W .any base t v)
    (hW : DataW.Whole enc Tryd.prog Tryd.f7.params.toList Rows.knobsFilesSpec.vars false W args.toList ds gs before) (hL : laidMetH Tryd.prog Rows.knobsFilesRow.laid W) :
    Calls Tryd.prog 7 args W fun e W' => ∃ v, e = .returned v ∧ Rows.knobsFilesSpec.post enc Tryd.prog Tryd.f7 false true false false W args v W' := by
  have hT : LaidK W := laid_cells6 hL
  have hW' := hW
  have hlt := hW.lt
  obtain ⟨p, q, hA0, hV, rfl, hfz, hnd⟩ := hW
  have hA : DataW.TrodAll enc Tryd.prog W 0 (fun _ => true) true Tryd.f7.params.toList args.toList ds p := hA0
  rw [Tryd.params7] at hA hval
  obtain ⟨v0, v1, v2, d0, d1, d2, p0, p1, p2, rfl, rfl, rfl, h0, h1, h2⟩ := trodAll_three hA
  obtain ⟨rfl, rfl⟩ := trodVars_none hV
  obtain ⟨cs0, rfl, hsz0⟩ := okWide_struct Tryd.underlying33 (hval 0 33 v0 rfl rfl)
  obtain ⟨ka, kb, kc, kd, ke, ec0, b0, b1, b2, b3, b4⟩ : ∃ ka kb kc kd ke : Int, cs0.toList = [.int .i64 ka, .int .i64 kb, .int .i64 kc, .int .i64 kd, .int .i64 ke] ∧ In64r ka ∧ In64r kb ∧ In64r kc ∧ In64r kd ∧ In64r ke := by
    obtain ⟨fuel, hf⟩ := id h0
    exact read_knobs hf
  obtain ⟨cl0⟩ := cs0
  obtain rfl : cl0 = [.int .i64 ka, .int .i64 kb, .int .i64 kc, .int .i64 kd, .int .i64 ke] := ec0
  obtain ⟨cs1, rfl, hsz1⟩ := okWide_array5 Tryd.underlying48 (hval 1 48 v1 rfl rfl)
  obtain ⟨f0, f1, ec1⟩ : ∃ f0 f1 : Int, cs1.toList = [.int .i64 f0, .int .i64 f1] := by
    obtain ⟨fuel, hf⟩ := id h1
    exact read_two hf
  obtain ⟨cl1⟩ := cs1
  obtain rfl : cl1 = [.int .i64 f0, .int .i64 f1] := ec1
  obtain ⟨cs2, rfl, hsz2⟩ := okWide_array5 Tryd.underlying48 (hval 2 48 v2 rfl rfl)
  obtain ⟨n0, n1, ec2⟩ : ∃ n0 n1 : Int, cs2.toList = [.int .i64 n0, .int .i64 n1] := by
    obtain ⟨fuel, hf⟩ := id h2
    exact read_two hf
  obtain ⟨cl2⟩ := cs2
  obtain rfl : cl2 = [.int .i64 n0, .int .i64 n1] := ec2
  clear hA0
  simp only [List.append_nil] at hW' hlt
  refine (knobsFiles_any ka kb kc kd ke f0 f1 n0 n1 W hT).mono fun e W' ⟨he, hb⟩ => ?_
  subst he
  exact ⟨_, rfl, _, _, (p0 ++ p1 ++ p2), [], (p0 ++ p1 ++ p2), [], hW', trodAll_cons_mk (shut_bool Tryd.underlying4 _) trodAll_mk0, (by have T := (trodAll_cons_mk (Below.trod laidOut (by kernel_rfl) (of_decide_eq_true (by kernel_rfl)) h0 hb (fun x hx => hlt x (by simp [hx]))) (trodAll_cons_mk (Below.trod laidOut (by kernel_rfl) (of_decide_eq_true (by kernel_rfl)) h1 hb (fun x hx => hlt x (by simp [hx]))) (trodAll_mk1 (Below.trod laidOut (by kernel_rfl) (of_decide_eq_true (by kernel_rfl)) h2 hb (fun x hx => hlt x (by simp [hx])))))); rw [← List.append_assoc] at T; exact T), rfl, hb.frame _, fun h => Bool.noConfusion h⟩

theorem laid_met (os : Os) : laidMet Tryd.prog Rows.knobsFilesRow.laid ((laidOver6 (World.holding Tryd.prog os ⟨#[], #[], []⟩)).forCall (fun _ _ => 0) ⟨#[], #[.agg #[.int .i64 0, .int .i64 0, .int .i64 0, .int .i64 0, .int .i64 0], .agg #[.int .i64 0, .int .i64 0], .agg #[.int .i64 0, .int .i64 0]], []⟩).memory :=
  laidMet_of_run' 8 (by kernel_rfl) (by kernel_rfl)
theorem reads (os : Os) {H : Type} (enc : TypeId × Value → H) : ∃ places, DataW.whole enc Tryd.prog ((laidOver6 (World.holding Tryd.prog os ⟨#[], #[], []⟩)).forCall (fun _ _ => 0) ⟨#[], #[.agg #[.int .i64 0, .int .i64 0, .int .i64 0, .int .i64 0, .int .i64 0], .agg #[.int .i64 0, .int .i64 0], .agg #[.int .i64 0, .int .i64 0]], []⟩).memory Tryd.f7.params.toList Rows.knobsFilesSpec.vars false (#[.agg #[.int .i64 0, .int .i64 0, .int .i64 0, .int .i64 0, .int .i64 0], .agg #[.int .i64 0, .int .i64 0], .agg #[.int .i64 0, .int .i64 0]] : Array Value).toList 8 = some ([.agg [.lit (.int .i64 0), .lit (.int .i64 0), .lit (.int .i64 0), .lit (.int .i64 0), .lit (.int .i64 0)], .agg [.lit (.int .i64 0), .lit (.int .i64 0)], .agg [.lit (.int .i64 0), .lit (.int .i64 0)]], [], places) :=
  ⟨[], by kernel_rfl⟩

set_option maxRecDepth 100000 in
theorem lifted (os : Os) (started : os.Started) (H : Type) (enc : TypeId × Value → H) (F : Stop.Interp) :
    ReturnsInHanded {} Tryd.checked os 7 .any ((OpenSpec.ofChange Rows.knobsFilesSpec).preRow enc Tryd.prog Tryd.f7 Rows.knobsFilesRow.domain false Rows.knobsFilesRow.laid) (((OpenSpec.ofChange Rows.knobsFilesSpec).at F).post enc Tryd.prog Tryd.f7 false true false false) := by
  obtain ⟨places, hx⟩ := reads os enc
  refine returnsInHanded_of_row (C := Tryd.checked) (s := OpenSpec.ofChange Rows.knobsFilesSpec) own started (by kernel_rfl) Tryd.func7
    (witness_row_at (enc := enc) (C := Tryd.checked) false (laidOver6 (World.holding Tryd.prog os ⟨#[], #[], []⟩)) #[.agg #[.int .i64 0, .int .i64 0, .int .i64 0, .int .i64 0, .int .i64 0], .agg #[.int .i64 0, .int .i64 0], .agg #[.int .i64 0, .int .i64 0]] rfl (by kernel_rfl) (by kernel_rfl) (by kernel_rfl)
      (OpenSpec.preRow_of_cond 8 hx (by kernel_rfl) (fun k hk => by cases hk) (by kernel_rfl) (laid_met os))) ?_
  intro W base args ds gs before hval hW _ _ _ hL _ _
  exact contract H enc W base args ds gs before hval hW hL

theorem said : Rows.KnobsFilesSaid :=
  OpenClaim.holds_of_cond 7 Tryd.f7 rfl rfl rfl rfl rfl rfl rfl ⟨rfl, rfl, rfl, rfl, rfl⟩ rfl rfl rfl rfl rfl (by kernel_rfl) Tryd.func7 (by kernel_rfl)
    (of_decide_eq_true (by kernel_rfl)) (by unfold Func.isWrapper; first | (rw [if_pos (by decide +kernel)]; kernel_rfl) | (rw [if_neg (by decide +kernel)]; exact ⟨rfl, rfl⟩))
    (fun os started H enc _ F => by rw [OpenClaim.pre_eq_preRow]; exact lifted os started H enc F)

theorem plain (f : FuncId) (fn : Func) (hf : Tryd.pinned.checked.prog.funcNamed "berthing/berthinglaw06.KnobsFiles" = some f) (hfn : Tryd.pinned.checked.prog.funcs[f]? = some fn) :
    false = Tryd.pinned.checked.prog.looks [] ∧ ∀ (j : Nat) t, fn.params[j]? = some t → Tryd.pinned.checked.prog.wantsStandIn t = false := by
  obtain rfl : f = 7 := Option.some.inj ((show Tryd.prog.funcNamed "berthing/berthinglaw06.KnobsFiles" = some 7 by kernel_rfl).symm.trans hf) |>.symm
  obtain rfl : fn = Tryd.f7 := (Option.some.inj (Tryd.func7.symm.trans hfn)).symm
  refine ⟨by kernel_rfl, fun j t ht => ?_⟩
  rw [Tryd.params7] at ht
  have hm := Array.mem_of_getElem? ht
  have hs : t = 33 ∨ t = 48 := by simpa using hm
  rcases hs with rfl | rfl
  · exact (show Tryd.prog.wantsStandIn 33 = false by kernel_rfl)
  · exact (show Tryd.prog.wantsStandIn 48 = false by kernel_rfl)

end Go.Proofs.YtaeejemknmjglaaDoor.Sp.knobsFiles

namespace Go.Proofs.YtaeejemknmjglaaDoor
theorem knobsFiles_card : Rows.KnobsFilesCardSaid :=
  Claim7.holds_tied_plain_at .later [] _ _ _ _ Sp.knobsFiles.said (fun _ h => by cases h) (by kernel_rfl) (fun _ h => by cases h) knobsFiles_row_tie rfl ⟨rfl, rfl⟩ (by kernel_rfl) rfl Sp.knobsFiles.plain (by kernel_rfl)
end Go.Proofs.YtaeejemknmjglaaDoor
