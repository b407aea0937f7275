/-
  The statement AmountBack of this program, proved: for every wide number a it returns true (both texts of an amount are parsed to it, and its units are the next whole ones), and the argument reads as before. Conditions: the two tables of suffixes are as the program's text lays them (the card ties that).
-/
import Derived.Test.YtmnfaniijninmaaDoorVP
import Derived.Test.YtmnfaniijninmaaDoorVR
namespace Go.Proofs.YtmnfaniijninmaaDoor.amountBack
open Go.ChangeShapes Go.WideShapes Go.ChangeAt Go.RowKit Go.Joins
open Go.ChangeMaps (open_string shut_string)

set_option maxRecDepth 100000 in
theorem contract (H : Type) (enc : TypeId × Value → H) (W : World) (base : Nat) (args : Array Value) (ds gs : List (DataW H)) (before : List MemPlace)
    (hval : ∀ (j : Nat) t v, Tryd.f5.params[j]? = some t → args[j]? = some v → Value.okWide Tryd.prog W .any base t v)
    (hW : DataW.Whole enc Tryd.prog Tryd.f5.params.toList Rows.amountBackSpec.vars false W args.toList ds gs before) (hL : laidMetH Tryd.prog Rows.amountBackRow.laid W) :
    Calls Tryd.prog 5 args W fun e W' => ∃ v, e = .returned v ∧ Rows.amountBackSpec.post enc Tryd.prog Tryd.f5 false true false false W args v W' := by
  have hT : LaidW W := laid_cells hL
  have hW' := hW
  obtain ⟨p, q, hA0, hV, rfl, hfz, hnd⟩ := hW
  have hA : DataW.TrodAll enc Tryd.prog W 0 (fun _ => true) true Tryd.f5.params.toList args.toList ds p := hA0
  rw [Tryd.params5] at hA hval
  obtain ⟨v0, d0, rfl, rfl, h0⟩ := trodAll_one hA
  obtain ⟨rfl, rfl⟩ := trodVars_none hV
  obtain ⟨c00, c01, y00, y01, m0, rfl, rfl, rfl, hy00, hy01⟩ := open_agg2 Tryd.underlying25 (by kernel_rfl) cellsWide (hval 0 25 v0 rfl rfl) h0
  obtain ⟨ah, e00, rfl, w00⟩ := DataW.trod_int Tryd.underlying23 hy00
  obtain ⟨al, e01, rfl, w01⟩ := DataW.trod_int Tryd.underlying23 hy01
  simp at e00 e01
  subst e00 e01
  clear hA0
  simp only [List.append_nil] at hW'
  have b00 := u64_bd w00
  have b01 := u64_bd w01
  refine (amountBack_any (is_of b00 b01) W hT).mono fun e W' ⟨he, hb⟩ => ?_
  subst he
  exact ⟨_, rfl, _, _, [], [], [], [], hW', trodAll_cons_mk (shut_bool Tryd.underlying4 _) trodAll_mk0, (fun sp => (trodAll_cons_mk (wide_reads w00 w01 _ sp) trodAll_mk0)) _, rfl, hb.frame _, fun h => Bool.noConfusion h⟩

theorem laid_met (os : Os) : laidMet Tryd.prog Rows.amountBackRow.laid ((laidOver (World.holding Tryd.prog os ⟨#[], #[], []⟩)).forCall (fun _ _ => 0) ⟨#[], #[.agg #[.int .u64 0, .int .u64 0]], []⟩).memory :=
  laidMet_of_run' 8 (by kernel_rfl) (by kernel_rfl)
theorem reads (os : Os) {H : Type} (enc : TypeId × Value → H) : ∃ places, DataW.whole enc Tryd.prog ((laidOver (World.holding Tryd.prog os ⟨#[], #[], []⟩)).forCall (fun _ _ => 0) ⟨#[], #[.agg #[.int .u64 0, .int .u64 0]], []⟩).memory Tryd.f5.params.toList Rows.amountBackSpec.vars false (#[.agg #[.int .u64 0, .int .u64 0]] : Array Value).toList 8 = some ([.agg [.lit (.int .u64 0), .lit (.int .u64 0)]], [], places) :=
  ⟨[], by kernel_rfl⟩

set_option maxRecDepth 100000 in
theorem lifted (os : Os) (started : os.Started) (H : Type) (enc : TypeId × Value → H) (F : Stop.Interp) :
    ReturnsInHanded {} Tryd.checked os 5 .any ((OpenSpec.ofChange Rows.amountBackSpec).preRow enc Tryd.prog Tryd.f5 Rows.amountBackRow.domain false Rows.amountBackRow.laid) (((OpenSpec.ofChange Rows.amountBackSpec).at F).post enc Tryd.prog Tryd.f5 false true false false) := by
  obtain ⟨places, hx⟩ := reads os enc
  refine returnsInHanded_of_row (C := Tryd.checked) (s := OpenSpec.ofChange Rows.amountBackSpec) own started (by kernel_rfl) Tryd.func5
    (witness_row_at (enc := enc) (C := Tryd.checked) false (laidOver (World.holding Tryd.prog os ⟨#[], #[], []⟩)) #[.agg #[.int .u64 0, .int .u64 0]] rfl (by kernel_rfl) (by kernel_rfl) (by kernel_rfl)
      (OpenSpec.preRow_of_cond 8 hx (by kernel_rfl) (fun k hk => by cases hk) (by kernel_rfl) (laid_met os))) ?_
  intro W base args ds gs before hval hW _ _ _ hL _ _
  exact contract H enc W base args ds gs before hval hW hL

theorem said : Rows.AmountBackSaid :=
  OpenClaim.holds_of_cond 5 Tryd.f5 rfl rfl rfl rfl rfl rfl rfl ⟨rfl, rfl, rfl, rfl, rfl⟩ rfl rfl rfl rfl rfl (by kernel_rfl) Tryd.func5 (by kernel_rfl)
    (of_decide_eq_true (by kernel_rfl)) (by unfold Func.isWrapper; first | (rw [if_pos (by decide +kernel)]; kernel_rfl) | (rw [if_neg (by decide +kernel)]; exact ⟨rfl, rfl⟩))
    (fun os started H enc _ F => by rw [OpenClaim.pre_eq_preRow]; exact lifted os started H enc F)

theorem plain (f : FuncId) (fn : Func) (hf : Tryd.pinned.checked.prog.funcNamed "berthing/berthinglaw02.AmountBack" = some f) (hfn : Tryd.pinned.checked.prog.funcs[f]? = some fn) :
    false = Tryd.pinned.checked.prog.looks [] ∧ ∀ (j : Nat) t, fn.params[j]? = some t → Tryd.pinned.checked.prog.wantsStandIn t = false := by
  obtain rfl : f = 5 := Option.some.inj ((show Tryd.prog.funcNamed "berthing/berthinglaw02.AmountBack" = some 5 by kernel_rfl).symm.trans hf) |>.symm
  obtain rfl : fn = Tryd.f5 := (Option.some.inj (Tryd.func5.symm.trans hfn)).symm
  refine ⟨by kernel_rfl, fun j t ht => ?_⟩
  rw [Tryd.params5] at ht
  have hm := Array.mem_of_getElem? ht
  have hs : t = 25 := by simpa using hm
  rcases hs with rfl
  · exact (show Tryd.prog.wantsStandIn 25 = false by kernel_rfl)

end Go.Proofs.YtmnfaniijninmaaDoor.amountBack

namespace Go.Proofs.YtmnfaniijninmaaDoor
theorem amountBack_card : Rows.AmountBackCardSaid :=
  Claim7.holds_tied_plain_at .later [] _ _ _ _ amountBack.said (fun _ h => by cases h) (by kernel_rfl) (fun _ h => by cases h) amountBack_row_tie rfl ⟨rfl, rfl⟩ (by kernel_rfl) rfl amountBack.plain (by kernel_rfl)
end Go.Proofs.YtmnfaniijninmaaDoor
