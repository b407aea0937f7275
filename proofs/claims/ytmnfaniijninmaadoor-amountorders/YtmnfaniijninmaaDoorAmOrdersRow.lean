/-
  The statement AmountOrders of this program, proved: for every two wide numbers a, b and every n it returns true (units and thousandths don't fall as amounts rise, and those of whole ones come back), and the arguments read as before. Conditions: the two tables of suffixes are as the program's text lays them (the card ties that).
-/
import Derived.Test.YtmnfaniijninmaaDoorVN
import Derived.Test.YtmnfaniijninmaaDoorVR
namespace Go.Proofs.YtmnfaniijninmaaDoor.amountOrders
open Go.ChangeShapes Go.WideShapes Go.ChangeAt Go.RowKit Go.Joins
open Go.ChangeMaps (open_string shut_string)

set_option maxRecDepth 100000 in
theorem contract (H : Type) (enc : TypeId × Value → H) (W : World) (base : Nat) (args : Array Value) (ds gs : List (DataW H)) (before : List MemPlace)
    (hval : ∀ (j : Nat) t v, Tryd.f6.params[j]? = some t → args[j]? = some v → Value.okWide Tryd.prog W .any base t v)
    (hW : DataW.Whole enc Tryd.prog Tryd.f6.params.toList Rows.amountOrdersSpec.vars false W args.toList ds gs before) (hL : laidMetH Tryd.prog Rows.amountOrdersRow.laid W) :
    Calls Tryd.prog 6 args W fun e W' => ∃ v, e = .returned v ∧ Rows.amountOrdersSpec.post enc Tryd.prog Tryd.f6 false true false false W args v W' := by
  have hT : LaidW W := laid_cells hL
  have hW' := hW
  obtain ⟨p, q, hA0, hV, rfl, hfz, hnd⟩ := hW
  have hA : DataW.TrodAll enc Tryd.prog W 0 (fun _ => true) true Tryd.f6.params.toList args.toList ds p := hA0
  rw [Tryd.params6] at hA hval
  obtain ⟨v0, v1, v2, d0, d1, d2, p0, p1, p2, rfl, rfl, rfl, h0, h1, h2⟩ := trodAll_three hA
  obtain ⟨rfl, rfl⟩ := trodVars_none hV
  obtain ⟨c00, c01, y00, y01, m0, rfl, rfl, rfl, hy00, hy01⟩ := open_agg2 Tryd.underlying25 (by kernel_rfl) cellsWide (hval 0 25 v0 rfl rfl) h0
  obtain ⟨ah, e00, rfl, w00⟩ := DataW.trod_int Tryd.underlying23 hy00
  obtain ⟨al, e01, rfl, w01⟩ := DataW.trod_int Tryd.underlying23 hy01
  simp at e00 e01
  subst e00 e01
  obtain ⟨c10, c11, y10, y11, m1, rfl, rfl, rfl, hy10, hy11⟩ := open_agg2 Tryd.underlying25 (by kernel_rfl) cellsWide (hval 1 25 v1 rfl rfl) h1
  obtain ⟨bh, e10, rfl, w10⟩ := DataW.trod_int Tryd.underlying23 hy10
  obtain ⟨bl, e11, rfl, w11⟩ := DataW.trod_int Tryd.underlying23 hy11
  simp at e10 e11
  subst e10 e11
  obtain ⟨n, rfl, rfl, rfl, w2⟩ := open_int Tryd.underlying3 (hval 2 3 v2 rfl rfl) h2
  clear hA0
  simp only [List.append_nil] at hW'
  have b00 := u64_bd w00
  have b01 := u64_bd w01
  have b10 := u64_bd w10
  have b11 := u64_bd w11
  refine (amountOrders_any (n := n) (is_of b00 b01) (is_of b10 b11) W hT).mono fun e W' ⟨he, hb⟩ => ?_
  subst he
  exact ⟨_, rfl, _, _, [], [], [], [], hW', trodAll_cons_mk (shut_bool Tryd.underlying4 _) trodAll_mk0, (fun sp => (trodAll_cons_mk (wide_reads w00 w01 _ sp) (trodAll_cons_mk (wide_reads w10 w11 _ sp) (trodAll_cons_mk (shut_int Tryd.underlying3 w2) trodAll_mk0)))) _, rfl, hb.frame _, fun h => Bool.noConfusion h⟩

theorem laid_met (os : Os) : laidMet Tryd.prog Rows.amountOrdersRow.laid ((laidOver (World.holding Tryd.prog os ⟨#[], #[], []⟩)).forCall (fun _ _ => 0) ⟨#[], #[.agg #[.int .u64 0, .int .u64 0], .agg #[.int .u64 0, .int .u64 0], .int .i64 0], []⟩).memory :=
  laidMet_of_run' 8 (by kernel_rfl) (by kernel_rfl)
theorem reads (os : Os) {H : Type} (enc : TypeId × Value → H) : ∃ places, DataW.whole enc Tryd.prog ((laidOver (World.holding Tryd.prog os ⟨#[], #[], []⟩)).forCall (fun _ _ => 0) ⟨#[], #[.agg #[.int .u64 0, .int .u64 0], .agg #[.int .u64 0, .int .u64 0], .int .i64 0], []⟩).memory Tryd.f6.params.toList Rows.amountOrdersSpec.vars false (#[.agg #[.int .u64 0, .int .u64 0], .agg #[.int .u64 0, .int .u64 0], .int .i64 0] : Array Value).toList 8 = some ([.agg [.lit (.int .u64 0), .lit (.int .u64 0)], .agg [.lit (.int .u64 0), .lit (.int .u64 0)], .lit (.int .i64 0)], [], places) :=
  ⟨[], by kernel_rfl⟩

set_option maxRecDepth 100000 in
theorem lifted (os : Os) (started : os.Started) (H : Type) (enc : TypeId × Value → H) (F : Stop.Interp) :
    ReturnsInHanded {} Tryd.checked os 6 .any ((OpenSpec.ofChange Rows.amountOrdersSpec).preRow enc Tryd.prog Tryd.f6 Rows.amountOrdersRow.domain false Rows.amountOrdersRow.laid) (((OpenSpec.ofChange Rows.amountOrdersSpec).at F).post enc Tryd.prog Tryd.f6 false true false false) := by
  obtain ⟨places, hx⟩ := reads os enc
  refine returnsInHanded_of_row (C := Tryd.checked) (s := OpenSpec.ofChange Rows.amountOrdersSpec) own started (by kernel_rfl) Tryd.func6
    (witness_row_at (enc := enc) (C := Tryd.checked) false (laidOver (World.holding Tryd.prog os ⟨#[], #[], []⟩)) #[.agg #[.int .u64 0, .int .u64 0], .agg #[.int .u64 0, .int .u64 0], .int .i64 0] rfl (by kernel_rfl) (by kernel_rfl) (by kernel_rfl)
      (OpenSpec.preRow_of_cond 8 hx (by kernel_rfl) (fun k hk => by cases hk) (by kernel_rfl) (laid_met os))) ?_
  intro W base args ds gs before hval hW _ _ _ hL _ _
  exact contract H enc W base args ds gs before hval hW hL

theorem said : Rows.AmountOrdersSaid :=
  OpenClaim.holds_of_cond 6 Tryd.f6 rfl rfl rfl rfl rfl rfl rfl ⟨rfl, rfl, rfl, rfl, rfl⟩ rfl rfl rfl rfl rfl (by kernel_rfl) Tryd.func6 (by kernel_rfl)
    (of_decide_eq_true (by kernel_rfl)) (by unfold Func.isWrapper; first | (rw [if_pos (by decide +kernel)]; kernel_rfl) | (rw [if_neg (by decide +kernel)]; exact ⟨rfl, rfl⟩))
    (fun os started H enc _ F => by rw [OpenClaim.pre_eq_preRow]; exact lifted os started H enc F)

theorem plain (f : FuncId) (fn : Func) (hf : Tryd.pinned.checked.prog.funcNamed "berthing/berthinglaw02.AmountOrders" = some f) (hfn : Tryd.pinned.checked.prog.funcs[f]? = some fn) :
    false = Tryd.pinned.checked.prog.looks [] ∧ ∀ (j : Nat) t, fn.params[j]? = some t → Tryd.pinned.checked.prog.wantsStandIn t = false := by
  obtain rfl : f = 6 := Option.some.inj ((show Tryd.prog.funcNamed "berthing/berthinglaw02.AmountOrders" = some 6 by kernel_rfl).symm.trans hf) |>.symm
  obtain rfl : fn = Tryd.f6 := (Option.some.inj (Tryd.func6.symm.trans hfn)).symm
  refine ⟨by kernel_rfl, fun j t ht => ?_⟩
  rw [Tryd.params6] at ht
  have hm := Array.mem_of_getElem? ht
  have hs : t = 25 ∨ t = 3 := by simpa using hm
  rcases hs with rfl | rfl
  · exact (show Tryd.prog.wantsStandIn 25 = false by kernel_rfl)
  · exact (show Tryd.prog.wantsStandIn 3 = false by kernel_rfl)

end Go.Proofs.YtmnfaniijninmaaDoor.amountOrders

namespace Go.Proofs.YtmnfaniijninmaaDoor
theorem amountOrders_card : Rows.AmountOrdersCardSaid :=
  Claim7.holds_tied_plain_at .later [] _ _ _ _ amountOrders.said (fun _ h => by cases h) (by kernel_rfl) (fun _ h => by cases h) amountOrders_row_tie rfl ⟨rfl, rfl⟩ (by kernel_rfl) rfl amountOrders.plain (by kernel_rfl)
end Go.Proofs.YtmnfaniijninmaaDoor
