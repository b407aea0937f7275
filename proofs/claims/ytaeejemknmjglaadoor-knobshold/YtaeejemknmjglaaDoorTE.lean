/-
  Numbers of twenty digits compared as a whole, at this program. Conditions: the numbers are not below 0 and have at most twenty digits.
-/
import Derived.Test.YtaeejemknmjglaaDoorR0
import Derived.ChangeKeysEq
namespace Go.Proofs.YtaeejemknmjglaaDoor
open Go.RowKit

theorem Num.tab {W : World} {b : Nat} {V : Int} (h : Num W b V) : Tab W b (wd V) := fun j hj => by
  have r := h.1 j (.int .u64 (wd V j)) (by simp [dl, hj])
  have t := (h.2.1 j hj).2
  rw [Nat.zero_add] at r t
  exact ⟨r, t⟩
theorem wpList_to' {P : Program} {ops : Array Oper} {rest : List Oper} {a : Act} {Q : Exit → Act → World → Prop} {Pr : World → Prop} {W : World} (h : Pr W) (k : ∀ W, Pr W → wpList P ops Q rest a W) : wpList P ops Q rest a W := k W h
theorem zero_dv : (.agg #[.int .u64 0, .int .u64 0, .int .u64 0, .int .u64 0, .int .u64 0, .int .u64 0, .int .u64 0, .int .u64 0, .int .u64 0, .int .u64 0, .int .u64 0, .int .u64 0, .int .u64 0, .int .u64 0, .int .u64 0, .int .u64 0, .int .u64 0, .int .u64 0, .int .u64 0, .int .u64 0] : Value) = dv 0 := by
  have : dl (wd 0) = [.int .u64 0, .int .u64 0, .int .u64 0, .int .u64 0, .int .u64 0, .int .u64 0, .int .u64 0, .int .u64 0, .int .u64 0, .int .u64 0, .int .u64 0, .int .u64 0, .int .u64 0, .int .u64 0, .int .u64 0, .int .u64 0, .int .u64 0, .int .u64 0, .int .u64 0, .int .u64 0] := rfl
  unfold dv
  rw [this]
theorem dv_lit (V : Int) : dv V = .agg #[.int .u64 (wd V 0), .int .u64 (wd V 1), .int .u64 (wd V 2), .int .u64 (wd V 3), .int .u64 (wd V 4), .int .u64 (wd V 5), .int .u64 (wd V 6), .int .u64 (wd V 7), .int .u64 (wd V 8), .int .u64 (wd V 9), .int .u64 (wd V 10), .int .u64 (wd V 11), .int .u64 (wd V 12), .int .u64 (wd V 13), .int .u64 (wd V 14), .int .u64 (wd V 15), .int .u64 (wd V 16), .int .u64 (wd V 17), .int .u64 (wd V 18), .int .u64 (wd V 19)] := rfl
theorem run_eqDigs (F G : Nat → Int) (d : Nat) (w : World) : ∀ is : List Nat, (∀ i ∈ is, i < 20) →
    (Op.eqItems (d + 1) 83 1 (dl F).toArray (dl G).toArray is).run Tryd.prog w = .ok (is.all fun i => F i == G i) w := by
  intro is
  induction is with
  | nil => intro _; simp [Op.eqItems]
  | cons i is ih =>
    intro h
    have hi := h i (by simp)
    have ih := ih (fun j hj => h j (by simp [hj]))
    have p1 := run_part_plain (P := Tryd.prog) w (e := 83) (by kernel_rfl) (dl_get F i hi)
    have p2 := run_part_plain (P := Tryd.prog) w (e := 83) (by kernel_rfl) (dl_get G i hi)
    have p3 := run_equalIn_int (P := Tryd.prog) w d 83 .u64 .u64 (F i) (G i) Tryd.underlying83
    simp only [Op.eqItems, Nat.mul_one, Sem.run_bind, p1, p2, p3, Result.andThen_ok]
    cases e : F i == G i
    · simp [e]
    · simp [e, ih]
theorem run_equal_dl (F G : Nat → Int) (d : Nat) (w : World) :
    (Op.equalIn (d + 2) 88 (.agg (dl F).toArray) (.agg (dl G).toArray)).run Tryd.prog w = .ok ((List.range 20).all fun i => F i == G i) w := by
  rw [run_equalIn_array (P := Tryd.prog) w (d + 1) (dl F).toArray (dl G).toArray Tryd.underlying88 (i := (Tryd.prog.info? 83).get!) (by kernel_rfl)]
  rw [show Tryd.prog.cellsOf 83 = 1 by kernel_rfl]
  exact run_eqDigs F G d w (List.range 20) (fun i hi => List.mem_range.1 hi)
theorem all_dv (V U : Int) (v0 : 0 ≤ V) (v1 : V < 65536 ^ 20) (u0 : 0 ≤ U) (u1 : U < 65536 ^ 20) : ((List.range 20).all fun i => wd V i == wd U i) = decide (V = U) := by
  by_cases h : V = U
  · subst h; simp
  · rw [decide_eq_false h]
    cases e : (List.range 20).all fun i => wd V i == wd U i with
    | false => rfl
    | true =>
      refine absurd ?_ h
      have : sv (wd V) 20 = sv (wd U) 20 := sv_congr _ _ 20 (fun j hj => by simpa using (List.all_eq_true.1 e) j (List.mem_range.2 hj))
      rwa [sv_wd20 V v0 v1, sv_wd20 U u0 u1] at this
theorem run_equal_dv (V U : Int) (w : World) (v0 : 0 ≤ V) (v1 : V < 65536 ^ 20) (u0 : 0 ≤ U) (u1 : U < 65536 ^ 20) :
    (Op.equalIn 10000 88 (.agg (dl (wd V)).toArray) (.agg (dl (wd U)).toArray)).run Tryd.prog w = .ok (decide (V = U)) w := by
  rw [← all_dv V U v0 v1 u0 u1]
  exact run_equal_dl _ _ 9998 w

end Go.Proofs.YtaeejemknmjglaaDoor
