/-
  The contract of the document's own Int (a number with a sign as one of 64 bits) at this program. Conditions: the size has at most twenty digits.
-/
import Derived.Test.YtfbkmifgnpapbaaCD
namespace Go.Proofs.Ytfbkmifgnpapbaa
open Go.RowKit

theorem top_digs : (9223372036854775808 : Int) < 65536 ^ 20 := by decide

set_option maxHeartbeats 1000000 in
set_option maxRecDepth 100000 in
theorem int3 (m : Bool) (V : Int) (w : World) (v0 : 0 ≤ V) (v1 : V < 65536 ^ 20) :
    Calls Try.prog 11 #[iv m V] w fun e w' => e = .returned (.tuple #[.int .i64 (fitv (sgn m V)), .bool (fitb (sgn m V))]) ∧ Below w.heap.size w w' := by
  have V1 : Hid (V < 65536 ^ 20) := v1
  clear v1
  go_enter Try.func11, Try.ntmps11
  go_upto_region 1 with (fail)
  refine wp_on (Pr := fun W => Hid (Has w [(w.heap.size, il m V)] W)) ((Has.none w).new (il m V) _ _ rfl) ?_
  intro W F
  refine wp_region_lit ?_
  refine wpList_one fun K' hK' => ?_
  rw [if_pos (by rfl)]
  go_simp
  refine (power_dv 63 _ (by omega)).mono ?_
  rintro e w2 ⟨rfl, hw2⟩
  have F2 : Hid (Has w _ w2) := F.out.later hw2
  clear F hw2
  (try go_wp2_with (fail))
  refine hK'.out _ _ ?_
  clear hK' K'
  have hp : w.heap.size < w2.heap.size := (F2.out.get w.heap.size (il m V) (by simp)).2.2
  refine wpList_one fun K' hK' => ?_
  rw [if_pos (by rfl)]
  go_simp
  refine hK'.out _ _ ?_
  clear hK' K'
  have F3 : Hid (Has w ((w2.heap.size, dl (wd 0)) :: [(w.heap.size, il m V)]) _) := F2.out.new (dl (wd 0)) 25 (Array.replicate 20 (.int .u64 0)) rfl
  refine digs_store 9223372036854775808 (F3.out.get w2.heap.size (dl (wd 0)) (by simp)) rfl _ _ rfl rfl rfl rfl ?_
  refine wpList_on (Pr := fun W => Hid (Has w [(w2.heap.size, dl (wd 9223372036854775808)), (w.heap.size, il m V)] W)) (F3.out.put _ (by simp [dl_len]) (by omega) (by simp; omega)) ?_
  clear F3 F2
  intro W4 F4
  generalize w2.heap.size = p at hp F4 ⊢
  have R1 := F4.out.get p _ (List.mem_cons_self ..)
  have f0 := (F4.out.get w.heap.size (il m V) (by simp)).cell 0 (.bool m) rfl
  have T0 := top_digs
  have HT : Hid ((9223372036854775808 : Int) < 65536 ^ 20) := T0
  clear T0
  cases m with
  | true =>
    go_upto_region 2 with (fail)
    refine wp_region_lit ?_
    refine wpList_one fun K' hK' => ?_
    rw [if_pos (by rfl)]
    go_simp
    refine hK'.out _ _ ?_
    clear hK' K'
    refine wpList_one fun K' hK' => ?_
    rw [if_pos (by rfl)]
    go_simp
    refine hK'.out _ _ ?_
    clear hK' K'
    refine wpList_one fun K' hK' => ?_
    rw [if_pos (by rfl)]
    go_simp
    refine hK'.out _ _ ?_
    clear hK' K'
    refine wpList_one fun K' hK' => ?_
    rw [if_pos (by rfl)]
    go_simp
    refine hK'.out _ _ ?_
    clear hK' K'
    refine wpList_one fun K' hK' => ?_
    rw [if_pos (by rfl)]
    refine size_wp_load (F4.out.get w.heap.size (il true V) (by simp)) _ rfl (some 12) rfl rfl ?_
    simp only [Act.put, List.setIfInBounds_toArray, List.set_cons_zero, List.set_cons_succ]
    refine hK'.out _ _ ?_
    clear hK' K'
    refine wpList_one fun K' hK' => ?_
    rw [if_pos (by rfl)]
    refine digs_wp_load (F4.out.get p (dl (wd 9223372036854775808)) (by simp)) _ rfl (some 13) rfl rfl ?_
    simp only [Act.put, List.setIfInBounds_toArray, List.set_cons_zero, List.set_cons_succ]
    refine hK'.out _ _ ?_
    clear hK' K'
    refine wpList_one fun K' hK' => ?_
    rw [if_pos (by rfl)]
    unfold dv
    go_simp
    rw [run_equal_dv V 9223372036854775808 _ v0 V1.out (by omega) HT.out]
    go_simp
    refine hK'.out _ _ ?_
    clear hK' K'
    by_cases hv : V = 9223372036854775808
    · subst hv
      rw [decide_eq_true rfl]
      have HB4 := F4.out.2.2
      go_wp2
      go_ret2
      exact ⟨two_eq (by decide) (by decide), HB4⟩
    rw [decide_eq_false hv]

    go_upto_region 4 with (fail)
    refine wp_region_lit ?_
    refine wpList_one fun K' hK' => ?_
    rw [if_pos (by rfl)]
    go_simp
    refine hK'.out _ _ ?_
    clear hK' K'
    refine size_load (F4.out.get w.heap.size (il true V) (by simp)) rfl _ rfl rfl ?_
    simp only [Act.put, List.setIfInBounds_toArray, List.set_cons_zero, List.set_cons_succ]
    refine digs_load (F4.out.get p (dl (wd 9223372036854775808)) (by simp)) rfl _ rfl rfl ?_
    simp only [Act.put, List.setIfInBounds_toArray, List.set_cons_zero, List.set_cons_succ]
    refine wpList_one fun K' hK' => ?_
    rw [if_pos (by rfl)]
    go_simp
    refine (less_dv V 9223372036854775808 _ v0 V1.out (by omega) HT.out).mono ?_
    rintro e w5 ⟨rfl, hw5⟩
    have F5 : Hid (Has w _ w5) := F4.out.later hw5
    clear F4 f0 R1 hw5
    (try go_wp2_with (fail))
    refine hK'.out _ _ ?_
    clear hK' K'
    by_cases hl : V < 9223372036854775808
    · rw [decide_eq_true hl]
      have HX : Hid (In64 (sgn true V)) := by unfold Hid; unfold In64 sgn; simp; omega
      go_upto_region 6 with (fail)
      refine wp_region_lit ?_
      refine wpList_one fun K' hK' => ?_
      rw [if_pos (by rfl)]
      go_simp
      refine hK'.out _ _ ?_
      clear hK' K'
      refine size_load (F5.out.get w.heap.size (il true V) (by simp)) rfl _ rfl rfl ?_
      simp only [Act.put, List.setIfInBounds_toArray, List.set_cons_zero, List.set_cons_succ]
      refine wpList_one fun K' hK' => ?_
      rw [if_pos (by rfl)]
      go_simp
      refine (wide_dv V _ v0 V1.out).mono ?_
      rintro e w6 ⟨rfl, hw6⟩
      rw [wl_low v0 (by omega)]
      have F6 : Hid (Has w _ w6) := F5.out.later hw6
      clear F5 hw6
      (try go_wp2_with (fail))
      refine hK'.out _ _ ?_
      clear hK' K'
      have f6 := (F6.out.get w.heap.size (il true V) (by simp)).cell 0 (.bool true) rfl
      have hz : w.heap.size < w6.heap.size := (F6.out.get w.heap.size (il true V) (by simp)).2.2
      have HB6 := F6.out.2.2
      have hs6 := F6.out.2.1
      go_wp2
      go_ret2
      refine ⟨two_eq (Eq.trans ?_ (fit_yes HX.out).1.symm) (fit_yes HX.out).2.symm, ?_⟩
      · rw [show sgn true V = -V from by simp [sgn]]
      · go_grown
    · rw [decide_eq_false hl]
      have HX : Hid (¬ In64 (sgn true V)) := by unfold Hid; unfold In64 sgn; simp; omega
      have HB5 := F5.out.2.2
      go_wp2
      go_ret2
      exact ⟨two_eq (fit_no HX.out).1.symm (fit_no HX.out).2.symm, HB5⟩
  | false =>
    go_upto_region 2 with (fail)
    refine wp_region_lit ?_
    refine wpList_one fun K' hK' => ?_
    rw [if_pos (by rfl)]
    go_simp
    refine hK'.out _ _ ?_
    clear hK' K'
    refine wpList_one fun K' hK' => ?_
    rw [if_pos (by rfl)]
    go_simp
    refine hK'.out _ _ ?_
    clear hK' K'
    refine wpList_one fun K' hK' => ?_
    rw [if_pos (by rfl)]
    go_simp
    refine hK'.out _ _ ?_
    clear hK' K'
    refine wpList_one fun K' hK' => ?_
    rw [if_neg (by exact Bool.false_ne_true)]
    simp only [Act.put, List.setIfInBounds_toArray, List.set_cons_zero, List.set_cons_succ]
    refine hK'.out _ _ ?_
    clear hK' K'
    refine wpList_one fun K' hK' => ?_
    rw [if_neg (by exact Bool.false_ne_true)]
    simp only [Act.put, List.setIfInBounds_toArray, List.set_cons_zero, List.set_cons_succ]
    refine hK'.out _ _ ?_
    clear hK' K'
    refine wpList_one fun K' hK' => ?_
    rw [if_neg (by exact Bool.false_ne_true)]
    simp only [Act.put, List.setIfInBounds_toArray, List.set_cons_zero, List.set_cons_succ]
    refine hK'.out _ _ ?_
    clear hK' K'
    refine wpList_one fun K' hK' => ?_
    rw [if_neg (by exact Bool.false_ne_true)]
    simp only [Act.put, List.setIfInBounds_toArray, List.set_cons_zero, List.set_cons_succ]
    refine hK'.out _ _ ?_
    clear hK' K'

    go_upto_region 4 with (fail)
    refine wp_region_lit ?_
    refine wpList_one fun K' hK' => ?_
    rw [if_pos (by rfl)]
    go_simp
    refine hK'.out _ _ ?_
    clear hK' K'
    refine size_load (F4.out.get w.heap.size (il false V) (by simp)) rfl _ rfl rfl ?_
    simp only [Act.put, List.setIfInBounds_toArray, List.set_cons_zero, List.set_cons_succ]
    refine digs_load (F4.out.get p (dl (wd 9223372036854775808)) (by simp)) rfl _ rfl rfl ?_
    simp only [Act.put, List.setIfInBounds_toArray, List.set_cons_zero, List.set_cons_succ]
    refine wpList_one fun K' hK' => ?_
    rw [if_pos (by rfl)]
    go_simp
    refine (less_dv V 9223372036854775808 _ v0 V1.out (by omega) HT.out).mono ?_
    rintro e w5 ⟨rfl, hw5⟩
    have F5 : Hid (Has w _ w5) := F4.out.later hw5
    clear F4 f0 R1 hw5
    (try go_wp2_with (fail))
    refine hK'.out _ _ ?_
    clear hK' K'
    by_cases hl : V < 9223372036854775808
    · rw [decide_eq_true hl]
      have HX : Hid (In64 (sgn false V)) := by unfold Hid; unfold In64 sgn; simp; omega
      go_upto_region 6 with (fail)
      refine wp_region_lit ?_
      refine wpList_one fun K' hK' => ?_
      rw [if_pos (by rfl)]
      go_simp
      refine hK'.out _ _ ?_
      clear hK' K'
      refine size_load (F5.out.get w.heap.size (il false V) (by simp)) rfl _ rfl rfl ?_
      simp only [Act.put, List.setIfInBounds_toArray, List.set_cons_zero, List.set_cons_succ]
      refine wpList_one fun K' hK' => ?_
      rw [if_pos (by rfl)]
      go_simp
      refine (wide_dv V _ v0 V1.out).mono ?_
      rintro e w6 ⟨rfl, hw6⟩
      rw [wl_low v0 (by omega)]
      have F6 : Hid (Has w _ w6) := F5.out.later hw6
      clear F5 hw6
      (try go_wp2_with (fail))
      refine hK'.out _ _ ?_
      clear hK' K'
      have f6 := (F6.out.get w.heap.size (il false V) (by simp)).cell 0 (.bool false) rfl
      have hz : w.heap.size < w6.heap.size := (F6.out.get w.heap.size (il false V) (by simp)).2.2
      have HB6 := F6.out.2.2
      have hs6 := F6.out.2.1
      go_wp2
      go_ret2
      refine ⟨two_eq (Eq.trans ?_ (fit_yes HX.out).1.symm) (fit_yes HX.out).2.symm, ?_⟩
      · rw [show sgn false V = V from by simp [sgn]]
      · go_grown
    · rw [decide_eq_false hl]
      have HX : Hid (¬ In64 (sgn false V)) := by unfold Hid; unfold In64 sgn; simp; omega
      have HB5 := F5.out.2.2
      go_wp2
      go_ret2
      exact ⟨two_eq (fit_no HX.out).1.symm (fit_no HX.out).2.symm, HB5⟩

end Go.Proofs.Ytfbkmifgnpapbaa
