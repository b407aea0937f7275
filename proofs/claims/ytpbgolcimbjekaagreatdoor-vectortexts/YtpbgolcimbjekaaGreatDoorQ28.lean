/-
  The contract of the document's own answer for units and thousandths of an amount at this program. Conditions: the words are words; each part is above 1.
-/
import Derived.Test.YtpbgolcimbjekaaGreatDoorQ27
namespace Go.Proofs.YtpbgolcimbjekaaGreatDoor
open Go.RowKit

/-- Along Parts: the number, and so many of its parts. -/
def PT (w : World) (ah al : Int) (p : Nat) (Q : Int) (W : World) : Prop := Box W w.heap.size ah al ∧ Num W p Q ∧ w.heap.size + 1 ≤ p ∧ Below w.heap.size w W
section
variable {w W w1 : World} {ah al Q : Int} {p : Nat}
theorem PT.later (k : PT w ah al p Q W) (hb : Below W.heap.size W w1) : PT w ah al p Q w1 := by
  obtain ⟨a, b, c, d⟩ := k
  exact ⟨a.later hb, b.later hb, c, d.trans (hb.mono d.size)⟩
theorem PT.drew (k : PT w ah al p Q W) : PT w ah al p Q W.drew := by
  obtain ⟨a, b, c, d⟩ := k
  exact ⟨a, b.drew, c, d.drew⟩
theorem Box.cells {b b' : Nat} {h l : Int} (e : b ≠ b') : ∀ (vs : List Value) (o : Nat) {W : World}, Box W b h l → Box (W.setCells b' o vs) b h l := by
  intro vs
  induction vs with
  | nil => intro o W k; exact k
  | cons v vs ih => intro o W k; exact ih (o + 1) (k.beside b' o v e)
theorem PT.put (k : PT w ah al p Q W) (U : Int) : PT w ah al p U (W.setCells p 0 (dl (wd U))) := by
  obtain ⟨a, b, c, d⟩ := k
  exact ⟨Box.cells (by omega) _ 0 a, b.put U, c, below_cells _ (by omega) _ 0 d⟩
end
theorem one_lit_dv : (.agg #[.int .u64 1, .int .u64 0, .int .u64 0, .int .u64 0, .int .u64 0, .int .u64 0, .int .u64 0, .int .u64 0, .int .u64 0, .int .u64 0, .int .u64 0, .int .u64 0, .int .u64 0, .int .u64 0, .int .u64 0, .int .u64 0, .int .u64 0, .int .u64 0, .int .u64 0, .int .u64 0] : Value) = dv 1 := one_dv
theorem by_nat {a v : Nat} (a1 : a < 340282366920938463463374607431768211456) (v0 : 0 < v) (v1 : v < 18446744073709551616) (w : World) :
    Calls Tryz.prog 33 #[dv (a : Int), dv (v : Int)] w fun x w' => x = .returned (.tuple #[dv ((a / v : Nat) : Int), dv ((a % v : Nat) : Int)]) ∧ Below w.heap.size w w' := by
  have := by_dv (a : Int) (v : Int) w (by omega) (by omega) (by omega) (by omega)
  rw [show (a : Int) / (v : Int) = ((a / v : Nat) : Int) by simp, show (a : Int) % (v : Int) = ((a % v : Nat) : Int) by simp] at this
  exact this
theorem up_eq {a v : Nat} (v0 : 1 < v) : up a v = if a % v = 0 then a / v else a / v + 1 := by
  by_cases h : a % v = 0
  · rw [if_pos h, up_whole v0 h]
  · rw [if_neg h, up_rest v0 h]

/-- What Parts answers. -/
def Parted (a v : Nat) (e : Ending) : Prop := ∃ (n : Int) (o : Bool), e = .returned (.tuple #[.int .i64 n, .bool o]) ∧
  ((a ≤ most ∧ up a v ≤ 1152921504606846976 ∧ n = (up a v : Nat) ∧ o = true) ∨ (¬ (a ≤ most ∧ up a v ≤ 1152921504606846976) ∧ n = 0 ∧ o = false))

set_option maxHeartbeats 500000 in
set_option maxRecDepth 100000 in
theorem parts_is {ah al u : Int} {a v : Nat} (i : Is ah al a) (hu : u = (v : Int)) (v0 : 1 < v) (v1 : v < 18446744073709551616) (w : World) :
    Calls Tryz.prog 32 #[.agg #[.int .u64 ah, .int .u64 al], .int .u64 u] w fun e w' => Parted a v e ∧ Below w.heap.size w w' := by
  have a1 := i.lt
  have ul := up_lt v0 a1
  have ue := up_eq (a := a) v0
  have p20 := pow20
  obtain ⟨A, hA⟩ : ∃ A : Int, A = (a : Int) := ⟨_, rfl⟩
  obtain ⟨V, hV⟩ : ∃ V : Int, V = (v : Int) := ⟨_, rfl⟩
  obtain ⟨Q, hQ⟩ : ∃ Q : Int, Q = ((a / v : Nat) : Int) := ⟨_, rfl⟩
  obtain ⟨R, hR⟩ : ∃ R : Int, R = ((a % v : Nat) : Int) := ⟨_, rfl⟩
  obtain ⟨X, hX⟩ : ∃ X : Int, X = ((up a v : Nat) : Int) := ⟨_, rfl⟩
  obtain ⟨P, hP⟩ : ∃ P : Int, P = 1152921504606846976 := ⟨_, rfl⟩
  have av : a / v ≤ a := Nat.div_le_self _ _
  have q0' : 0 ≤ Q := by rw [hQ]; exact Int.natCast_nonneg _
  have r0' : 0 ≤ R := by rw [hR]; exact Int.natCast_nonneg _
  have amv : a % v ≤ a := Nat.mod_le _ _
  have HQX : Hid ((R = 0 → Q = X) ∧ (R ≠ 0 → Q + 1 = X)) := by
    refine ⟨fun h => ?_, fun h => ?_⟩
    · rw [if_pos (by omega)] at ue; omega
    · rw [if_neg (by omega)] at ue; omega
  have HRR : Hid (0 ≤ R ∧ R < 65536 ^ 20) := by unfold Hid; omega
  have CO : Hid (∀ w, Calls Tryz.prog 29 #[.agg #[.int .u64 ah, .int .u64 al]] w fun x w' => x = .returned (dv A) ∧ Below w.heap.size w w') := fun w => by rw [hA]; exact rof_is i w
  have CV : Hid (∀ w, Calls Tryz.prog 29 #[.agg #[.int .u64 0, .int .u64 u]] w fun x w' => x = .returned (dv V) ∧ Below w.heap.size w w') := fun w => by rw [hV]; exact rof_is (Is.small hu (by omega)) w
  have CB : Hid (∀ w, Calls Tryz.prog 33 #[dv A, dv V] w fun x w' => x = .returned (.tuple #[dv Q, dv R]) ∧ Below w.heap.size w w') := fun w => by rw [hA, hV, hQ, hR]; exact by_nat a1 (by omega) v1 w
  have CP : Hid (∀ w, Calls Tryz.prog 45 #[dv Q, dv 1] w fun x w' => x = .returned (dv (Q + 1)) ∧ Below w.heap.size w w') := fun w => plus_dv Q 1 w (by omega) (by omega) (by omega)
  have CF : Hid (∀ w, Calls Tryz.prog 46 #[.agg #[.int .u64 ah, .int .u64 al]] w fun e w' => e = .returned (.bool (decide (a ≤ most))) ∧ Below w.heap.size w w') := fun w => fits_is i w
  have CW : Hid (∀ w, Calls Tryz.prog 47 #[.int .i64 60] w fun x w' => x = .returned (dv P) ∧ Below w.heap.size w w') := fun w => by
    have := power_dv 60 w (by omega)
    rw [show (2 : Int) ^ 60 = P by rw [hP]; decide] at this
    exact this
  have CL : Hid (∀ w, Calls Tryz.prog 48 #[dv P, dv X] w fun x w' => x = .returned (.bool (decide (P < X))) ∧ Below w.heap.size w w') := fun w => less_dv P X w (by omega) (by omega) (by omega) (by omega)
  have CX : Hid (X ≤ P → ∀ w, Calls Tryz.prog 31 #[dv X] w fun x w' => x = .returned (.tuple #[.agg #[.int .u64 0, .int .u64 X], .bool true]) ∧ Below w.heap.size w w') := fun h w => by
    have := wide_dv X w (by omega) (by omega)
    rw [show wh X = 0 by unfold wh; rw [if_pos (by omega)]; omega, show wl X = X by unfold wl; rw [if_pos (by omega)]; omega, show wt X = true by unfold wt; exact decide_eq_true (by omega)] at this
    exact this
  have HX : Hid (X = ((up a v : Nat) : Int) ∧ P = 1152921504606846976) := ⟨hX, hP⟩
  clear hu hA hV hQ hR hX hP av amv q0' r0' ue ul a1 p20 i
  go_enter Tryz.func32, Tryz.ntmps32
  go_upto_region 1 with (fail)
  have q0 : Box (w.alloc (.cells #[.int .u64 ah, .int .u64 al] 42)) w.heap.size ah al := Box.new _ _ _ _ _ rfl
  have HB0 : Below w.heap.size w (w.alloc (.cells #[.int .u64 ah, .int .u64 al] 42)) := by go_grown
  have hz0 : w.heap.size + 1 ≤ (w.alloc (.cells #[.int .u64 ah, .int .u64 al] 42)).heap.size := by simp
  refine wp_region_lit ?_
  refine wpList_one fun K' hK' => ?_
  rw [if_pos (by rfl)]
  go_simp
  refine hK'.out _ _ ?_
  clear hK' K'
  refine wpList_one fun K' hK' => ?_
  rw [if_pos (by rfl)]
  go_simp
  refine (CO.out _).mono ?_
  rintro e w2 ⟨rfl, hw2⟩
  have q2 := q0.later hw2
  have HB2 : Below w.heap.size w w2 := HB0.trans (hw2.mono (by omega))
  have hz2 := Nat.le_trans hz0 hw2.size
  clear hw2 q0 HB0 hz0
  (try go_wp2_with (fail))
  refine hK'.out _ _ ?_
  clear hK' K'
  refine wpList_one fun K' hK' => ?_
  rw [if_pos (by rfl)]
  go_simp
  refine hK'.out _ _ ?_
  clear hK' K'
  refine wpList_one fun K' hK' => ?_
  rw [if_pos (by rfl)]
  go_simp
  refine hK'.out _ _ ?_
  clear hK' K'
  refine wpList_one fun K' hK' => ?_
  rw [if_pos (by rfl)]
  go_simp
  refine (CV.out _).mono ?_
  rintro e w3 ⟨rfl, hw3⟩
  have q3 := q2.later hw3
  have HB3 : Below w.heap.size w w3 := HB2.trans (hw3.mono (by omega))
  have hz3 := Nat.le_trans hz2 hw3.size
  clear hw3 q2 HB2 hz2
  (try go_wp2_with (fail))
  refine hK'.out _ _ ?_
  clear hK' K'
  refine wpList_one fun K' hK' => ?_
  rw [if_pos (by rfl)]
  go_simp
  refine (CB.out _).mono ?_
  rintro e w4 ⟨rfl, hw4⟩
  have q4 := q3.later hw4
  have HB4 : Below w.heap.size w w4 := HB3.trans (hw4.mono (by omega))
  have hz4 := Nat.le_trans hz3 hw4.size
  clear hw4 q3 HB3 hz3
  (try go_wp2_with (fail))
  refine hK'.out _ _ ?_
  clear hK' K'
  refine wpList_one fun K' hK' => ?_
  rw [if_pos (by rfl)]
  go_simp
  refine hK'.out _ _ ?_
  clear hK' K'
  refine wpList_one fun K' hK' => ?_
  rw [if_pos (by rfl)]
  go_simp
  refine hK'.out _ _ ?_
  clear hK' K'
  refine wpList_one fun K' hK' => ?_
  rw [if_pos (by rfl)]
  go_simp
  refine hK'.out _ _ ?_
  clear hK' K'
  refine wpList_one fun K' hK' => ?_
  rw [if_pos (by rfl)]
  go_simp
  refine hK'.out _ _ ?_
  clear hK' K'
  refine wpList_one fun K' hK' => ?_
  rw [if_pos (by rfl)]
  go_simp
  refine hK'.out _ _ ?_
  clear hK' K'
  have N6 : Num ((w4.alloc (.cells (Array.replicate 20 (.int .u64 0)) 63)).alloc (.cells (Array.replicate 20 (.int .u64 0)) 63)) w4.heap.size 0 := (Num.zeros w4 _ _ rfl).alloc _
  have N7 : Num ((w4.alloc (.cells (Array.replicate 20 (.int .u64 0)) 63)).alloc (.cells (Array.replicate 20 (.int .u64 0)) 63)) (w4.heap.size + 1) 0 := Num.zeros _ _ _ (by simp)
  have q5 := (q4.alloc (.cells (Array.replicate 20 (.int .u64 0)) 63)).alloc (.cells (Array.replicate 20 (.int .u64 0)) 63)
  have HB5 : Below w.heap.size w ((w4.alloc (.cells (Array.replicate 20 (.int .u64 0)) 63)).alloc (.cells (Array.replicate 20 (.int .u64 0)) 63)) := by go_grown
  refine num_store N6 rfl _ _ rfl rfl rfl Q rfl ?_
  refine num_store (N7.beside w4.heap.size _ (by omega)) rfl _ _ rfl rfl rfl R rfl ?_
  refine wpList_to' (Pr := fun W => Hid (PT w ah al w4.heap.size Q W ∧ Num W (w4.heap.size + 1) R)) ⟨⟨Box.cells (by omega) _ 0 (Box.cells (by omega) _ 0 q5), (N6.put Q).beside _ _ (by omega), hz4, below_cells _ (by omega) _ 0 (below_cells _ (by omega) _ 0 HB5)⟩, (N7.beside w4.heap.size _ (by omega)).put R⟩ ?_
  intro W F
  clear q4 HB4 hz4 N6 N7 q5 HB5
  generalize w4.heap.size = p at F ⊢
  clear w4
  go_upto_region 2 with (fail)
  go_cut [21] (fun s21 wc => s21 = .bool (!decide (R = 0)) ∧ Hid (PT w ah al p Q wc))
  case first =>
    refine wp_region_lit ?_
    refine num_load F.out.2 rfl _ rfl rfl ?_
    simp only [Act.put, List.setIfInBounds_toArray, List.set_cons_zero, List.set_cons_succ]
    refine wpList_one fun K' hK' => ?_
    rw [if_pos (by rfl)]
    go_simp
    refine hK'.out _ _ ?_
    clear hK' K'
    refine wpList_one fun K' hK' => ?_
    rw [if_pos (by rfl)]
    rw [zero_dv]
    unfold dv
    go_simp
    rw [run_equal_dv R 0 _ HRR.out.1 HRR.out.2 (by omega) (by decide)]
    go_simp
    refine hK'.out _ _ ?_
    clear hK' K'
    go_wp2_with (fail)
    go_meet
    case rel => exact ⟨rfl, F.out.1⟩
  case rest =>
    obtain ⟨rfl, F2⟩ := hcut
    clear F
    go_upto_if 21 with (fail)
    go_cut [] (fun wc => Hid (PT w ah al p X wc))
    case first =>
      by_cases c : R = 0
      · rw [decide_eq_true c]
        have e := HQX.out.1 c
        rw [e] at F2
        go_wp2_with (fail)
        go_meet
        case rel => exact F2
      · rw [decide_eq_false c]
        have e := HQX.out.2 c
        go_upto_region 3 with (fail)
        refine wp_region_lit ?_
        refine num_load F2.out.2.1 rfl _ rfl rfl ?_
        simp only [Act.put, List.setIfInBounds_toArray, List.set_cons_zero, List.set_cons_succ]
        refine wpList_one fun K' hK' => ?_
        rw [if_pos (by rfl)]
        go_simp
        rw [one_lit_dv]
        refine hK'.out _ _ ?_
        clear hK' K'
        refine wpList_one fun K' hK' => ?_
        rw [if_pos (by rfl)]
        go_simp
        refine (CP.out _).mono ?_
        rintro e1 w5 ⟨rfl, hw5⟩
        rw [e]
        have F3 := F2.out.later hw5
        clear hw5 e
        (try go_wp2_with (fail))
        refine hK'.out _ _ ?_
        clear hK' K'
        refine num_store F3.2.1 rfl _ _ rfl rfl rfl X rfl ?_
        have F4 : Hid (PT w ah al p X _) := F3.put X
        go_wp2_with (fail)
        go_meet
        case rel => exact F4
    case rest =>
      have F5 : PT w ah al p X wc := hcut
      clear F2 hcut
      by_cases f : a ≤ most
      · rw [decide_eq_true f] at CF
        obtain ⟨b, hb⟩ : ∃ b, b = decide (P < X) := ⟨_, rfl⟩
        rw [← hb] at CL
        have HB : Hid (b = decide (P < X)) := hb
        clear hb
        go_upto_region 4 with (fail)
        refine wp_region_noPanic ?_
        refine wp_region_held_drew (S := fun w' => Box w' w.heap.size ah al) (by kernel_rfl) ?_ (fun hHeld => ?_)
        · exact F5.drew.1
        refine wpAnyH_take (i := 0) (v := ?_) rfl (by kernel_rfl) (by kernel_rfl) (by kernel_rfl) (fun _ _ _ h => h) (Or.inl ⟨by rfl, ?_⟩) (by assumption) ?_
        rotate_left
        · (intro wS hSw; obtain ⟨g0, g1, -, -, -⟩ := hSw; go_simp; try with_reducible rfl)
        change wpAnyH _ _ _ _ _ _ _ (Act.put _ (some 25) _) _
        simp only [Act.put, List.setIfInBounds_toArray, List.set_cons_zero, List.set_cons_succ]
        refine wpAnyH_named ?_
        intro A hA
        clear hHeld
        refine wpAnyH_inv (I := fun L a W => ∃ (c1 c2 c3 c4 c5 c6 c7 : Bool) (s26 s27 s28 s29 s30 s31 s32 : Value), L = #[true, c1, c2, c3, c4, c5, c6, c7] ∧ a = (((((((A.put (some 26) s26).put (some 27) s27).put (some 28) s28).put (some 29) s29).put (some 30) s30).put (some 31) s31).put (some 32) s32) ∧ Hid (PT w ah al p X W) ∧ Hid (c1 = true → s26 = .bool true) ∧ Hid (c2 = true → s27 = .bool false) ∧ Hid (c3 = true → s28 = .bool false) ∧ Hid (c4 = true → s29 = dv P) ∧ Hid (c5 = true → s30 = dv X) ∧ Hid (c6 = true → s31 = .bool b) ∧ Hid (c7 = true → s32 = .bool b)) ?hS ?hz (by kernel_rfl) ?hsteps ?hend _ _ _ _ (by decide) ?h0
        case hS => rintro L a W ⟨c1, c2, c3, c4, c5, c6, c7, s26, s27, s28, s29, s30, s31, s32, -, -, K, -⟩; exact (fun h => h) (K.out.1)
        case hz => rintro L a W ⟨c1, c2, c3, c4, c5, c6, c7, s26, s27, s28, s29, s30, s31, s32, rfl, -⟩; rfl
        case h0 => exact ⟨false, false, false, false, false, false, false, A.eval (.tmp 26), A.eval (.tmp 27), A.eval (.tmp 28), A.eval (.tmp 29), A.eval (.tmp 30), A.eval (.tmp 31), A.eval (.tmp 32), rfl, by simp only [put_self], F5.drew, fun h => Bool.noConfusion h, fun h => Bool.noConfusion h, fun h => Bool.noConfusion h, fun h => Bool.noConfusion h, fun h => Bool.noConfusion h, fun h => Bool.noConfusion h, fun h => Bool.noConfusion h⟩
        case hend =>
          rintro L a W ⟨c1, c2, c3, c4, c5, c6, c7, s26, s27, s28, s29, s30, s31, s32, rfl, rfl, K, k1, k2, k3, k4, k5, k6, k7⟩ hall
          obtain rfl : c1 = true := hall 1
          obtain rfl : c2 = true := hall 2
          obtain rfl : c3 = true := hall 3
          obtain rfl : c4 = true := hall 4
          obtain rfl : c5 = true := hall 5
          obtain rfl : c6 = true := hall 6
          obtain rfl : c7 = true := hall 7
          obtain rfl := k1.out rfl
          obtain rfl := k2.out rfl
          obtain rfl := k3.out rfl
          obtain rfl := k4.out rfl
          obtain rfl := k5.out rfl
          obtain rfl := k6.out rfl
          obtain rfl := k7.out rfl
          clear k1 k2 k3 k4 k5 k6 k7
          refine NoPanic.normal ?_
          subst hA
          simp only [Act.put, List.setIfInBounds_toArray, List.set_cons_zero, List.set_cons_succ]
          have R5 : Hid (PT w ah al p X W) := K
          clear K F5 CO CV CB CP CF CW CL HQX HRR
          by_cases g : P < X
          · have e := HB.out
            rw [decide_eq_true g] at e
            subst e
            go_wp2
            go_ret2
            exact ⟨⟨_, _, rfl, Or.inr ⟨by have := HX.out; omega, rfl, rfl⟩⟩, R5.out.2.2.2⟩
          · have e := HB.out
            rw [decide_eq_false g] at e
            subst e
            have CX1 : Hid _ := CX.out (by omega)
            have x0 : 0 ≤ X := by have := HX.out; omega
            have x1 : X ≤ 1152921504606846976 := by have := HX.out; omega
            clear CX
            go_upto_region 6 with (fail)
            refine wp_region_lit ?_
            refine num_load R5.out.2.1 rfl _ rfl rfl ?_
            simp only [Act.put, List.setIfInBounds_toArray, List.set_cons_zero, List.set_cons_succ]
            refine wpList_one fun K' hK' => ?_
            rw [if_pos (by rfl)]
            go_simp
            refine (CX1.out _).mono ?_
            rintro e w6 ⟨rfl, hw6⟩
            have R6 := R5.out.later hw6
            have HB6 : Below w.heap.size w w6 := R6.2.2.2
            have hs6 := HB6.size
            clear hw6 R5
            (try go_wp2_with (fail))
            refine hK'.out _ _ ?_
            clear hK' K'
            go_wp2
            go_ret2
            exact ⟨⟨_, _, rfl, Or.inl ⟨f, by have := HX.out; omega, by have := HX.out; first | omega | (simp; omega), rfl⟩⟩, by go_grown⟩
        case hsteps =>
          refine StepsI.skip (i := 0) (by rintro L a W ⟨c1, c2, c3, c4, c5, c6, c7, s26, s27, s28, s29, s30, s31, s32, rfl, -⟩; rfl) ?_
          refine StepsI.cons (i := 1) rfl ?_ ?_
          · rintro L a W ⟨c1, c2, c3, c4, c5, c6, c7, s26, s27, s28, s29, s30, s31, s32, rfl, rfl, K, k1, k2, k3, k4, k5, k6, k7⟩ h0 hd KK hK
            obtain rfl : c1 = false := h0
            subst hA
            simp only [Act.put, List.setIfInBounds_toArray, List.set_cons_zero, List.set_cons_succ]
            clear hd
            go_simp
            refine (CF.out _).mono ?_
            rintro e w2 ⟨rfl, hw2⟩
            (try go_wp2_with (fail))
            exact hK.out _ _ ⟨true, c2, c3, c4, c5, c6, c7, .bool true, s27, s28, s29, s30, s31, s32, rfl, by simp only [Act.put, List.setIfInBounds_toArray, List.set_cons_zero, List.set_cons_succ], K.out.later hw2, fun _ => rfl, k2.out, k3.out, k4.out, k5.out, k6.out, k7.out⟩
          refine StepsI.cons (i := 2) rfl ?_ ?_
          · rintro L a W ⟨c1, c2, c3, c4, c5, c6, c7, s26, s27, s28, s29, s30, s31, s32, rfl, rfl, K, k1, k2, k3, k4, k5, k6, k7⟩ h0 hd KK hK
            obtain rfl : c2 = false := h0
            obtain rfl : c1 = true := hd ⟨1, .data⟩ (by simp) rfl
            have e1 := k1.out rfl
            subst e1
            subst hA
            simp only [Act.put, List.setIfInBounds_toArray, List.set_cons_zero, List.set_cons_succ]
            clear hd
            go_simp
            exact hK.out _ _ ⟨true, true, c3, c4, c5, c6, c7, .bool true, .bool false, s28, s29, s30, s31, s32, rfl, by simp only [Act.put, List.setIfInBounds_toArray, List.set_cons_zero, List.set_cons_succ], K, fun _ => rfl, fun _ => rfl, k3.out, k4.out, k5.out, k6.out, k7.out⟩
          refine StepsI.cons (i := 3) rfl ?_ ?_
          · rintro L a W ⟨c1, c2, c3, c4, c5, c6, c7, s26, s27, s28, s29, s30, s31, s32, rfl, rfl, K, k1, k2, k3, k4, k5, k6, k7⟩ h0 hd KK hK
            obtain rfl : c3 = false := h0
            obtain rfl : c2 = true := hd ⟨2, .data⟩ (by simp) rfl
            have e2 := k2.out rfl
            subst e2
            subst hA
            simp only [Act.put, List.setIfInBounds_toArray, List.set_cons_zero, List.set_cons_succ]
            clear hd
            go_simp
            exact hK.out _ _ ⟨c1, true, true, c4, c5, c6, c7, s26, .bool false, .bool false, s29, s30, s31, s32, rfl, by simp only [Act.put, List.setIfInBounds_toArray, List.set_cons_zero, List.set_cons_succ], K, k1.out, fun _ => rfl, fun _ => rfl, k4.out, k5.out, k6.out, k7.out⟩
          refine StepsI.cons (i := 4) rfl ?_ ?_
          · rintro L a W ⟨c1, c2, c3, c4, c5, c6, c7, s26, s27, s28, s29, s30, s31, s32, rfl, rfl, K, k1, k2, k3, k4, k5, k6, k7⟩ h0 hd KK hK
            obtain rfl : c4 = false := h0
            obtain rfl : c3 = true := hd ⟨3, .guard⟩ (by simp) rfl
            have e3 := k3.out rfl
            subst e3
            subst hA
            simp only [Act.put, List.setIfInBounds_toArray, List.set_cons_zero, List.set_cons_succ]
            clear hd
            go_simp
            refine (CW.out _).mono ?_
            rintro e w2 ⟨rfl, hw2⟩
            (try go_wp2_with (fail))
            exact hK.out _ _ ⟨c1, c2, true, true, c5, c6, c7, s26, s27, .bool false, dv P, s30, s31, s32, rfl, by simp only [Act.put, List.setIfInBounds_toArray, List.set_cons_zero, List.set_cons_succ], K.out.later hw2, k1.out, k2.out, fun _ => rfl, fun _ => rfl, k5.out, k6.out, k7.out⟩
          refine StepsI.cons (i := 5) rfl ?_ ?_
          · rintro L a W ⟨c1, c2, c3, c4, c5, c6, c7, s26, s27, s28, s29, s30, s31, s32, rfl, rfl, K, k1, k2, k3, k4, k5, k6, k7⟩ h0 hd KK hK
            obtain rfl : c5 = false := h0
            obtain rfl : c3 = true := hd ⟨3, .guard⟩ (by simp) rfl
            have e3 := k3.out rfl
            subst e3
            subst hA
            simp only [Act.put, List.setIfInBounds_toArray, List.set_cons_zero, List.set_cons_succ]
            clear hd
            rw [if_pos (by rfl)]
            refine num_wp_load (V := X) K.out.2.1 _ rfl (some 30) rfl rfl ?_
            exact hK.out _ _ ⟨c1, c2, true, c4, true, c6, c7, s26, s27, .bool false, s29, dv X, s31, s32, rfl, by simp only [Act.put, List.setIfInBounds_toArray, List.set_cons_zero, List.set_cons_succ], K, k1.out, k2.out, fun _ => rfl, k4.out, fun _ => rfl, k6.out, k7.out⟩
          refine StepsI.cons (i := 6) rfl ?_ ?_
          · rintro L a W ⟨c1, c2, c3, c4, c5, c6, c7, s26, s27, s28, s29, s30, s31, s32, rfl, rfl, K, k1, k2, k3, k4, k5, k6, k7⟩ h0 hd KK hK
            obtain rfl : c6 = false := h0
            obtain rfl : c3 = true := hd ⟨3, .guard⟩ (by simp) rfl
            obtain rfl : c4 = true := hd ⟨4, .data⟩ (by simp) rfl
            obtain rfl : c5 = true := hd ⟨5, .data⟩ (by simp) rfl
            have e3 := k3.out rfl
            subst e3
            have e4 := k4.out rfl
            subst e4
            have e5 := k5.out rfl
            subst e5
            subst hA
            simp only [Act.put, List.setIfInBounds_toArray, List.set_cons_zero, List.set_cons_succ]
            clear hd
            go_simp
            refine (CL.out _).mono ?_
            rintro e w2 ⟨rfl, hw2⟩
            (try go_wp2_with (fail))
            exact hK.out _ _ ⟨c1, c2, true, true, true, true, c7, s26, s27, .bool false, dv P, dv X, .bool b, s32, rfl, by simp only [Act.put, List.setIfInBounds_toArray, List.set_cons_zero, List.set_cons_succ], K.out.later hw2, k1.out, k2.out, fun _ => rfl, fun _ => rfl, fun _ => rfl, fun _ => rfl, k7.out⟩
          refine StepsI.cons (i := 7) rfl ?_ ?_
          · rintro L a W ⟨c1, c2, c3, c4, c5, c6, c7, s26, s27, s28, s29, s30, s31, s32, rfl, rfl, K, k1, k2, k3, k4, k5, k6, k7⟩ h0 hd KK hK
            obtain rfl : c7 = false := h0
            obtain rfl : c3 = true := hd ⟨3, .data⟩ (by simp) rfl
            obtain rfl : c6 = true := hd ⟨6, .data⟩ (by simp) rfl
            have e3 := k3.out rfl
            subst e3
            have e6 := k6.out rfl
            subst e6
            subst hA
            simp only [Act.put, List.setIfInBounds_toArray, List.set_cons_zero, List.set_cons_succ]
            clear hd
            go_simp
            exact hK.out _ _ ⟨c1, c2, true, c4, c5, true, true, s26, s27, .bool false, s29, s30, .bool b, .bool b, rfl, by simp only [Act.put, List.setIfInBounds_toArray, List.set_cons_zero, List.set_cons_succ], K, k1.out, k2.out, fun _ => rfl, k4.out, k5.out, fun _ => rfl, fun _ => rfl⟩
          exact StepsI.nil
      · rw [decide_eq_false f] at CF
        go_upto_region 4 with (fail)
        refine wp_region_noPanic ?_
        refine wp_region_held_drew (S := fun w' => Box w' w.heap.size ah al) (by kernel_rfl) ?_ (fun hHeld => ?_)
        · exact F5.drew.1
        refine wpAnyH_take (i := 0) (v := ?_) rfl (by kernel_rfl) (by kernel_rfl) (by kernel_rfl) (fun _ _ _ h => h) (Or.inl ⟨by rfl, ?_⟩) (by assumption) ?_
        rotate_left
        · (intro wS hSw; obtain ⟨g0, g1, -, -, -⟩ := hSw; go_simp; try with_reducible rfl)
        change wpAnyH _ _ _ _ _ _ _ (Act.put _ (some 25) _) _
        simp only [Act.put, List.setIfInBounds_toArray, List.set_cons_zero, List.set_cons_succ]
        refine wpAnyH_named ?_
        intro A hA
        clear hHeld
        refine wpAnyH_inv (I := fun L a W => ∃ (c1 c2 c3 c4 c5 c6 c7 : Bool) (s26 s27 s28 s29 s30 s31 s32 : Value), L = #[true, c1, c2, c3, c4, c5, c6, c7] ∧ a = (((((((A.put (some 26) s26).put (some 27) s27).put (some 28) s28).put (some 29) s29).put (some 30) s30).put (some 31) s31).put (some 32) s32) ∧ Hid (PT w ah al p X W) ∧ Hid (c1 = true → s26 = .bool false) ∧ Hid (c2 = true → s27 = .bool true) ∧ Hid (c3 = true → s28 = .bool true) ∧ Hid (c4 = true → s29 = undef) ∧ Hid (c5 = true → s30 = undef) ∧ Hid (c6 = true → s31 = undef) ∧ Hid (c7 = true → s32 = .bool true)) ?gS ?gz (by kernel_rfl) ?gsteps ?gend _ _ _ _ (by decide) ?g9
        case gS => rintro L a W ⟨c1, c2, c3, c4, c5, c6, c7, s26, s27, s28, s29, s30, s31, s32, -, -, K, -⟩; exact (fun h => h) (K.out.1)
        case gz => rintro L a W ⟨c1, c2, c3, c4, c5, c6, c7, s26, s27, s28, s29, s30, s31, s32, rfl, -⟩; rfl
        case g9 => exact ⟨false, false, false, false, false, false, false, A.eval (.tmp 26), A.eval (.tmp 27), A.eval (.tmp 28), A.eval (.tmp 29), A.eval (.tmp 30), A.eval (.tmp 31), A.eval (.tmp 32), rfl, by simp only [put_self], F5.drew, fun h => Bool.noConfusion h, fun h => Bool.noConfusion h, fun h => Bool.noConfusion h, fun h => Bool.noConfusion h, fun h => Bool.noConfusion h, fun h => Bool.noConfusion h, fun h => Bool.noConfusion h⟩
        case gend =>
          rintro L a W ⟨c1, c2, c3, c4, c5, c6, c7, s26, s27, s28, s29, s30, s31, s32, rfl, rfl, K, k1, k2, k3, k4, k5, k6, k7⟩ hall
          obtain rfl : c1 = true := hall 1
          obtain rfl : c2 = true := hall 2
          obtain rfl : c3 = true := hall 3
          obtain rfl : c4 = true := hall 4
          obtain rfl : c5 = true := hall 5
          obtain rfl : c6 = true := hall 6
          obtain rfl : c7 = true := hall 7
          obtain rfl := k1.out rfl
          obtain rfl := k2.out rfl
          obtain rfl := k3.out rfl
          obtain rfl := k4.out rfl
          obtain rfl := k5.out rfl
          obtain rfl := k6.out rfl
          obtain rfl := k7.out rfl
          clear k1 k2 k3 k4 k5 k6 k7
          refine NoPanic.normal ?_
          subst hA
          simp only [Act.put, List.setIfInBounds_toArray, List.set_cons_zero, List.set_cons_succ]
          have R5 : Hid (PT w ah al p X W) := K
          clear K F5 CO CV CB CP CF CW CL HQX HRR
          go_wp2
          go_ret2
          exact ⟨⟨_, _, rfl, Or.inr ⟨fun h => f h.1, rfl, rfl⟩⟩, R5.out.2.2.2⟩
        case gsteps =>
          refine StepsI.skip (i := 0) (by rintro L a W ⟨c1, c2, c3, c4, c5, c6, c7, s26, s27, s28, s29, s30, s31, s32, rfl, -⟩; rfl) ?_
          refine StepsI.cons (i := 1) rfl ?_ ?_
          · rintro L a W ⟨c1, c2, c3, c4, c5, c6, c7, s26, s27, s28, s29, s30, s31, s32, rfl, rfl, K, k1, k2, k3, k4, k5, k6, k7⟩ h0 hd KK hK
            obtain rfl : c1 = false := h0
            subst hA
            simp only [Act.put, List.setIfInBounds_toArray, List.set_cons_zero, List.set_cons_succ]
            clear hd
            go_simp
            refine (CF.out _).mono ?_
            rintro e w2 ⟨rfl, hw2⟩
            (try go_wp2_with (fail))
            exact hK.out _ _ ⟨true, c2, c3, c4, c5, c6, c7, .bool false, s27, s28, s29, s30, s31, s32, rfl, by simp only [Act.put, List.setIfInBounds_toArray, List.set_cons_zero, List.set_cons_succ], K.out.later hw2, fun _ => rfl, k2.out, k3.out, k4.out, k5.out, k6.out, k7.out⟩
          refine StepsI.cons (i := 2) rfl ?_ ?_
          · rintro L a W ⟨c1, c2, c3, c4, c5, c6, c7, s26, s27, s28, s29, s30, s31, s32, rfl, rfl, K, k1, k2, k3, k4, k5, k6, k7⟩ h0 hd KK hK
            obtain rfl : c2 = false := h0
            obtain rfl : c1 = true := hd ⟨1, .data⟩ (by simp) rfl
            have e1 := k1.out rfl
            subst e1
            subst hA
            simp only [Act.put, List.setIfInBounds_toArray, List.set_cons_zero, List.set_cons_succ]
            clear hd
            go_simp
            exact hK.out _ _ ⟨true, true, c3, c4, c5, c6, c7, .bool false, .bool true, s28, s29, s30, s31, s32, rfl, by simp only [Act.put, List.setIfInBounds_toArray, List.set_cons_zero, List.set_cons_succ], K, fun _ => rfl, fun _ => rfl, k3.out, k4.out, k5.out, k6.out, k7.out⟩
          refine StepsI.cons (i := 3) rfl ?_ ?_
          · rintro L a W ⟨c1, c2, c3, c4, c5, c6, c7, s26, s27, s28, s29, s30, s31, s32, rfl, rfl, K, k1, k2, k3, k4, k5, k6, k7⟩ h0 hd KK hK
            obtain rfl : c3 = false := h0
            obtain rfl : c2 = true := hd ⟨2, .data⟩ (by simp) rfl
            have e2 := k2.out rfl
            subst e2
            subst hA
            simp only [Act.put, List.setIfInBounds_toArray, List.set_cons_zero, List.set_cons_succ]
            clear hd
            go_simp
            exact hK.out _ _ ⟨c1, true, true, c4, c5, c6, c7, s26, .bool true, .bool true, s29, s30, s31, s32, rfl, by simp only [Act.put, List.setIfInBounds_toArray, List.set_cons_zero, List.set_cons_succ], K, k1.out, fun _ => rfl, fun _ => rfl, k4.out, k5.out, k6.out, k7.out⟩
          refine StepsI.cons (i := 4) rfl ?_ ?_
          · rintro L a W ⟨c1, c2, c3, c4, c5, c6, c7, s26, s27, s28, s29, s30, s31, s32, rfl, rfl, K, k1, k2, k3, k4, k5, k6, k7⟩ h0 hd KK hK
            obtain rfl : c4 = false := h0
            obtain rfl : c3 = true := hd ⟨3, .guard⟩ (by simp) rfl
            have e3 := k3.out rfl
            subst e3
            subst hA
            simp only [Act.put, List.setIfInBounds_toArray, List.set_cons_zero, List.set_cons_succ]
            clear hd
            go_simp
            exact hK.out _ _ ⟨c1, c2, true, true, c5, c6, c7, s26, s27, .bool true, undef, s30, s31, s32, rfl, by simp only [Act.put, List.setIfInBounds_toArray, List.set_cons_zero, List.set_cons_succ], K, k1.out, k2.out, fun _ => rfl, fun _ => rfl, k5.out, k6.out, k7.out⟩
          refine StepsI.cons (i := 5) rfl ?_ ?_
          · rintro L a W ⟨c1, c2, c3, c4, c5, c6, c7, s26, s27, s28, s29, s30, s31, s32, rfl, rfl, K, k1, k2, k3, k4, k5, k6, k7⟩ h0 hd KK hK
            obtain rfl : c5 = false := h0
            obtain rfl : c3 = true := hd ⟨3, .guard⟩ (by simp) rfl
            have e3 := k3.out rfl
            subst e3
            subst hA
            simp only [Act.put, List.setIfInBounds_toArray, List.set_cons_zero, List.set_cons_succ]
            clear hd
            go_simp
            exact hK.out _ _ ⟨c1, c2, true, c4, true, c6, c7, s26, s27, .bool true, s29, undef, s31, s32, rfl, by simp only [Act.put, List.setIfInBounds_toArray, List.set_cons_zero, List.set_cons_succ], K, k1.out, k2.out, fun _ => rfl, k4.out, fun _ => rfl, k6.out, k7.out⟩
          refine StepsI.cons (i := 6) rfl ?_ ?_
          · rintro L a W ⟨c1, c2, c3, c4, c5, c6, c7, s26, s27, s28, s29, s30, s31, s32, rfl, rfl, K, k1, k2, k3, k4, k5, k6, k7⟩ h0 hd KK hK
            obtain rfl : c6 = false := h0
            obtain rfl : c3 = true := hd ⟨3, .guard⟩ (by simp) rfl
            have e3 := k3.out rfl
            subst e3
            subst hA
            simp only [Act.put, List.setIfInBounds_toArray, List.set_cons_zero, List.set_cons_succ]
            clear hd
            go_simp
            exact hK.out _ _ ⟨c1, c2, true, c4, c5, true, c7, s26, s27, .bool true, s29, s30, undef, s32, rfl, by simp only [Act.put, List.setIfInBounds_toArray, List.set_cons_zero, List.set_cons_succ], K, k1.out, k2.out, fun _ => rfl, k4.out, k5.out, fun _ => rfl, k7.out⟩
          refine StepsI.cons (i := 7) rfl ?_ ?_
          · rintro L a W ⟨c1, c2, c3, c4, c5, c6, c7, s26, s27, s28, s29, s30, s31, s32, rfl, rfl, K, k1, k2, k3, k4, k5, k6, k7⟩ h0 hd KK hK
            obtain rfl : c7 = false := h0
            obtain rfl : c3 = true := hd ⟨3, .data⟩ (by simp) rfl
            obtain rfl : c6 = true := hd ⟨6, .data⟩ (by simp) rfl
            have e3 := k3.out rfl
            subst e3
            have e6 := k6.out rfl
            subst e6
            subst hA
            simp only [Act.put, List.setIfInBounds_toArray, List.set_cons_zero, List.set_cons_succ]
            clear hd
            go_simp
            exact hK.out _ _ ⟨c1, c2, true, c4, c5, true, true, s26, s27, .bool true, s29, s30, undef, .bool true, rfl, by simp only [Act.put, List.setIfInBounds_toArray, List.set_cons_zero, List.set_cons_succ], K, k1.out, k2.out, fun _ => rfl, k4.out, k5.out, fun _ => rfl, fun _ => rfl⟩
          exact StepsI.nil

end Go.Proofs.YtpbgolcimbjekaaGreatDoor
