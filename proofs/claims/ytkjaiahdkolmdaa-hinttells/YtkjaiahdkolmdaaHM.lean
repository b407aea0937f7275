/-
  Is a mask enough? At this program: ours. Conditions: none on the arguments.
-/
import Derived.Test.YtkjaiahdkolmdaaHD
namespace Go.Proofs.Ytkjaiahdkolmdaa.Mk
open Go.RowKit

/-- The kinds that are still to be asked. -/
def enG (F : Nat → Nat → Int) (K : Nat → Int) (b : Nat) : Nat → Bool
  | 0 => enB F K b
  | 1 => decide (K 1 ≤ sumN (F 1) b)
  | _ => true
theorem enG_0 (F : Nat → Nat → Int) (K : Nat → Int) (b : Nat) : enG F K b 0 = (decide (K 0 ≤ sumN (F 0) b) && enG F K b 1) := rfl
theorem enG_1 (F : Nat → Nat → Int) (K : Nat → Int) (b : Nat) : enG F K b 1 = (decide (K 1 ≤ sumN (F 1) b) && enG F K b 2) := (Bool.and_true _).symm
def enoughB (F : Nat → Nat → Int) (K : Nat → Int) (m : Int) : Bool := okB F K && (okM m && enB F K (low m))

set_option maxHeartbeats 2000000 in
set_option maxRecDepth 100000 in
theorem enough_is (F : Nat → Nat → Int) (K : Nat → Int) (m : Int) (w : World) :
    Calls Try.prog 15 #[frV F, .int .i64 m, ndV K] w fun e w' => e = .returned (.bool (enoughB F K m)) ∧ Below w.heap.size w w' := by
  have A1 : Hid (∀ w, Calls Try.prog 24 #[frV F, ndV K] w fun e w' => e = .returned (.bool (okB F K)) ∧ Below w.heap.size w w') := rightBlocks_is F K
  have A2 : Hid (∀ w, Calls Try.prog 20 #[.int .i64 m] w fun e w' => e = .returned (.bool (okM m)) ∧ w' = w) := rightMask_is m
  have FO : Hid (∀ (s : Nat → Int) w, okS s = true → Calls Try.prog 25 #[spV s, .int .i64 m] w fun e w' => e = .returned (.int .i64 (sumN s (low m))) ∧ Below w.heap.size w w') := fun s w hs => freeOn_is s hs m w
  have HS0 : Hid (okB F K = true → okS (F 0) = true ∧ okS (F 1) = true) := fun h => ⟨(okB_yes h).2.1, (okB_yes h).2.2.2⟩
  obtain ⟨R, hR⟩ : ∃ R, R = enoughB F K m := ⟨_, rfl⟩
  rw [← hR]
  have HR : Hid (R = (okB F K && (okM m && enG F K (low m) 0))) := hR
  clear hR
  have X0 : ∀ w : World, Sem.run Try.prog (Instr.index 25 (.agg #[.int .i64 (K 0), .int .i64 (K 1)]) (.int .i64 0)) w = .ok (.int .i64 (K 0)) w := fun w => by kernel_rfl
  have X1 : ∀ w : World, Sem.run Try.prog (Instr.index 25 (.agg #[.int .i64 (K 0), .int .i64 (K 1)]) (.int .i64 1)) w = .ok (.int .i64 (K 1)) w := fun w => by kernel_rfl
  generalize okB F K = x at *
  generalize okM m = y at *
  go_enter Try.func15, Try.ntmps15
  have g0 : Below w.heap.size w ((w.alloc (.cells (frL F).toArray 24)).alloc (.cells (kL K).toArray 25)) := by go_grown
  have q0 : Cs ((w.alloc (.cells (frL F).toArray 24)).alloc (.cells (kL K).toArray 25)) w.heap.size (frL F) := (Cs.new _ _ _ _ rfl).alloc _
  have q1 : Cs ((w.alloc (.cells (frL F).toArray 24)).alloc (.cells (kL K).toArray 25)) (w.heap.size + 1) (kL K) := Cs.new _ _ _ _ (by simp)
  go_wp2_with (fail)
  refine (A1.out _).mono ?_
  generalize (w.alloc (.cells (frL F).toArray 24)).alloc (.cells (kL K).toArray 25) = W0 at *
  rintro e w1 ⟨rfl, hb⟩
  replace q0 := Cs.later hb q0
  replace q1 := Cs.later hb q1
  have g1 := g0.trans (hb.mono g0.size)
  clear A1 hb g0
  cases x with
  | false =>
    obtain rfl : R = false := HR.out
    clear A2 FO HR
    go_wp2
    go_ret
    exact ⟨rfl, g1⟩
  | true =>
    have HS : Hid (okS (F 0) = true ∧ okS (F 1) = true) := HS0.out rfl
    clear HS0
    go_wp2_with (fail)
    refine (A2.out _).mono ?_
    rintro e w2 ⟨rfl, hw⟩
    rw [hw]
    clear hw A2
    cases y with
    | false =>
      obtain rfl : R = false := HR.out
      clear FO HR
      go_wp2
      go_ret
      exact ⟨rfl, g1⟩
    | true =>
      have HO0 : Hid (enG F K (low m) 0 = R) := HR.out.symm
      have k0 := q1.1 0 _ rfl
      have k1 := q1.1 1 _ rfl
      have zk := q1.2.2
      clear HR
      go_wp2
      clear k0 k1 zk q1
      go_loopw [19] (fun f wr => ∃ j : Nat, f = .int .i64 j ∧ j ≤ 2 ∧ Hid (enG F K (low m) j = R) ∧ Cs wr w.heap.size (frL F) ∧ Below w.heap.size w wr) (fun f _ => 2 - (intOf f).toNat)
      case atStart => exact ⟨0, rfl, by omega, HO0, q0, g1⟩
      case round =>
        clear HO0 q0 g1
        obtain ⟨j, rfl, jl, HO, q0, HB⟩ := hrel
        rcases (show j = 0 ∨ j = 1 ∨ j = 2 by omega) with rfl | rfl | rfl
        · have q4 := q0
          have d0 := q4.1 0 _ rfl
          have d1 := q4.1 1 _ rfl
          have d2 := q4.1 2 _ rfl
          have d3 := q4.1 3 _ rfl
          have d4 := q4.1 4 _ rfl
          have d5 := q4.1 5 _ rfl
          have d6 := q4.1 6 _ rfl
          have d7 := q4.1 7 _ rfl
          have z4 := q4.2.2
          have C := FO.out (F 0) wr HS.out.1
          obtain ⟨S, hS⟩ : ∃ S, S = sumN (F 0) (low m) := ⟨_, rfl⟩
          rw [← hS] at C
          have HO' : Hid (enG F K (low m) 0 = R) := HO
          by_cases le : K 0 ≤ S
          · have X : Hid (enG F K (low m) 1 = R) := by
              have := HO'.out
              show enG F K (low m) 1 = R
              rw [← this, enG_0, ← hS, decide_eq_true le, Bool.true_and]
            have e0 : ¬ S < K 0 := by omega
            clear hS le q4 HO HO'
            go_wp2_with (fail)
            refine C.mono ?_
            rintro e w2 ⟨rfl, hb⟩
            have HB2 : Below w.heap.size w w2 := HB.trans (hb.mono HB.size)
            have q2 := Cs.later hb q0
            clear C hb HB q0 d0 d1 d2 d3 d4 d5 d6 d7 z4
            go_wp2
            go_roundw
            case rel => exact ⟨1, rfl, by omega, X, q2, HB2⟩
            case measure => simp [intOf]
          · have X : R = false := by
              rw [← HO'.out, enG_0, ← hS, decide_eq_false le, Bool.false_and]
            subst X
            have e0 : S < K 0 := by omega
            clear hS le q4 HO HO'
            go_wp2_with (fail)
            refine C.mono ?_
            rintro e w2 ⟨rfl, hb⟩
            have HB2 : Below w.heap.size w w2 := HB.trans (hb.mono HB.size)
            clear C hb HB
            go_wp2
            go_ret
            exact ⟨rfl, HB2⟩
        · have q4 := q0
          have d0 := q4.1 8 _ rfl
          have d1 := q4.1 9 _ rfl
          have d2 := q4.1 10 _ rfl
          have d3 := q4.1 11 _ rfl
          have d4 := q4.1 12 _ rfl
          have d5 := q4.1 13 _ rfl
          have d6 := q4.1 14 _ rfl
          have d7 := q4.1 15 _ rfl
          have z4 := q4.2.2
          have C := FO.out (F 1) wr HS.out.2
          obtain ⟨S, hS⟩ : ∃ S, S = sumN (F 1) (low m) := ⟨_, rfl⟩
          rw [← hS] at C
          have HO' : Hid (enG F K (low m) 1 = R) := HO
          by_cases le : K 1 ≤ S
          · have X : Hid (enG F K (low m) 2 = R) := by
              have := HO'.out
              show enG F K (low m) 2 = R
              rw [← this, enG_1, ← hS, decide_eq_true le, Bool.true_and]
            have e0 : ¬ S < K 1 := by omega
            clear hS le q4 HO HO'
            go_wp2_with (fail)
            refine C.mono ?_
            rintro e w2 ⟨rfl, hb⟩
            have HB2 : Below w.heap.size w w2 := HB.trans (hb.mono HB.size)
            have q2 := Cs.later hb q0
            clear C hb HB q0 d0 d1 d2 d3 d4 d5 d6 d7 z4
            go_wp2
            go_roundw
            case rel => exact ⟨2, rfl, by omega, X, q2, HB2⟩
            case measure => simp [intOf]
          · have X : R = false := by
              rw [← HO'.out, enG_1, ← hS, decide_eq_false le, Bool.false_and]
            subst X
            have e0 : S < K 1 := by omega
            clear hS le q4 HO HO'
            go_wp2_with (fail)
            refine C.mono ?_
            rintro e w2 ⟨rfl, hb⟩
            have HB2 : Below w.heap.size w w2 := HB.trans (hb.mono HB.size)
            clear C hb HB
            go_wp2
            go_ret
            exact ⟨rfl, HB2⟩
        · obtain rfl : R = true := HO.out.symm
          go_wp2
          go_ret
          exact ⟨rfl, HB⟩

end Go.Proofs.Ytkjaiahdkolmdaa.Mk
