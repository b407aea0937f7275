/-
  Is a set enough? At this program: the document's. Conditions: what is free and needed is right, the set is that of a mask.
-/
import Derived.Test.YtkjaiahdkolmdaaHN
import Derived.Test.YtkjaiahdkolmdaaHM
namespace Go.Proofs.Ytkjaiahdkolmdaa.Mk
open Go.RowKit

set_option maxHeartbeats 4000000 in
set_option maxRecDepth 100000 in
theorem renough_is (F : Nat → Nat → Int) (K : Nat → Int) (b : Nat) (hok : okB F K = true) (w : World) :
    Calls Try.prog 12 #[frV F, setV b, ndV K] w fun e w' => e = .returned (.bool (enB F K b)) ∧ Below w.heap.size w w' := by
  have hy := okB_yes hok
  have SV : Hid ((∀ i, i < 8 → 0 ≤ F 0 i ∧ F 0 i ≤ 1073741824) ∧ (∀ i, i < 8 → 0 ≤ F 1 i ∧ F 1 i ≤ 1073741824) ∧ True) := ⟨okS_all hy.2.1, okS_all hy.2.2.2, trivial⟩
  have SA : Hid ((∀ l : List (Fin 8), 0 ≤ sumL (F 0) l ∧ sumL (F 0) l ≤ l.length * 1073741824) ∧ (∀ l : List (Fin 8), 0 ≤ sumL (F 1) l ∧ sumL (F 1) l ≤ l.length * 1073741824) ∧ True) := ⟨sumL_le (okS_all hy.2.1), sumL_le (okS_all hy.2.2.2), trivial⟩
  have KK : Hid ((0 ≤ K 0 ∧ K 0 ≤ 1073741824) ∧ (0 ≤ K 1 ∧ K 1 ≤ 1073741824) ∧ True) := ⟨hy.1, hy.2.2.1, trivial⟩
  obtain ⟨R, hR⟩ : ∃ R, R = enB F K b := ⟨_, rfl⟩
  rw [← hR]
  have HR : Hid (enG F K b 0 = R) := hR.symm
  clear hR hok hy
  have g0 : Below w.heap.size w (((w.alloc (.cells (frL F).toArray 24)).alloc (.cells #[.bool (tb b 0), .bool (tb b 1), .bool (tb b 2), .bool (tb b 3), .bool (tb b 4), .bool (tb b 5), .bool (tb b 6), .bool (tb b 7)] 39)).alloc (.cells (kL K).toArray 25)) := by go_grown
  have q0 : Cs (((w.alloc (.cells (frL F).toArray 24)).alloc (.cells #[.bool (tb b 0), .bool (tb b 1), .bool (tb b 2), .bool (tb b 3), .bool (tb b 4), .bool (tb b 5), .bool (tb b 6), .bool (tb b 7)] 39)).alloc (.cells (kL K).toArray 25)) w.heap.size (frL F) := ((Cs.new _ _ _ _ rfl).alloc _).alloc _
  have q1 : Cs (((w.alloc (.cells (frL F).toArray 24)).alloc (.cells #[.bool (tb b 0), .bool (tb b 1), .bool (tb b 2), .bool (tb b 3), .bool (tb b 4), .bool (tb b 5), .bool (tb b 6), .bool (tb b 7)] 39)).alloc (.cells (kL K).toArray 25)) (w.heap.size + 1) (setL b) := (Cs.new _ _ _ _ (by simp)).alloc _
  have q2 : Cs (((w.alloc (.cells (frL F).toArray 24)).alloc (.cells #[.bool (tb b 0), .bool (tb b 1), .bool (tb b 2), .bool (tb b 3), .bool (tb b 4), .bool (tb b 5), .bool (tb b 6), .bool (tb b 7)] 39)).alloc (.cells (kL K).toArray 25)) (w.heap.size + 1 + 1) (kL K) := Cs.new _ _ _ _ (by simp)
  go_enter Try.func12, Try.ntmps12
  go_wp2
  generalize ((w.alloc (.cells (frL F).toArray 24)).alloc (.cells #[.bool (tb b 0), .bool (tb b 1), .bool (tb b 2), .bool (tb b 3), .bool (tb b 4), .bool (tb b 5), .bool (tb b 6), .bool (tb b 7)] 39)).alloc (.cells (kL K).toArray 25) = W0 at *
  go_loopw [7] (fun f wr => ∃ j : Nat, f = .int .i64 j ∧ j ≤ 2 ∧ Hid (enG F K b j = R) ∧ Cs wr w.heap.size (frL F) ∧ Cs wr (w.heap.size + 1) (setL b) ∧ Cs wr (w.heap.size + 1 + 1) (kL K) ∧ Below w.heap.size w wr) (fun f _ => 2 - (intOf f).toNat)
  case atStart => exact ⟨0, rfl, by omega, HR, q0, q1, q2, g0⟩
  case round =>
    clear HR q0 q1 q2 g0
    obtain ⟨j, rfl, jl, HO, q0, q1, q2, HB⟩ := hrel
    rcases (show j = 0 ∨ j = 1 ∨ j = 2 by omega) with rfl | rfl | rfl
    · rw [show ((0 : Nat) : Int) = 0 from rfl]
      have qn := q2.1 0 _ rfl
      have zn := q2.2.2
      have HO1 : Hid (enG F K b 0 = R) := HO
      clear HO
      have q0' := q0
      have q1' := q1
      have q2' := q2
      have HB' := HB
      go_wp2
      go_loopw [8, 9] (fun s f wr => ∃ i : Nat, f = .int .i64 i ∧ i ≤ 8 ∧ s = .int .i64 (K 0 - sumL (F 0) (ndT b i)) ∧ Cs wr w.heap.size (frL F) ∧ Cs wr (w.heap.size + 1) (setL b) ∧ Cs wr (w.heap.size + 1 + 1) (kL K) ∧ Below w.heap.size w wr) (fun _ f _ => 8 - (intOf f).toNat)
      case atStart => exact ⟨0, rfl, by omega, by rw [ndT_zero, sumL_nil, Int.sub_zero], q0', q1', q2', HB'⟩
      case round =>
        clear q0 q0' q1 q1' q2 q2' HB HB' qn zn
        obtain ⟨i, rfl, il, rfl, q0, q1, q2, HB⟩ := hrel
        have SB := SA.out.1 (ndT b i)
        have SL : (ndT b i).length ≤ i := ndT_len b i
        by_cases ci : i < 8
        · have j0 : (0 : Int) ≤ (i : Int) := by omega
          have j1 : (i : Int) < 8 := by omega
          have c0 : wr.cell? ⟨w.heap.size, i, none⟩ = some (.int .i64 (F 0 i)) := q0.1 (i) _ (frL_at0 F ci)
          have c1 : wr.cell? ⟨w.heap.size + 1, i, none⟩ = some (.bool (tb b i)) := q1.1 i _ (setL_at b ci)
          have z0 := q0.2.2
          have z1 := q1.2.2
          have V := SV.out.1 i ci
          have KB := KK.out.1
          have HN : Hid (ndT b (i + 1) = if tb b i = true then ndT b i ++ [⟨i, ci⟩] else ndT b i) := ndT_tb b ci
          obtain ⟨N, hN⟩ : ∃ N, N = K 0 - sumL (F 0) (ndT b i) := ⟨_, rfl⟩
          obtain ⟨v, hv⟩ : ∃ v, v = F 0 i := ⟨_, rfl⟩
          have b1 : -9000000000 ≤ N ∧ N ≤ 1073741824 := by omega
          rw [← hv] at c0 V
          have HX : Hid (tb b i = true → N - v = K 0 - sumL (F 0) (ndT b (i + 1))) := fun h => by rw [HN.out, if_pos h, sumL_snoc, hN, hv]; show K 0 - sumL (F 0) (ndT b i) - F 0 i = K 0 - (sumL (F 0) (ndT b i) + F 0 i); omega
          have HY : Hid (tb b i = false → N = K 0 - sumL (F 0) (ndT b (i + 1))) := fun h => by rw [HN.out, if_neg (by rw [h]; simp), hN]
          rw [← hN]
          generalize tb b i = t at *
          clear SB SL HN hN hv KB
          cases t with
          | true =>
            have X := HX.out rfl
            have HXX : Hid _ := X
            have b2 : -9223372036854775808 ≤ N - v := by omega
            have b3 : N - v ≤ 9223372036854775807 := by omega
            clear HX HY X
            go_wp2
            go_roundw
            case rel => exact ⟨i + 1, by go_num, by omega, by rw [← HXX.out], q0, q1, q2, HB⟩
            case measure => simp [intOf]; omega
          | false =>
            have X := HY.out rfl
            have HXX : Hid _ := X
            clear HX HY X
            go_wp2
            go_roundw
            case rel => exact ⟨i + 1, by go_num, by omega, by rw [← HXX.out], q0, q1, q2, HB⟩
            case measure => simp [intOf]; omega
        · obtain rfl : i = 8 := by omega
          rw [show ((8 : Nat) : Int) = 8 from rfl]
          have HE : Hid (K 0 - sumL (F 0) (ndT b 8) = K 0 - sumN (F 0) b) := by rw [ndT_all]; rfl
          have HO2 : Hid ((decide (K 0 ≤ sumN (F 0) b) && enG F K b 1) = R) := by rw [← enG_0]; exact HO1
          rw [HE.out]
          obtain ⟨S, hS⟩ : ∃ S, S = sumN (F 0) b := ⟨_, rfl⟩
          rw [← hS] at HO2 ⊢
          clear HE SB SL hS HO1 ci il
          by_cases le : K 0 ≤ S
          · have X : Hid (enG F K b 1 = R) := by have := HO2.out; rw [decide_eq_true le, Bool.true_and] at this; exact this
            have e0 : ¬ S < K 0 := by omega
            have e1 : decide (S < K 0) = false := decide_eq_false e0
            clear HO2 le e0
            go_wp2
            go_roundw
            case rel => exact ⟨1, rfl, by omega, X, q0, q1, q2, HB⟩
            case measure => simp [intOf]
          · obtain rfl : R = false := by have := HO2.out; rw [decide_eq_false le, Bool.false_and] at this; exact this.symm
            have e0 : S < K 0 := by omega
            clear HO2 le
            go_wp2
            go_ret
            exact ⟨rfl, HB⟩
    · rw [show ((1 : Nat) : Int) = 1 from rfl]
      have qn := q2.1 1 _ rfl
      have zn := q2.2.2
      have HO1 : Hid (enG F K b 1 = R) := HO
      clear HO
      have q0' := q0
      have q1' := q1
      have q2' := q2
      have HB' := HB
      go_wp2
      go_loopw [8, 9] (fun s f wr => ∃ i : Nat, f = .int .i64 i ∧ i ≤ 8 ∧ s = .int .i64 (K 1 - sumL (F 1) (ndT b i)) ∧ Cs wr w.heap.size (frL F) ∧ Cs wr (w.heap.size + 1) (setL b) ∧ Cs wr (w.heap.size + 1 + 1) (kL K) ∧ Below w.heap.size w wr) (fun _ f _ => 8 - (intOf f).toNat)
      case atStart => exact ⟨0, rfl, by omega, by rw [ndT_zero, sumL_nil, Int.sub_zero], q0', q1', q2', HB'⟩
      case round =>
        clear q0 q0' q1 q1' q2 q2' HB HB' qn zn
        obtain ⟨i, rfl, il, rfl, q0, q1, q2, HB⟩ := hrel
        have SB := SA.out.2.1 (ndT b i)
        have SL : (ndT b i).length ≤ i := ndT_len b i
        by_cases ci : i < 8
        · have j0 : (0 : Int) ≤ (i : Int) := by omega
          have j1 : (i : Int) < 8 := by omega
          have c0 : wr.cell? ⟨w.heap.size, 8 + i, none⟩ = some (.int .i64 (F 1 i)) := q0.1 (8 + i) _ (frL_at1 F ci)
          have c1 : wr.cell? ⟨w.heap.size + 1, i, none⟩ = some (.bool (tb b i)) := q1.1 i _ (setL_at b ci)
          have z0 := q0.2.2
          have z1 := q1.2.2
          have V := SV.out.2.1 i ci
          have KB := KK.out.2.1
          have HN : Hid (ndT b (i + 1) = if tb b i = true then ndT b i ++ [⟨i, ci⟩] else ndT b i) := ndT_tb b ci
          obtain ⟨N, hN⟩ : ∃ N, N = K 1 - sumL (F 1) (ndT b i) := ⟨_, rfl⟩
          obtain ⟨v, hv⟩ : ∃ v, v = F 1 i := ⟨_, rfl⟩
          have b1 : -9000000000 ≤ N ∧ N ≤ 1073741824 := by omega
          rw [← hv] at c0 V
          have HX : Hid (tb b i = true → N - v = K 1 - sumL (F 1) (ndT b (i + 1))) := fun h => by rw [HN.out, if_pos h, sumL_snoc, hN, hv]; show K 1 - sumL (F 1) (ndT b i) - F 1 i = K 1 - (sumL (F 1) (ndT b i) + F 1 i); omega
          have HY : Hid (tb b i = false → N = K 1 - sumL (F 1) (ndT b (i + 1))) := fun h => by rw [HN.out, if_neg (by rw [h]; simp), hN]
          rw [← hN]
          generalize tb b i = t at *
          clear SB SL HN hN hv KB
          cases t with
          | true =>
            have X := HX.out rfl
            have HXX : Hid _ := X
            have b2 : -9223372036854775808 ≤ N - v := by omega
            have b3 : N - v ≤ 9223372036854775807 := by omega
            clear HX HY X
            go_wp2
            go_roundw
            case rel => exact ⟨i + 1, by go_num, by omega, by rw [← HXX.out], q0, q1, q2, HB⟩
            case measure => simp [intOf]; omega
          | false =>
            have X := HY.out rfl
            have HXX : Hid _ := X
            clear HX HY X
            go_wp2
            go_roundw
            case rel => exact ⟨i + 1, by go_num, by omega, by rw [← HXX.out], q0, q1, q2, HB⟩
            case measure => simp [intOf]; omega
        · obtain rfl : i = 8 := by omega
          rw [show ((8 : Nat) : Int) = 8 from rfl]
          have HE : Hid (K 1 - sumL (F 1) (ndT b 8) = K 1 - sumN (F 1) b) := by rw [ndT_all]; rfl
          have HO2 : Hid ((decide (K 1 ≤ sumN (F 1) b) && enG F K b 2) = R) := by rw [← enG_1]; exact HO1
          rw [HE.out]
          obtain ⟨S, hS⟩ : ∃ S, S = sumN (F 1) b := ⟨_, rfl⟩
          rw [← hS] at HO2 ⊢
          clear HE SB SL hS HO1 ci il
          by_cases le : K 1 ≤ S
          · have X : Hid (enG F K b 2 = R) := by have := HO2.out; rw [decide_eq_true le, Bool.true_and] at this; exact this
            have e0 : ¬ S < K 1 := by omega
            have e1 : decide (S < K 1) = false := decide_eq_false e0
            clear HO2 le e0
            go_wp2
            go_roundw
            case rel => exact ⟨2, rfl, by omega, X, q0, q1, q2, HB⟩
            case measure => simp [intOf]
          · obtain rfl : R = false := by have := HO2.out; rw [decide_eq_false le, Bool.false_and] at this; exact this.symm
            have e0 : S < K 1 := by omega
            clear HO2 le
            go_wp2
            go_ret
            exact ⟨rfl, HB⟩
    · obtain rfl : R = true := HO.out.symm
      go_wp2
      go_ret
      exact ⟨rfl, HB⟩

end Go.Proofs.Ytkjaiahdkolmdaa.Mk
