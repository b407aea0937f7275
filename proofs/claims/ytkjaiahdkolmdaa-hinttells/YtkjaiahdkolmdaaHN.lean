/-
  What is right for hints, at this program: the document's. Conditions: none on the arguments.
-/
import Derived.Test.YtkjaiahdkolmdaaHB
namespace Go.Proofs.Ytkjaiahdkolmdaa.Mk
open Go.RowKit

/-- As the document asks it: kind by kind, what is free ahead of what is needed. -/
def okR (F : Nat → Nat → Int) (K : Nat → Int) : Nat → Bool
  | 0 => okS (F 0) && (okN (K 0) && (okS (F 1) && (okN (K 1) && true)))
  | 1 => okS (F 1) && (okN (K 1) && true)
  | _ => true
def okR1 (F : Nat → Nat → Int) (K : Nat → Int) (k i : Nat) : Bool := okF (F k) i && (okN (K k) && okR F K (k + 1))
theorem okR1_at (F : Nat → Nat → Int) (K : Nat → Int) (k : Nat) {i : Nat} (h : i < 8) : okR1 F K k i = (okN (F k i) && okR1 F K k (i + 1)) := by
  unfold okR1
  rw [okF_at (F k) h, Bool.and_assoc]
theorem okR_is (F : Nat → Nat → Int) (K : Nat → Int) : okR F K 0 = okB F K := by
  unfold okR okB
  cases okS (F 0) <;> cases okS (F 1) <;> cases okN (K 0) <;> cases okN (K 1) <;> rfl
theorem frL_at0 (F : Nat → Nat → Int) {i : Nat} (h : i < 8) : (frL F)[i]? = some (.int .i64 (F 0 i)) := by
  rcases (show i = 0 ∨ i = 1 ∨ i = 2 ∨ i = 3 ∨ i = 4 ∨ i = 5 ∨ i = 6 ∨ i = 7 by omega) with rfl | rfl | rfl | rfl | rfl | rfl | rfl | rfl <;> rfl
theorem frL_at1 (F : Nat → Nat → Int) {i : Nat} (h : i < 8) : (frL F)[8 + i]? = some (.int .i64 (F 1 i)) := by
  rcases (show i = 0 ∨ i = 1 ∨ i = 2 ∨ i = 3 ∨ i = 4 ∨ i = 5 ∨ i = 6 ∨ i = 7 by omega) with rfl | rfl | rfl | rfl | rfl | rfl | rfl | rfl <;> rfl

set_option maxHeartbeats 2000000 in
set_option maxRecDepth 100000 in
theorem rfits_is (F : Nat → Nat → Int) (K : Nat → Int) (w : World) :
    Calls Try.prog 11 #[frV F, ndV K] w fun e w' => e = .returned (.bool (okB F K)) ∧ Below w.heap.size w w' := by
  obtain ⟨R, hR⟩ : ∃ R, R = okB F K := ⟨_, rfl⟩
  rw [← hR]
  have HR : Hid (okR F K 0 = R) := by rw [hR]; exact okR_is F K
  clear hR
  have g0 : Below w.heap.size w ((w.alloc (.cells (frL F).toArray 24)).alloc (.cells (kL K).toArray 25)) := by go_grown
  have q0 : Cs ((w.alloc (.cells (frL F).toArray 24)).alloc (.cells (kL K).toArray 25)) w.heap.size (frL F) := (Cs.new _ _ _ _ rfl).alloc _
  have q1 : Cs ((w.alloc (.cells (frL F).toArray 24)).alloc (.cells (kL K).toArray 25)) (w.heap.size + 1) (kL K) := Cs.new _ _ _ _ (by simp)
  go_enter Try.func11, Try.ntmps11
  go_wp2
  generalize (w.alloc (.cells (frL F).toArray 24)).alloc (.cells (kL K).toArray 25) = W0 at *
  go_loopw [5] (fun f wr => ∃ j : Nat, f = .int .i64 j ∧ j ≤ 2 ∧ Hid (okR F K j = R) ∧ Cs wr w.heap.size (frL F) ∧ Cs wr (w.heap.size + 1) (kL K) ∧ Below w.heap.size w wr) (fun f _ => 2 - (intOf f).toNat)
  case atStart => exact ⟨0, rfl, by omega, HR, q0, q1, g0⟩
  case round =>
    clear HR q0 q1 g0
    obtain ⟨j, rfl, jl, HO, q0, q1, HB⟩ := hrel
    rcases (show j = 0 ∨ j = 1 ∨ j = 2 by omega) with rfl | rfl | rfl
    · rw [show ((0 : Nat) : Int) = 0 from rfl]
      have qn := q1.1 0 _ rfl
      have HO1 : Hid (okR1 F K 0 0 = R) := HO
      clear HO
      have q0' := q0
      have q1' := q1
      have HB' := HB
      go_wp2
      go_loopw [6] (fun f wr => ∃ i : Nat, f = .int .i64 i ∧ i ≤ 8 ∧ Hid (okR1 F K 0 i = R) ∧ Cs wr w.heap.size (frL F) ∧ Cs wr (w.heap.size + 1) (kL K) ∧ Below w.heap.size w wr) (fun f _ => 8 - (intOf f).toNat)
      case atStart => exact ⟨0, rfl, by omega, HO1, q0', q1', HB'⟩
      case round =>
        clear HO1 q0 q0' q1 q1' HB HB' qn
        obtain ⟨i, rfl, il, HO, q0, q1, HB⟩ := hrel
        by_cases ci : i < 8
        · have j0 : (0 : Int) ≤ (i : Int) := by omega
          have j1 : (i : Int) < 8 := by omega
          have c0 : wr.cell? ⟨w.heap.size, i, none⟩ = some (.int .i64 (F 0 i)) := q0.1 (i) _ (frL_at0 F ci)
          have E := HO.out
          rw [okR1_at F K 0 ci] at E
          have HE : Hid ((okN (F 0 i) && okR1 F K 0 (i + 1)) = R) := E
          obtain ⟨v, hv⟩ : ∃ v, v = F 0 i := ⟨_, rfl⟩
          rw [← hv] at c0 HE
          clear E HO hv
          cases h : okN v with
          | true =>
            obtain ⟨h1, h2⟩ := okN_yes h
            have X : Hid (okR1 F K 0 (i + 1) = R) := by have := HE.out; rw [h] at this; exact this
            clear h HE
            go_wp2
            go_roundw
            case rel => exact ⟨i + 1, by go_num, by omega, X, q0, q1, HB⟩
            case measure => simp [intOf]; omega
          | false =>
            obtain rfl : R = false := by have := HE.out; rw [h] at this; exact this.symm
            have h' := okN_no h
            clear h HE
            rcases h' with h1 | ⟨h1, h2⟩
            all_goals
              go_wp2
              go_ret
              exact ⟨rfl, HB⟩
        · obtain rfl : i = 8 := by omega
          have c0 := q1.1 0 _ rfl
          have HE : Hid ((okN (K 0) && okR F K 1) = R) := HO
          obtain ⟨v, hv⟩ : ∃ v, v = K 0 := ⟨_, rfl⟩
          replace c0 : wr.cell? ⟨w.heap.size + 1, 0, none⟩ = some (.int .i64 v) := by rw [hv]; exact c0
          rw [← hv] at HE
          clear HO hv ci il
          cases h : okN v with
          | true =>
            obtain ⟨h1, h2⟩ := okN_yes h
            have X : Hid (okR F K 1 = R) := by have := HE.out; rw [h] at this; exact this
            clear h HE
            go_wp2
            go_roundw
            case rel => exact ⟨1, rfl, by omega, X, q0, q1, HB⟩
            case measure => simp [intOf]
          | false =>
            obtain rfl : R = false := by have := HE.out; rw [h] at this; exact this.symm
            have h' := okN_no h
            clear h HE
            rcases h' with h1 | ⟨h1, h2⟩
            all_goals
              go_wp2
              go_ret
              exact ⟨rfl, HB⟩
    · rw [show ((1 : Nat) : Int) = 1 from rfl]
      have qn := q1.1 1 _ rfl
      have HO1 : Hid (okR1 F K 1 0 = R) := HO
      clear HO
      have q0' := q0
      have q1' := q1
      have HB' := HB
      go_wp2
      go_loopw [6] (fun f wr => ∃ i : Nat, f = .int .i64 i ∧ i ≤ 8 ∧ Hid (okR1 F K 1 i = R) ∧ Cs wr w.heap.size (frL F) ∧ Cs wr (w.heap.size + 1) (kL K) ∧ Below w.heap.size w wr) (fun f _ => 8 - (intOf f).toNat)
      case atStart => exact ⟨0, rfl, by omega, HO1, q0', q1', HB'⟩
      case round =>
        clear HO1 q0 q0' q1 q1' HB HB' qn
        obtain ⟨i, rfl, il, HO, q0, q1, HB⟩ := hrel
        by_cases ci : i < 8
        · have j0 : (0 : Int) ≤ (i : Int) := by omega
          have j1 : (i : Int) < 8 := by omega
          have c0 : wr.cell? ⟨w.heap.size, 8 + i, none⟩ = some (.int .i64 (F 1 i)) := q0.1 (8 + i) _ (frL_at1 F ci)
          have E := HO.out
          rw [okR1_at F K 1 ci] at E
          have HE : Hid ((okN (F 1 i) && okR1 F K 1 (i + 1)) = R) := E
          obtain ⟨v, hv⟩ : ∃ v, v = F 1 i := ⟨_, rfl⟩
          rw [← hv] at c0 HE
          clear E HO hv
          cases h : okN v with
          | true =>
            obtain ⟨h1, h2⟩ := okN_yes h
            have X : Hid (okR1 F K 1 (i + 1) = R) := by have := HE.out; rw [h] at this; exact this
            clear h HE
            go_wp2
            go_roundw
            case rel => exact ⟨i + 1, by go_num, by omega, X, q0, q1, HB⟩
            case measure => simp [intOf]; omega
          | false =>
            obtain rfl : R = false := by have := HE.out; rw [h] at this; exact this.symm
            have h' := okN_no h
            clear h HE
            rcases h' with h1 | ⟨h1, h2⟩
            all_goals
              go_wp2
              go_ret
              exact ⟨rfl, HB⟩
        · obtain rfl : i = 8 := by omega
          have c0 := q1.1 1 _ rfl
          have HE : Hid ((okN (K 1) && okR F K 2) = R) := HO
          obtain ⟨v, hv⟩ : ∃ v, v = K 1 := ⟨_, rfl⟩
          replace c0 : wr.cell? ⟨w.heap.size + 1, 1, none⟩ = some (.int .i64 v) := by rw [hv]; exact c0
          rw [← hv] at HE
          clear HO hv ci il
          cases h : okN v with
          | true =>
            obtain ⟨h1, h2⟩ := okN_yes h
            have X : Hid (okR F K 2 = R) := by have := HE.out; rw [h] at this; exact this
            clear h HE
            go_wp2
            go_roundw
            case rel => exact ⟨2, rfl, by omega, X, q0, q1, HB⟩
            case measure => simp [intOf]
          | false =>
            obtain rfl : R = false := by have := HE.out; rw [h] at this; exact this.symm
            have h' := okN_no h
            clear h HE
            rcases h' with h1 | ⟨h1, h2⟩
            all_goals
              go_wp2
              go_ret
              exact ⟨rfl, HB⟩
    · obtain rfl : R = true := HO.out.symm
      go_wp2
      go_ret
      exact ⟨rfl, HB⟩

end Go.Proofs.Ytkjaiahdkolmdaa.Mk
