/-
  What is right for hints at this program: ours and the document's. Conditions: none.
-/
import Derived.Test.YtkjaiahdkolmdaaHA
import Derived.BigQuiet
namespace Go.Proofs.Ytkjaiahdkolmdaa.Mk
open Go.RowKit

set_option maxHeartbeats 1000000 in
theorem rightNumber_is (n : Int) (w : World) : Calls Try.prog 21 #[.int .i64 n] w fun e w' => e = .returned (.bool (okN n)) ∧ w' = w := by
  cases h : okN n with
  | true =>
    obtain ⟨h1, h2⟩ := okN_yes h
    clear h
    go_enter Try.func21, Try.ntmps21
    go_wp2
    go_ret
    exact ⟨rfl, rfl⟩
  | false =>
    have h' := okN_no h
    clear h
    rcases h' with h1 | ⟨h1, h2⟩
    all_goals
      (try replace h2 := decide_eq_false (show ¬ _ from Int.not_le.mpr h2))
      go_enter Try.func21, Try.ntmps21
      go_wp2
      go_ret
      exact ⟨rfl, rfl⟩

def okM (m : Int) : Bool := decide (0 ≤ m ∧ m ≤ 255)
def okK (m : Int) : Bool := decide (0 ≤ m ∧ m ≤ 8)
set_option maxHeartbeats 1000000 in
theorem rightMask_is (n : Int) (w : World) : Calls Try.prog 20 #[.int .i64 n] w fun e w' => e = .returned (.bool (okM n)) ∧ w' = w := by
  cases h : okM n with
  | true =>
    obtain ⟨h1, h2⟩ := of_decide_eq_true h
    clear h
    go_enter Try.func20, Try.ntmps20
    go_wp2
    go_ret
    exact ⟨rfl, rfl⟩
  | false =>
    have h' : n < 0 ∨ (0 ≤ n ∧ 255 < n) := by have := of_decide_eq_false h; omega
    clear h
    rcases h' with h1 | ⟨h1, h2⟩
    all_goals
      (try replace h2 := decide_eq_false (show ¬ _ from Int.not_le.mpr h2))
      go_enter Try.func20, Try.ntmps20
      go_wp2
      go_ret
      exact ⟨rfl, rfl⟩
set_option maxHeartbeats 1000000 in
theorem rightNodes_is (n : Int) (w : World) : Calls Try.prog 27 #[.int .i64 n] w fun e w' => e = .returned (.bool (okK n)) ∧ w' = w := by
  cases h : okK n with
  | true =>
    obtain ⟨h1, h2⟩ := of_decide_eq_true h
    clear h
    go_enter Try.func27, Try.ntmps27
    go_wp2
    go_ret
    exact ⟨rfl, rfl⟩
  | false =>
    have h' : n < 0 ∨ (0 ≤ n ∧ 8 < n) := by have := of_decide_eq_false h; omega
    clear h
    rcases h' with h1 | ⟨h1, h2⟩
    all_goals
      (try replace h2 := decide_eq_false (show ¬ _ from Int.not_le.mpr h2))
      go_enter Try.func27, Try.ntmps27
      go_wp2
      go_ret
      exact ⟨rfl, rfl⟩

set_option maxHeartbeats 2000000 in
set_option maxRecDepth 100000 in
theorem rightSpread_is (s : Nat → Int) (w : World) : Calls Try.prog 19 #[spV s] w fun e w' => e = .returned (.bool (okS s)) ∧ Below w.heap.size w w' := by
  obtain ⟨R, hR⟩ : ∃ R, R = okS s := ⟨_, rfl⟩
  rw [← hR]
  have HR : Hid (okF s 0 = R) := hR.symm
  clear hR
  go_enter Try.func19, Try.ntmps19
  go_wp2
  have HB0 : Below w.heap.size w (w.alloc (.cells #[.int .i64 (s 0), .int .i64 (s 1), .int .i64 (s 2), .int .i64 (s 3), .int .i64 (s 4), .int .i64 (s 5), .int .i64 (s 6), .int .i64 (s 7)] 23)) := by go_grown
  generalize w.alloc (.cells #[.int .i64 (s 0), .int .i64 (s 1), .int .i64 (s 2), .int .i64 (s 3), .int .i64 (s 4), .int .i64 (s 5), .int .i64 (s 6), .int .i64 (s 7)] 23) = W0 at *
  go_loopw [6] (fun f wr => ∃ j : Nat, f = .int .i64 j ∧ j ≤ 8 ∧ Hid (okF s j = R) ∧ wr = W0) (fun f _ => 8 - (intOf f).toNat)
  case atStart => exact ⟨0, rfl, by omega, HR, rfl⟩
  case round =>
    clear HR
    obtain ⟨j, rfl, jl, HO, rfl⟩ := hrel
    by_cases cj : j < 8
    · have E := HO.out
      rw [okF_at s cj] at E
      have j0 : (0 : Int) ≤ (j : Int) := by omega
      have j1 : (j : Int) < 8 := by omega
      have x1 := ix8 s cj
      obtain ⟨v, hv⟩ : ∃ v, v = s j := ⟨_, rfl⟩
      have C : Hid (∀ w, Calls Try.prog 21 #[.int .i64 v] w fun e w' => e = .returned (.bool (okN v)) ∧ w' = w) := fun w => rightNumber_is v w
      rw [← hv] at x1 E
      have HE : Hid ((okN v && okF s (j + 1)) = R) := E
      generalize okN v = t at *
      clear E HO hv
      cases t with
      | true =>
        have X : Hid (okF s (j + 1) = R) := HE.out
        clear HE
        go_wp2_with (fail)
        refine (C.out _).mono ?_
        rintro e w1 ⟨rfl, hw⟩
        rw [hw]
        clear C hw
        go_wp2
        go_roundw
        case rel => exact ⟨j + 1, by go_num, by omega, X, trivial⟩
        case measure => simp [intOf]; omega
      | false =>
        obtain rfl : R = false := HE.out.symm
        clear HE
        go_wp2_with (fail)
        refine (C.out _).mono ?_
        rintro e w1 ⟨rfl, hw⟩
        rw [hw]
        clear C hw
        go_wp2
        go_ret
        exact ⟨rfl, HB0⟩
    · obtain rfl : j = 8 := by omega
      obtain rfl : R = true := HO.out.symm
      go_wp2
      go_ret
      exact ⟨rfl, HB0⟩

end Go.Proofs.Ytkjaiahdkolmdaa.Mk
