/-
  Contracts of package knobs' plain functions, and of the document's own answers beside them, at this program: weights, limits, the numbers of files. Conditions: where it is said, the tables of the program lie as its text lays them.
-/
import Derived.Test.YtaeejemknmjglaaDoorPA
import Derived.Lib.MinMax
import Derived.Lib.SmallJoins
namespace Go.Proofs.YtaeejemknmjglaaDoor.Sp
open Go.RowKit

theorem ret_int {a b : Int} (h : a = b) : Ending.returned (Value.int .i64 a) = Ending.returned (Value.int .i64 b) := by rw [h]
/-- The weight of so many thousandths. -/
def wgt (n : Int) : Int := 1 + (max (min (max n 0) 256000 * 1024 / 1000) 2 - 2) * 9999 / 262142
theorem wgt_bounds (n : Int) : 1 ≤ wgt n ∧ wgt n ≤ 10000 := by
  unfold wgt
  omega
theorem wgt_rise {m n : Int} (h : m ≤ n) : wgt m ≤ wgt n := by
  unfold wgt
  have h1 : max m 0 ≤ max n 0 := by omega
  have h2 : min (max m 0) 256000 ≤ min (max n 0) 256000 := by omega
  have h3 : min (max m 0) 256000 * 1024 / 1000 ≤ min (max n 0) 256000 * 1024 / 1000 := by omega
  omega

set_option maxHeartbeats 1000000 in
theorem weight_is (n : Int) (w : World) :
    Calls Tryd.prog 15 #[.int .i64 n] w fun e w' => e = .returned (.int .i64 (wgt n)) ∧ w' = w := by
  obtain ⟨R, hR⟩ : ∃ R, R = wgt n := ⟨_, rfl⟩
  rw [← hR]
  have HR : Hid (R = wgt n) := hR
  clear hR
  go_enter Tryd.func15, Tryd.ntmps15
  go_wp2
  go_ret
  refine ⟨?_, rfl⟩
  rw [HR.out]
  rfl

set_option maxHeartbeats 1000000 in
theorem rweight_is (n : Int) (w : World) :
    Calls Tryd.prog 16 #[.int .i64 n] w fun e w' => e = .returned (.int .i64 (wgt n)) ∧ w' = w := by
  obtain ⟨R, hR⟩ : ∃ R, R = wgt n := ⟨_, rfl⟩
  rw [← hR]
  have HR : Hid (R = wgt n) := hR
  clear hR
  go_enter Tryd.func16, Tryd.ntmps16
  go_wp2
  all_goals
    go_ret
    exact ⟨by rw [HR.out]; exact ret_int (by unfold wgt; omega), rfl⟩

/-- What is written of a Limit. -/
def limV (n : Int) : Int := if n = 0 then 4611686018427387904 else n

theorem limit_is (n : Int) (w : World) :
    Calls Tryd.prog 27 #[.int .i64 n] w fun e w' => e = .returned (.int .i64 (limV n)) ∧ w' = w := by
  by_cases h : n = 0
  · subst h
    go_enter Tryd.func27, Tryd.ntmps27
    go_wp2
    go_ret
    exact ⟨rfl, rfl⟩
  · have h0 : (n == 0) = false := by simp [h]
    go_enter Tryd.func27, Tryd.ntmps27
    go_wp2
    go_ret
    exact ⟨by rw [limV, if_neg h]; rfl, rfl⟩

theorem rlimit_is (n : Int) (w : World) :
    Calls Tryd.prog 29 #[.int .i64 n] w fun e w' => e = .returned (.int .i64 (limV n)) ∧ w' = w := by
  by_cases h : n = 0
  · subst h
    go_enter Tryd.func29, Tryd.ntmps29
    go_wp2
    go_ret
    exact ⟨rfl, rfl⟩
  · have h0 : (n == 0) = false := by simp [h]
    go_enter Tryd.func29, Tryd.ntmps29
    go_wp2
    go_ret
    exact ⟨by rw [limV, if_neg h]; rfl, rfl⟩

/-- Unlimited, if one is, else the sum. -/
def togV (a b : Int) : Int := if a = 4611686018427387904 ∨ b = 4611686018427387904 then 4611686018427387904 else RowKit.wrap64 (a + b)
theorem together_is (a b : Int) (w : World) :
    Calls Tryd.prog 32 #[.int .i64 a, .int .i64 b] w fun e w' => e = .returned (.int .i64 (togV a b)) ∧ w' = w := by
  by_cases h : a = 4611686018427387904
  · subst h
    go_enter Tryd.func32, Tryd.ntmps32
    go_wp2
    go_ret
    exact ⟨by rw [togV, if_pos (Or.inl rfl)]; rfl, rfl⟩
  · have h0 : (a == 4611686018427387904) = false := by simp [h]
    by_cases k : b = 4611686018427387904
    · subst k
      go_enter Tryd.func32, Tryd.ntmps32
      go_wp2
      go_ret
      exact ⟨by rw [togV, if_pos (Or.inr rfl)]; rfl, rfl⟩
    · have k0 : (b == 4611686018427387904) = false := by simp [k]
      go_enter Tryd.func32, Tryd.ntmps32
      go_wp2
      go_ret
      exact ⟨by rw [togV, if_neg (by omega)]; rfl, rfl⟩

set_option maxHeartbeats 1000000 in
theorem numbers_is (ka kb kc kd ke : Int) (w : World) :
    Calls Tryd.prog 31 #[.agg #[.int .i64 ka, .int .i64 kb, .int .i64 kc, .int .i64 kd, .int .i64 ke]] w fun e w' => e = .returned (.agg #[.int .i64 ka, .int .i64 kb, .int .i64 kc, .int .i64 kd, .int .i64 ke]) ∧ Below w.heap.size w w' := by
  go_enter Tryd.func31, Tryd.ntmps31
  go_wp2
  go_returns
  exact ⟨rfl, by go_grown⟩

set_option maxHeartbeats 1000000 in
theorem of_is (ka kb kc kd ke : Int) (w : World) :
    Calls Tryd.prog 34 #[.agg #[.int .i64 ka, .int .i64 kb, .int .i64 kc, .int .i64 kd, .int .i64 ke]] w fun e w' => e = .returned (.agg #[.int .i64 ka, .int .i64 kb, .int .i64 kc, .int .i64 kd, .int .i64 ke]) ∧ Below w.heap.size w w' := by
  go_enter Tryd.func34, Tryd.ntmps34
  go_wp2
  go_returns
  exact ⟨rfl, by go_grown⟩

def isF (f : Int) : Bool := decide (0 ≤ f ∧ f < 5)
theorem isFile_is (f : Int) (w : World) :
    Calls Tryd.prog 36 #[.int .i64 f] w fun e w' => e = .returned (.bool (isF f)) ∧ w' = w := by
  obtain ⟨R, hR⟩ : ∃ R, R = isF f := ⟨_, rfl⟩
  rw [← hR]
  have HR : Hid (R = isF f) := hR
  clear hR
  by_cases h : f < 0
  · go_enter Tryd.func36, Tryd.ntmps36
    go_wp2
    go_ret
    exact ⟨by rw [HR.out, isF, decide_eq_false (by omega)]; rfl, rfl⟩
  · go_enter Tryd.func36, Tryd.ntmps36
    go_wp2
    go_ret
    exact ⟨by rw [HR.out, isF]; congr 2; simp; omega, rfl⟩

theorem root_is (w : World) :
    Calls Tryd.prog 14 #[] w fun e w' => e = .returned (.agg #[.int .i64 4611686018427387904, .int .i64 100, .int .i64 4611686018427387904, .int .i64 4611686018427387904, .int .i64 4611686018427387904]) ∧ Below w.heap.size w w' := by
  go_enter Tryd.func14, Tryd.ntmps14
  go_wp2
  go_returns
  exact ⟨rfl, by go_grown⟩

end Go.Proofs.YtaeejemknmjglaaDoor.Sp
