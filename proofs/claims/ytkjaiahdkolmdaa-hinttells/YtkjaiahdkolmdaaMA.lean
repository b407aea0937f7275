/-
  Contracts of package mask's functions on bits at this program (and of the two of math/bits that they call). Conditions: none but that masks and nodes are ints.
-/
import Derived.Test.YtkjaiahdkolmdaaGA
import Derived.Test.YtkjaiahdkolmdaaRows
import Derived.WalkKit
import Derived.WalkSpells
import Derived.WalkLawsBesides
import Derived.Handy
import Derived.Deep.Light
import Derived.WalkSmall
import Derived.OwnWalk
import Derived.PlainAid
import Derived.Deep.MidRow
import Derived.Lib.MinMax
import Derived.Lib.SmallJoins
import Derived.Laws.BitsAllLaws
import Derived.Test.YtkjaiahdkolmdaaSh
namespace Go.Proofs.Ytkjaiahdkolmdaa.Mk
open Go.RowKit

/-- The lowest eight bits. -/
def low (m : Int) : Nat := (m % 256).toNat
theorem low_lt (m : Int) : low m < 256 := by unfold low; omega
theorem low_int (m : Int) : (low m : Int) = m % 256 := by unfold low; omega
/-- The bit of a node. -/
def bitN (i : Int) : Nat := if 0 ≤ i ∧ i < 8 then 2 ^ i.toNat else 0
theorem bitN_lt (i : Int) : bitN i < 256 := by
  unfold bitN
  split
  · have : i.toNat ≤ 7 := by omega
    have := Nat.pow_le_pow_right (show 0 < 2 by omega) this
    omega
  · omega
/-- The nodes of a mask, rising. -/
def nd (b : Nat) : List (Fin 8) := ([0, 1, 2, 3, 4, 5, 6, 7] : List (Fin 8)).filter fun i => b.testBit i.1
def hasB (b : Nat) (i : Int) : Bool := decide (0 ≤ i ∧ i < 8) && b.testBit i.toNat
def withB (b : Nat) (i : Int) : Nat := b ||| bitN i
def lessB (b : Nat) (i : Int) : Nat := b &&& (255 - bitN i)
def cnt (b : Nat) : Nat := (nd b).length
def leastB (b : Nat) : Nat := ((nd b).map (·.1)).headD 0
def underB (a b : Nat) : Bool := a &&& (255 - b) == 0
def aheadB (a b : Nat) : Bool := if cnt a = cnt b then decide (a < b) else decide (cnt a < cnt b)
theorem low_of {n : Nat} (h : n < 256) : low (n : Int) = n := by unfold low; omega
theorem withB_lt {b : Nat} (h : b < 256) (i : Int) : withB b i < 256 := Nat.or_lt_two_pow (n := 8) h (bitN_lt i)
theorem lessB_lt {b : Nat} (_ : b < 256) (i : Int) : lessB b i < 256 := Nat.and_lt_two_pow (n := 8) b (by omega)
theorem cnt_le (b : Nat) : cnt b ≤ 8 := List.length_filter_le _ _
theorem leastB_lt : ∀ b : Fin 256, leastB b.1 < 8 := by decide +kernel
theorem bitN_out {i : Int} (h : ¬ (0 ≤ i ∧ i < 8)) : bitN i = 0 := by unfold bitN; rw [if_neg h]
theorem has_in : ∀ b : Fin 256, ∀ n : Fin 8, (b.1 &&& bitN (n.1 : Int) == 0) = !hasB b.1 (n.1 : Int) := by decide +kernel
theorem has_and {b : Nat} (hb : b < 256) (i : Int) : (((b &&& bitN i : Nat) : Int) != 0) = hasB b i := by
  have e : (((b &&& bitN i : Nat) : Int) != 0) = !(b &&& bitN i == 0) := by
    generalize b &&& bitN i = x
    cases x with
    | zero => rfl
    | succ k => rfl
  rw [e]
  by_cases h : 0 ≤ i ∧ i < 8
  · obtain ⟨n, hn, rfl⟩ : ∃ n : Nat, n < 8 ∧ i = n := ⟨i.toNat, by omega, by omega⟩
    rw [has_in ⟨b, hb⟩ ⟨n, hn⟩, Bool.not_not]
  · rw [bitN_out h, Nat.and_zero, hasB, decide_eq_false h]
    rfl
theorem wrap_small {n : Nat} (h : n < 256) : wrap64 (n : Int) = n := by unfold wrap64; omega
theorem low_ones : ∀ b : Fin 256, Lib.onesCount b.1 = cnt b.1 := by decide +kernel
theorem low_least : ∀ b : Fin 256, b.1 ≠ 0 → Lib.trailingZeros8 b.1 = leastB b.1 := by decide +kernel

set_option maxHeartbeats 400000 in
theorem bitsOf_is (m : Int) (w : World) :
    Calls Try.prog 36 #[.int .i64 m] w fun e w' => e = .returned (.int .u8 (low m)) ∧ w' = w := by
  rw [low_int]
  go_enter Try.func36, Try.ntmps36
  go_wp2
  go_ret
  exact ⟨rfl, rfl⟩

theorem bit_pow : ∀ n : Fin 8, ((bitN (n.1 : Int) : Nat) : Int) = (2 : Int) ^ n.1 % 256 := by decide +kernel

set_option maxHeartbeats 400000 in
theorem bitOf_is (i : Int) (w : World) :
    Calls Try.prog 37 #[.int .i64 i] w fun e w' => e = .returned (.int .u8 (bitN i)) ∧ w' = w := by
  by_cases h : 0 ≤ i ∧ i < 8
  · obtain ⟨n, hn, rfl⟩ : ∃ n : Nat, n < 8 ∧ i = n := ⟨i.toNat, by omega, by omega⟩
    rw [bit_pow ⟨n, hn⟩]
    go_enter Try.func37, Try.ntmps37
    go_wp2
    go_ret
    exact ⟨rfl, rfl⟩
  · have R : bitN i = 0 := by unfold bitN; rw [if_neg h]
    rw [R]
    go_enter Try.func37, Try.ntmps37
    go_wp2
    all_goals
      go_ret
      exact ⟨rfl, rfl⟩

set_option maxHeartbeats 400000 in
theorem has_is (m i : Int) (w : World) :
    Calls Try.prog 32 #[.int .i64 m, .int .i64 i] w fun e w' => e = .returned (.bool (hasB (low m) i)) ∧ w' = w := by
  have l1 := low_lt m
  have l2 := bitN_lt i
  have C1 := fun w => bitsOf_is m w
  have C2 := fun w => bitOf_is i w
  rw [← has_and l1 i]
  generalize low m = x at *
  generalize bitN i = y at *
  rw [← u8_and_nat x y l1 l2]
  go_enter Try.func32, Try.ntmps32
  go_wp2_with (fail)
  refine (C1 _).mono ?_
  rintro e w' ⟨rfl, rfl⟩
  go_wp2_with (fail)
  refine (C2 _).mono ?_
  rintro e w' ⟨rfl, rfl⟩
  clear C1 C2
  go_wp2
  go_ret
  exact ⟨rfl, rfl⟩

theorem nat_eq0 (x : Nat) : ((x : Int) == 0) = (x == 0) := by cases x <;> rfl
set_option maxHeartbeats 400000 in
theorem under_is (m n : Int) (w : World) :
    Calls Try.prog 30 #[.int .i64 m, .int .i64 n] w fun e w' => e = .returned (.bool (underB (low m) (low n))) ∧ w' = w := by
  have l1 := low_lt m
  have l2 := low_lt n
  have C1 := fun w => bitsOf_is m w
  have C2 := fun w => bitsOf_is n w
  unfold underB
  rw [← nat_eq0]
  generalize low m = x at *
  generalize low n = y at *
  rw [← u8_andNot_nat x y l1 l2]
  go_enter Try.func30, Try.ntmps30
  go_wp2_with (fail)
  refine (C1 _).mono ?_
  rintro e w' ⟨rfl, rfl⟩
  go_wp2_with (fail)
  refine (C2 _).mono ?_
  rintro e w' ⟨rfl, rfl⟩
  clear C1 C2
  go_wp2
  go_ret
  exact ⟨rfl, rfl⟩

set_option maxHeartbeats 400000 in
theorem count_is (m : Int) (w : World) :
    Calls Try.prog 40 #[.int .i64 m] w fun e w' => e = .returned (.int .i64 (cnt (low m))) ∧ w' = w := by
  have l1 := low_lt m
  have C1 := fun w => bitsOf_is m w
  have C2 : ∀ w, Calls Try.prog 41 #[.int .u8 (low m)] w fun e w' => e = .returned (.int .i64 (cnt (low m))) ∧ w' = w := fun w => by
    rw [← low_ones ⟨low m, l1⟩]
    exact Try.bits_OnesCount8 (low m) w (by omega) (by omega)
  generalize cnt (low m) = y at *
  generalize low m = x at *
  go_enter Try.func40, Try.ntmps40
  go_wp2_with (fail)
  refine (C1 _).mono ?_
  rintro e w' ⟨rfl, rfl⟩
  go_wp2_with (fail)
  refine (C2 _).mono ?_
  rintro e w' ⟨rfl, rfl⟩
  clear C1 C2
  go_wp2
  go_ret
  exact ⟨rfl, rfl⟩

end Go.Proofs.Ytkjaiahdkolmdaa.Mk
