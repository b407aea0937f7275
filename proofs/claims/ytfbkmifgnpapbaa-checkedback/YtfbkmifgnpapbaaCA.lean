/-
  Contracts of package checked (Add, Sub, Held, Zig, Zag, Byte, Short, Narrow) at this program. Conditions: the arguments are numbers of 64 bits.
-/
import Derived.Test.YtfbkmifgnpapbaaRows
import Derived.WalkKit
import Derived.WalkSpells
import Derived.WalkLawsBesides
import Derived.Handy
import Derived.Deep.Light
import Derived.Lib.Zigzag
import Derived.Laws.Small
namespace Go.Proofs.Ytfbkmifgnpapbaa
open Go.RowKit

/-- x is a number of 64 bits with a sign. -/
abbrev In64 (x : Int) : Prop := -9223372036854775808 ≤ x ∧ x ≤ 9223372036854775807
/-- x if it fits, else 0. -/
def fitv (x : Int) : Int := if In64 x then x else 0
def fitb (x : Int) : Bool := decide (In64 x)

theorem fit_yes {x : Int} (h : In64 x) : fitv x = x ∧ fitb x = true := by simp [fitv, fitb, h]
theorem fit_no {x : Int} (h : ¬ In64 x) : fitv x = 0 ∧ fitb x = false := by simp [fitv, fitb, h]
theorem fit_not {x : Int} (h : (!fitb x) = true) : ¬ In64 x := fun g => by rw [(fit_yes g).2] at h; exact Bool.noConfusion h
theorem fit_is {x : Int} (h : (!fitb x) = false) : In64 x := by
  by_cases g : In64 x
  · exact g
  · rw [(fit_no g).2] at h; exact Bool.noConfusion h
/-- A number and a flag, both handed back. -/
theorem two_eq {k : IntKind} {x y : Int} {b c : Bool} (h : x = y) (g : b = c) : Ending.returned (Value.tuple #[.int k x, .bool b]) = Ending.returned (Value.tuple #[.int k y, .bool c]) := by
  rw [h, g]

theorem sum_fits {a b : Int} (ha : In64 a) (hb : In64 b) : (decide (wrap64 (a + b) < a) == decide (b < 0)) = fitb (a + b) ∧ (In64 (a + b) → wrap64 (a + b) = a + b) := by
  unfold In64 fitb wrap64 at *
  refine ⟨?_, fun h => by omega⟩
  rw [Bool.eq_iff_iff]
  simp only [beq_iff_eq, decide_eq_decide, decide_eq_true_eq]
  unfold In64
  omega

theorem diff_fits {a b : Int} (ha : In64 a) (hb : In64 b) : (decide (wrap64 (a - b) > a) == decide (b < 0)) = fitb (a - b) ∧ (In64 (a - b) → wrap64 (a - b) = a - b) := by
  unfold In64 fitb wrap64 at *
  refine ⟨?_, fun h => by omega⟩
  rw [Bool.eq_iff_iff]
  simp only [beq_iff_eq, decide_eq_decide, decide_eq_true_eq]
  unfold In64
  omega

set_option maxHeartbeats 400000 in
theorem cadd_any (a b : Int) (w : World) (ha : In64 a) (hb : In64 b) :
    Calls Try.prog 9 #[.int .i64 a, .int .i64 b] w fun e w' => e = .returned (.tuple #[.int .i64 (fitv (a + b)), .bool (fitb (a + b))]) ∧ w' = w := by
  have HA : Hid (In64 a) := ha
  have HB : Hid (In64 b) := hb
  unfold In64 at ha hb
  go_enter Try.func9, Try.ntmps9
  go_wp2
  · rename_i h
    have hn : ¬ In64 (a + b) := by
      have f := (sum_fits HA.out HB.out).1
      (try simp only [gt_iff_lt] at f)
      rw [f] at h
      exact fit_not h
    go_ret2
    exact ⟨two_eq (fit_no hn).1.symm (fit_no hn).2.symm, rfl⟩
  · rename_i h
    have hn : In64 (a + b) := by
      have f := (sum_fits HA.out HB.out).1
      (try simp only [gt_iff_lt] at f)
      rw [f] at h
      exact fit_is h
    go_ret2
    exact ⟨two_eq (((sum_fits HA.out HB.out).2 hn).trans (fit_yes hn).1.symm) (fit_yes hn).2.symm, rfl⟩

set_option maxHeartbeats 400000 in
theorem csub_any (a b : Int) (w : World) (ha : In64 a) (hb : In64 b) :
    Calls Try.prog 12 #[.int .i64 a, .int .i64 b] w fun e w' => e = .returned (.tuple #[.int .i64 (fitv (a - b)), .bool (fitb (a - b))]) ∧ w' = w := by
  have HA : Hid (In64 a) := ha
  have HB : Hid (In64 b) := hb
  unfold In64 at ha hb
  go_enter Try.func12, Try.ntmps12
  go_wp2
  · rename_i h
    have hn : ¬ In64 (a - b) := by
      have f := (diff_fits HA.out HB.out).1
      (try simp only [gt_iff_lt] at f)
      rw [f] at h
      exact fit_not h
    go_ret2
    exact ⟨two_eq (fit_no hn).1.symm (fit_no hn).2.symm, rfl⟩
  · rename_i h
    have hn : In64 (a - b) := by
      have f := (diff_fits HA.out HB.out).1
      (try simp only [gt_iff_lt] at f)
      rw [f] at h
      exact fit_is h
    go_ret2
    exact ⟨two_eq (((diff_fits HA.out HB.out).2 hn).trans (fit_yes hn).1.symm) (fit_yes hn).2.symm, rfl⟩

theorem times_fits {a b : Int} (ha : In64 a) (hb : In64 b) (h0 : a ≠ 0) :
    (In64 (a * b) → wrap64 (a * b) = a * b ∧ wrap64 ((wrap64 (a * b)).tdiv a) = b ∧ ¬ (a = -1 ∧ b = -9223372036854775808)) ∧
    (wrap64 ((wrap64 (a * b)).tdiv a) = b → ¬ (a = -1 ∧ b = -9223372036854775808) → In64 (a * b)) := by
  refine ⟨fun h => ?_, fun h hm => ?_⟩
  · have e : wrap64 (a * b) = a * b := by unfold In64 at h; unfold wrap64; omega
    refine ⟨e, ?_, ?_⟩
    · rw [e, Int.mul_tdiv_cancel_left _ h0]
      unfold In64 at hb
      unfold wrap64; omega
    · rintro ⟨rfl, rfl⟩
      unfold In64 at h
      omega
  · obtain ⟨k, hk⟩ : ∃ k : Int, wrap64 (a * b) = a * b + k * 18446744073709551616 := ⟨-((a * b + 9223372036854775808) / 18446744073709551616), by unfold wrap64; omega⟩
    have hp : In64 (wrap64 (a * b)) := by unfold wrap64 In64; omega
    generalize wrap64 (a * b) = p at *
    have hd := Int.mul_tdiv_add_tmod p a
    have hl : (p.tmod a).natAbs < a.natAbs := by
      have := Int.natAbs_tmod p a
      rw [this]
      exact Nat.mod_lt _ (by omega)
    have hq : -9223372036854775808 ≤ p.tdiv a ∧ p.tdiv a ≤ 9223372036854775808 := by
      have hn : (p.tdiv a).natAbs = p.natAbs / a.natAbs := Int.natAbs_tdiv p a
      have hl : p.natAbs / a.natAbs ≤ p.natAbs := Nat.div_le_self _ _
      unfold In64 at hp
      have : (p.tdiv a).natAbs ≤ 9223372036854775808 := by omega
      omega
    have hw : p.tdiv a = b ∨ (p.tdiv a = 9223372036854775808 ∧ b = -9223372036854775808) := by
      unfold wrap64 at h; unfold In64 at hb; omega
    rcases hw with hw | ⟨hw, hb'⟩
    · rw [hw] at hd
      generalize a * b = ab at *
      unfold In64 at *
      have : k = 0 := by omega
      subst this
      omega
    · rw [hw] at hd
      exfalso
      unfold In64 at *
      have : a = -1 ∨ a = 1 ∨ (2 ≤ a ∨ a ≤ -2) := by omega
      omega

set_option maxHeartbeats 400000 in
theorem cmul_any (a b : Int) (w : World) (ha : In64 a) (hb : In64 b) :
    Calls Try.prog 14 #[.int .i64 a, .int .i64 b] w fun e w' => e = .returned (.tuple #[.int .i64 (fitv (a * b)), .bool (fitb (a * b))]) ∧ w' = w := by
  have HA : Hid (In64 a) := ha
  have HB : Hid (In64 b) := hb
  unfold In64 at ha hb
  by_cases h0 : a = 0
  · subst h0
    go_enter Try.func14, Try.ntmps14
    go_wp2
    go_ret2
    rw [Int.zero_mul]
    exact ⟨rfl, rfl⟩
  go_enter Try.func14, Try.ntmps14
  go_wp2
  · rename_i h1 h2 h3
    have hn : ¬ In64 (a * b) := fun h => ((times_fits HA.out HB.out h0).1 h).2.2 ⟨h2, by simpa using h3⟩
    go_ret2
    exact ⟨two_eq (fit_no hn).1.symm (fit_no hn).2.symm, rfl⟩
  · rename_i h1 h2 h3
    have hn : In64 (a * b) := (times_fits HA.out HB.out h0).2 h1 (fun h => by simp [h.2] at h3)
    have e := ((times_fits HA.out HB.out h0).1 hn).1
    go_ret2
    refine ⟨two_eq (Eq.trans ?_ (fit_yes hn).1.symm) (fit_yes hn).2.symm, rfl⟩
    rw [h2] at e ⊢
    rw [Int.neg_mul, Int.one_mul] at e ⊢
    exact e
  · rename_i h1 h2
    have hn : In64 (a * b) := (times_fits HA.out HB.out h0).2 h1 (fun h => h2 h.1)
    have e := ((times_fits HA.out HB.out h0).1 hn).1
    go_ret2
    exact ⟨two_eq (e.trans (fit_yes hn).1.symm) (fit_yes hn).2.symm, rfl⟩
  · rename_i h1
    have hn : ¬ In64 (a * b) := fun h => h1 ((times_fits HA.out HB.out h0).1 h).2.1
    go_ret2
    exact ⟨two_eq (fit_no hn).1.symm (fit_no hn).2.symm, rfl⟩

def upv (n u : Int) : Int := n + (-n) % u

theorem emod_le_self {n u : Int} (h : 0 ≤ n) (hu : 1 ≤ u) : n % u ≤ n := by
  have e := Int.mul_ediv_add_emod n u
  have := Int.mul_nonneg (show 0 ≤ u by omega) (Int.ediv_nonneg h (show 0 ≤ u by omega))
  omega

/-- The rest of n, with n's sign. -/
theorem up_rest {n u : Int} (hu : 1 ≤ u) : (0 < n.tmod u → 0 < n ∧ n.tmod u < u ∧ n.tmod u ≤ n ∧ upv n u = n + (u - n.tmod u)) ∧ (n.tmod u ≤ 0 → -u < n.tmod u ∧ (n.tmod u = 0 ∨ n ≤ n.tmod u) ∧ upv n u = n - n.tmod u) := by
  have e := tmod_eq_if n u
  have hneg : (-n) % u = if u ∣ n then 0 else (u.natAbs : Int) - n % u := Int.neg_emod
  have hm0 := Int.emod_nonneg n (show u ≠ 0 by omega)
  have hm1 := Int.emod_lt_of_pos n (show 0 < u by omega)
  have hk0 := Int.emod_nonneg (-n) (show u ≠ 0 by omega)
  have hk1 := Int.emod_lt_of_pos (-n) (show 0 < u by omega)
  have hd : u ∣ n ↔ n % u = 0 := Int.dvd_iff_emod_eq_zero
  unfold upv
  refine ⟨fun h => ?_, fun h => ?_⟩
  · by_cases h0 : 0 ≤ n
    · rw [if_pos h0] at e
      have hle : n % u ≤ n := emod_le_self h0 hu
      rw [e] at h ⊢
      rw [if_neg (by rw [hd]; omega)] at hneg
      omega
    · rw [if_neg h0] at e
      omega
  · by_cases h0 : 0 ≤ n
    · rw [if_pos h0] at e
      rw [if_pos (by rw [hd]; omega)] at hneg
      omega
    · rw [if_neg h0] at e
      have hle : (-n) % u ≤ -n := emod_le_self (by omega) hu
      omega

set_option maxHeartbeats 400000 in
theorem cup_any (n u : Int) (w : World) (ha : In64 n) (hb : In64 u) :
    Calls Try.prog 16 #[.int .i64 n, .int .i64 u] w fun e w' => e = .returned (.tuple #[.int .i64 (if u < 1 then 0 else fitv (upv n u)), .bool (if u < 1 then false else fitb (upv n u))]) ∧ w' = w := by
  have HA : Hid (In64 n) := ha
  unfold In64 at ha hb
  by_cases hu : u < 1
  · rw [if_pos hu, if_pos hu]
    go_enter Try.func16, Try.ntmps16
    go_wp2
    go_ret2
    exact ⟨rfl, rfl⟩
  rw [if_neg hu, if_neg hu]
  have HR : Hid _ := up_rest (n := n) (u := u) (by omega)
  go_enter Try.func16, Try.ntmps16
  go_wp2_with (fail)
  · obtain ⟨g0, g1, g2, g3⟩ := HR.out.1 (by assumption)
    have e : wrap64 (u - n.tmod u) = u - n.tmod u := by unfold wrap64; omega
    rw [e]
    refine (cadd_any n (u - n.tmod u) _ HA.out (by unfold In64; omega)).mono ?_
    rw [← g3]
    rintro e' w' ⟨rfl, rfl⟩
    clear e g3
    go_wp2
    go_ret2
    exact ⟨rfl, rfl⟩
  · obtain ⟨g1, g2, g3⟩ := HR.out.2 (by assumption)
    go_ret2
    have e : wrap64 (n - n.tmod u) = upv n u := by rw [g3]; unfold wrap64; omega
    have hn : In64 (upv n u) := by rw [g3]; unfold In64; omega
    exact ⟨two_eq (e.trans (fit_yes hn).1.symm) (fit_yes hn).2.symm, rfl⟩

set_option maxHeartbeats 400000 in
theorem zig_any (n : Int) (w : World) (hn : In64 n) :
    Calls Try.prog 22 #[.int .i64 n] w fun e w' => e = .returned (.int .u64 ((Lib.zigzag n : Nat) : Int)) ∧ w' = w := by
  unfold In64 at hn
  go_enter Try.func22, Try.ntmps22
  go_wp2
  all_goals go_ret
  · rw [Lib.zigzag_neg (by omega) (by omega)]
    exact ⟨rfl, rfl⟩
  · refine ⟨congrArg Ending.returned (congrArg (Value.int IntKind.u64) ?_), rfl⟩
    rw [Lib.zigzag_nonneg (by omega), IntKind.wrap_u64, IntKind.wrap_u64]
    omega

def zag (u : Int) : Int := if u % 2 = 1 then -(u / 2) - 1 else u / 2

set_option maxHeartbeats 400000 in
theorem zag_any (u : Int) (w : World) (h0 : 0 ≤ u) (h1 : u < 18446744073709551616) :
    Calls Try.prog 23 #[.int .u64 u] w fun e w' => e = .returned (.int .i64 (zag u)) ∧ w' = w := by
  have e1 := Lib.u64_and1 u h0 h1
  have e2 : bits .xor .i64 (-1) (u / 2) = -(u / 2) - 1 := by
    have := Lib.i64_not (u / 2).toNat (by omega)
    rwa [Int.toNat_of_nonneg (by omega)] at this
  go_enter Try.func23, Try.ntmps23
  go_wp2
  · have h' : u % 2 = 1 := by
      have h : (u % 2 == 1) = true := (by assumption)
      simpa using h
    go_ret
    unfold zag
    rw [if_pos h']
    exact ⟨rfl, rfl⟩
  · have h' : ¬ u % 2 = 1 := by
      have h : (u % 2 == 1) = false := (by assumption)
      simpa using h
    go_ret
    unfold zag
    rw [if_neg h']
    exact ⟨rfl, rfl⟩

def heldv (n least most : Int) : Int := if n < least then least else if n > most then most else n

set_option maxHeartbeats 400000 in
theorem held_any (n least most : Int) (w : World) :
    Calls Try.prog 24 #[.int .i64 n, .int .i64 least, .int .i64 most] w fun e w' => e = .returned (.int .i64 (heldv n least most)) ∧ w' = w := by
  go_enter Try.func24, Try.ntmps24
  go_wp2
  all_goals
    go_ret
    refine ⟨congrArg Ending.returned (congrArg (Value.int IntKind.i64) ?_), rfl⟩
    unfold heldv
    first | rw [if_pos (by omega)] | rw [if_neg (by omega), if_pos (by omega)] | rw [if_neg (by omega), if_neg (by omega)]

theorem wrap_i16 (n : Int) : IntKind.i16.wrap n = (n + 32768) % 65536 - 32768 := by
  simp [IntKind.wrap, IntKind.bits, IntKind.signed]
  split <;> omega

/-- n if it lies from lo to hi, else 0. -/
def narv (lo hi n : Int) : Int := if lo ≤ n ∧ n ≤ hi then n else 0
def narb (lo hi n : Int) : Bool := decide (lo ≤ n ∧ n ≤ hi)

set_option maxHeartbeats 400000 in
theorem fitByte_any (n : Int) (w : World) (hn : In64 n) :
    Calls Try.prog 33 #[.int .i64 n] w fun e w' => e = .returned (.tuple #[.int .u8 (narv 0 255 n), .bool (narb 0 255 n)]) ∧ w' = w := by
  unfold In64 at hn
  go_enter Try.func33, Try.ntmps33
  go_wp2
  all_goals (go_ret2; refine ⟨two_eq ?_ ?_, rfl⟩)
  all_goals (rename_i h; simp only [bne_iff_ne, ne_eq, bne_eq_false_iff_eq] at h; (try rw [wrap_i16] at h); (try unfold wrap64 at h); (try unfold wrap32 at h); (try unfold wrap32); (try rw [wrap_i16]))
  · unfold narv; rw [if_neg (by omega)]
  · unfold narb; rw [decide_eq_false (by omega)]
  · unfold narv; rw [if_pos (by omega)]; omega
  · unfold narb; rw [decide_eq_true (by omega)]

set_option maxHeartbeats 400000 in
theorem byte_any (n : Int) (w : World) (hn : In64 n) :
    Calls Try.prog 19 #[.int .i64 n] w fun e w' => e = .returned (.tuple #[.int .u8 (narv 0 255 n), .bool (narb 0 255 n)]) ∧ w' = w := by
  go_enter Try.func19, Try.ntmps19
  go_wp2_with (fail)
  refine (fitByte_any n _ hn).mono ?_
  rintro e w' ⟨rfl, rfl⟩
  go_wp2
  go_ret2
  exact ⟨rfl, rfl⟩

set_option maxHeartbeats 400000 in
theorem fitShort_any (n : Int) (w : World) (hn : In64 n) :
    Calls Try.prog 34 #[.int .i64 n] w fun e w' => e = .returned (.tuple #[.int .i16 (narv (-32768) 32767 n), .bool (narb (-32768) 32767 n)]) ∧ w' = w := by
  unfold In64 at hn
  go_enter Try.func34, Try.ntmps34
  go_wp2
  all_goals (go_ret2; refine ⟨two_eq ?_ ?_, rfl⟩)
  all_goals (rename_i h; simp only [bne_iff_ne, ne_eq, bne_eq_false_iff_eq] at h; (try rw [wrap_i16] at h); (try unfold wrap64 at h); (try unfold wrap32 at h); (try unfold wrap32); (try rw [wrap_i16]))
  · unfold narv; rw [if_neg (by omega)]
  · unfold narb; rw [decide_eq_false (by omega)]
  · unfold narv; rw [if_pos (by omega)]; omega
  · unfold narb; rw [decide_eq_true (by omega)]

set_option maxHeartbeats 400000 in
theorem short_any (n : Int) (w : World) (hn : In64 n) :
    Calls Try.prog 20 #[.int .i64 n] w fun e w' => e = .returned (.tuple #[.int .i16 (narv (-32768) 32767 n), .bool (narb (-32768) 32767 n)]) ∧ w' = w := by
  go_enter Try.func20, Try.ntmps20
  go_wp2_with (fail)
  refine (fitShort_any n _ hn).mono ?_
  rintro e w' ⟨rfl, rfl⟩
  go_wp2
  go_ret2
  exact ⟨rfl, rfl⟩

set_option maxHeartbeats 400000 in
theorem fitNarrow_any (n : Int) (w : World) (hn : In64 n) :
    Calls Try.prog 35 #[.int .i64 n] w fun e w' => e = .returned (.tuple #[.int .i32 (narv (-2147483648) 2147483647 n), .bool (narb (-2147483648) 2147483647 n)]) ∧ w' = w := by
  unfold In64 at hn
  go_enter Try.func35, Try.ntmps35
  go_wp2
  all_goals (go_ret2; refine ⟨two_eq ?_ ?_, rfl⟩)
  all_goals (rename_i h; simp only [bne_iff_ne, ne_eq, bne_eq_false_iff_eq] at h; (try rw [wrap_i16] at h); (try unfold wrap64 at h); (try unfold wrap32 at h); (try unfold wrap32); (try rw [wrap_i16]))
  · unfold narv; rw [if_neg (by omega)]
  · unfold narb; rw [decide_eq_false (by omega)]
  · unfold narv; rw [if_pos (by omega)]; omega
  · unfold narb; rw [decide_eq_true (by omega)]

set_option maxHeartbeats 400000 in
theorem narrow_any (n : Int) (w : World) (hn : In64 n) :
    Calls Try.prog 21 #[.int .i64 n] w fun e w' => e = .returned (.tuple #[.int .i32 (narv (-2147483648) 2147483647 n), .bool (narb (-2147483648) 2147483647 n)]) ∧ w' = w := by
  go_enter Try.func21, Try.ntmps21
  go_wp2_with (fail)
  refine (fitNarrow_any n _ hn).mono ?_
  rintro e w' ⟨rfl, rfl⟩
  go_wp2
  go_ret2
  exact ⟨rfl, rfl⟩

end Go.Proofs.Ytfbkmifgnpapbaa
