/-
  Contracts of the small functions of package wide (Of, Compare) at this program, and what they lean on. Conditions: each word lies below 2^64.
  Plain facts on numbers that the proofs of package wide lean on: shifts and sums of numbers of two words, bit lengths. No condition but those that each fact names; no program is spoken of.
  Contracts of math/bits' Len64, LeadingZeros64 and Mul64 at this program. Conditions: the arguments lie below 2^64.
  Plain facts on the division of two words by one, digit by digit (as math/bits.Div64 does it). No condition but those that each fact names; no program is spoken of.
-/
import Derived.Test.YtpbgolcimbjekaaGreatDoorRows
import Derived.WalkKit
import Derived.WalkSpells
import Derived.WalkLawsBesides
import Derived.Handy
import Derived.Deep.Light
import Derived.Laws.Bits64b
import Derived.Laws.MathBits
import Derived.Shelf.Bits.Mul64
namespace Go.Proofs.YtpbgolcimbjekaaGreatDoor
open Go.RowKit

set_option maxHeartbeats 400000 in
theorem of_any (u : Int) (w : World) :
    Calls Tryz.prog 84 #[.int .u64 u] w fun e w' => e = .returned (.agg #[.int .u64 0, .int .u64 u]) ∧ Below w.heap.size w w' := by
  go_enter Tryz.func84, Tryz.ntmps84
  go_wp2
  go_returns
  refine ⟨rfl, ?_⟩
  go_grown

def cmp (x y : Int) : Int := if x = y then 0 else if x < y then -1 else 1

set_option maxHeartbeats 400000 in
theorem compare_any (ah al bh bl : Int) (w : World) (a0 : 0 ≤ al) (a1 : al < 18446744073709551616) (b0 : 0 ≤ bl) (b1 : bl < 18446744073709551616) :
    Calls Tryz.prog 81 #[.agg #[.int .u64 ah, .int .u64 al], .agg #[.int .u64 bh, .int .u64 bl]] w fun e w' =>
      e = .returned (.int .i64 (cmp (ah * 18446744073709551616 + al) (bh * 18446744073709551616 + bl))) ∧ Below w.heap.size w w' := by
  go_enter Tryz.func81, Tryz.ntmps81
  go_wp2
  all_goals
    go_ret
    go_light
    refine ⟨congrArg Ending.returned (congrArg (Value.int IntKind.i64) ?_), by go_grown⟩
    unfold cmp
    first | rw [if_pos (by omega)] | rw [if_neg (by omega), if_pos (by omega)] | rw [if_neg (by omega), if_neg (by omega)]

end Go.Proofs.YtpbgolcimbjekaaGreatDoor

namespace Go.Proofs.YtpbgolcimbjekaaGreatDoor

/-- Two words down by n bits, n below 64: in Nat. -/
theorem right_nat (h a n : Nat) (_hh : h < 18446744073709551616) (ha : a < 18446744073709551616) (hn : n ≤ 64) :
    (a / 2 ^ n) ||| ((h * 2 ^ (64 - n)) % 18446744073709551616) < 18446744073709551616 ∧
    h / 2 ^ n * 18446744073709551616 + ((a / 2 ^ n) ||| ((h * 2 ^ (64 - n)) % 18446744073709551616)) = (h * 18446744073709551616 + a) / 2 ^ n := by
  have hp : 0 < 2 ^ n := Nat.two_pow_pos n
  have hq : 0 < 2 ^ (64 - n) := Nat.two_pow_pos _
  have e : 2 ^ n * 2 ^ (64 - n) = 18446744073709551616 := by
    rw [← Nat.pow_add, show n + (64 - n) = 64 by omega]
  generalize hP : 2 ^ n = p at *
  generalize hQ : 2 ^ (64 - n) = q at *
  have e1 : h * q % 18446744073709551616 = (h % p) * q := by rw [← e, Nat.mul_mod_mul_right]
  have e2 : a / p < q := by
    rw [Nat.div_lt_iff_lt_mul hp, Nat.mul_comm, e]; exact ha
  have e3 : (a / p) ||| ((h % p) * q) = (h % p) * q + a / p := by
    subst hQ
    rw [Nat.or_comm, Nat.mul_comm, ← Nat.two_pow_add_eq_or_of_lt e2]
  have e4 : (h * 18446744073709551616 + a) / p = h * q + a / p := by
    rw [← e, Nat.mul_left_comm, Nat.mul_add_div hp]
  have e5 : h = p * (h / p) + h % p := (Nat.div_add_mod h p).symm
  have e6 : h * q = h / p * 18446744073709551616 + (h % p) * q := by
    have : (p * (h / p) + h % p) * q = h / p * (p * q) + (h % p) * q := by
      rw [Nat.add_mul, Nat.mul_comm p (h / p), Nat.mul_assoc]
    rw [← e, ← this, ← e5]
  have e7 : (h % p) * q + a / p < 18446744073709551616 := by
    have h1 : h % p + 1 ≤ p := Nat.mod_lt h hp
    have h2 : (h % p + 1) * q ≤ p * q := Nat.mul_le_mul_right q h1
    rw [Nat.add_mul] at h2
    omega
  rw [e1, e3, e4, e6]
  omega

theorem len_end (k : Nat) (c y x : Int) (hc : c = k) (hk : k ≤ 56) (_y0 : 0 ≤ y) (y1 : y < 256) (hx : y.toNat = x.toNat / 2 ^ k) (hp : 1 ≤ y) :
    RowKit.wrap64 (c + RowKit.wrap64 ((bitLen y.toNat : Nat) : Int)) = (bitLen x.toNat : Int) := by
  have l := bitLen_le8 y.toNat (by omega)
  have s := bitLen_shift x.toNat k (by omega)
  rw [← hx] at s
  rw [s, hc]
  unfold RowKit.wrap64
  omega

theorem bitLen_le64 (x : Nat) (h : x < 18446744073709551616) : bitLen x ≤ 64 := by
  unfold bitLen
  split
  · omega
  · rename_i h0
    have := (Nat.log2_lt h0).2 (show x < 2 ^ 64 from h)
    omega

theorem len_end0 (x : Int) (_y0 : 0 ≤ x) (y1 : x < 256) :
    RowKit.wrap64 ((bitLen x.toNat : Nat) : Int) = (bitLen x.toNat : Int) := by
  have l := bitLen_le8 x.toNat (by omega)
  unfold RowKit.wrap64
  omega

end Go.Proofs.YtpbgolcimbjekaaGreatDoor

namespace Go.Proofs.YtpbgolcimbjekaaGreatDoor
open Go.RowKit

set_option maxHeartbeats 4000000 in
set_option maxRecDepth 100000 in
theorem len64_any (x : Int) (w : World) (h0 : 0 ≤ x) (h1 : x ≤ 18446744073709551615) :
    Calls Tryz.prog 101 #[.int .u64 x] w fun e w' => e = .returned (.int .i64 (bitLen x.toNat)) ∧ w' = w := by
  go_enter Tryz.func101, Tryz.ntmps101
  go_wp2
  all_goals (go_ret; refine ⟨congrArg Ending.returned (congrArg (Value.int IntKind.i64) ?_), rfl⟩; go_light)
  all_goals rw [len8tab_get]
  · exact len_end 56 56 _ x rfl (by omega) (by omega) (by omega) (by omega) (by omega)
  · exact len_end 48 48 _ x rfl (by omega) (by omega) (by omega) (by omega) (by omega)
  · exact len_end 40 40 _ x rfl (by omega) (by omega) (by omega) (by omega) (by omega)
  · exact len_end 32 32 _ x rfl (by omega) (by omega) (by omega) (by omega) (by omega)
  · exact len_end 24 24 _ x rfl (by omega) (by omega) (by omega) (by omega) (by omega)
  · exact len_end 16 16 _ x rfl (by omega) (by omega) (by omega) (by omega) (by omega)
  · exact len_end 8 8 _ x rfl (by omega) (by omega) (by omega) (by omega) (by omega)
  · rw [len_end0 x h0 (by omega), len_end0 x h0 (by omega)]

set_option maxHeartbeats 1000000 in
theorem lead_any (x : Int) (w : World) (h0 : 0 ≤ x) (h1 : x ≤ 18446744073709551615) :
    Calls Tryz.prog 98 #[.int .u64 x] w fun e w' => e = .returned (.int .i64 (64 - (bitLen x.toNat : Int))) ∧ w' = w := by
  have hb : bitLen x.toNat ≤ 64 := bitLen_le64 x.toNat (by omega)
  go_enter Tryz.func98, Tryz.ntmps98
  go_wp2_with (go_at_call 101; refine (len64_any _ _ (by omega) (by omega)).mono ?_; rintro e w' ⟨rfl, rfl⟩)
  go_ret
  exact ⟨rfl, rfl⟩

set_option maxHeartbeats 1000000 in
theorem mul64_any0 (x y : Nat) (hx : x < 18446744073709551616) (hy : y < 18446744073709551616) (w : World) :
    Calls Tryz.prog 96 #[.int .u64 x, .int .u64 y] w fun e w' => e = .returned (.tuple #[.int .u64 ((x * y / 18446744073709551616 : Nat) : Int), .int .u64 ((x * y % 18446744073709551616 : Nat) : Int)]) ∧ w' = w := by
  obtain ⟨bd, bt, bw, hhi⟩ := Lib.mul64_hi x y hx hy
  have ba := Lib.half_mul_le (a := x / 4294967296) (b := y / 4294967296) (by omega) (by omega)
  have bb := Lib.half_mul_le (a := x / 4294967296) (b := y % 4294967296) (by omega) (by omega)
  have bc := Lib.half_mul_le (a := x % 4294967296) (b := y / 4294967296) (by omega) (by omega)
  have ba' : x / 4294967296 * (y / 4294967296) < 18446744073709551616 := by omega
  have bb' : x / 4294967296 * (y % 4294967296) < 18446744073709551616 := by omega
  have bc' : x % 4294967296 * (y / 4294967296) < 18446744073709551616 := by omega
  have bh1 : x / 4294967296 * (y / 4294967296) + (x / 4294967296 * (y % 4294967296) + x % 4294967296 * (y % 4294967296) / 4294967296) / 4294967296 < 18446744073709551616 := by omega
  have bh : x / 4294967296 * (y / 4294967296) + (x / 4294967296 * (y % 4294967296) + x % 4294967296 * (y % 4294967296) / 4294967296) / 4294967296 + ((x / 4294967296 * (y % 4294967296) + x % 4294967296 * (y % 4294967296) / 4294967296) % 4294967296 + x % 4294967296 * (y / 4294967296)) / 4294967296 < 18446744073709551616 := by omega
  go_enter Tryz.func96, Tryz.ntmps96
  go_wp2
  simp only [Mul64.maskN x hx, Mul64.maskN y hy, Mul64.divN, Mul64.mulN, Mul64.addN, Mul64.wrapN _ bd, Mul64.wrapN _ bb', Mul64.wrapN _ bt, Mul64.maskN _ bt, Mul64.wrapN _ bc', Mul64.wrapN _ bw, Mul64.wrapN _ ba', Mul64.wrapN _ bh1, Mul64.wrapN _ bh, Mul64.wrapM (x * y)]
  rw [hhi]
  go_ret2
  exact ⟨rfl, rfl⟩

/-- Mul64, over Int: the product's upper half and its lower half. -/
theorem mul64_any (x y : Int) (x0 : 0 ≤ x) (hx : x < 18446744073709551616) (y0 : 0 ≤ y) (hy : y < 18446744073709551616) (w : World) :
    Calls Tryz.prog 96 #[.int .u64 x, .int .u64 y] w fun e w' => e = .returned (.tuple #[.int .u64 (x * y / 18446744073709551616), .int .u64 (x * y % 18446744073709551616)]) ∧ w' = w := by
  obtain ⟨a, rfl⟩ := Int.eq_ofNat_of_zero_le x0
  obtain ⟨b, rfl⟩ := Int.eq_ofNat_of_zero_le y0
  exact mul64_any0 a b (by omega) (by omega) w

end Go.Proofs.YtpbgolcimbjekaaGreatDoor

namespace Go.Proofs.YtpbgolcimbjekaaGreatDoor

/-- The digit's two bounds. -/
theorem kd_split (q Y Yh Yl : Int) (hY : Y = Yh * 4294967296 + Yl) : q * Y = (q * Yh) * 4294967296 + q * Yl := by
  rw [hY]; grind

theorem kd_more (U d Y Yh Yl Q q r : Int) (hY : Y = Yh * 4294967296 + Yl) (Y0 : 0 < Y) (hQ : Q * Y ≤ U * 4294967296 + d) (hq : q * Yh + r = U)
    (h : 4294967296 * r + d < q * Yl) : Q + 1 ≤ q := by
  have e := kd_split q Y Yh Yl hY
  have : Q * Y < q * Y := by omega
  have := Int.lt_of_mul_lt_mul_right this (by omega)
  omega

theorem kd_end (U d Y Yh Yl Q q r : Int) (hY : Y = Yh * 4294967296 + Yl) (Y0 : 0 < Y) (hQ : U * 4294967296 + d < (Q + 1) * Y) (hq : q * Yh + r = U)
    (h : q * Yl ≤ 4294967296 * r + d) (hge : Q ≤ q) : q = Q := by
  have e := kd_split q Y Yh Yl hY
  have : q * Y < (Q + 1) * Y := by omega
  have := Int.lt_of_mul_lt_mul_right this (by omega)
  omega

theorem kd_first (U d Y Yh Yl Q : Int) (hY : Y = Yh * 4294967296 + Yl) (Yl0 : 0 ≤ Yl) (Yh0 : 0 < Yh) (d1 : d < 4294967296) (Q0 : 0 ≤ Q) (hQ : Q * Y ≤ U * 4294967296 + d) : Q ≤ U / Yh := by
  have e := kd_split Q Y Yh Yl hY
  have p : 0 ≤ Q * Yl := Int.mul_nonneg Q0 Yl0
  have : Q * Yh ≤ U := by omega
  exact (Int.le_ediv_iff_mul_le Yh0).2 this

theorem kd_top (U Y Yh Yl : Int) (hY : Y = Yh * 4294967296 + Yl) (Yl1 : Yl < 4294967296) (Yh0 : 2147483648 ≤ Yh) (hU : U < Y) : U / Yh ≤ 4294967297 := by
  have : U / Yh < 4294967298 := Int.ediv_lt_of_lt_mul (by omega) (by omega)
  omega

theorem kd_low (q Yl r d : Int) (q1 : q ≤ 4294967296) (Yl0 : 0 ≤ Yl) (Yl1 : Yl < 4294967296) (hr : 4294967296 ≤ r) (d0 : 0 ≤ d) : q * Yl ≤ 4294967296 * r + d := by
  have : q * Yl ≤ 4294967296 * Yl := Int.mul_le_mul_of_nonneg_right q1 Yl0
  omega

theorem kd_rest (U Yh : Int) (Yh0 : 0 < Yh) : (U / Yh) * Yh + (U - (U / Yh) * Yh) = U ∧ 0 ≤ U - (U / Yh) * Yh ∧ U - (U / Yh) * Yh < Yh := by
  have a := Int.mul_ediv_add_emod U Yh
  have b := Int.emod_nonneg U (show Yh ≠ 0 by omega)
  have c := Int.emod_lt_of_pos U Yh0
  rw [Int.mul_comm] at a
  omega

theorem kd_prod (q Yl : Int) (q0 : 0 ≤ q) (q1 : q < 4294967296) (Yl0 : 0 ≤ Yl) (Yl1 : Yl < 4294967296) : 0 ≤ q * Yl ∧ q * Yl < 18446744073709551616 := by
  have a := Int.mul_nonneg q0 Yl0
  have b : q * Yl ≤ 4294967296 * Yl := Int.mul_le_mul_of_nonneg_right (by omega) Yl0
  omega

theorem kd_quot (U d Y : Int) (Y0 : 0 < Y) (hU : U < Y) (U0 : 0 ≤ U) (d0 : 0 ≤ d) (d1 : d < 4294967296) :
    ∃ Q R : Int, 0 ≤ Q ∧ Q < 4294967296 ∧ 0 ≤ R ∧ R < Y ∧ Q * Y ≤ U * 4294967296 + d ∧ U * 4294967296 + d < (Q + 1) * Y ∧ U * 4294967296 + d - Q * Y = R := by
  have a := Int.mul_ediv_add_emod (U * 4294967296 + d) Y
  have b := Int.emod_nonneg (U * 4294967296 + d) (show Y ≠ 0 by omega)
  have c := Int.emod_lt_of_pos (U * 4294967296 + d) Y0
  have q0 : 0 ≤ (U * 4294967296 + d) / Y := Int.ediv_nonneg (by omega) (by omega)
  have q1 : (U * 4294967296 + d) / Y < 4294967296 := Int.ediv_lt_of_lt_mul Y0 (by omega)
  have e : ((U * 4294967296 + d) / Y + 1) * Y = (U * 4294967296 + d) / Y * Y + Y := by rw [Int.add_mul]; omega
  rw [Int.mul_comm] at a
  exact ⟨(U * 4294967296 + d) / Y, (U * 4294967296 + d) % Y, q0, q1, b, c, by omega, by omega, by omega⟩

/-- The two digits are the quotient, and what is left, moved down, is the rest. -/
theorem kd_whole (N y p Y U L Lh Ll Q1 R1 Q0 R0 : Int) (hp : 0 < p) (hy : 0 < y) (hY : Y = y * p) (hN : N * p = U * 18446744073709551616 + L) (hL : L = Lh * 4294967296 + Ll)
    (e1 : U * 4294967296 + Lh - Q1 * Y = R1) (e0 : R1 * 4294967296 + Ll - Q0 * Y = R0) (r0 : 0 ≤ R0) (r1 : R0 < Y) :
    N / y = Q1 * 4294967296 + Q0 ∧ N % y = R0 / p := by
  have k : N * p = (Q1 * 4294967296 + Q0) * y * p + R0 := by
    have h1 : (Q1 * 4294967296 + Q0) * y * p = Q1 * Y * 4294967296 + Q0 * Y := by rw [hY]; grind
    omega
  have k2 : R0 = (N - (Q1 * 4294967296 + Q0) * y) * p := by rw [Int.sub_mul]; omega
  have a0 : 0 ≤ N - (Q1 * 4294967296 + Q0) * y := by
    have h1 : 0 * p ≤ (N - (Q1 * 4294967296 + Q0) * y) * p := by rw [← k2]; omega
    exact Int.le_of_mul_le_mul_right h1 hp
  have a1 : N - (Q1 * 4294967296 + Q0) * y < y := by
    have h1 : (N - (Q1 * 4294967296 + Q0) * y) * p < y * p := by rw [← k2, ← hY]; exact r1
    exact Int.lt_of_mul_lt_mul_right h1 (by omega)
  have k3 : R0 / p = N - (Q1 * 4294967296 + Q0) * y := by rw [k2]; exact Int.mul_ediv_cancel _ (by omega)
  have k4 : N / y = Q1 * 4294967296 + Q0 := by
    have h1 : N = (N - (Q1 * 4294967296 + Q0) * y) + (Q1 * 4294967296 + Q0) * y := by omega
    rw [h1, Int.add_mul_ediv_right _ _ (by omega), Int.ediv_eq_zero_of_lt a0 a1]
    omega
  refine ⟨k4, ?_⟩
  have a := Int.mul_ediv_add_emod N y
  rw [k4, Int.mul_comm] at a
  omega

/-- Two words up by s bits, where what goes out at the top is nothing. -/
theorem up_nat (h a s : Nat) (hs : s ≤ 64) (ha : a < 18446744073709551616) (hh : h * 2 ^ s < 18446744073709551616) :
    (h * 2 ^ s % 18446744073709551616) ||| (a / 2 ^ (64 - s)) = h * 2 ^ s + a / 2 ^ (64 - s) ∧
    (h * 18446744073709551616 + a) * 2 ^ s = (h * 2 ^ s + a / 2 ^ (64 - s)) * 18446744073709551616 + a * 2 ^ s % 18446744073709551616 := by
  have hp : 0 < 2 ^ s := Nat.two_pow_pos s
  have hq : 0 < 2 ^ (64 - s) := Nat.two_pow_pos _
  have e : 2 ^ (64 - s) * 2 ^ s = 18446744073709551616 := by
    rw [← Nat.pow_add, show 64 - s + s = 64 by omega]
  rw [Nat.mod_eq_of_lt hh]
  have e1 : a / 2 ^ (64 - s) < 2 ^ s := by
    rw [Nat.div_lt_iff_lt_mul hq, Nat.mul_comm, e]; exact ha
  refine ⟨?_, ?_⟩
  · rw [Nat.mul_comm, ← Nat.two_pow_add_eq_or_of_lt e1]
  · generalize hP : 2 ^ s = p at *
    generalize hQ : 2 ^ (64 - s) = q at *
    have e2 : a * p % (q * p) = (a % q) * p := Nat.mul_mod_mul_right ..
    rw [e] at e2
    rw [e2]
    have e3 : a = q * (a / q) + a % q := (Nat.div_add_mod a q).symm
    have e4 : a * p = a / q * 18446744073709551616 + (a % q) * p := by
      have : (q * (a / q) + a % q) * p = a / q * (q * p) + (a % q) * p := by
        rw [Nat.add_mul, Nat.mul_comm q (a / q), Nat.mul_assoc]
      rw [← e, ← this, ← e3]
    rw [Nat.add_mul, e4, Nat.add_mul, Nat.mul_right_comm]
    omega

/-- The divisor, moved up so that its top bit stands at the top. -/
theorem norm_nat (y : Nat) (y0 : 0 < y) (y1 : y < 18446744073709551616) :
    9223372036854775808 ≤ y * 2 ^ (64 - bitLen y) ∧ y * 2 ^ (64 - bitLen y) < 18446744073709551616 := by
  obtain ⟨h1, h2⟩ := bitLen_spec y
  have h3 := h2 (by omega)
  have h4 := bitLen_le64 y y1
  have h5 : 0 < bitLen y := by unfold bitLen; split <;> omega
  have hq : 0 < 2 ^ (64 - bitLen y) := Nat.two_pow_pos _
  have a1 : y * 2 ^ (64 - bitLen y) < 2 ^ bitLen y * 2 ^ (64 - bitLen y) := Nat.mul_lt_mul_of_pos_right h1 hq
  have a2 : 2 ^ (bitLen y - 1) * 2 ^ (64 - bitLen y) ≤ y * 2 ^ (64 - bitLen y) := Nat.mul_le_mul_right _ h3
  rw [← Nat.pow_add, show bitLen y + (64 - bitLen y) = 64 by omega] at a1
  rw [← Nat.pow_add, show bitLen y - 1 + (64 - bitLen y) = 63 by omega] at a2
  omega

end Go.Proofs.YtpbgolcimbjekaaGreatDoor
