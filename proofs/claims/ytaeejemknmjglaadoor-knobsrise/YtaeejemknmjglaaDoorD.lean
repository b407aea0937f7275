/-
  Plain facts on the division of two words by one, digit by digit (as math/bits.Div64 does it). No condition but those that each fact names; no program is spoken of.
-/
import Derived.Test.YtaeejemknmjglaaDoorM
namespace Go.Proofs.YtaeejemknmjglaaDoor

/-- The digit's two bounds. -/
theorem kd_split (q Y Yh Yl : Int) (hY : Y = Yh * 4294967296 + Yl) : q * Y = (q * Yh) * 4294967296 + q * Yl := by
  rw [hY]; grind

theorem kd_more (U d Y Yh Yl Q q r : Int) (hY : Y = Yh * 4294967296 + Yl) (Y0 : 0 < Y) (hQ : Q * Y ≤ U * 4294967296 + d) (hq : q * Yh + r = U)
    (h : 4294967296 * r + d < q * Yl) : Q + 1 ≤ q := by
  have e := kd_split q Y Yh Yl hY
  have : Q * Y < q * Y := by omega
  have := Int.lt_of_mul_lt_mul_right this (by omega)
  omega

theorem kd_end (U d Y Yh Yl Q q r : Int) (hY : Y = Yh * 4294967296 + Yl) (Y0 : 0 < Y) (hQ : U * 4294967296 + d < (Q + 1) * Y) (hq : q * Yh + r = U)
    (h : q * Yl ≤ 4294967296 * r + d) (hge : Q ≤ q) : q = Q := by
  have e := kd_split q Y Yh Yl hY
  have : q * Y < (Q + 1) * Y := by omega
  have := Int.lt_of_mul_lt_mul_right this (by omega)
  omega

theorem kd_first (U d Y Yh Yl Q : Int) (hY : Y = Yh * 4294967296 + Yl) (Yl0 : 0 ≤ Yl) (Yh0 : 0 < Yh) (d1 : d < 4294967296) (Q0 : 0 ≤ Q) (hQ : Q * Y ≤ U * 4294967296 + d) : Q ≤ U / Yh := by
  have e := kd_split Q Y Yh Yl hY
  have p : 0 ≤ Q * Yl := Int.mul_nonneg Q0 Yl0
  have : Q * Yh ≤ U := by omega
  exact (Int.le_ediv_iff_mul_le Yh0).2 this

theorem kd_top (U Y Yh Yl : Int) (hY : Y = Yh * 4294967296 + Yl) (Yl1 : Yl < 4294967296) (Yh0 : 2147483648 ≤ Yh) (hU : U < Y) : U / Yh ≤ 4294967297 := by
  have : U / Yh < 4294967298 := Int.ediv_lt_of_lt_mul (by omega) (by omega)
  omega

theorem kd_low (q Yl r d : Int) (q1 : q ≤ 4294967296) (Yl0 : 0 ≤ Yl) (Yl1 : Yl < 4294967296) (hr : 4294967296 ≤ r) (d0 : 0 ≤ d) : q * Yl ≤ 4294967296 * r + d := by
  have : q * Yl ≤ 4294967296 * Yl := Int.mul_le_mul_of_nonneg_right q1 Yl0
  omega

theorem kd_rest (U Yh : Int) (Yh0 : 0 < Yh) : (U / Yh) * Yh + (U - (U / Yh) * Yh) = U ∧ 0 ≤ U - (U / Yh) * Yh ∧ U - (U / Yh) * Yh < Yh := by
  have a := Int.mul_ediv_add_emod U Yh
  have b := Int.emod_nonneg U (show Yh ≠ 0 by omega)
  have c := Int.emod_lt_of_pos U Yh0
  rw [Int.mul_comm] at a
  omega

theorem kd_prod (q Yl : Int) (q0 : 0 ≤ q) (q1 : q < 4294967296) (Yl0 : 0 ≤ Yl) (Yl1 : Yl < 4294967296) : 0 ≤ q * Yl ∧ q * Yl < 18446744073709551616 := by
  have a := Int.mul_nonneg q0 Yl0
  have b : q * Yl ≤ 4294967296 * Yl := Int.mul_le_mul_of_nonneg_right (by omega) Yl0
  omega

theorem kd_quot (U d Y : Int) (Y0 : 0 < Y) (hU : U < Y) (U0 : 0 ≤ U) (d0 : 0 ≤ d) (d1 : d < 4294967296) :
    ∃ Q R : Int, 0 ≤ Q ∧ Q < 4294967296 ∧ 0 ≤ R ∧ R < Y ∧ Q * Y ≤ U * 4294967296 + d ∧ U * 4294967296 + d < (Q + 1) * Y ∧ U * 4294967296 + d - Q * Y = R := by
  have a := Int.mul_ediv_add_emod (U * 4294967296 + d) Y
  have b := Int.emod_nonneg (U * 4294967296 + d) (show Y ≠ 0 by omega)
  have c := Int.emod_lt_of_pos (U * 4294967296 + d) Y0
  have q0 : 0 ≤ (U * 4294967296 + d) / Y := Int.ediv_nonneg (by omega) (by omega)
  have q1 : (U * 4294967296 + d) / Y < 4294967296 := Int.ediv_lt_of_lt_mul Y0 (by omega)
  have e : ((U * 4294967296 + d) / Y + 1) * Y = (U * 4294967296 + d) / Y * Y + Y := by rw [Int.add_mul]; omega
  rw [Int.mul_comm] at a
  exact ⟨(U * 4294967296 + d) / Y, (U * 4294967296 + d) % Y, q0, q1, b, c, by omega, by omega, by omega⟩

/-- The two digits are the quotient, and what is left, moved down, is the rest. -/
theorem kd_whole (N y p Y U L Lh Ll Q1 R1 Q0 R0 : Int) (hp : 0 < p) (hy : 0 < y) (hY : Y = y * p) (hN : N * p = U * 18446744073709551616 + L) (hL : L = Lh * 4294967296 + Ll)
    (e1 : U * 4294967296 + Lh - Q1 * Y = R1) (e0 : R1 * 4294967296 + Ll - Q0 * Y = R0) (r0 : 0 ≤ R0) (r1 : R0 < Y) :
    N / y = Q1 * 4294967296 + Q0 ∧ N % y = R0 / p := by
  have k : N * p = (Q1 * 4294967296 + Q0) * y * p + R0 := by
    have h1 : (Q1 * 4294967296 + Q0) * y * p = Q1 * Y * 4294967296 + Q0 * Y := by rw [hY]; grind
    omega
  have k2 : R0 = (N - (Q1 * 4294967296 + Q0) * y) * p := by rw [Int.sub_mul]; omega
  have a0 : 0 ≤ N - (Q1 * 4294967296 + Q0) * y := by
    have h1 : 0 * p ≤ (N - (Q1 * 4294967296 + Q0) * y) * p := by rw [← k2]; omega
    exact Int.le_of_mul_le_mul_right h1 hp
  have a1 : N - (Q1 * 4294967296 + Q0) * y < y := by
    have h1 : (N - (Q1 * 4294967296 + Q0) * y) * p < y * p := by rw [← k2, ← hY]; exact r1
    exact Int.lt_of_mul_lt_mul_right h1 (by omega)
  have k3 : R0 / p = N - (Q1 * 4294967296 + Q0) * y := by rw [k2]; exact Int.mul_ediv_cancel _ (by omega)
  have k4 : N / y = Q1 * 4294967296 + Q0 := by
    have h1 : N = (N - (Q1 * 4294967296 + Q0) * y) + (Q1 * 4294967296 + Q0) * y := by omega
    rw [h1, Int.add_mul_ediv_right _ _ (by omega), Int.ediv_eq_zero_of_lt a0 a1]
    omega
  refine ⟨k4, ?_⟩
  have a := Int.mul_ediv_add_emod N y
  rw [k4, Int.mul_comm] at a
  omega

/-- Two words up by s bits, where what goes out at the top is nothing. -/
theorem up_nat (h a s : Nat) (hs : s ≤ 64) (ha : a < 18446744073709551616) (hh : h * 2 ^ s < 18446744073709551616) :
    (h * 2 ^ s % 18446744073709551616) ||| (a / 2 ^ (64 - s)) = h * 2 ^ s + a / 2 ^ (64 - s) ∧
    (h * 18446744073709551616 + a) * 2 ^ s = (h * 2 ^ s + a / 2 ^ (64 - s)) * 18446744073709551616 + a * 2 ^ s % 18446744073709551616 := by
  have hp : 0 < 2 ^ s := Nat.two_pow_pos s
  have hq : 0 < 2 ^ (64 - s) := Nat.two_pow_pos _
  have e : 2 ^ (64 - s) * 2 ^ s = 18446744073709551616 := by
    rw [← Nat.pow_add, show 64 - s + s = 64 by omega]
  rw [Nat.mod_eq_of_lt hh]
  have e1 : a / 2 ^ (64 - s) < 2 ^ s := by
    rw [Nat.div_lt_iff_lt_mul hq, Nat.mul_comm, e]; exact ha
  refine ⟨?_, ?_⟩
  · rw [Nat.mul_comm, ← Nat.two_pow_add_eq_or_of_lt e1]
  · generalize hP : 2 ^ s = p at *
    generalize hQ : 2 ^ (64 - s) = q at *
    have e2 : a * p % (q * p) = (a % q) * p := Nat.mul_mod_mul_right ..
    rw [e] at e2
    rw [e2]
    have e3 : a = q * (a / q) + a % q := (Nat.div_add_mod a q).symm
    have e4 : a * p = a / q * 18446744073709551616 + (a % q) * p := by
      have : (q * (a / q) + a % q) * p = a / q * (q * p) + (a % q) * p := by
        rw [Nat.add_mul, Nat.mul_comm q (a / q), Nat.mul_assoc]
      rw [← e, ← this, ← e3]
    rw [Nat.add_mul, e4, Nat.add_mul, Nat.mul_right_comm]
    omega

/-- The divisor, moved up so that its top bit stands at the top. -/
theorem norm_nat (y : Nat) (y0 : 0 < y) (y1 : y < 18446744073709551616) :
    9223372036854775808 ≤ y * 2 ^ (64 - bitLen y) ∧ y * 2 ^ (64 - bitLen y) < 18446744073709551616 := by
  obtain ⟨h1, h2⟩ := bitLen_spec y
  have h3 := h2 (by omega)
  have h4 := bitLen_le64 y y1
  have h5 : 0 < bitLen y := by unfold bitLen; split <;> omega
  have hq : 0 < 2 ^ (64 - bitLen y) := Nat.two_pow_pos _
  have a1 : y * 2 ^ (64 - bitLen y) < 2 ^ bitLen y * 2 ^ (64 - bitLen y) := Nat.mul_lt_mul_of_pos_right h1 hq
  have a2 : 2 ^ (bitLen y - 1) * 2 ^ (64 - bitLen y) ≤ y * 2 ^ (64 - bitLen y) := Nat.mul_le_mul_right _ h3
  rw [← Nat.pow_add, show bitLen y + (64 - bitLen y) = 64 by omega] at a1
  rw [← Nat.pow_add, show bitLen y - 1 + (64 - bitLen y) = 63 by omega] at a2
  omega

end Go.Proofs.YtaeejemknmjglaaDoor
