/-
  Plain facts on numbers that the proofs of package wide lean on: shifts and sums of numbers of two words, bit lengths. No condition but those that each fact names; no program is spoken of.
-/
import Derived.Laws.Bits64b
import Derived.Laws.MathBits
import Derived.WalkKit
namespace Go.Proofs.Ytpefjcgccbfgbaa

/-- Two words down by n bits, n below 64: in Nat. -/
theorem right_nat (h a n : Nat) (_hh : h < 18446744073709551616) (ha : a < 18446744073709551616) (hn : n ≤ 64) :
    (a / 2 ^ n) ||| ((h * 2 ^ (64 - n)) % 18446744073709551616) < 18446744073709551616 ∧
    h / 2 ^ n * 18446744073709551616 + ((a / 2 ^ n) ||| ((h * 2 ^ (64 - n)) % 18446744073709551616)) = (h * 18446744073709551616 + a) / 2 ^ n := by
  have hp : 0 < 2 ^ n := Nat.two_pow_pos n
  have hq : 0 < 2 ^ (64 - n) := Nat.two_pow_pos _
  have e : 2 ^ n * 2 ^ (64 - n) = 18446744073709551616 := by
    rw [← Nat.pow_add, show n + (64 - n) = 64 by omega]
  generalize hP : 2 ^ n = p at *
  generalize hQ : 2 ^ (64 - n) = q at *
  have e1 : h * q % 18446744073709551616 = (h % p) * q := by rw [← e, Nat.mul_mod_mul_right]
  have e2 : a / p < q := by
    rw [Nat.div_lt_iff_lt_mul hp, Nat.mul_comm, e]; exact ha
  have e3 : (a / p) ||| ((h % p) * q) = (h % p) * q + a / p := by
    subst hQ
    rw [Nat.or_comm, Nat.mul_comm, ← Nat.two_pow_add_eq_or_of_lt e2]
  have e4 : (h * 18446744073709551616 + a) / p = h * q + a / p := by
    rw [← e, Nat.mul_left_comm, Nat.mul_add_div hp]
  have e5 : h = p * (h / p) + h % p := (Nat.div_add_mod h p).symm
  have e6 : h * q = h / p * 18446744073709551616 + (h % p) * q := by
    have : (p * (h / p) + h % p) * q = h / p * (p * q) + (h % p) * q := by
      rw [Nat.add_mul, Nat.mul_comm p (h / p), Nat.mul_assoc]
    rw [← e, ← this, ← e5]
  have e7 : (h % p) * q + a / p < 18446744073709551616 := by
    have h1 : h % p + 1 ≤ p := Nat.mod_lt h hp
    have h2 : (h % p + 1) * q ≤ p * q := Nat.mul_le_mul_right q h1
    rw [Nat.add_mul] at h2
    omega
  rw [e1, e3, e4, e6]
  omega

theorem len_end (k : Nat) (c y x : Int) (hc : c = k) (hk : k ≤ 56) (_y0 : 0 ≤ y) (y1 : y < 256) (hx : y.toNat = x.toNat / 2 ^ k) (hp : 1 ≤ y) :
    RowKit.wrap64 (c + RowKit.wrap64 ((bitLen y.toNat : Nat) : Int)) = (bitLen x.toNat : Int) := by
  have l := bitLen_le8 y.toNat (by omega)
  have s := bitLen_shift x.toNat k (by omega)
  rw [← hx] at s
  rw [s, hc]
  unfold RowKit.wrap64
  omega

theorem bitLen_le64 (x : Nat) (h : x < 18446744073709551616) : bitLen x ≤ 64 := by
  unfold bitLen
  split
  · omega
  · rename_i h0
    have := (Nat.log2_lt h0).2 (show x < 2 ^ 64 from h)
    omega

theorem len_end0 (x : Int) (_y0 : 0 ≤ x) (y1 : x < 256) :
    RowKit.wrap64 ((bitLen x.toNat : Nat) : Int) = (bitLen x.toNat : Int) := by
  have l := bitLen_le8 x.toNat (by omega)
  unfold RowKit.wrap64
  omega

end Go.Proofs.Ytpefjcgccbfgbaa
