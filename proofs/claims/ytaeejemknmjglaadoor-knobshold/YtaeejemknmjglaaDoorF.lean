/-
  Plain facts on numbers of two words: sums, differences, products, shifts. No condition but those that each fact names; no program is spoken of.
-/
import Derived.Test.YtaeejemknmjglaaDoorD
import Derived.Shelf.Spec.BitsCarry
namespace Go.Proofs.YtaeejemknmjglaaDoor

/-- The two words of a number. -/
def Wok (h l : Int) : Prop := 0 ≤ h ∧ h < 18446744073709551616 ∧ 0 ≤ l ∧ l < 18446744073709551616

theorem bitLen_le128 (x : Nat) (h : x < 340282366920938463463374607431768211456) : bitLen x ≤ 128 := by
  unfold bitLen
  split
  · omega
  · rename_i h0
    have := (Nat.log2_lt h0).2 (show x < 2 ^ 128 from h)
    omega

theorem bitLen_high (h l : Int) (h0 : 0 < h) (l0 : 0 ≤ l) (l1 : l < 18446744073709551616) : 64 + (bitLen h.toNat : Int) = (bitLen (h * 18446744073709551616 + l).toNat : Int) := by
  have e : (h * 18446744073709551616 + l).toNat / 2 ^ 64 = h.toNat := by omega
  have := bitLen_shift (h * 18446744073709551616 + l).toNat 64 (by omega)
  rw [e] at this
  omega

theorem right_low (ah al n : Int) (a0 : 0 ≤ al) (a1 : al < 18446744073709551616) (b0 : 0 ≤ ah) (b1 : ah < 18446744073709551616) (n0 : 0 ≤ n) (n1 : n < 64) :
    Wok (ah / 2 ^ n.toNat) (bits BinOp.or IntKind.u64 (al / 2 ^ n.toNat) (IntKind.u64.wrap (ah * 2 ^ (64 - n).toNat))) ∧
    ah / 2 ^ n.toNat * 18446744073709551616 + bits BinOp.or IntKind.u64 (al / 2 ^ n.toNat) (IntKind.u64.wrap (ah * 2 ^ (64 - n).toNat)) = (ah * 18446744073709551616 + al) / 2 ^ n.toNat := by
  obtain ⟨h, rfl⟩ := Int.eq_ofNat_of_zero_le b0
  obtain ⟨l, rfl⟩ := Int.eq_ofNat_of_zero_le a0
  obtain ⟨k, rfl⟩ := Int.eq_ofNat_of_zero_le n0
  have e1 : ((64 : Int) - k).toNat = 64 - k := by omega
  rw [e1, Int.toNat_natCast]
  have p : ∀ j : Nat, ((2 : Int) ^ j) = ((2 ^ j : Nat) : Int) := fun j => by simp
  rw [p, p, ← Int.natCast_ediv, ← Int.natCast_ediv, ← Int.natCast_mul, show IntKind.u64.wrap (((h * 2 ^ (64 - k) : Nat)) : Int) = ((h * 2 ^ (64 - k) % 18446744073709551616 : Nat) : Int) from by rw [IntKind.wrap_u64]; omega]
  obtain ⟨c1, c2⟩ := right_nat h l k (by omega) (by omega) (by omega)
  have hd := Nat.div_le_self l (2 ^ k)
  have hh := Nat.div_le_self h (2 ^ k)
  rw [bits_or_u64_nat _ _ (by omega) (Nat.mod_lt _ (by omega))]
  refine ⟨⟨by omega, by omega, by omega, by omega⟩, ?_⟩
  rw [show ((h : Int) * 18446744073709551616 + (l : Int)) = ((h * 18446744073709551616 + l : Nat) : Int) by simp, ← Int.natCast_ediv, ← c2]
  simp

theorem right_high (ah al n : Int) (a0 : 0 ≤ al) (a1 : al < 18446744073709551616) (b0 : 0 ≤ ah) (b1 : ah < 18446744073709551616) (n1 : 64 ≤ n) :
    Wok 0 (ah / 2 ^ min (n - 64).toNat 64) ∧ 0 * 18446744073709551616 + ah / 2 ^ min (n - 64).toNat 64 = (ah * 18446744073709551616 + al) / 2 ^ n.toNat := by
  obtain ⟨h, rfl⟩ := Int.eq_ofNat_of_zero_le b0
  obtain ⟨l, rfl⟩ := Int.eq_ofNat_of_zero_le a0
  have p : ∀ j : Nat, ((2 : Int) ^ j) = ((2 ^ j : Nat) : Int) := fun j => by simp
  obtain ⟨k, rfl⟩ := Int.eq_ofNat_of_zero_le (show 0 ≤ n by omega)
  obtain ⟨j, rfl⟩ : ∃ j, k = 64 + j := ⟨k - 64, by omega⟩
  rw [show (((64 + j : Nat) : Int) - 64).toNat = j by omega, Int.toNat_natCast, p, p, ← Int.natCast_ediv]
  have hh := Nat.div_le_self h (2 ^ min j 64)
  refine ⟨⟨by omega, by omega, Int.natCast_nonneg _, by omega⟩, ?_⟩
  rw [show ((h : Int) * 18446744073709551616 + (l : Int)) = ((h * 18446744073709551616 + l : Nat) : Int) by simp, ← Int.natCast_ediv, Nat.pow_add, ← Nat.div_div_eq_div_mul, show (h * 18446744073709551616 + l) / 2 ^ 64 = h by omega]
  by_cases hj : j ≤ 64
  · rw [Nat.min_eq_left hj]; omega
  · rw [Nat.min_eq_right (by omega), Nat.div_eq_of_lt (by omega), Nat.div_eq_of_lt]
    · simp
    · have : 2 ^ 64 ≤ 2 ^ j := Nat.pow_le_pow_right (by omega) (by omega)
      omega

theorem left_fits (V : Int) (n : Int) (hV : 0 < V) (n0 : 0 ≤ n) : ((bitLen V.toNat : Int) ≤ 128 - n ↔ V * 2 ^ n.toNat < 340282366920938463463374607431768211456) := by
  obtain ⟨v, rfl⟩ := Int.eq_ofNat_of_zero_le (show 0 ≤ V by omega)
  obtain ⟨k, rfl⟩ := Int.eq_ofNat_of_zero_le n0
  rw [Int.toNat_natCast, Int.toNat_natCast]
  have p : ((2 : Int) ^ k) = ((2 ^ k : Nat) : Int) := by simp
  rw [p, ← Int.natCast_mul]
  obtain ⟨h1, h2⟩ := bitLen_spec v
  have h3 := h2 (by omega)
  have h5 : 0 < bitLen v := by unfold bitLen; split <;> omega
  have hq : 0 < 2 ^ k := Nat.two_pow_pos _
  constructor
  · intro h
    have a1 : v * 2 ^ k < 2 ^ bitLen v * 2 ^ k := Nat.mul_lt_mul_of_pos_right h1 hq
    rw [← Nat.pow_add] at a1
    have a2 : 2 ^ (bitLen v + k) ≤ 2 ^ 128 := Nat.pow_le_pow_right (by omega) (by omega)
    omega
  · intro h
    refine Decidable.byContradiction fun hn => ?_
    have a1 : 2 ^ (bitLen v - 1) * 2 ^ k ≤ v * 2 ^ k := Nat.mul_le_mul_right _ h3
    rw [← Nat.pow_add] at a1
    have a2 : 2 ^ 128 ≤ 2 ^ (bitLen v - 1 + k) := Nat.pow_le_pow_right (by omega) (by omega)
    omega

theorem left_low (ah al n : Int) (a0 : 0 ≤ al) (a1 : al < 18446744073709551616) (b0 : 0 ≤ ah) (n0 : 0 ≤ n) (n1 : n < 64)
    (hf : (ah * 18446744073709551616 + al) * 2 ^ n.toNat < 340282366920938463463374607431768211456) :
    Wok (bits BinOp.or IntKind.u64 (IntKind.u64.wrap (ah * 2 ^ n.toNat)) (al / 2 ^ (64 - n).toNat)) (IntKind.u64.wrap (al * 2 ^ n.toNat)) ∧
    bits BinOp.or IntKind.u64 (IntKind.u64.wrap (ah * 2 ^ n.toNat)) (al / 2 ^ (64 - n).toNat) * 18446744073709551616 + IntKind.u64.wrap (al * 2 ^ n.toNat) = (ah * 18446744073709551616 + al) * 2 ^ n.toNat := by
  obtain ⟨h, rfl⟩ := Int.eq_ofNat_of_zero_le b0
  obtain ⟨l, rfl⟩ := Int.eq_ofNat_of_zero_le a0
  obtain ⟨k, rfl⟩ := Int.eq_ofNat_of_zero_le n0
  have e1 : ((64 : Int) - k).toNat = 64 - k := by omega
  rw [Int.toNat_natCast] at hf ⊢
  rw [e1]
  have p : ∀ j : Nat, ((2 : Int) ^ j) = ((2 ^ j : Nat) : Int) := fun j => by simp
  rw [show ((h : Int) * 18446744073709551616 + (l : Int)) = ((h * 18446744073709551616 + l : Nat) : Int) by simp] at hf ⊢
  rw [p, ← Int.natCast_mul] at hf
  have hw : ∀ a : Nat, IntKind.u64.wrap (a : Int) = ((a % 18446744073709551616 : Nat) : Int) := fun a => by rw [IntKind.wrap_u64]; omega
  rw [p, p, ← Int.natCast_ediv, ← Int.natCast_mul, ← Int.natCast_mul, ← Int.natCast_mul, hw, hw]
  have hh : h * 2 ^ k < 18446744073709551616 := by
    have : h * 2 ^ k * 18446744073709551616 ≤ (h * 18446744073709551616 + l) * 2 ^ k := by
      rw [Nat.mul_right_comm]; exact Nat.mul_le_mul_right _ (by omega)
    omega
  obtain ⟨c1, c2⟩ := up_nat h l k (by omega) (by omega) hh
  have hd := Nat.div_le_self l (2 ^ (64 - k))
  rw [bits_or_u64_nat _ _ (Nat.mod_lt _ (by omega)) (by omega), c1, c2]
  have hm : l * 2 ^ k % 18446744073709551616 < 18446744073709551616 := Nat.mod_lt _ (by omega)
  have hs : h * 2 ^ k + l / 2 ^ (64 - k) < 18446744073709551616 := by rw [c2] at hf; omega
  refine ⟨⟨by omega, by omega, by omega, by omega⟩, by simp⟩

theorem left_high (ah al n : Int) (a0 : 0 ≤ al) (b0 : 0 ≤ ah) (n1 : 64 ≤ n)
    (hf : (ah * 18446744073709551616 + al) * 2 ^ n.toNat < 340282366920938463463374607431768211456) :
    ah = 0 ∧ Wok (IntKind.u64.wrap (al * 2 ^ (n - 64).toNat)) 0 ∧ IntKind.u64.wrap (al * 2 ^ (n - 64).toNat) * 18446744073709551616 + 0 = (ah * 18446744073709551616 + al) * 2 ^ n.toNat := by
  obtain ⟨h, rfl⟩ := Int.eq_ofNat_of_zero_le b0
  obtain ⟨l, rfl⟩ := Int.eq_ofNat_of_zero_le a0
  have p : ∀ j : Nat, ((2 : Int) ^ j) = ((2 ^ j : Nat) : Int) := fun j => by simp
  obtain ⟨k, rfl⟩ := Int.eq_ofNat_of_zero_le (show 0 ≤ n by omega)
  obtain ⟨j, rfl⟩ : ∃ j, k = 64 + j := ⟨k - 64, by omega⟩
  rw [show (((64 + j : Nat) : Int) - 64).toNat = j by omega]
  rw [Int.toNat_natCast] at hf ⊢
  rw [show ((h : Int) * 18446744073709551616 + (l : Int)) = ((h * 18446744073709551616 + l : Nat) : Int) by simp] at hf ⊢
  simp only [p, ← Int.natCast_mul, Nat.pow_add] at hf ⊢
  have hq : 0 < 2 ^ j := Nat.two_pow_pos _
  have e : (h * 18446744073709551616 + l) * (2 ^ 64 * 2 ^ j) = (h * 2 ^ j * 18446744073709551616 + l * 2 ^ j) * 18446744073709551616 := by
    rw [show (2 : Nat) ^ 64 = 18446744073709551616 from rfl]; grind
  rw [e] at hf ⊢
  have hz : h = 0 := by
    have : h ≤ h * 2 ^ j := Nat.le_mul_of_pos_right _ hq
    omega
  subst hz
  rw [IntKind.wrap_u64]
  refine ⟨rfl, ⟨by omega, by omega, by omega, by omega⟩, by omega⟩

theorem add64_carry (x y c : Int) (hx : 0 ≤ x) (x1 : x < 18446744073709551616) (hy : 0 ≤ y) (y1 : y < 18446744073709551616) (hc0 : 0 ≤ c) (hc : c ≤ 1) :
    ∃ s k : Int, 0 ≤ s ∧ s < 18446744073709551616 ∧ 0 ≤ k ∧ k ≤ 1 ∧ s + k * 18446744073709551616 = x + y + c ∧ s = (x + y + c) % 18446744073709551616 ∧ k = (x + y + c) / 18446744073709551616 :=
  ⟨(x + y + c) % 18446744073709551616, (x + y + c) / 18446744073709551616, by omega, by omega, by omega, by omega, by omega, rfl, rfl⟩

theorem times_two (ah al u hi lo : Int) (p : Int) (hp : p = al * u / 18446744073709551616) (hlo : lo = al * u % 18446744073709551616) (hhi : hi = ah * u) :
    (ah * 18446744073709551616 + al) * u = (hi + p) * 18446744073709551616 + lo := by
  rw [Int.add_mul, Int.mul_right_comm, ← hhi]
  omega

end Go.Proofs.YtaeejemknmjglaaDoor
