/-
  Plain facts on how the document's own Parse goes along a text: digits ahead of a point and behind it, and what rounding up comes to, digit by digit. No program is spoken of.
-/
import Derived.Test.YtpbgolcimbjekaaGreatDoorQ34
import Derived.Test.YtpbgolcimbjekaaGreatDoorQ28
namespace Go.Proofs.YtpbgolcimbjekaaGreatDoor

/-- Does the number end here? -/
abbrev stopB (p : Bool) (c : UInt8) : Prop := (c.toNat = 46 ∧ p = true) ∨ (c.toNat ≠ 46 ∧ isD c = false)
/-- The digits ahead of the point and those behind it; p: there was a point. -/
def sc : Bool → List UInt8 → List UInt8 × List UInt8
  | _, [] => ([], [])
  | p, c :: r => if stopB p c then ([], []) else if c.toNat = 46 then sc true r else if p = true then ([], c :: (sc true r).2) else (c :: (sc false r).1, (sc false r).2)
theorem sc_true : ∀ l, sc true l = ([], l.take (nend true l))
  | [] => rfl
  | c :: r => by
    by_cases h : stopB true c
    · rw [nend_stop h, sc, if_pos h]; rfl
    · have n : ¬ c.toNat = 46 := fun e => h (Or.inl ⟨e, rfl⟩)
      rw [nend_on h, sc, if_neg h, if_neg n, if_pos rfl, sc_true r]
      simp
theorem sc_false : ∀ l, sc false l = cutDot (l.take (nend false l))
  | [] => rfl
  | c :: r => by
    by_cases h : stopB false c
    · rw [nend_stop h, sc, if_pos h]; rfl
    · rw [nend_on h, sc, if_neg h, List.take_succ_cons, cutDot]
      by_cases n : c.toNat = 46
      · have e : c = 46 := by apply UInt8.toNat_inj.1; simpa using n
        rw [if_pos n, if_pos e, sc_true r]
        simp [n]
      · have e : ¬ c = 46 := by rintro rfl; exact n rfl
        rw [if_neg n, if_neg (by simp), if_neg e, sc_false r]
        simp [n]
theorem sc_stop {p : Bool} {c : UInt8} {r : List UInt8} (h : stopB p c) : sc p (c :: r) = ([], []) := by rw [sc, if_pos h]
theorem sc_dot {c : UInt8} {r : List UInt8} (h : c.toNat = 46) : sc false (c :: r) = ([], (sc true r).2) ∧ nend false (c :: r) = nend true r + 1 := by
  have h0 : ¬ stopB false c := by
    rintro (h1 | h1)
    · cases h1.2
    · exact h1.1 h
  rw [nend_on h0, sc, if_neg h0, if_pos h, sc_true r]
  simp [h]
theorem sc_dig {p : Bool} {c : UInt8} {r : List UInt8} (h : isD c = true) : nend p (c :: r) = nend p r + 1 ∧ (sc p (c :: r)).1.length + (sc p (c :: r)).2.length = (sc p r).1.length + (sc p r).2.length + 1 ∧
    (sc p (c :: r)).2.length = (sc p r).2.length + (if p = true then 1 else 0) ∧ ∀ V, dig (dig V (sc p (c :: r)).1) (sc p (c :: r)).2 = dig (dig (V * 10 + (c.toNat - 48)) (sc p r).1) (sc p r).2 := by
  have n := isD_46 h
  have h0 : ¬ stopB p c := by
    rintro (h1 | h1)
    · exact n h1.1
    · rw [h] at h1; cases h1.2
  rw [nend_on h0, sc, if_neg h0, if_neg n]
  cases p
  · simp [n, dig]
    omega
  · have e : (sc true r).1 = [] := by rw [sc_true]
    simp [n, dig, e]

theorem tens_up {N k : Nat} (k0 : k ≠ 0) : up N (10 ^ k) = N / 10 ^ k + (if N % 10 ^ k = 0 then 0 else 1) := by
  have v : 1 < 10 ^ k := by
    have : 10 ^ 1 ≤ 10 ^ k := Nat.pow_le_pow_right (by omega) (by omega)
    omega
  rw [up_eq v]
  split <;> simp
/-- One digit less: the rest, and what is left over. -/
theorem drop_dig {N k d : Nat} {r : List Nat} (h : val (d :: r) = N / 10 ^ k) (hd : d < 10) : val r = N / 10 ^ (k + 1) ∧ (N % 10 ^ (k + 1) = 0 ↔ N % 10 ^ k = 0 ∧ d = 0) := by
  rw [val] at h
  have e : N / 10 ^ (k + 1) = N / 10 ^ k / 10 := by rw [Nat.pow_succ, Nat.div_div_eq_div_mul]
  have p : 0 < 10 ^ k := Nat.pow_pos (by omega)
  refine ⟨by omega, ?_⟩
  have m : N % 10 ^ (k + 1) = N % 10 ^ k + 10 ^ k * (N / 10 ^ k % 10) := by rw [Nat.pow_succ, Nat.mod_mul]
  have d' : N / 10 ^ k % 10 = d := by omega
  rw [m, d']
  constructor
  · intro h0
    have h1 : 10 ^ k * d = 0 := by omega
    rcases Nat.mul_eq_zero.1 h1 with h2 | h2
    · omega
    · exact ⟨by omega, h2⟩
  · rintro ⟨h1, rfl⟩; omega
theorem drop_none {N k : Nat} (h : val [] = N / 10 ^ k) : val [] = N / 10 ^ (k + 1) ∧ (N % 10 ^ (k + 1) = 0 ↔ N % 10 ^ k = 0) := by
  have p : 0 < 10 ^ k := Nat.pow_pos (by omega)
  have l : N < 10 ^ k := by
    have h0 : N / 10 ^ k = 0 := h.symm
    exact (Nat.div_eq_zero_iff.1 h0).resolve_left (by omega)
  have l2 : N < 10 ^ (k + 1) := by rw [Nat.pow_succ]; omega
  rw [Nat.mod_eq_of_lt l, Nat.mod_eq_of_lt l2]
  exact ⟨by rw [Nat.div_eq_of_lt l2]; rfl, Iff.rfl⟩

end Go.Proofs.YtpbgolcimbjekaaGreatDoor
