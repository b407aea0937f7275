/-
  Both texts of an amount mean that amount: plain facts on the functions of VE. No program is spoken of.
-/
import Derived.Test.YtpbgolcimbjekaaGreatDoorVL
namespace Go.Proofs.YtpbgolcimbjekaaGreatDoor

theorem isD_dig (k : Nat) (h : k < 10) : isD (UInt8.ofNat (48 + k)) = true ∧ (UInt8.ofNat (48 + k)).toNat - 48 = k := by
  have : (UInt8.ofNat (48 + k)).toNat = 48 + k := by
    rw [UInt8.toNat_ofNat']
    omega
  unfold isD
  rw [this]
  exact ⟨by simp; omega, by omega⟩
theorem decF_digits : ∀ (k a : Nat), ∀ c ∈ decF k a, isD c = true
  | 0, a, c, h => by simp [decF] at h
  | k + 1, a, c, h => by
    rw [decF_succ] at h
    split at h
    · rename_i k
      rw [List.mem_singleton.1 h]
      exact (isD_dig a k).1
    · rcases List.mem_append.1 h with h | h
      · exact decF_digits k _ c h
      · rw [List.mem_singleton.1 h]
        exact (isD_dig (a % 10) (by omega)).1
theorem decF_val : ∀ (k a : Nat), a < 10 ^ (k + 1) → dig 0 (decF (k + 1) a) = a
  | 0, a, h => by
    rw [decF_succ, if_pos (by simpa using h)]
    have := (isD_dig a (by simpa using h)).2
    simpa [dig] using this
  | k + 1, a, h => by
    rw [decF_succ]
    by_cases c : a < 10
    · rw [if_pos c]
      have := (isD_dig a c).2
      simpa [dig] using this
    · rw [if_neg c, dig_snoc, decF_val k (a / 10) (by rw [Nat.pow_succ] at h; omega), (isD_dig (a % 10) (by omega)).2]
      omega
theorem dec_digits (a : Nat) : ∀ c ∈ dec a, isD c = true := decF_digits 39 a
theorem dec_val (a : Nat) (h : a < 340282366920938463463374607431768211456) : dig 0 (dec a) = a := by
  unfold dec
  exact decF_val 38 a (by have : (10 : Nat) ^ 39 = 1000000000000000000000000000000000000000 := by decide
                          omega)
theorem dec_short (a : Nat) (h : a ≤ most) : (dec a).length ≤ 28 := by
  have : (10 : Nat) ^ 28 = 10000000000000000000000000000 := by decide
  rw [← decF_dec a 11 27 rfl (by unfold most at h; omega)]
  exact decF_len 28 a
theorem dec_ne (a : Nat) : dec a ≠ [] := by
  unfold dec
  rw [decF_succ]
  split <;> simp

theorem isD_46 {c : UInt8} (h : isD c = true) : c.toNat ≠ 46 := by
  unfold isD at h
  have := of_decide_eq_true h
  omega
theorem nend_app (suf : List UInt8) (hs : nend false suf = 0) : ∀ D : List UInt8, (∀ c ∈ D, isD c = true) → nend false (D ++ suf) = D.length
  | [], _ => by simpa using hs
  | c :: r, h => by
    have hc := h c (by simp)
    have n := isD_46 hc
    rw [List.cons_append, nend_on (by simp [n, hc]), show (false || decide (c.toNat = 46)) = false by simp [n], nend_app suf hs r (fun x hx => h x (by simp [hx]))]
    simp
theorem cut_plain : ∀ D : List UInt8, (∀ c ∈ D, isD c = true) → cutDot D = (D, [])
  | [], _ => rfl
  | c :: r, h => by
    have n := isD_46 (h c (by simp))
    rw [cutDot, if_neg (by rintro rfl; exact n rfl), cut_plain r (fun x hx => h x (by simp [hx]))]

theorem parse_of {D suf : List UInt8} {t : Nat} {n : Int} {v : Nat} (hd : ∀ c ∈ D, isD c = true) (h0 : D ≠ []) (hl : D.length ≤ 28) (hs : nend false suf = 0) (hp : pow suf = some (t, n)) (hv : scal (dig 0 D) t (n + 9) = v) (hm : v ≤ most) :
    parseL (D ++ suf) = (v, 0) := by
  have e := nend_app suf hs D hd
  have e1 : (D ++ suf).take D.length = D := by simp
  have e2 : (D ++ suf).drop D.length = suf := by simp
  unfold parseL
  rw [if_neg (by simp [h0]), e, e1, e2, hp, cut_plain D hd]
  have e3 : dig (dig 0 D) [] = dig 0 D := rfl
  have e4 : n + 9 - (([] : List UInt8).length : Int) = n + 9 := by simp
  simp only [e3, e4, hv]
  rw [if_neg (by simp [h0]), if_neg (by simp; omega), if_pos hm]

theorem decs_pow (t : Nat) (h : t < 10) : pow (decs.getD t []) = some (0, 3 * (t : Int) - 9) ∧ nend false (decs.getD t []) = 0 := by
  match t, h with
  | 0, _ => decide +kernel
  | 1, _ => decide +kernel
  | 2, _ => decide +kernel
  | 3, _ => decide +kernel
  | 4, _ => decide +kernel
  | 5, _ => decide +kernel
  | 6, _ => decide +kernel
  | 7, _ => decide +kernel
  | 8, _ => decide +kernel
  | 9, _ => decide +kernel
theorem bins_pow (t : Nat) (h : t < 6) : pow (bins.getD t []) = some (10 * (t + 1), 0) ∧ nend false (bins.getD t []) = 0 := by
  match t, h with
  | 0, _ => decide +kernel
  | 1, _ => decide +kernel
  | 2, _ => decide +kernel
  | 3, _ => decide +kernel
  | 4, _ => decide +kernel
  | 5, _ => decide +kernel

theorem sh_val (v : Nat) (v0 : 0 < v) : ∀ (k a t : Nat), t ≤ (sh v k a t).2 ∧ (sh v k a t).1 * v ^ ((sh v k a t).2 - t) = a ∧ (sh v k a t).1 ≤ a
  | 0, a, t => by simp [sh]
  | k + 1, a, t => by
    rw [sh]
    split
    · rename_i h
      obtain ⟨h1, h2, h3⟩ := sh_val v v0 k (a / v) (t + 1)
      refine ⟨by omega, ?_, Nat.le_trans h3 (Nat.div_le_self _ _)⟩
      rw [show (sh v k (a / v) (t + 1)).2 - t = ((sh v k (a / v) (t + 1)).2 - (t + 1)) + 1 by omega, Nat.pow_succ, ← Nat.mul_assoc, h2]
      exact Nat.div_mul_cancel (Nat.dvd_of_mod_eq_zero h)
    · simp

theorem text_back (a : Nat) (h : a ≤ most) : parseL (textL a) = (a, 0) ∧ textL a ≠ [] := by
  unfold textL
  rw [if_pos h]
  by_cases z : a = 0
  · rw [if_pos z, z]
    exact ⟨by decide +kernel, by simp⟩
  · rw [if_neg z]
    obtain ⟨R, t, hR⟩ : ∃ R t, sh 1000 9 a 0 = (R, t) := ⟨_, _, rfl⟩
    have s1 := sh_le 1000 9 a 0
    obtain ⟨-, s2, s3⟩ := sh_val 1000 (by omega) 9 a 0
    rw [hR] at s1 s2 s3 ⊢
    simp only at s1 s2 s3 ⊢
    obtain ⟨p1, p2⟩ := decs_pow t (by omega)
    have lt : R < 340282366920938463463374607431768211456 := by unfold most at h; omega
    refine ⟨parse_of (dec_digits R) (dec_ne R) (dec_short R (by omega)) p2 p1 ?_ h, by simp [dec_ne]⟩
    rw [dec_val R lt]
    unfold scal
    rw [if_pos (by omega), show (3 * (t : Int) - 9 + 9).toNat = 3 * t by omega, Nat.pow_mul]
    simpa using s2

theorem bin_back (a : Nat) (h : a ≤ most) : parseL (binL a) = (a, 0) := by
  unfold binL
  rw [if_pos h]
  by_cases z : a % 1000000000 ≠ 0 ∨ a / 1000000000 = 0
  · rw [if_pos z]; exact (text_back a h).1
  · rw [if_neg z]
    obtain ⟨R, t, hR⟩ : ∃ R t, sh 1024 6 (a / 1000000000) 0 = (R, t) := ⟨_, _, rfl⟩
    have s1 := sh_le 1024 6 (a / 1000000000) 0
    obtain ⟨-, s2, s3⟩ := sh_val 1024 (by omega) 6 (a / 1000000000) 0
    rw [hR] at s1 s2 s3 ⊢
    simp only at s1 s2 s3 ⊢
    by_cases c : t = 0
    · rw [if_pos c]; exact (text_back a h).1
    · rw [if_neg c]
      obtain ⟨k, rfl⟩ : ∃ k, t = k + 1 := ⟨t - 1, by omega⟩
      rw [show k + 1 - 1 = k by omega]
      obtain ⟨p1, p2⟩ := bins_pow k (by omega)
      have lt : R < 340282366920938463463374607431768211456 := by unfold most at h; omega
      refine parse_of (dec_digits R) (dec_ne R) (dec_short R (by omega)) p2 p1 ?_ h
      rw [dec_val R lt]
      unfold scal
      rw [if_pos (by omega), show ((0 : Int) + 9).toNat = 9 by omega, Nat.pow_mul, Nat.mul_right_comm]
      have e : (2 : Nat) ^ 10 = 1024 := by decide
      have e' : (10 : Nat) ^ 9 = 1000000000 := by decide
      rw [e, e']
      simp only [Nat.sub_zero] at s2
      rw [s2]
      omega

end Go.Proofs.YtpbgolcimbjekaaGreatDoor
