/-
  Plain facts on numbers of sixteen-bit digits, the least first: what twenty of them make. No condition but those that each fact names; no program is spoken of.
-/
import Derived.Test.YtaeejemknmjglaaDoorM
namespace Go.Proofs.YtaeejemknmjglaaDoor

/-- What the n least digits make. -/
def sv (D : Nat → Int) : Nat → Int
  | 0 => 0
  | n + 1 => sv D n + D n * 65536 ^ n
def Digs (D : Nat → Int) : Prop := ∀ i, 0 ≤ D i ∧ D i < 65536

theorem pow_pos16 (n : Nat) : (0 : Int) < 65536 ^ n := Int.pow_pos (by omega)
theorem sv_nonneg (D : Nat → Int) (h : Digs D) (n : Nat) : 0 ≤ sv D n := by
  induction n with
  | zero => simp [sv]
  | succ n ih =>
    have := Int.mul_nonneg (h n).1 (Int.le_of_lt (pow_pos16 n))
    simp only [sv]; omega
theorem sv_lt (D : Nat → Int) (h : Digs D) (n : Nat) : sv D n < 65536 ^ n := by
  induction n with
  | zero => simp [sv]
  | succ n ih =>
    have a : D n * 65536 ^ n ≤ 65535 * 65536 ^ n := Int.mul_le_mul_of_nonneg_right (by have := (h n).2; omega) (Int.le_of_lt (pow_pos16 n))
    simp only [sv, Int.pow_succ]
    omega
theorem sv_congr (D E : Nat → Int) (n : Nat) (h : ∀ i, i < n → D i = E i) : sv D n = sv E n := by
  induction n with
  | zero => rfl
  | succ n ih => simp only [sv]; rw [ih (fun i hi => h i (by omega)), h n (by omega)]

/-- The digits of a number of two words. -/
def od (ah al : Int) (i : Nat) : Int := if i < 4 then al / 65536 ^ i % 65536 else if i < 8 then ah / 65536 ^ (i - 4) % 65536 else 0
theorem od_digs (ah al : Int) : Digs (od ah al) := by
  intro i
  unfold od
  split
  · exact ⟨Int.emod_nonneg _ (by omega), Int.emod_lt_of_pos _ (by omega)⟩
  · split
    · exact ⟨Int.emod_nonneg _ (by omega), Int.emod_lt_of_pos _ (by omega)⟩
    · omega
theorem od_sv (ah al : Int) (a0 : 0 ≤ al) (a1 : al < 18446744073709551616) (b0 : 0 ≤ ah) (b1 : ah < 18446744073709551616) : sv (od ah al) 20 = ah * 18446744073709551616 + al := by
  simp only [sv, od]
  simp
  omega

/-- Sums with their carries. -/
def carry (d e : Nat → Int) : Nat → Int
  | 0 => 0
  | n + 1 => (carry d e n + d n + e n) / 65536
def psum (d e : Nat → Int) (i : Nat) : Int := (carry d e i + d i + e i) % 65536
theorem carry_bd (d e : Nat → Int) (hd : Digs d) (he : Digs e) (n : Nat) : 0 ≤ carry d e n ∧ carry d e n ≤ 1 := by
  induction n with
  | zero => simp [carry]
  | succ n ih =>
    have a := hd n; have b := he n
    simp only [carry]; omega
theorem psum_digs (d e : Nat → Int) : Digs (psum d e) := fun _ => ⟨Int.emod_nonneg _ (by omega), Int.emod_lt_of_pos _ (by omega)⟩
theorem psum_sv (d e : Nat → Int) (n : Nat) : sv (psum d e) n + carry d e n * 65536 ^ n = sv d n + sv e n := by
  induction n with
  | zero => simp [sv, carry]
  | succ n ih =>
    simp only [sv, carry, psum, Int.pow_succ]
    have k := Int.mul_ediv_add_emod (carry d e n + d n + e n) 65536
    generalize (carry d e n + d n + e n) / 65536 = q at *
    generalize hr : (carry d e n + d n + e n) % 65536 = r at *
    have e1 : r * 65536 ^ n + q * (65536 ^ n * 65536) = (carry d e n + d n + e n) * 65536 ^ n := by rw [← k]; grind
    have e2 : (carry d e n + d n + e n) * 65536 ^ n = carry d e n * 65536 ^ n + d n * 65536 ^ n + e n * 65536 ^ n := by grind
    have e3 : sv (fun i => (carry d e i + d i + e i) % 65536) n = sv (psum d e) n := rfl
    rw [e3] at *
    omega

/-- The first place, from the top, where two differ, tells which is less. -/
theorem sv_less (d e : Nat → Int) (hd : Digs d) (he : Digs e) (n k : Nat) (hk : k < n) (heq : ∀ i, k < i → i < n → d i = e i) (hl : d k < e k) : sv d n < sv e n := by
  induction n with
  | zero => omega
  | succ n ih =>
    simp only [sv]
    by_cases hkn : k = n
    · subst hkn
      have a := sv_lt d hd k
      have b := sv_nonneg e he k
      have c : (d k + 1) * 65536 ^ k ≤ e k * 65536 ^ k := Int.mul_le_mul_of_nonneg_right (by omega) (Int.le_of_lt (pow_pos16 k))
      rw [Int.add_mul] at c
      omega
    · have := ih (by omega) (fun i h1 h2 => heq i h1 (by omega))
      rw [heq n (by omega) (by omega)]
      omega
theorem sv_inj (d e : Nat → Int) (hd : Digs d) (he : Digs e) : ∀ n, sv d n = sv e n → ∀ i, i < n → d i = e i := by
  intro n
  induction n with
  | zero => intro _ i hi; omega
  | succ n ih =>
    intro h i hi
    have top : d n = e n := by
      rcases Int.lt_trichotomy (d n) (e n) with c | c | c
      · have := sv_less d e hd he (n + 1) n (by omega) (fun i h1 h2 => by omega) c; omega
      · exact c
      · have := sv_less e d he hd (n + 1) n (by omega) (fun i h1 h2 => by omega) c; omega
    simp only [sv, top] at h
    by_cases hi2 : i = n
    · rw [hi2]; exact top
    · exact ih (by omega) i (by omega)

/-- Differences with what they borrow. -/
def bor (d e : Nat → Int) : Nat → Int
  | 0 => 0
  | n + 1 => 1 - (d n + 65536 - e n - bor d e n) / 65536
def pdif (d e : Nat → Int) (i : Nat) : Int := (d i + 65536 - e i - bor d e i) % 65536
theorem bor_bd (d e : Nat → Int) (hd : Digs d) (he : Digs e) (n : Nat) : 0 ≤ bor d e n ∧ bor d e n ≤ 1 := by
  induction n with
  | zero => simp [bor]
  | succ n ih =>
    have a := hd n; have b := he n
    simp only [bor]; omega
theorem pdif_digs (d e : Nat → Int) : Digs (pdif d e) := fun _ => ⟨Int.emod_nonneg _ (by omega), Int.emod_lt_of_pos _ (by omega)⟩
theorem pdif_sv0 (d e : Nat → Int) (n : Nat) : sv (pdif d e) n = sv d n - sv e n + bor d e n * 65536 ^ n := by
  induction n with
  | zero => simp [sv, bor]
  | succ n ih =>
    simp only [sv, bor, Int.pow_succ]
    rw [ih]
    have k := Int.mul_ediv_add_emod (d n + 65536 - e n - bor d e n) 65536
    have hp : pdif d e n = (d n + 65536 - e n - bor d e n) % 65536 := rfl
    rw [hp]
    generalize (d n + 65536 - e n - bor d e n) / 65536 = q at *
    generalize (d n + 65536 - e n - bor d e n) % 65536 = r at *
    have e1 : r = d n + 65536 - e n - bor d e n - 65536 * q := by omega
    rw [e1]
    grind
theorem pdif_sv (d e : Nat → Int) (hd : Digs d) (he : Digs e) (n : Nat) (h : sv e n ≤ sv d n) : sv (pdif d e) n = sv d n - sv e n := by
  have a := pdif_sv0 d e n
  have b := bor_bd d e hd he n
  have c := sv_lt (pdif d e) (pdif_digs d e) n
  have p := pow_pos16 n
  have z : bor d e n = 0 := by
    refine Decidable.byContradiction fun hn => ?_
    have : bor d e n = 1 := by omega
    rw [this] at a
    omega
  rw [a, z]
  omega

/-- Digits read from the top. -/
def tp (d : Nat → Int) (o : Nat) : Nat → Int
  | 0 => 0
  | k + 1 => tp d o k * 65536 + d (o + 3 - k)
theorem tp_bd (d : Nat → Int) (o : Nat) (hd : Digs d) (k : Nat) : 0 ≤ tp d o k ∧ tp d o k < 65536 ^ k := by
  induction k with
  | zero => simp [tp]
  | succ k ih =>
    have a := hd (o + 3 - k)
    simp only [tp, Int.pow_succ]
    omega
theorem sv_eight (d : Nat → Int) : sv d 8 = tp d 4 4 * 18446744073709551616 + tp d 0 4 := by
  simp [sv, tp]
  omega
theorem sv_zero_up (d : Nat → Int) (n : Nat) (h : ∀ i, 8 ≤ i → i < n → d i = 0) (hn : 8 ≤ n) : sv d n = sv d 8 := by
  induction n with
  | zero => omega
  | succ n ih =>
    by_cases e : n + 1 = 8
    · rw [e]
    · have e1 : sv d (n + 1) = sv d n + d n * 65536 ^ n := rfl
      rw [e1, ih (fun i h1 h2 => h i h1 (by omega)) (by omega), h n (by omega) (by omega)]; omega
theorem sv_big (d : Nat → Int) (hd : Digs d) (n i : Nat) (h8 : 8 ≤ i) (hi : i < n) (h : d i ≠ 0) : 340282366920938463463374607431768211456 ≤ sv d n := by
  induction n with
  | zero => omega
  | succ n ih =>
    simp only [sv]
    have q := sv_nonneg d hd n
    have m := Int.mul_nonneg (hd n).1 (Int.le_of_lt (pow_pos16 n))
    by_cases e : i = n
    · subst e
      have p : (65536 : Int) ^ 8 ≤ 65536 ^ i := by
        have a : (65536 : Nat) ^ 8 ≤ 65536 ^ i := Nat.pow_le_pow_right (by omega) h8
        have b : ∀ k : Nat, (65536 : Int) ^ k = ((65536 ^ k : Nat) : Int) := fun k => by simp
        rw [b, b]; omega
      have c : 1 * (65536 : Int) ^ i ≤ d i * 65536 ^ i := Int.mul_le_mul_of_nonneg_right (by have := (hd i).1; omega) (Int.le_of_lt (pow_pos16 i))
      omega
    · have := ih (by omega)
      omega

end Go.Proofs.YtaeejemknmjglaaDoor
