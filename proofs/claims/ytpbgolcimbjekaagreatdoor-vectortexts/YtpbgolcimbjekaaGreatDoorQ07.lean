/-
  What a text means as an amount, by plain functions on lists of letters: where its number ends, its two parts, its suffix, its value; and an amount's texts. No program is spoken of.
-/
import Derived.Test.YtpbgolcimbjekaaGreatDoorQ06
namespace Go.Proofs.YtpbgolcimbjekaaGreatDoor

def isD (c : UInt8) : Bool := decide (48 ≤ c.toNat ∧ c.toNat ≤ 57)
/-- Where the digits, and a point among them, end; p: there was a point. -/
def nend : Bool → List UInt8 → Nat
  | _, [] => 0
  | p, c :: r => if (c.toNat = 46 ∧ p = true) ∨ (c.toNat ≠ 46 ∧ isD c = false) then 0 else nend (p || decide (c.toNat = 46)) r + 1
/-- What is ahead of the first point, and what is behind it. -/
def cutDot : List UInt8 → List UInt8 × List UInt8
  | [] => ([], [])
  | c :: r => if c = 46 then ([], r) else (c :: (cutDot r).1, (cutDot r).2)
/-- Digits behind a number. -/
def dig (a : Nat) (l : List UInt8) : Nat := l.foldl (fun v c => v * 10 + (c.toNat - 48)) a
/-- The suffixes. -/
def decs : List (List UInt8) := [[110], [117], [109], [], [107], [77], [71], [84], [80], [69]]
def bins : List (List UInt8) := [[75, 105], [77, 105], [71, 105], [84, 105], [80, 105], [69, 105]]
/-- One or two digits. -/
def two (l : List UInt8) : Option Nat := if 1 ≤ l.length ∧ l.length ≤ 2 ∧ ∀ c ∈ l, isD c = true then some (dig 0 l) else none
/-- A sign: is it below nought, and what is behind it. -/
def sgn : List UInt8 → Bool × List UInt8
  | [] => (false, [])
  | d :: t => if d = 45 then (true, t) else if d = 43 then (false, t) else (false, d :: t)
/-- An exponent. -/
def expo : List UInt8 → Option Int
  | [] => none
  | c :: r => if c.toNat ≠ 101 ∧ c.toNat ≠ 69 then none else (two (sgn r).2).map fun n => if (sgn r).1 = true then -(n : Int) else (n : Int)
/-- A list's first place of a text. -/
def place : List (List UInt8) → List UInt8 → Option Nat
  | [], _ => none
  | x :: r, l => if l = x then some 0 else (place r l).map (· + 1)
/-- What a suffix means: powers of two and of ten. -/
def pow (l : List UInt8) : Option (Nat × Int) :=
  match place decs l with
  | some i => some (0, 3 * (i : Int) - 9)
  | none => match place bins l with
    | some i => some (10 * (i + 1), 0)
    | none => (expo l).map fun n => (0, n)
/-- m times 2^t times 10^n, rounded up. -/
def scal (m t : Nat) (n : Int) : Nat := if 0 ≤ n then m * 10 ^ n.toNat * 2 ^ t else up (m * 2 ^ t) (10 ^ (-n).toNat)
/-- What a text is: an amount, and no error; or nothing and the error. -/
def parseL (l : List UInt8) : Nat × Int :=
  if l = [] then (0, 10) else
  match pow (l.drop (nend false l)) with
  | none => (0, 11)
  | some (t, n) =>
    if (cutDot (l.take (nend false l))).1 = [] ∧ (cutDot (l.take (nend false l))).2 = [] then (0, 11) else
    if 28 < (cutDot (l.take (nend false l))).1.length + (cutDot (l.take (nend false l))).2.length then (0, 12) else
    if scal (dig (dig 0 (cutDot (l.take (nend false l))).1) (cutDot (l.take (nend false l))).2) t (n + 9 - (cutDot (l.take (nend false l))).2.length) ≤ most then
      (scal (dig (dig 0 (cutDot (l.take (nend false l))).1) (cutDot (l.take (nend false l))).2) t (n + 9 - (cutDot (l.take (nend false l))).2.length), 0)
    else (0, 15)

/-- An amount's texts. -/
def textL (a : Nat) : List UInt8 := if a ≤ most then (if a = 0 then [48] else dec (sh 1000 9 a 0).1 ++ decs.getD (sh 1000 9 a 0).2 []) else []
def binL (a : Nat) : List UInt8 :=
  if a ≤ most then
    (if a % 1000000000 ≠ 0 ∨ a / 1000000000 = 0 then textL a else
      if (sh 1024 6 (a / 1000000000) 0).2 = 0 then textL a else dec (sh 1024 6 (a / 1000000000) 0).1 ++ bins.getD ((sh 1024 6 (a / 1000000000) 0).2 - 1) [])
  else []

theorem parse_one : parseL [49, 46, 53, 71, 105] = (1610612736000000000, 0) := by decide +kernel
theorem parse_two : parseL [49, 48, 48, 109] = (100000000, 0) := by decide +kernel
theorem parse_three : parseL [49, 101, 51] = (1000000000000, 0) := by decide +kernel
theorem parse_four : parseL [49, 120] = (0, 11) := by decide +kernel
theorem bin_one : binL 1610612736000000000 = [49, 53, 51, 54, 77, 105] := by decide +kernel
theorem text_three : textL 1000000000000 = [49, 107] := by decide +kernel
theorem text_none : textL 0 = [48] := by decide +kernel

/-! ### Small facts -/
theorem drop_at (s : ByteArray) (j : Nat) (h : j < s.size) : s.data.toList.drop j = s[j] :: s.data.toList.drop (j + 1) := by
  rw [List.drop_eq_getElem_cons (by simpa using h)]; rfl
theorem drop_end (s : ByteArray) (j : Nat) (h : s.size ≤ j) : s.data.toList.drop j = [] := List.drop_eq_nil_of_le (by simpa using h)
theorem take_more (s : ByteArray) (k : Nat) (h : k < s.size) : s.data.toList.take (k + 1) = s.data.toList.take k ++ [s[k]] := by
  rw [List.take_succ_eq_append_getElem (by simpa using h)]; rfl
theorem nend_le : ∀ (l : List UInt8) (p : Bool), nend p l ≤ l.length
  | [], _ => by simp [nend]
  | c :: r, p => by
    rw [nend]; split
    · simp
    · have := nend_le r (p || decide (c.toNat = 46)); simp; omega
theorem ups_up : ∀ (n a : Nat), ups n a = up a (10 ^ n)
  | 0, a => by simp [ups, up]
  | n + 1, a => by
    rw [ups, ups_up n]
    unfold up
    have p : 0 < 10 ^ n := Nat.pow_pos (by omega)
    have q : 10 ^ (n + 1) = 10 * 10 ^ n := by rw [Nat.pow_succ, Nat.mul_comm]
    rw [q, ← Nat.div_div_eq_div_mul]
    generalize 10 ^ n = k at p
    congr 1
    omega
theorem up_parts (m t u : Nat) (hu : 1 < u) : m / u * 2 ^ t + up (m % u * 2 ^ t) u = up (m * 2 ^ t) u := by
  unfold up
  have e : m * 2 ^ t + u - 1 = (m % u * 2 ^ t + u - 1) + u * (m / u * 2 ^ t) := by
    have := Nat.div_add_mod m u
    have h : m * 2 ^ t = u * (m / u * 2 ^ t) + m % u * 2 ^ t := by
      conv => lhs; rw [← this]
      rw [Nat.add_mul, Nat.mul_assoc]
    omega
  rw [e, Nat.add_mul_div_left _ _ (by omega)]
  omega
theorem dig_snoc (a : Nat) (l : List UInt8) (c : UInt8) : dig a (l ++ [c]) = dig a l * 10 + (c.toNat - 48) := by simp [dig]
theorem dig_lt : ∀ (l : List UInt8) (a k : Nat), a < 10 ^ k → (∀ c ∈ l, isD c = true) → dig a l < 10 ^ (k + l.length)
  | [], a, k, h, _ => by simpa [dig] using h
  | c :: r, a, k, h, hd => by
    have hc := hd c (by simp)
    simp only [isD, decide_eq_true_eq] at hc
    have := dig_lt r (a * 10 + (c.toNat - 48)) (k + 1) (by rw [Nat.pow_succ]; omega) (fun x hx => hd x (by simp [hx]))
    rw [show k + (c :: r).length = k + 1 + r.length by simp; omega]
    simpa [dig] using this
theorem cutDot_len : ∀ l, (cutDot l).1.length + (cutDot l).2.length ≤ l.length
  | [] => by simp [cutDot]
  | c :: r => by
    have := cutDot_len r
    rw [cutDot]; split <;> simp <;> omega
/-- Ahead of where the number ends there are digits, and one point at most. -/
theorem nend_digits : ∀ (l : List UInt8) (p : Bool), (p = true → ∀ c ∈ l.take (nend p l), isD c = true) ∧ (p = false → (∀ c ∈ (cutDot (l.take (nend p l))).1, isD c = true) ∧ (∀ c ∈ (cutDot (l.take (nend p l))).2, isD c = true))
  | [], p => by simp [nend, cutDot]
  | c :: r, p => by
    obtain ⟨h1, h2⟩ := nend_digits r (p || decide (c.toNat = 46))
    rw [nend]
    split
    · simp [cutDot]
    · rename_i hc
      rw [not_or] at hc
      refine ⟨fun hp => ?_, fun hp => ?_⟩
      · subst hp
        have n46 : c.toNat ≠ 46 := fun h => hc.1 ⟨h, rfl⟩
        have dc : isD c = true := by
          cases h : isD c
          · exact absurd ⟨n46, h⟩ hc.2
          · rfl
        simp only [Bool.true_or] at h1 ⊢
        intro x hx
        rw [List.take_succ_cons, List.mem_cons] at hx
        rcases hx with rfl | hx
        · exact dc
        · exact h1 trivial x hx
      · subst hp
        rw [List.take_succ_cons, cutDot]
        by_cases n46 : c.toNat = 46
        · have e : c = 46 := by apply UInt8.toNat_inj.1; simpa using n46
          rw [if_pos e]
          simp only [n46, decide_true, Bool.or_true] at h1 ⊢
          exact ⟨by simp, fun x hx => h1 trivial x hx⟩
        · have e : ¬ c = 46 := by rintro rfl; exact n46 rfl
          have dc : isD c = true := by
            cases h : isD c
            · exact absurd ⟨n46, h⟩ hc.2
            · rfl
          rw [if_neg e]
          simp only [n46, decide_false, Bool.or_false] at h2 ⊢
          obtain ⟨g1, g2⟩ := h2 trivial
          refine ⟨fun x hx => ?_, g2⟩
          rw [List.mem_cons] at hx
          rcases hx with rfl | hx
          · exact dc
          · exact g1 x hx

end Go.Proofs.YtpbgolcimbjekaaGreatDoor
