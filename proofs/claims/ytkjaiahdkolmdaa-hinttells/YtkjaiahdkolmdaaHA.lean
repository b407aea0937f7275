/-
  Plain facts on hints: what is free on a mask, which masks are enough, what is spread over one. No program is spoken of but for its name.
-/
import Derived.Test.YtkjaiahdkolmdaaHF
import Derived.Test.YtkjaiahdkolmdaaME
namespace Go.Proofs.Ytkjaiahdkolmdaa.Mk
open Go.RowKit

/-- A right number of blocks; right numbers of eight nodes; right numbers of both kinds, and what is needed. -/
def okN (n : Int) : Bool := decide (0 ≤ n ∧ n ≤ 1073741824)
def okF (s : Nat → Int) (j : Nat) : Bool := (List.range' j (8 - j)).all fun i => okN (s i)
def okS (s : Nat → Int) : Bool := okF s 0
def okB (F : Nat → Nat → Int) (K : Nat → Int) : Bool := (okN (K 0) && okS (F 0)) && (okN (K 1) && okS (F 1))
theorem okN_yes {n : Int} (h : okN n = true) : 0 ≤ n ∧ n ≤ 1073741824 := of_decide_eq_true h
theorem okN_no {n : Int} (h : okN n = false) : n < 0 ∨ (0 ≤ n ∧ 1073741824 < n) := by
  have := of_decide_eq_false h
  omega
theorem okF_at (s : Nat → Int) {j : Nat} (h : j < 8) : okF s j = (okN (s j) && okF s (j + 1)) := by
  unfold okF
  rw [show 8 - j = (8 - (j + 1)) + 1 by omega, List.range'_succ, List.all_cons]
theorem okF_end (s : Nat → Int) : okF s 8 = true := rfl
theorem okS_all {s : Nat → Int} (h : okS s = true) : ∀ i, i < 8 → 0 ≤ s i ∧ s i ≤ 1073741824 := fun i hi => okN_yes (by
  unfold okS okF at h
  rw [List.all_eq_true] at h
  exact h i (by rw [List.mem_range'_1]; omega))
theorem okB_yes {F : Nat → Nat → Int} {K : Nat → Int} (h : okB F K = true) : (0 ≤ K 0 ∧ K 0 ≤ 1073741824) ∧ okS (F 0) = true ∧ (0 ≤ K 1 ∧ K 1 ≤ 1073741824) ∧ okS (F 1) = true := by
  unfold okB at h
  simp only [Bool.and_eq_true] at h
  exact ⟨okN_yes h.1.1, h.1.2, okN_yes h.2.1, h.2.2⟩

/-- What is free on nodes, added up. -/
def sumL (s : Nat → Int) (l : List (Fin 8)) : Int := (l.map fun i => s i.1).sum
def sumN (s : Nat → Int) (b : Nat) : Int := sumL s (nd b)
theorem sumL_nil (s : Nat → Int) : sumL s [] = 0 := rfl
theorem sumL_snoc (s : Nat → Int) (l : List (Fin 8)) (x : Fin 8) : sumL s (l ++ [x]) = sumL s l + s x.1 := by
  unfold sumL
  rw [List.map_append, List.sum_append]
  simp
theorem sumL_le {s : Nat → Int} (h : ∀ i, i < 8 → 0 ≤ s i ∧ s i ≤ 1073741824) : ∀ l : List (Fin 8), 0 ≤ sumL s l ∧ sumL s l ≤ l.length * 1073741824
  | [] => by simp [sumL]
  | x :: l => by
    have := sumL_le h l
    have hx := h x.1 x.2
    have e : sumL s (x :: l) = s x.1 + sumL s l := by simp [sumL]
    rw [e, List.length_cons]
    omega
theorem sumN_le {s : Nat → Int} (h : okS s = true) (b : Nat) : 0 ≤ sumN s b ∧ sumN s b ≤ 8589934592 := by
  have h1 := sumL_le (okS_all h) (nd b)
  have h2 : (nd b).length ≤ 8 := cnt_le b
  unfold sumN
  omega
/-- Is a mask enough? -/
def enB (F : Nat → Nat → Int) (K : Nat → Int) (b : Nat) : Bool := decide (K 0 ≤ sumN (F 0) b) && decide (K 1 ≤ sumN (F 1) b)
/-- All masks of the first nodes that have the held ones and are enough. -/
def isH (F : Nat → Nat → Int) (K : Nat → Int) (held m : Nat) : Bool := underB held m && enB F K m
def hintL (F : Nat → Nat → Int) (K : Nat → Int) (k held : Nat) : List Nat := (0 :: fullM k).filter (isH F K held)
theorem filter_pre {α : Type} {p : α → Bool} {l m : List α} (h : l <+: m) : l.filter p <+: m.filter p := h.filter p
/-- What is left to be spread behind the first so many nodes of a mask; what is spread. -/
def remS (s : Nat → Int) (b : Nat) (need : Int) : Nat → Int
  | 0 => need
  | k + 1 => if tb b k = true then remS s b need k - min (s k) (remS s b need k) else remS s b need k
def ovS (s : Nat → Int) (b : Nat) (need : Int) (i : Nat) : Int := if tb b i = true then min (s i) (remS s b need i) else 0
theorem remS_bound {s : Nat → Int} (h : okS s = true) (b : Nat) {need : Int} (hn : 0 ≤ need) : ∀ k, k ≤ 8 → 0 ≤ remS s b need k ∧ remS s b need k ≤ need
  | 0, _ => ⟨hn, Int.le_refl _⟩
  | k + 1, hk => by
    have ih := remS_bound h b hn k (by omega)
    have hs := okS_all h k (by omega)
    rw [remS]
    split <;> omega
theorem ndT_tb (b : Nat) {k : Nat} (hk : k < 8) : ndT b (k + 1) = if tb b k = true then ndT b k ++ [⟨k, hk⟩] else ndT b k := by
  rw [ndT_succ b hk]
  rfl
theorem remS_is {s : Nat → Int} (h : okS s = true) (b : Nat) {need : Int} (hn : 0 ≤ need) : ∀ k, k ≤ 8 → remS s b need k = max 0 (need - sumL s (ndT b k))
  | 0, _ => by rw [remS, ndT_zero, sumL_nil]; omega
  | k + 1, hk => by
    have ih := remS_is h b hn k (by omega)
    have hs := okS_all h k (by omega)
    have hb := (sumL_le (okS_all h) (ndT b k)).1
    rw [remS, ndT_tb b (show k < 8 by omega), ih]
    split
    · rw [sumL_snoc]
      show _ = max 0 (need - (sumL s (ndT b k) + s k))
      omega
    · rfl
theorem remS_end {s : Nat → Int} (h : okS s = true) (b : Nat) {need : Int} (hn : 0 ≤ need) : remS s b need 8 = max 0 (need - sumN s b) := by
  rw [remS_is h b hn 8 (Nat.le_refl _), ndT_all]
  rfl
/-- What has been spread over the first so many nodes. -/
def sumT (f : Nat → Int) : Nat → Int
  | 0 => 0
  | k + 1 => sumT f k + f k
theorem ovS_sum (s : Nat → Int) (b : Nat) (need : Int) : ∀ k, sumT (ovS s b need) k = need - remS s b need k
  | 0 => by rw [sumT, remS]; omega
  | k + 1 => by
    rw [sumT, ovS_sum s b need k, remS, ovS]
    split <;> omega
theorem ovS_le {s : Nat → Int} (h : okS s = true) (b : Nat) {need : Int} (hn : 0 ≤ need) {i : Nat} (hi : i < 8) : 0 ≤ ovS s b need i ∧ ovS s b need i ≤ s i ∧ ovS s b need i ≤ need ∧ (tb b i = false → ovS s b need i = 0) := by
  have h1 := remS_bound h b hn i (by omega)
  have h2 := okS_all h i hi
  unfold ovS
  cases e : tb b i with
  | true =>
    rw [if_pos rfl]
    exact ⟨by omega, by omega, by omega, fun x => by cases x⟩
  | false =>
    rw [if_neg (by simp)]
    exact ⟨by omega, by omega, by omega, fun _ => rfl⟩

/-- Values: eight numbers; two of those; two numbers. -/
abbrev spV (s : Nat → Int) : Value := .agg #[.int .i64 (s 0), .int .i64 (s 1), .int .i64 (s 2), .int .i64 (s 3), .int .i64 (s 4), .int .i64 (s 5), .int .i64 (s 6), .int .i64 (s 7)]
abbrev frV (F : Nat → Nat → Int) : Value := .agg #[.int .i64 (F 0 0), .int .i64 (F 0 1), .int .i64 (F 0 2), .int .i64 (F 0 3), .int .i64 (F 0 4), .int .i64 (F 0 5), .int .i64 (F 0 6), .int .i64 (F 0 7), .int .i64 (F 1 0), .int .i64 (F 1 1), .int .i64 (F 1 2), .int .i64 (F 1 3), .int .i64 (F 1 4), .int .i64 (F 1 5), .int .i64 (F 1 6), .int .i64 (F 1 7)]
abbrev ndV (K : Nat → Int) : Value := .agg #[.int .i64 (K 0), .int .i64 (K 1)]
abbrev spL (s : Nat → Int) : List Value := [.int .i64 (s 0), .int .i64 (s 1), .int .i64 (s 2), .int .i64 (s 3), .int .i64 (s 4), .int .i64 (s 5), .int .i64 (s 6), .int .i64 (s 7)]
abbrev frL (F : Nat → Nat → Int) : List Value := [.int .i64 (F 0 0), .int .i64 (F 0 1), .int .i64 (F 0 2), .int .i64 (F 0 3), .int .i64 (F 0 4), .int .i64 (F 0 5), .int .i64 (F 0 6), .int .i64 (F 0 7), .int .i64 (F 1 0), .int .i64 (F 1 1), .int .i64 (F 1 2), .int .i64 (F 1 3), .int .i64 (F 1 4), .int .i64 (F 1 5), .int .i64 (F 1 6), .int .i64 (F 1 7)]
abbrev kL (K : Nat → Int) : List Value := [.int .i64 (K 0), .int .i64 (K 1)]
theorem spL_at (s : Nat → Int) {i : Nat} (h : i < 8) : (spL s)[i]? = some (.int .i64 (s i)) := by
  rcases (show i = 0 ∨ i = 1 ∨ i = 2 ∨ i = 3 ∨ i = 4 ∨ i = 5 ∨ i = 6 ∨ i = 7 by omega) with rfl | rfl | rfl | rfl | rfl | rfl | rfl | rfl <;> rfl
theorem spV_ext {s t : Nat → Int} (h : ∀ i, i < 8 → s i = t i) : spV s = spV t := by
  rw [spV, spV, h 0 (by omega), h 1 (by omega), h 2 (by omega), h 3 (by omega), h 4 (by omega), h 5 (by omega), h 6 (by omega), h 7 (by omega)]
theorem ix8 (s : Nat → Int) {j : Nat} (h : j < 8) (w : World) : Sem.run Try.prog (Instr.index 23 (spV s) (.int .i64 (j : Int))) w = .ok (.int .i64 (s j)) w := by
  rcases (show j = 0 ∨ j = 1 ∨ j = 2 ∨ j = 3 ∨ j = 4 ∨ j = 5 ∨ j = 6 ∨ j = 7 by omega) with rfl | rfl | rfl | rfl | rfl | rfl | rfl | rfl <;> kernel_rfl

end Go.Proofs.Ytkjaiahdkolmdaa.Mk
