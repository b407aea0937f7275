/-
  The order of masks, in plain words: each mask put in its place behind the ones that are not behind it gives the masks by their count, then by their number. No program is spoken of but for its name.
-/
import Derived.Test.YtkjaiahdkolmdaaMD
namespace Go.Proofs.Ytkjaiahdkolmdaa.Mk
open Go.RowKit

/-- Where a mask's place is among the first ones of a list, looked for from their end. -/
def scan (m : Nat) (L : List Nat) : Nat → Nat
  | 0 => 0
  | a + 1 => if aheadB m (L.getD a 0) then scan m L a else a + 1
def insM (m : Nat) (L : List Nat) : List Nat := L.take (scan m L L.length) ++ m :: L.drop (scan m L L.length)
/-- The masks below a number, each put in its place. -/
def RM : Nat → List Nat
  | 0 => []
  | m + 1 => if m = 0 then [] else insM m (RM m)
theorem scan_le (m : Nat) (L : List Nat) : ∀ a, scan m L a ≤ a
  | 0 => Nat.le_refl _
  | a + 1 => by
    unfold scan
    split
    · exact Nat.le_succ_of_le (scan_le m L a)
    · exact Nat.le_refl _
theorem scan_app (m : Nat) (L t : List Nat) : ∀ a, a ≤ L.length → scan m (L ++ t) a = scan m L a
  | 0, _ => rfl
  | a + 1, h => by
    unfold scan
    rw [scan_app m L t a (by omega), show (L ++ t).getD a 0 = L.getD a 0 by simp only [List.getD]; rw [List.getElem?_append_left (by omega)]]
theorem insM_len (m : Nat) (L : List Nat) : (insM m L).length = L.length + 1 := by
  have := scan_le m L L.length
  unfold insM
  rw [List.length_append, List.length_cons, List.length_take, List.length_drop]
  omega
theorem insM_mem {m x : Nat} {L : List Nat} (h : x ∈ insM m L) : x ∈ L ∨ x = m := by
  unfold insM at h
  rcases List.mem_append.1 h with h | h
  · exact .inl (List.mem_of_mem_take h)
  · rcases List.mem_cons.1 h with h | h
    · exact .inr h
    · exact .inl (List.mem_of_mem_drop h)
theorem RM_one : RM 1 = [] := rfl
theorem RM_succ {m : Nat} (h : 1 ≤ m) : RM (m + 1) = insM m (RM m) := by rw [RM, if_neg (by omega)]
theorem RM_len : ∀ m, 1 ≤ m → (RM m).length = m - 1
  | 1, _ => rfl
  | m + 2, _ => by rw [RM_succ (by omega), insM_len, RM_len (m + 1) (by omega)]; omega
theorem RM_mem : ∀ (m : Nat) {x : Nat}, x ∈ RM m → x < m
  | 0, x, h => by cases h
  | m + 1, x, h => by
    rcases Nat.eq_zero_or_pos m with e | e
    · subst e; cases h
    · rw [RM_succ e] at h
      rcases insM_mem h with h | h
      · have := RM_mem m h; omega
      · omega

/-- The same, quickly. -/
def cntF (b : Nat) : Nat := b % 2 + b / 2 % 2 + b / 4 % 2 + b / 8 % 2 + b / 16 % 2 + b / 32 % 2 + b / 64 % 2 + b / 128 % 2
theorem cntF_is : ∀ b : Fin 256, cnt b.1 = cntF b.1 := by decide +kernel
def aheadF (a b : Nat) : Bool := if cntF a = cntF b then decide (a < b) else decide (cntF a < cntF b)
theorem aheadF_is {a b : Nat} (ha : a < 256) (hb : b < 256) : aheadB a b = aheadF a b := by
  unfold aheadB aheadF
  rw [cntF_is ⟨a, ha⟩, cntF_is ⟨b, hb⟩]
def insR (m : Nat) : List Nat → List Nat
  | [] => [m]
  | x :: r => if aheadF m x then x :: insR m r else m :: x :: r
def RR : Nat → List Nat
  | 0 => []
  | m + 1 => if m = 0 then [] else insR m (RR m)
theorem ins_rev {m : Nat} (hm : m < 256) : ∀ (r : List Nat), (∀ x ∈ r, x < 256) → insM m r.reverse = (insR m r).reverse
  | [], _ => rfl
  | x :: r, h => by
    have hx : x < 256 := h x (by simp)
    have ih := ins_rev hm r (fun y hy => h y (by simp [hy]))
    unfold insR
    rw [← aheadF_is hm hx]
    unfold insM at ih ⊢
    rw [List.reverse_cons, show (r.reverse ++ [x]).length = r.reverse.length + 1 by simp, scan, show (r.reverse ++ [x]).getD r.reverse.length 0 = x by simp]
    cases e : aheadB m x with
    | true =>
      have sl := scan_le m r.reverse r.reverse.length
      rw [if_pos rfl, if_pos rfl, scan_app _ _ _ _ (Nat.le_refl _), List.take_append_of_le_length sl, List.drop_append_of_le_length sl, List.reverse_cons, ← ih]
      simp
    | false =>
      rw [if_neg (by simp), if_neg (by simp), List.reverse_cons, List.reverse_cons, List.take_of_length_le (by simp), List.drop_of_length_le (by simp)]
theorem RM_rev : ∀ m, m ≤ 256 → RM m = (RR m).reverse
  | 0, _ => rfl
  | m + 1, h => by
    rcases Nat.eq_zero_or_pos m with e | e
    · subst e; rfl
    · have ih := RM_rev m (by omega)
      rw [RM_succ e, RR, if_neg (by omega), ih]
      exact ins_rev (by omega) _ fun x hx => by
        have := RM_mem m (x := x) (by rw [ih]; simpa using hx)
        omega
set_option maxRecDepth 100000 in
theorem RR_full : ∀ k : Fin 9, (RR (2 ^ k.1)).reverse = fullM k.1 := by decide +kernel
theorem RM_full {k : Nat} (hk : k ≤ 8) : RM (2 ^ k) = fullM k := by
  rw [RM_rev _ (Nat.pow_le_pow_right (show 0 < 2 by omega) hk)]
  exact RR_full ⟨k, by omega⟩

end Go.Proofs.Ytkjaiahdkolmdaa.Mk
