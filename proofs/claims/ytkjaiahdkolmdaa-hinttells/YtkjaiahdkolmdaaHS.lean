/-
  Plain facts on hints for the laws: no node less than it must be, more that is free, what is spread. No program is spoken of but for its name.
-/
import Derived.Test.YtkjaiahdkolmdaaHK
import Derived.Test.YtkjaiahdkolmdaaHM
namespace Go.Proofs.Ytkjaiahdkolmdaa.Mk
open Go.RowKit

theorem fullM_all : ∀ k : Fin 9, ∀ x : Fin (2 ^ k.1), x.1 ∈ 0 :: fullM k.1 := by decide +kernel
theorem fullM_in {k x : Nat} (hk : k ≤ 8) (hx : x < 2 ^ k) : x ∈ 0 :: fullM k := fullM_all ⟨k, by omega⟩ ⟨x, hx⟩
theorem fullM_low : ∀ k : Fin 9, ∀ x ∈ 0 :: fullM k.1, x < 2 ^ k.1 := by decide +kernel
/-- Each is no less than the one ahead of it. -/
def riseB : Nat → List Nat → Bool
  | _, [] => true
  | a, b :: l => decide (a ≤ b) && riseB b l
theorem riseB_all : ∀ (l : List Nat) (a : Nat), riseB a l = true → (∀ x ∈ l, a ≤ x) ∧ l.Pairwise (· ≤ ·)
  | [], _, _ => ⟨fun x hx => (by cases hx), List.Pairwise.nil⟩
  | b :: l, a, h => by
    unfold riseB at h
    rw [Bool.and_eq_true] at h
    have hb : a ≤ b := of_decide_eq_true h.1
    obtain ⟨h1, h2⟩ := riseB_all l b h.2
    refine ⟨fun x hx => ?_, List.pairwise_cons.2 ⟨h1, h2⟩⟩
    rcases List.mem_cons.1 hx with rfl | hx
    · exact hb
    · exact Nat.le_trans hb (h1 x hx)
theorem fullM_chain : ∀ k : Fin 9, riseB 0 ((0 :: fullM k.1).map cnt) = true := by decide +kernel
theorem fullM_sorted {k : Nat} (hk : k ≤ 8) : (0 :: fullM k).Pairwise fun a b => cnt a ≤ cnt b := List.pairwise_map.1 (riseB_all _ _ (fullM_chain ⟨k, by omega⟩)).2
theorem less_low : ∀ b : Fin 256, ∀ i : Fin 8, lessB b.1 (i.1 : Int) ≤ b.1 ∧ (tb b.1 i.1 = true → cnt (lessB b.1 (i.1 : Int)) < cnt b.1) := by decide +kernel
theorem under_zero (x : Nat) : underB 0 x = true := by
  unfold underB
  rw [Nat.zero_and]
  rfl
theorem isH_zero (F : Nat → Nat → Int) (K : Nat → Int) (x : Nat) : isH F K 0 x = enB F K x := by
  unfold isH
  rw [under_zero, Bool.true_and]
theorem isH_fun (F : Nat → Nat → Int) (K : Nat → Int) : isH F K 0 = enB F K := funext (isH_zero F K)
/-- Where there is a hint. -/
theorem comes_some {F : Nat → Nat → Int} {K : Nat → Int} {nodes : Int} {m : Nat} {rest : List Nat} (h : comes (rightH F K nodes 0) F K nodes 0 = m :: rest) :
    okB F K = true ∧ ∃ k : Nat, k ≤ 8 ∧ nodes = (k : Int) ∧ (0 :: fullM k).filter (enB F K) = m :: rest := by
  unfold comes at h
  split at h
  · rename_i hr
    unfold rightH at hr
    simp only [Bool.and_eq_true] at hr
    have hk := of_decide_eq_true hr.1.2
    refine ⟨hr.1.1, nodes.toNat, by omega, by omega, ?_⟩
    rw [← h]
    unfold hintL
    rw [Int.toNat_zero, isH_fun]
  · cases h
theorem hint_mem {F : Nat → Nat → Int} {K : Nat → Int} {k m : Nat} {rest : List Nat} (hk : k ≤ 8) (h : (0 :: fullM k).filter (enB F K) = m :: rest) : m < 256 ∧ m < 2 ^ k ∧ enB F K m = true := by
  have hm : m ∈ (0 :: fullM k).filter (enB F K) := by rw [h]; exact List.mem_cons_self
  obtain ⟨h1, h2⟩ := List.mem_filter.1 hm
  have h3 := fullM_low ⟨k, by omega⟩ m h1
  have : 2 ^ k ≤ 2 ^ 8 := Nat.pow_le_pow_right (by omega) hk
  exact ⟨by simp at h3; omega, h3, h2⟩
/-- The hint is of no more nodes than another mask of the first ones that is enough. -/
theorem hint_first {F : Nat → Nat → Int} {K : Nat → Int} {k m x : Nat} {rest : List Nat} (hk : k ≤ 8) (h : (0 :: fullM k).filter (enB F K) = m :: rest) (hx : x < 2 ^ k) (he : enB F K x = true) : cnt m ≤ cnt x := by
  have hs : ((0 :: fullM k).filter (enB F K)).Pairwise fun a b => cnt a ≤ cnt b := (fullM_sorted hk).filter _
  have hm : x ∈ (0 :: fullM k).filter (enB F K) := List.mem_filter.2 ⟨fullM_in hk hx, he⟩
  rw [h] at hs hm
  rcases List.mem_cons.1 hm with rfl | hm
  · exact Nat.le_refl _
  · exact (List.pairwise_cons.1 hs).1 x hm
theorem okM_nat {m : Nat} (h : m < 256) : okM (m : Int) = true := decide_eq_true (by omega)
theorem enoughB_nat {F : Nat → Nat → Int} {K : Nat → Int} {m : Nat} (h : m < 256) : enoughB F K (m : Int) = (okB F K && enB F K m) := by
  unfold enoughB
  rw [okM_nat h, low_of h, Bool.true_and]
theorem hint_least {F : Nat → Nat → Int} {K : Nat → Int} {nodes : Int} {m : Nat} {rest : List Nat} (h : comes (rightH F K nodes 0) F K nodes 0 = m :: rest) :
    m < 256 ∧ enoughB F K (m : Int) = true ∧ ∀ i, i < 8 → tb m i = true → enoughB F K ((lessB m (i : Int) : Nat) : Int) = false := by
  obtain ⟨hok, k, hk, rfl, hf⟩ := comes_some h
  obtain ⟨h1, h2, h3⟩ := hint_mem hk hf
  refine ⟨h1, by rw [enoughB_nat h1, hok, h3]; rfl, fun i hi ht => ?_⟩
  obtain ⟨l1, l2⟩ := less_low ⟨m, h1⟩ ⟨i, hi⟩
  have l1' : lessB m (i : Int) ≤ m := l1
  have l2' : cnt (lessB m (i : Int)) < cnt m := l2 ht
  rw [enoughB_nat (by omega), hok, Bool.true_and]
  cases e : enB F K (lessB m (i : Int)) with
  | false => rfl
  | true =>
    have := hint_first hk hf (by omega) e
    omega
/-- What is spread over a mask that is enough. -/
theorem over_all {F : Nat → Nat → Int} {K : Nat → Int} {m : Nat} (hm : m < 256) (he : enoughB F K (m : Int) = true) (k : Nat) (hk : k < 2) :
    overB (F k) (m : Int) (K k) = true ∧ (∀ i, i < 8 → 0 ≤ overF (F k) (m : Int) (K k) i ∧ overF (F k) (m : Int) (K k) i ≤ F k i ∧ (tb m i = false → overF (F k) (m : Int) (K k) i = 0)) ∧
    sumT (overF (F k) (m : Int) (K k)) 8 = K k ∧ (∀ i, i ≤ 8 → 0 ≤ sumT (overF (F k) (m : Int) (K k)) i ∧ sumT (overF (F k) (m : Int) (K k)) i ≤ K k) ∧ 0 ≤ K k ∧ K k ≤ 1073741824 := by
  rw [enoughB_nat hm] at he
  simp only [Bool.and_eq_true] at he
  obtain ⟨hok, he⟩ := he
  have hy := okB_yes hok
  unfold enB at he
  simp only [Bool.and_eq_true] at he
  have key : okS (F k) = true ∧ (0 ≤ K k ∧ K k ≤ 1073741824) ∧ K k ≤ sumN (F k) m := by
    rcases (show k = 0 ∨ k = 1 by omega) with rfl | rfl
    · exact ⟨hy.2.1, hy.1, of_decide_eq_true he.1⟩
    · exact ⟨hy.2.2.2, hy.2.2.1, of_decide_eq_true he.2⟩
  obtain ⟨hS, hN, hE⟩ := key
  have hr : remS (F k) m (K k) 8 = 0 := by rw [remS_end hS m hN.1]; omega
  have hB : overB (F k) (m : Int) (K k) = true := by
    unfold overB rightO
    rw [hS, okM_nat hm, low_of hm, hr, show okN (K k) = true from decide_eq_true hN]
    rfl
  have hF : overF (F k) (m : Int) (K k) = ovS (F k) m (K k) := by unfold overF; rw [hB, if_pos rfl, low_of hm]
  rw [hF]
  refine ⟨hB, fun i hi => ?_, by rw [ovS_sum, hr]; omega, fun i hi => ?_, hN⟩
  · have := ovS_le hS m hN.1 hi
    exact ⟨this.1, this.2.1, this.2.2.2⟩
  · have := remS_bound hS m hN.1 i hi
    rw [ovS_sum]
    omega
/-- More that is free. -/
def moreF (F : Nat → Nat → Int) (k i : Nat) : Int := if F k i < 1073741824 then F k i + 1 else F k i
theorem sumL_mono {s t : Nat → Int} (h : ∀ i, i < 8 → s i ≤ t i) : ∀ l : List (Fin 8), sumL s l ≤ sumL t l
  | [] => Int.le_refl _
  | x :: l => by
    have := sumL_mono h l
    have hx := h x.1 x.2
    have e : ∀ u : Nat → Int, sumL u (x :: l) = u x.1 + sumL u l := fun u => by simp [sumL]
    rw [e, e]
    omega
theorem okS_of {s : Nat → Int} (h : ∀ i, i < 8 → 0 ≤ s i ∧ s i ≤ 1073741824) : okS s = true := by
  unfold okS okF
  rw [List.all_eq_true]
  intro i hi
  rw [List.mem_range'_1] at hi
  exact decide_eq_true (h i (by omega))
theorem more_ok {F : Nat → Nat → Int} {K : Nat → Int} (h : okB F K = true) : okB (moreF F) K = true := by
  have hy := okB_yes h
  have e : ∀ k, okS (F k) = true → okS (moreF F k) = true := fun k hk => okS_of fun i hi => by
    have := okS_all hk i hi
    unfold moreF
    split <;> omega
  unfold okB
  rw [e 0 hy.2.1, e 1 hy.2.2.2, show okN (K 0) = true from decide_eq_true hy.1, show okN (K 1) = true from decide_eq_true hy.2.2.1]
  rfl
theorem more_en {F : Nat → Nat → Int} {K : Nat → Int} {m : Nat} (h : enB F K m = true) : enB (moreF F) K m = true := by
  have e : ∀ k, sumN (F k) m ≤ sumN (moreF F k) m := fun k => sumL_mono (fun i _ => by unfold moreF; split <;> omega) _
  unfold enB at h ⊢
  simp only [Bool.and_eq_true, decide_eq_true_eq] at h ⊢
  have h0 := e 0
  have h1 := e 1
  omega
theorem hint_more {F : Nat → Nat → Int} {K : Nat → Int} {nodes : Int} {m : Nat} {rest : List Nat} (h : comes (rightH F K nodes 0) F K nodes 0 = m :: rest) :
    m < 256 ∧ ∃ m' rest', comes (rightH (moreF F) K nodes 0) (moreF F) K nodes 0 = m' :: rest' ∧ m' < 256 ∧ cnt m' ≤ cnt m := by
  obtain ⟨hok, k, hk, rfl, hf⟩ := comes_some h
  obtain ⟨h1, h2, h3⟩ := hint_mem hk hf
  have hR : rightH (moreF F) K (k : Int) 0 = true := by
    unfold rightH
    rw [more_ok hok, show okK (k : Int) = true from decide_eq_true (by omega)]
    rfl
  have hc : comes (rightH (moreF F) K (k : Int) 0) (moreF F) K (k : Int) 0 = (0 :: fullM k).filter (enB (moreF F) K) := by
    unfold comes
    rw [hR, if_pos rfl]
    unfold hintL
    rw [Int.toNat_zero, isH_fun, Int.toNat_natCast]
  rw [hc]
  have hm : m ∈ (0 :: fullM k).filter (enB (moreF F) K) := List.mem_filter.2 ⟨fullM_in hk h2, more_en h3⟩
  cases e : (0 :: fullM k).filter (enB (moreF F) K) with
  | nil => rw [e] at hm; cases hm
  | cons m' rest' => exact ⟨h1, m', rest', rfl, (hint_mem hk e).1, hint_first hk e h2 (more_en h3)⟩

end Go.Proofs.Ytkjaiahdkolmdaa.Mk
