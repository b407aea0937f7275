/-
  What holds of a table's rows behind each Put and each Release: plain facts. Conditions: where it is said, the owner's texts are within the reach.
-/
import Derived.Test.YtpefjcgccbfgbaaNR
namespace Go.Proofs.Ytpefjcgccbfgbaa.Bk
open Go.RowKit

/-- Rows as a table has them: nobody holds less than nothing, all no more than there is; in order; of right owners; each holds some. -/
structure Ord (zs : List Zn) (ls : List Rw) : Prop where
  sound : Sound zs ls
  sorted : ls.Pairwise fun r q => befR r q = true
  right : ∀ r ∈ ls, okO r.p r.c r.k = true
  some : ∀ r ∈ ls, zeroB r.s = false
theorem roomV_zero (zs : List Zn) (i k : Int) (h : ¬ (0 ≤ k ∧ k ≤ 1)) : roomV zs i k = 0 := by
  unfold roomV
  rw [if_neg (by omega)]
theorem roomV_out {zs : List Zn} {i : Nat} (h : zs.length ≤ i) (k : Int) : roomV zs i k = 0 := by
  unfold roomV
  rw [List.getElem?_eq_none (by omega)]
  split <;> rfl
theorem Ord.nil {zs : List Zn} (h : ∀ z ∈ zs, Fit z) : Ord zs [] :=
  ⟨⟨fun r hr => absurd hr (by simp), fun i k _ => (roomV_bd h i k).1⟩, List.Pairwise.nil, fun r hr => absurd hr (by simp), fun r hr => absurd hr (by simp)⟩
theorem sumK_filter {i : Nat} {k : Int} (f : Rw → Bool) : ∀ {ls : List Rw}, (∀ r ∈ ls, 0 ≤ r.s i) → sumK i k (ls.filter f) ≤ sumK i k ls
  | [], _ => by simp [sumK]
  | r :: l, h => by
    have ih := sumK_filter (k := k) f fun q hq => h q (List.mem_cons_of_mem r hq)
    have h0 := h r (by simp)
    rw [List.filter_cons]
    split
    · simp only [sumK]; omega
    · simp only [sumK]; split <;> omega
theorem Sound.filter {zs : List Zn} {ls : List Rw} (h : Sound zs ls) (f : Rw → Bool) : Sound zs (ls.filter f) :=
  ⟨fun r hr => h.nn r (List.mem_filter.1 hr).1, fun i k hi => Int.le_trans (sumK_filter f fun r hr => h.nn r hr i hi) (h.le i k hi)⟩
theorem Ord.filter {zs : List Zn} {ls : List Rw} (h : Ord zs ls) (f : Rw → Bool) : Ord zs (ls.filter f) :=
  ⟨h.sound.filter f, h.sorted.filter f, fun r hr => h.right r (List.mem_filter.1 hr).1, fun r hr => h.some r (List.mem_filter.1 hr).1⟩
theorem Ord.rel {zs : List Zn} {ls : List Rw} (h : Ord zs ls) (p : ByteArray) : Ord zs (Bk.rel p ls) := h.filter _
theorem eqO_same {r q : Rw} : eqO r.p r.c r.k q.p q.c q.k = true ↔ sameR r q := by rw [eqO_iff, eqS_iff, eqS_iff]; exact Iff.rfl
/-- A sum without an owner's row, and what it held. -/
theorem sumK_wth {i : Nat} {p c : ByteArray} {k : Int} : ∀ {ls : List Rw}, (ls.Pairwise fun r q => befR r q = true) → sumK i k ls = sumK i k (wth p c k ls) + hld p c k ls i
  | [], _ => by simp [sumK, wth, hld, nought]
  | r :: l, h => by
    obtain ⟨h1, h2⟩ := List.pairwise_cons.1 h
    have ih := sumK_wth (i := i) (p := p) (c := c) (k := k) h2
    unfold wth at ih ⊢
    by_cases e : eqO r.p r.c r.k p c k = true
    · have hk : r.k = k := (eqO_iff.1 e).2.2
      have hn : ∀ q ∈ l, eqO q.p q.c q.k p c k = false := fun q hq => by
        rw [← Bool.not_eq_true]
        intro e'
        obtain ⟨a1, a2, a3⟩ := eqO_iff.1 e
        obtain ⟨b1, b2, b3⟩ := eqO_iff.1 e'
        have : sameR r q := ⟨(eqS_iff.1 a1).trans (eqS_iff.1 b1).symm, (eqS_iff.1 a2).trans (eqS_iff.1 b2).symm, a3.trans b3.symm⟩
        have h3 := h1 q hq
        rw [sameR_no this] at h3
        cases h3
      have h0 : hld p c k l = nought := hld_none hn
      rw [h0] at ih
      rw [List.filter_cons, if_neg (by rw [e]; simp), hld, if_pos e, sumK, if_pos hk, ih]
      unfold nought
      omega
    · rw [List.filter_cons, if_pos (by simpa using e), hld, if_neg e, sumK, sumK, ih]
      omega
theorem insW_mem {x r : Rw} {l : List Rw} : r ∈ insW x l ↔ r = x ∨ r ∈ l := by rw [(insW_perm x l).mem_iff, List.mem_cons]
theorem insW_sorted {x : Rw} : ∀ {l : List Rw}, (l.Pairwise fun r q => befR r q = true) → (∀ r ∈ l, ¬ sameR r x) → (insW x l).Pairwise fun r q => befR r q = true
  | [], _, _ => by simp [insW]
  | r :: l, h, hx => by
    obtain ⟨h1, h2⟩ := List.pairwise_cons.1 h
    unfold insW
    by_cases e : bef x.p x.c x.k r.p r.c r.k = true
    · rw [if_pos e]
      refine List.pairwise_cons.2 ⟨fun q hq => ?_, h⟩
      rcases List.mem_cons.1 hq with rfl | hq
      · exact e
      · exact befR_tr (q := r) e (h1 q hq)
    · rw [if_neg e]
      refine List.pairwise_cons.2 ⟨fun q hq => ?_, insW_sorted h2 fun q hq => hx q (List.mem_cons_of_mem r hq)⟩
      rcases insW_mem.1 hq with rfl | hq
      · rcases befR_tot r q with h | h | h
        · exact h
        · exact absurd h (hx r (by simp))
        · exact absurd h e
      · exact h1 q hq
theorem wth_no {p c : ByteArray} {k : Int} {ls : List Rw} (s : Nat → Int) : ∀ r ∈ wth p c k ls, ¬ sameR r ⟨p, c, k, s⟩ := fun r hr e => by
  have h := (List.mem_filter.1 hr).2
  rw [(eqO_same (q := ⟨p, c, k, s⟩)).2 e] at h
  cases h
/-- What Put's OK says. -/
theorem putE_ok {zs : List Zn} {ls : List Rw} {p c : ByteArray} {k : Int} {s : Nat → Int} (h : putE zs ls p c k s = 0) : okO p c k = true ∧ okS zs.length s = true ∧ ∀ i, i < 8 → s i ≤ freV zs ls k i + hld p c k ls i := by
  unfold putE argB at h
  split at h
  · rename_i ha
    rw [Bool.and_eq_true] at ha
    split at h
    · rename_i hb
      exact ⟨ha.1, ha.2, fun i hi => of_decide_eq_true ((all8f_iff _).1 hb i hi)⟩
    · cases h
  · cases h
theorem okS_at {n : Nat} {s : Nat → Int} (h : okS n s = true) {i : Nat} (hi : i < 8) : 0 ≤ s i ∧ s i ≤ 1073741824 ∧ (n ≤ i → s i = 0) := of_decide_eq_true ((all8f_iff _).1 h i hi)
theorem Ord.put {zs : List Zn} {ls : List Rw} (h : Ord zs ls) (p c : ByteArray) (k : Int) (s : Nat → Int) : Ord zs (putL zs ls p c k s) := by
  unfold putL
  split
  · rename_i h0
    obtain ⟨h1, h2, h3⟩ := putE_ok h0
    unfold putR
    split
    · exact h.filter _
    · rename_i hz
      have hw : Ord zs (wth p c k ls) := h.filter _
      refine ⟨⟨fun r hr i hi => ?_, fun i k' hi => ?_⟩, insW_sorted hw.sorted (wth_no s), fun r hr => ?_, fun r hr => ?_⟩
      · rcases insW_mem.1 hr with rfl | hr
        · exact (okS_at h2 hi).1
        · exact hw.sound.nn r hr i hi
      · rw [sumK_perm (insW_perm _ _), sumK]
        by_cases e : k = k'
        · subst e
          rw [if_pos rfl]
          have a1 := h3 i hi
          have a2 := sumK_wth (i := i) (p := p) (c := c) (k := k) h.sorted
          unfold freV at a1
          show s i + _ ≤ _
          omega
        · rw [if_neg e]
          have := hw.sound.le i k' hi
          omega
      · rcases insW_mem.1 hr with rfl | hr
        · exact h1
        · exact hw.right r hr
      · rcases insW_mem.1 hr with rfl | hr
        · simpa using hz
        · exact hw.some r hr
  · exact h
theorem putL_len (zs : List Zn) (ls : List Rw) (p c : ByteArray) (k : Int) (s : Nat → Int) : (putL zs ls p c k s).length ≤ ls.length + 1 := by
  have hw : (wth p c k ls).length ≤ ls.length := List.length_filter_le _ _
  unfold putL putR
  split
  · split
    · omega
    · rw [(insW_perm _ _).length_eq, List.length_cons]; omega
  · omega
theorem rel_len (p : ByteArray) (ls : List Rw) : (Bk.rel p ls).length ≤ ls.length := List.length_filter_le _ _
/-- The document's Free of the rows without an owner's, and ours. -/
theorem fre_wth {zs : List Zn} {ls : List Rw} (h : ls.Pairwise fun r q => befR r q = true) (p c : ByteArray) (k : Int) (i : Nat) : freV zs (wth p c k ls) k i = freV zs ls k i + hld p c k ls i := by
  have := sumK_wth (i := i) (p := p) (c := c) (k := k) h
  unfold freV
  omega
/-- The document's Free and ours. -/
theorem frI_is {zs : List Zn} (hz : ∀ z ∈ zs, Fit z) {k : Int} {i : Nat} (hi : i < 8) : ∀ {ls : List Rw} {n : Int}, (∀ r ∈ ls, 0 ≤ r.s i) → sumK i k ls ≤ n → n ≤ 1073741824 → frI i k ls n = n - sumK i k ls
  | [], n, _, _, _ => by simp [frI, sumK]
  | r :: l, n, h, hl, hn => by
    have h0 := h r (by simp)
    have hl' : ∀ q ∈ l, 0 ≤ q.s i := fun q hq => h q (List.mem_cons_of_mem r hq)
    have nn := sumK_nn (k := k) hl'
    rw [sumK] at hl ⊢
    rw [frI]
    by_cases e : r.k = k
    · rw [if_pos e] at hl ⊢
      rw [if_pos e, show wrap64 (n - r.s i) = n - r.s i by unfold wrap64; omega, frI_is hz hi hl' (by omega) (by omega)]
      omega
    · rw [if_neg e] at hl ⊢
      rw [if_neg e, frI_is hz hi hl' (by omega) hn]
      omega
theorem freeV_is {zs : List Zn} (hz : fits zs = true) {ls : List Rw} (h : Sound zs ls) (i k : Int) : freeV zs ls i k = freT zs ls i k := by
  have zl := fits_len hz
  have nn := fun (j : Nat) (hj : j < 8) => (fun r hr => h.nn r hr j hj : ∀ r ∈ ls, 0 ≤ r.s j)
  unfold freeV freT isZ
  by_cases h0 : 0 ≤ i ∧ i < zs.length
  · rw [decide_eq_true h0, if_pos rfl]
    obtain ⟨j, rfl⟩ : ∃ j : Nat, i = j := ⟨i.toNat, by omega⟩
    have hj : j < 8 := by omega
    have hle := h.le j k hj
    have hb := roomV_bd (fits_all hz) (j : Int) k
    have hnn := sumK_nn (k := k) (nn j hj)
    by_cases hk : 0 ≤ k ∧ k ≤ 1
    · rw [if_pos (by omega), show (j : Int).toNat = j by omega, frI_is (fits_all hz) hj (nn j hj) hle hb.2]
      rfl
    · rw [if_neg (by omega), show (j : Int).toNat = j by omega, freV]
      have := roomV_zero zs (j : Int) k hk
      omega
  · rw [decide_eq_false h0, if_neg (show ¬ (false = true) by simp)]
    by_cases h1 : 0 ≤ i ∧ i < 8 ∧ 0 ≤ k ∧ k ≤ 1
    · rw [if_pos h1]
      obtain ⟨j, rfl⟩ : ∃ j : Nat, i = j := ⟨i.toNat, by omega⟩
      have hj : j < 8 := by omega
      have hr := roomV_out (zs := zs) (i := j) (by omega) k
      have hle := h.le j k hj
      have hnn := sumK_nn (k := k) (nn j hj)
      rw [show (j : Int).toNat = j by omega, frI_is (fits_all hz) hj (nn j hj) hle (by omega)]
      omega
    · rw [if_neg h1]

end Go.Proofs.Ytpefjcgccbfgbaa.Bk
