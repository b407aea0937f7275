/-
  What rows in order say (in plain words): a row is found where it stands, tables that say the same, and what is put back. Conditions: the rows are as a table has them.
-/
import Derived.Test.YtpefjcgccbfgbaaNT
import Derived.Test.YtpefjcgccbfgbaaOA
namespace Go.Proofs.Ytpefjcgccbfgbaa.Bk
open Go.RowKit

abbrev Srt (ls : List Rw) : Prop := ls.Pairwise fun r q => befR r q = true
theorem sameR_sym {r q : Rw} (h : sameR r q) : sameR q r := ⟨h.1.symm, h.2.1.symm, h.2.2.symm⟩
theorem sameR_tr {r q x : Rw} (h : sameR r q) (k : sameR q x) : sameR r x := ⟨h.1.trans k.1, h.2.1.trans k.2.1, h.2.2.trans k.2.2⟩
theorem hld_head {r : Rw} {l : List Rw} {q : Rw} (h : sameR r q) : hld q.p q.c q.k (r :: l) = r.s := by rw [hld, if_pos (eqO_same.2 h)]
theorem hld_tail {r : Rw} {l : List Rw} {q : Rw} (h : ¬ sameR r q) : hld q.p q.c q.k (r :: l) = hld q.p q.c q.k l := by rw [hld, if_neg fun e => h (eqO_same.1 e)]
/-- Where the row stands, just what it holds is found. -/
theorem hld_of {q : Rw} : ∀ {ls : List Rw}, Srt ls → ∀ r ∈ ls, sameR r q → hld q.p q.c q.k ls = r.s
  | [], _, r, hr, _ => absurd hr (by simp)
  | x :: l, h, r, hr, e => by
    obtain ⟨h1, h2⟩ := List.pairwise_cons.1 h
    rcases List.mem_cons.1 hr with rfl | hr
    · exact hld_head e
    · rw [hld_tail, hld_of h2 r hr e]
      intro e2
      have := h1 r hr
      rw [sameR_no (sameR_tr e2 (sameR_sym e))] at this
      cases this
theorem hld_no {p c : ByteArray} {k : Int} {ls : List Rw} (h : ∀ r ∈ ls, ¬ sameR r ⟨p, c, k, nought⟩) : hld p c k ls = nought := hld_none fun r hr => by
  rw [← Bool.not_eq_true]
  exact fun e => h r hr ((eqO_same (q := ⟨p, c, k, nought⟩)).1 e)
theorem wth_idem (p c : ByteArray) (k : Int) (ls : List Rw) : wth p c k (wth p c k ls) = wth p c k ls := by
  unfold wth
  rw [List.filter_filter]
  congr 1
  funext r
  rw [Bool.and_self]
theorem wth_ins (p c : ByteArray) (k : Int) (s : Nat → Int) : ∀ ls : List Rw, wth p c k (insW ⟨p, c, k, s⟩ ls) = wth p c k ls
  | [] => by
    show List.filter _ [_] = []
    rw [List.filter_cons, if_neg (by simp [(eqO_same (r := ⟨p, c, k, s⟩) (q := ⟨p, c, k, s⟩)).2 ⟨rfl, rfl, rfl⟩])]
    rfl
  | r :: l => by
    have ih := wth_ins p c k s l
    unfold wth at ih ⊢
    unfold insW
    split
    · rw [List.filter_cons, if_neg (by simp [(eqO_same (r := ⟨p, c, k, s⟩) (q := ⟨p, c, k, s⟩)).2 ⟨rfl, rfl, rfl⟩])]
    · rw [List.filter_cons, List.filter_cons, ih]
theorem wth_putR (ls : List Rw) (p c : ByteArray) (k : Int) (s : Nat → Int) : wth p c k (putR ls p c k s) = wth p c k ls := by
  unfold putR
  split
  · exact wth_idem p c k ls
  · rw [wth_ins, wth_idem]
/-- What was put is held. -/
theorem hld_putR {ls : List Rw} (h : Srt ls) (p c : ByteArray) (k : Int) (s : Nat → Int) : ∀ i, i < 8 → hld p c k (putR ls p c k s) i = s i := by
  intro i hi
  unfold putR
  split
  · rename_i hz
    rw [hld_no fun r hr => wth_no nought r hr]
    exact (zeroB_iff.1 hz i hi).symm
  · have := hld_of (q := ⟨p, c, k, s⟩) (insW_sorted (x := ⟨p, c, k, s⟩) (h.filter _) (wth_no s)) ⟨p, c, k, s⟩ (insW_mem.2 (.inl rfl)) ⟨rfl, rfl, rfl⟩
    exact congrFun this i
/-- In order, in the same rows: the same list. -/
theorem srt_eq : ∀ {l m : List Rw}, Srt l → Srt m → l.Perm m → l = m
  | [], m, _, _, p => (List.nil_perm.1 p).symm
  | r :: l, m, h, h', p => by
    cases m with
    | nil => exact absurd (List.perm_nil.1 p) (by simp)
    | cons q m =>
      obtain ⟨h1, h2⟩ := List.pairwise_cons.1 h
      obtain ⟨k1, k2⟩ := List.pairwise_cons.1 h'
      have e : r = q := by
        rcases List.mem_cons.1 (p.mem_iff.1 (List.mem_cons_self (a := r) (l := l))) with e | hr
        · exact e
        · rcases List.mem_cons.1 (p.mem_iff.2 (List.mem_cons_self (a := q) (l := m))) with e | hq
          · exact e.symm
          · have a := k1 r hr
            rw [befR_asy (h1 q hq)] at a
            cases a
      subst e
      rw [srt_eq h2 k2 (List.Perm.cons_inv p)]
/-- What was held, put back: the rows as they were. -/
theorem put_back {ls : List Rw} {zs : List Zn} (h : Ord zs ls) (p c : ByteArray) (k : Int) (s : Nat → Int) : putR (putR ls p c k s) p c k (hld p c k ls) = ls := by
  rw [putR, wth_putR]
  by_cases e : ∃ r ∈ ls, sameR r ⟨p, c, k, nought⟩
  · obtain ⟨r, hr, e⟩ := e
    have e1 : hld p c k ls = r.s := hld_of (q := ⟨p, c, k, nought⟩) h.sorted r hr e
    obtain ⟨rp, rc, rk, rs⟩ := r
    obtain ⟨a1, a2, a3⟩ : rp = p ∧ rc = c ∧ rk = k := e
    subst a1; subst a2; subst a3
    rw [e1, if_neg (by rw [h.some _ hr]; simp)]
    refine srt_eq (insW_sorted (h.sorted.filter _) (wth_no rs)) h.sorted ((insW_perm _ _).trans ?_)
    have hn := h.sorted
    clear h e1
    induction ls with
    | nil => exact absurd hr (by simp)
    | cons x l ih =>
      obtain ⟨h1, h2⟩ := List.pairwise_cons.1 hn
      rcases List.mem_cons.1 hr with e | hr
      · subst e
        have : wth rp rc rk (⟨rp, rc, rk, rs⟩ :: l) = l := by
          unfold wth
          rw [List.filter_cons, if_neg (by simp [(eqO_same (r := ⟨rp, rc, rk, rs⟩) (q := ⟨rp, rc, rk, rs⟩)).2 ⟨rfl, rfl, rfl⟩])]
          refine List.filter_eq_self.2 fun q hq => ?_
          rw [Bool.not_eq_true', ← Bool.not_eq_true]
          intro e2
          have := h1 q hq
          rw [sameR_no (sameR_sym ((eqO_same (q := ⟨rp, rc, rk, rs⟩)).1 e2))] at this
          cases this
        rw [this]
      · have hx : ¬ sameR x ⟨rp, rc, rk, rs⟩ := fun e2 => by
          have := h1 _ hr
          rw [sameR_no e2] at this
          cases this
        have : wth rp rc rk (x :: l) = x :: wth rp rc rk l := by
          unfold wth
          rw [List.filter_cons, if_pos]
          rw [Bool.not_eq_true', ← Bool.not_eq_true]
          exact fun e2 => hx ((eqO_same (q := ⟨rp, rc, rk, rs⟩)).1 e2)
        rw [this]
        exact (List.Perm.swap _ _ _).trans ((ih hr h2).cons x)
  · have hn : ∀ r ∈ ls, ¬ sameR r ⟨p, c, k, nought⟩ := fun r hr he => e ⟨r, hr, he⟩
    rw [hld_no hn, if_pos (by unfold zeroB eqP nought; rfl)]
    unfold wth
    refine List.filter_eq_self.2 fun q hq => ?_
    rw [Bool.not_eq_true', ← Bool.not_eq_true]
    exact fun e2 => hn q hq ((eqO_same (q := ⟨p, c, k, nought⟩)).1 e2)
theorem Sound.hldz {zs : List Zn} {ls : List Rw} (h : Sound zs ls) (p c : ByteArray) (k : Int) {i : Nat} (hi : i < 8) (hz : zs.length ≤ i) : Bk.hld p c k ls i = 0 := by
  rcases hld_cases p c k ls with e | ⟨r, hr, e⟩
  · rw [e]; rfl
  · rw [e]
    have h1 := h.nn r hr i hi
    have h2 := h.le i r.k hi
    have h3 := roomV_out (zs := zs) (i := i) (by omega) r.k
    obtain ⟨ms, hp⟩ := pick_one hr
    have h4 := sumK_nn (i := i) (k := r.k) (l := ms) fun q hq => h.nn q (hp.mem_iff.2 (List.mem_cons_of_mem r hq)) i hi
    rw [sumK_perm hp, sumK, if_pos rfl] at h2
    omega
/-- It is taken back. -/
theorem putE_back {ls : List Rw} {zs : List Zn} (hf : ∀ z ∈ zs, Fit z) (h : Ord zs ls) {p c : ByteArray} {k : Int} {s : Nat → Int} (h0 : putE zs ls p c k s = 0) : putE zs (putR ls p c k s) p c k (hld p c k ls) = 0 := by
  obtain ⟨h1, h2, h3⟩ := putE_ok h0
  have ho : Ord zs (putR ls p c k s) := by
    have := h.put p c k s
    unfold putL at this
    rwa [if_pos h0] at this
  unfold putE argB
  rw [h1, if_pos, if_pos]
  · refine (all8f_iff _).2 fun i hi => decide_eq_true ?_
    have a1 := fre_wth (zs := zs) ho.sorted p c k i
    rw [wth_putR, fre_wth (zs := zs) h.sorted p c k i] at a1
    have a2 := h.sound.le i k hi
    unfold freV at *
    omega
  · rw [Bool.true_and]
    refine (all8f_iff _).2 fun i hi => decide_eq_true ?_
    have := h.sound.hld hf p c k hi
    exact ⟨this.1, this.2, fun hz => h.sound.hldz p c k hi hz⟩
theorem eqP_iff {a b : Nat → Int} : eqP a b = true ↔ ∀ i, i < 8 → a i = b i := by
  unfold eqP
  simp only [Bool.and_eq_true, beq_iff_eq]
  constructor
  · rintro ⟨h0, h1, h2, h3, h4, h5, h6, h7⟩ i hi
    rcases (show i = 0 ∨ i = 1 ∨ i = 2 ∨ i = 3 ∨ i = 4 ∨ i = 5 ∨ i = 6 ∨ i = 7 by omega) with rfl | rfl | rfl | rfl | rfl | rfl | rfl | rfl <;> assumption
  · intro h
    exact ⟨h 0 (by omega), h 1 (by omega), h 2 (by omega), h 3 (by omega), h 4 (by omega), h 5 (by omega), h 6 (by omega), h 7 (by omega)⟩
theorem mt_iff {ls : List Rw} (h : Srt ls) (r : Rw) : mt ls r = true ↔ ∃ q ∈ ls, sameR q r ∧ eqP r.s q.s = true := by
  unfold mt
  rw [Bool.and_eq_true, List.any_eq_true]
  constructor
  · rintro ⟨⟨q, hq, e⟩, h2⟩
    have e := eqO_same.1 e
    rw [hld_of h q hq e] at h2
    exact ⟨q, hq, e, h2⟩
  · rintro ⟨q, hq, e, h2⟩
    exact ⟨⟨q, hq, eqO_same.2 e⟩, by rw [hld_of h q hq e]; exact h2⟩
/-- Nothing is lost where all have their mates. -/
theorem mates_len : ∀ {m l : List Rw}, Srt m → Srt l → (∀ r ∈ l, ∃ q ∈ m, sameR q r) → l.length ≤ m.length
  | [], l, _, _, h => by
    cases l with
    | nil => exact Nat.le_refl _
    | cons r l => obtain ⟨q, hq, -⟩ := h r (by simp); exact absurd hq (by simp)
  | q :: m, l, hm, hl, h => by
    cases l with
    | nil => exact Nat.zero_le _
    | cons r l =>
      obtain ⟨k1, k2⟩ := List.pairwise_cons.1 hm
      obtain ⟨h1, h2⟩ := List.pairwise_cons.1 hl
      obtain ⟨q0, hq0, e0⟩ := h r (by simp)
      have ih := mates_len k2 h2 fun x hx => by
        obtain ⟨y, hy, e⟩ := h x (List.mem_cons_of_mem r hx)
        rcases List.mem_cons.1 hy with rfl | hy
        · have rx := h1 x hx
          rw [(befR_same (sameR_sym e0)).1, ← (befR_same e).2] at rx
          rcases List.mem_cons.1 hq0 with rfl | hq0
          · rw [befR_irr] at rx; cases rx
          · rw [befR_asy (k1 q0 hq0)] at rx; cases rx
        · exact ⟨y, hy, e⟩
      simp only [List.length_cons]
      omega
/-- Tables that say the same: the document's words and ours. -/
theorem same_eq : ∀ {l m : List Rw}, Srt l → Srt m → sameM l m = sameL l m
  | [], [], _, _ => rfl
  | [], q :: m, _, _ => rfl
  | r :: l, [], _, _ => rfl
  | r :: l, q :: m, hl, hm => by
    obtain ⟨h1, h2⟩ := List.pairwise_cons.1 hl
    obtain ⟨k1, k2⟩ := List.pairwise_cons.1 hm
    have ih := same_eq h2 k2
    rw [Bool.eq_iff_iff] at ih ⊢
    rw [sameM, Bool.and_eq_true, decide_eq_true_iff, List.all_eq_true] at ih ⊢
    rw [sameL, Bool.and_eq_true, ← ih]
    constructor
    · rintro ⟨hn, ha⟩
      have hr := (mt_iff hm r).1 (ha r (by simp))
      obtain ⟨x, hx, e, es⟩ := hr
      have far : ∀ x ∈ m, sameR x r → False := fun x' hx' e' => by
        have : (r :: l).length ≤ m.length := mates_len k2 hl fun y hy => by
          obtain ⟨z, hz, e2, -⟩ := (mt_iff hm y).1 (ha y hy)
          rcases List.mem_cons.1 hz with rfl | hz
          · exfalso
            have zx := k1 x' hx'
            rw [(befR_same e2).1, (befR_same e').2] at zx
            rcases List.mem_cons.1 hy with rfl | hy
            · rw [befR_irr] at zx; cases zx
            · rw [befR_asy (h1 y hy)] at zx; cases zx
          · exact ⟨z, hz, e2⟩
        simp only [List.length_cons] at this hn
        omega
      rcases List.mem_cons.1 hx with rfl | hx
      · refine ⟨?_, by simpa using hn, fun y hy => ?_⟩
        · rw [eqR, Bool.and_eq_true]
          exact ⟨eqO_same.2 (sameR_sym e), es⟩
        · obtain ⟨z, hz, e2, e3⟩ := (mt_iff hm y).1 (ha y (List.mem_cons_of_mem r hy))
          refine (mt_iff k2 y).2 ⟨z, ?_, e2, e3⟩
          rcases List.mem_cons.1 hz with rfl | hz
          · exfalso
            have := h1 y hy
            rw [sameR_no (sameR_tr (sameR_sym e) e2)] at this
            cases this
          · exact hz
      · exact absurd e (far x hx)
    · rintro ⟨he, hn, ha⟩
      rw [eqR, Bool.and_eq_true] at he
      refine ⟨by simp [hn], fun y hy => ?_⟩
      rcases List.mem_cons.1 hy with rfl | hy
      · exact (mt_iff hm y).2 ⟨q, by simp, sameR_sym (eqO_same.1 he.1), he.2⟩
      · obtain ⟨z, hz, e⟩ := (mt_iff k2 y).1 (ha y hy)
        exact (mt_iff hm y).2 ⟨z, List.mem_cons_of_mem q hz, e⟩
theorem same_refl {l : List Rw} (h : Srt l) : sameM l l = true := by
  rw [sameM, Bool.and_eq_true, decide_eq_true_iff, List.all_eq_true]
  exact ⟨rfl, fun r hr => (mt_iff h r).2 ⟨r, hr, ⟨rfl, rfl, rfl⟩, eqP_iff.2 fun _ _ => rfl⟩⟩

end Go.Proofs.Ytpefjcgccbfgbaa.Bk
