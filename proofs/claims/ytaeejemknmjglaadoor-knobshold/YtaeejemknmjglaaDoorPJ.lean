/-
  Plain facts on pods: which are right, their class, two beside one another. No program is spoken of but for its name.
-/
import Derived.Test.YtaeejemknmjglaaDoorPG
namespace Go.Proofs.YtaeejemknmjglaaDoor.Sp
open Go.RowKit

def Ct.rq (c : Ct) : Int × Int × Int := (c.rc, c.rm, c.rh)
def Ct.li (c : Ct) : Int × Int × Int := (c.lc, c.lm, c.lh)
def Ct.ok (c : Ct) : Bool := ctB c.n c.rc c.rm c.rh c.lc c.lm c.lh
/-- Each is right, and the first one of its name. -/
def csB (zs : List Ct) : Bool := (List.range zs.length).all fun i => match zs[i]? with
  | some c => c.ok && (fnd c.n zs == some i)
  | none => true
theorem csB_iff {zs : List Ct} : csB zs = true ↔ ∀ (i : Nat) (c : Ct), zs[i]? = some c → c.ok = true ∧ fnd c.n zs = some i := by
  unfold csB
  rw [List.all_eq_true]
  constructor
  · intro h i c hc
    have := h i (List.mem_range.2 (List.getElem?_eq_some_iff.1 hc).1)
    rw [hc] at this
    simpa using this
  · intro h i hi
    have hl := List.mem_range.1 hi
    have hc := List.getElem?_eq_getElem hl
    rw [hc]
    simpa using h i _ hc
theorem fnd_of {n : ByteArray} {zs : List Ct} {i : Nat} {c : Ct} (h : zs[i]? = some c) (e : eqS c.n n = true) : ∃ k, fnd n zs = some k ∧ k ≤ i := by
  induction zs generalizing i with
  | nil => simp at h
  | cons d r ih =>
    rw [fnd]
    by_cases g : eqS d.n n = true
    · exact ⟨0, if_pos g, Nat.zero_le _⟩
    · rw [if_neg g]
      match i, h with
      | 0, h =>
        simp at h
        subst h
        exact absurd e g
      | i + 1, h =>
        obtain ⟨k, hk, hl⟩ := ih (i := i) (by simpa using h)
        exact ⟨k + 1, by rw [hk]; rfl, by omega⟩
theorem fnd_first {zs : List Ct} {i : Nat} {c : Ct} (h : zs[i]? = some c) : fnd c.n zs = some i ↔ ∀ j, j < i → ∀ d, zs[j]? = some d → eqS d.n c.n = false := by
  constructor
  · intro f
    obtain ⟨_, _, _, k⟩ := fnd_at f
    exact k
  · intro k
    exact fnd_some h (eqS_refl _) k
theorem fnd_lt {n : ByteArray} {zs : List Ct} {k : Nat} (h : fnd n zs = some k) : k < zs.length := by
  obtain ⟨c, hc, _⟩ := fnd_at h
  exact (List.getElem?_eq_some_iff.1 hc).1
/-- What a pod's head asks. -/
def headB (pn : ByteArray) (pr po : Int) : Bool := nameB pn && decide (-1000 ≤ pr ∧ pr ≤ 1000 ∧ 0 ≤ po ∧ po ≤ 2)
def sumsB (zs : List Ct) : Bool := (sumL (0, 0, 0) (zs.map Ct.rq)).isSome && (sumL (0, 0, 0) (zs.map Ct.li)).isSome
/-- A right pod. -/
def podB (pn : ByteArray) (pr po : Int) (zs : List Ct) : Bool := headB pn pr po && decide (1 ≤ zs.length ∧ zs.length ≤ 6) && csB zs && sumsB zs
theorem pod_head {pn : ByteArray} {pr po : Int} {zs : List Ct} (h : headB pn pr po = false) : podB pn pr po zs = false := by simp [podB, h]
theorem pod_len {pn : ByteArray} {pr po : Int} {zs : List Ct} (h : ¬ (1 ≤ zs.length ∧ zs.length ≤ 6)) : podB pn pr po zs = false := by
  have : decide (1 ≤ zs.length ∧ zs.length ≤ 6) = false := decide_eq_false h
  simp only [podB, this, Bool.and_false, Bool.false_and]
theorem pod_cs {pn : ByteArray} {pr po : Int} {zs : List Ct} (h : csB zs = false) : podB pn pr po zs = false := by simp [podB, h]
theorem pod_sums {pn : ByteArray} {pr po : Int} {zs : List Ct} (h1 : headB pn pr po = true) (h2 : 1 ≤ zs.length ∧ zs.length ≤ 6) (h3 : csB zs = true) : podB pn pr po zs = sumsB zs := by
  simp [podB, h1, h2, h3]
theorem pod_parts {pn : ByteArray} {pr po : Int} {zs : List Ct} (h : podB pn pr po zs = true) : headB pn pr po = true ∧ (1 ≤ zs.length ∧ zs.length ≤ 6) ∧ csB zs = true ∧ sumsB zs = true := by
  unfold podB at h
  rw [Bool.and_eq_true, Bool.and_eq_true, Bool.and_eq_true, decide_eq_true_iff] at h
  exact ⟨h.1.1.1, h.1.1.2, h.1.2, h.2⟩
theorem csB_no {zs : List Ct} {i : Nat} {c : Ct} (h : zs[i]? = some c) (k : ¬ (c.ok = true ∧ fnd c.n zs = some i)) : csB zs = false := by
  rw [Bool.eq_false_iff]
  intro e
  exact k (csB_iff.1 e i c h)

def zeroC (c : Ct) : Bool := decide (c.rc = 0 ∧ c.rm = 0 ∧ c.lc = 0 ∧ c.lm = 0)
def guarC (c : Ct) : Bool := decide (c.rc = c.lc ∧ c.rm = c.lm ∧ c.rc ≠ 0 ∧ c.rm ≠ 0)
/-- A pod's class. -/
def classI (zs : List Ct) : Int := if zs.all zeroC then 2 else if zs.all guarC then 0 else 1
theorem all_take {f : Ct → Bool} {zs : List Ct} {j : Nat} {c : Ct} (h : zs[j]? = some c) : (zs.take (j + 1)).all f = ((zs.take j).all f && f c) := by
  rw [List.take_add_one, h, List.all_append]
  simp
theorem all_no {f : Ct → Bool} {zs : List Ct} {j : Nat} {c : Ct} (h : zs[j]? = some c) (k : f c = false) : zs.all f = false := by
  rw [List.all_eq_false]
  exact ⟨c, List.mem_of_getElem? h, by simp [k]⟩
theorem class_of {zs : List Ct} : classI zs = if (decide (0 < zs.length) && zs.all guarC) = true then 0 else if zs.all zeroC = true then 2 else 1 := by
  unfold classI
  by_cases z : zs.all zeroC = true
  · rw [if_pos z]
    have : (decide (0 < zs.length) && zs.all guarC) = false := by
      match zs, z with
      | [], _ => rfl
      | c :: r, z =>
        rw [List.all_cons, Bool.and_eq_true] at z
        have g : guarC c = false := by
          have := z.1
          unfold zeroC at this
          unfold guarC
          rw [decide_eq_true_iff] at this
          rw [decide_eq_false_iff_not]
          omega
        rw [List.all_cons, g]
        simp
    rw [this, if_neg Bool.false_ne_true, if_pos z]
  · rw [if_neg z]
    have : decide (0 < zs.length) = true := by
      match zs, z with
      | [], z => simp at z
      | c :: r, _ => simp
    rw [this, Bool.true_and, if_neg z]

/-- Like containers. -/
def eqC (c d : Ct) : Bool := eqS c.n d.n && (decide (c.rc = d.rc ∧ c.rm = d.rm ∧ c.rh = d.rh) && (decide (c.lc = d.lc ∧ c.lm = d.lm ∧ c.lh = d.lh) && decide (c.x = d.x ∧ c.y = d.y ∧ c.z = d.z)))
theorem eqC_iff {c d : Ct} : eqC c d = true ↔ c = d := by
  unfold eqC
  rw [Bool.and_eq_true, Bool.and_eq_true, Bool.and_eq_true, decide_eq_true_iff, decide_eq_true_iff, decide_eq_true_iff, eqS_iff]
  obtain ⟨n, rc, rm, rh, lc, lm, lh, x, y, z⟩ := c
  obtain ⟨n', rc', rm', rh', lc', lm', lh', x', y', z'⟩ := d
  simp only [Ct.mk.injEq]
  constructor
  · rintro ⟨a, ⟨b, c, d⟩, ⟨e, f, g⟩, h, i, j⟩; exact ⟨a, b, c, d, e, f, g, h, i, j⟩
  · rintro ⟨a, b, c, d, e, f, g, h, i, j⟩; exact ⟨a, ⟨b, c, d⟩, ⟨e, f, g⟩, h, i, j⟩
/-- Like rows of containers. -/
def eqL : List Ct → List Ct → Bool
  | [], [] => true
  | c :: r, d :: s => eqC c d && eqL r s
  | _, _ => false
theorem eqL_iff : ∀ {a b : List Ct}, eqL a b = true ↔ a = b
  | [], [] => by simp [eqL]
  | [], _ :: _ => by simp [eqL]
  | _ :: _, [] => by simp [eqL]
  | c :: r, d :: s => by rw [eqL, Bool.and_eq_true, eqC_iff, eqL_iff, List.cons.injEq]
theorem eqL_len {a b : List Ct} (h : a.length ≠ b.length) : eqL a b = false := by
  rw [Bool.eq_false_iff]
  intro e
  exact h (by rw [eqL_iff.1 e])
theorem eqL_no {a b : List Ct} {i : Nat} {c d : Ct} (hc : a[i]? = some c) (hd : b[i]? = some d) (h : eqC c d = false) : eqL a b = false := by
  rw [Bool.eq_false_iff]
  intro e
  rw [eqL_iff.1 e, hd] at hc
  injection hc with hc
  rw [eqC_iff.2 hc.symm] at h
  exact Bool.noConfusion h
theorem eqL_yes {a b : List Ct} (h : a.length = b.length) (k : ∀ (i : Nat) (c d : Ct), a[i]? = some c → b[i]? = some d → eqC c d = true) : eqL a b = true := by
  rw [eqL_iff]
  refine List.ext_getElem? fun i => ?_
  by_cases hi : i < a.length
  · have hj : i < b.length := by omega
    rw [List.getElem?_eq_getElem hi, List.getElem?_eq_getElem hj]
    exact congrArg some (eqC_iff.1 (k i _ _ (List.getElem?_eq_getElem hi) (List.getElem?_eq_getElem hj)))
  · rw [List.getElem?_eq_none (by omega), List.getElem?_eq_none (by omega)]
/-- Like pods. -/
def sameB (pn : ByteArray) (pr po : Int) (zs : List Ct) (qn : ByteArray) (qr qo : Int) (ys : List Ct) : Bool := eqS pn qn && (decide (pr = qr) && (decide (po = qo) && eqL zs ys))
theorem sameB_iff {pn : ByteArray} {pr po : Int} {zs : List Ct} {qn : ByteArray} {qr qo : Int} {ys : List Ct} : sameB pn pr po zs qn qr qo ys = true ↔ pn = qn ∧ pr = qr ∧ po = qo ∧ zs = ys := by
  unfold sameB
  rw [Bool.and_eq_true, Bool.and_eq_true, Bool.and_eq_true, decide_eq_true_iff, decide_eq_true_iff, eqS_iff, eqL_iff]

/-- Which resources differ. -/
def chg (c d : Ct) : Bool × Bool × Bool := ((c.rc != d.rc) || (c.lc != d.lc), (c.rm != d.rm) || (c.lm != d.lm), (c.rh != d.rh) || (c.lh != d.lh))
def chgOf (bs : List Ct) (c : Ct) : Bool × Bool × Bool := match fnd c.n bs with
  | some k => match bs[k]? with
    | some d => chg c d
    | none => (false, false, false)
  | none => (false, false, false)
def chgL (ys bs : List Ct) : List (Bool × Bool × Bool) := ys.map (chgOf bs)
def rstB (bs : List Ct) (c : Ct) : Bool := ((chgOf bs c).1 && c.x) || (((chgOf bs c).2.1 && c.y) || ((chgOf bs c).2.2 && c.z))
def rstL (ys bs : List Ct) : List ByteArray := (ys.filter (rstB bs)).map Ct.n
theorem chgOf_some {bs : List Ct} {c d : Ct} {k : Nat} (h : fnd c.n bs = some k) (hd : bs[k]? = some d) : chgOf bs c = chg c d := by
  unfold chgOf
  rw [h]
  simp only [hd]
theorem chgOf_none {bs : List Ct} {c : Ct} (h : fnd c.n bs = none) : chgOf bs c = (false, false, false) := by
  unfold chgOf
  rw [h]
theorem rst_take {ys bs : List Ct} {j : Nat} {c : Ct} (h : ys[j]? = some c) : rstL (ys.take (j + 1)) bs = if rstB bs c = true then rstL (ys.take j) bs ++ [c.n] else rstL (ys.take j) bs := by
  unfold rstL
  rw [List.take_add_one, h, Option.toList_some, List.filter_append, List.filter_cons, List.filter_nil]
  by_cases k : rstB bs c = true
  · rw [if_pos k, if_pos k, List.map_append]; rfl
  · rw [if_neg k, if_neg k, List.append_nil]
theorem chg_take {ys bs : List Ct} {j : Nat} {c : Ct} (h : ys[j]? = some c) : chgL (ys.take (j + 1)) bs = chgL (ys.take j) bs ++ [chgOf bs c] := by
  unfold chgL
  rw [List.take_add_one, h, List.map_append]
  rfl

end Go.Proofs.YtaeejemknmjglaaDoor.Sp
