/-
  Plain facts on resizes: what one leaves, and that the same one twice is as once. No program is spoken of but for its name.
-/
import Derived.Test.YtfgbppngnafpoaaDoorPS
namespace Go.Proofs.YtfgbppngnafpoaaDoor.Sp
open Go.RowKit

/-- A container behind the changes that bear its name. -/
def upd : List Ch → Ct → Ct
  | [], d => d
  | x :: r, d => upd r (if eqS x.n d.n = true then d.put x else d)
theorem put_n (d : Ct) (x : Ch) : (d.put x).n = d.n := rfl
theorem upd_snoc (l : List Ch) (x : Ch) (d : Ct) : upd (l ++ [x]) d = if eqS x.n (upd l d).n = true then (upd l d).put x else upd l d := by
  induction l generalizing d with
  | nil => rfl
  | cons y r ih => exact ih _
theorem upd_n (l : List Ch) (d : Ct) : (upd l d).n = d.n := by
  induction l generalizing d with
  | nil => rfl
  | cons y r ih =>
    rw [upd, ih]
    split
    · rfl
    · rfl
theorem csB_two {zs : List Ct} (h : csB zs = true) {i j : Nat} {c d : Ct} (hc : zs[i]? = some c) (hd : zs[j]? = some d) (e : c.n = d.n) : i = j := by
  have h1 := (csB_iff.1 h i c hc).2
  have h2 := (csB_iff.1 h j d hd).2
  rw [e, h2] at h1
  injection h1 with h1
  exact h1.symm
theorem resGo_some {zs out : List Ct} {seen : List ByteArray} {x : Ch} {r : List Ch} {o : List Ct} (h : resGo zs out seen (x :: r) = (0, o)) :
    ∃ k, fnd x.n zs = some k ∧ seen.any (eqS x.n) = false ∧ turnAt zs k x = false ∧ resGo zs (out.modify k (fun c => c.put x)) (x.n :: seen) r = (0, o) := by
  cases hf : fnd x.n zs with
  | none => rw [resGo_none hf] at h; injection h with h _; exact absurd h (by decide)
  | some k =>
    cases hs : seen.any (eqS x.n) with
    | true => rw [resGo_seen hf hs] at h; injection h with h _; exact absurd h (by decide)
    | false =>
      cases ht : turnAt zs k x with
      | true => rw [resGo_turn hf hs ht] at h; injection h with h _; exact absurd h (by decide)
      | false => exact ⟨k, rfl, rfl, ht, by rw [← resGo_on hf hs ht]; exact h⟩
theorem resGo_len {zs : List Ct} {o : List Ct} : ∀ {l : List Ch} {out : List Ct} {seen : List ByteArray}, resGo zs out seen l = (0, o) → o.length = out.length
  | [], out, _, h => by rw [resGo] at h; injection h with _ h; rw [h]
  | x :: r, out, seen, h => by
    obtain ⟨k, _, _, _, g⟩ := resGo_some h
    rw [resGo_len g, List.length_modify]
/-- What each place holds behind the changes. -/
theorem resGo_upd {zs : List Ct} (hcs : csB zs = true) {o : List Ct} : ∀ {l : List Ch} {out : List Ct} {seen : List ByteArray}, resGo zs out seen l = (0, o) →
    (∀ (i : Nat) (e : Ct), out[i]? = some e → ∃ d, zs[i]? = some d ∧ e.n = d.n) → ∀ (i : Nat) (e : Ct), out[i]? = some e → o[i]? = some (upd l e)
  | [], out, _, h, _, i, e, he => by rw [resGo] at h; injection h with _ h; rw [← h]; exact he
  | x :: r, out, seen, h, hn, i, e, he => by
    obtain ⟨k, h1, _, _, g⟩ := resGo_some h
    obtain ⟨c, q1, q2, _⟩ := fnd_at h1
    have hn' : ∀ (i : Nat) (e : Ct), (out.modify k (fun c => c.put x))[i]? = some e → ∃ d, zs[i]? = some d ∧ e.n = d.n := fun i e he => by
      rw [List.getElem?_modify] at he
      cases hi : out[i]? with
      | none => rw [hi] at he; cases he
      | some f =>
        rw [hi] at he
        injection he with he
        obtain ⟨d, hd, hf⟩ := hn i f hi
        refine ⟨d, hd, ?_⟩
        rw [← he]
        split
        · exact hf
        · exact hf
    have ih := resGo_upd hcs g hn' i (if k = i then e.put x else e) (by rw [List.getElem?_modify, he]; rfl)
    rw [ih, upd]
    obtain ⟨d, hd, hf⟩ := hn i e he
    by_cases ki : k = i
    · subst ki
      rw [q1] at hd
      injection hd with hd
      subst hd
      have : eqS x.n e.n = true := by rw [hf, eqS_comm]; exact q2
      simp only [if_true, this]
    · have : eqS x.n e.n = false := by
        rw [Bool.eq_false_iff]
        intro q
        have q' := eqS_iff.1 q
        have q2' := eqS_iff.1 q2
        exact ki (csB_two hcs q1 hd (by rw [q2', q', hf]))
      simp only [if_neg ki, this, Bool.false_eq_true, if_false]
/-- Each name once, and none of those. -/
def onceB : List ByteArray → List Ch → Bool
  | _, [] => true
  | seen, x :: r => !(seen.any (eqS x.n)) && onceB (x.n :: seen) r
theorem resGo_once {zs : List Ct} {o : List Ct} : ∀ {l : List Ch} {out : List Ct} {seen : List ByteArray}, resGo zs out seen l = (0, o) → onceB seen l = true
  | [], _, _, _ => rfl
  | x :: r, out, seen, h => by
    obtain ⟨k, _, h2, _, g⟩ := resGo_some h
    rw [onceB, h2, resGo_once g]
    rfl
theorem once_upd : ∀ {l : List Ch} {seen : List ByteArray} {e : Ct}, onceB seen l = true → e.n ∈ seen → upd l e = e
  | [], _, _, _, _ => rfl
  | x :: r, seen, e, h, hm => by
    rw [onceB, Bool.and_eq_true, Bool.not_eq_true'] at h
    have : eqS x.n e.n = false := by
      rw [Bool.eq_false_iff]
      intro q
      have := List.any_eq_false.1 h.1 e.n hm
      exact this q
    rw [upd, this, if_neg Bool.false_ne_true]
    exact once_upd h.2 (List.mem_cons_of_mem _ hm)
/-- Each change is in already. -/
def Isin (o : List Ct) (x : Ch) : Prop := ∃ (k : Nat) (e : Ct), fnd x.n o = some k ∧ o[k]? = some e ∧ e.put x = e
theorem modify_same {o : List Ct} {k : Nat} {e : Ct} {x : Ch} (h : o[k]? = some e) (q : e.put x = e) : o.modify k (fun c => c.put x) = o := by
  refine List.ext_getElem? fun i => ?_
  rw [List.getElem?_modify]
  by_cases ki : k = i
  · subst ki
    rw [h]
    simp [q]
  · simp [ki]
theorem resGo_again {o : List Ct} : ∀ {l : List Ch} {seen : List ByteArray}, onceB seen l = true → (∀ x ∈ l, Isin o x) → resGo o o seen l = (0, o)
  | [], _, _, _ => rfl
  | x :: r, seen, h, hi => by
    rw [onceB, Bool.and_eq_true, Bool.not_eq_true'] at h
    obtain ⟨k, e, h1, h2, h3⟩ := hi x (by simp)
    have ht : turnAt o k x = false := by
      unfold turnAt
      rw [h2]
      have q1 : e.lc = x.lc := by rw [← h3]; rfl
      have q2 : e.lm = x.lm := by rw [← h3]; rfl
      simp only [turnB, q1, q2, bne_self_eq_false, Bool.or_self]
    rw [resGo_on h1 h.1 ht, modify_same h2 h3]
    exact resGo_again h.2 (fun y hy => hi y (by simp [hy]))
theorem fnd_names {n : ByteArray} : ∀ {zs ys : List Ct}, zs.length = ys.length → (∀ (i : Nat) (c d : Ct), zs[i]? = some c → ys[i]? = some d → c.n = d.n) → fnd n zs = fnd n ys
  | [], [], _, _ => rfl
  | [], _ :: _, h, _ => by simp at h
  | _ :: _, [], h, _ => by simp at h
  | c :: r, d :: s, h, k => by
    have e := k 0 c d rfl rfl
    rw [fnd, fnd, e, fnd_names (zs := r) (ys := s) (by simpa using h) (fun i a b ha hb => k (i + 1) a b (by simpa using ha) (by simpa using hb))]
theorem resGo_isin {zs : List Ct} (hcs : csB zs = true) {o : List Ct} : ∀ {l : List Ch} {out : List Ct} {seen : List ByteArray}, resGo zs out seen l = (0, o) → out.length = zs.length →
    (∀ (i : Nat) (e : Ct), out[i]? = some e → ∃ d, zs[i]? = some d ∧ e.n = d.n) → ∀ x ∈ l, ∃ (k : Nat) (e : Ct), fnd x.n zs = some k ∧ o[k]? = some e ∧ e.put x = e
  | [], _, _, _, _, _, x, hx => by cases hx
  | y :: r, out, seen, h, hl, hn, x, hx => by
    obtain ⟨k, h1, _, _, g⟩ := resGo_some h
    have hk := fnd_lt h1
    have hn' : ∀ (i : Nat) (e : Ct), (out.modify k (fun c => c.put y))[i]? = some e → ∃ d, zs[i]? = some d ∧ e.n = d.n := fun i e he => by
      rw [List.getElem?_modify] at he
      cases hi : out[i]? with
      | none => rw [hi] at he; cases he
      | some f =>
        rw [hi] at he
        injection he with he
        obtain ⟨d, hd, hf⟩ := hn i f hi
        refine ⟨d, hd, ?_⟩
        rw [← he]
        split
        · exact hf
        · exact hf
    rcases List.mem_cons.1 hx with rfl | hx
    · obtain ⟨f, hf⟩ : ∃ f, out[k]? = some f := ⟨out[k]'(by omega), List.getElem?_eq_getElem _⟩
      have u := resGo_upd hcs g hn' k (f.put x) (by rw [List.getElem?_modify, hf]; simp)
      have q : (f.put x).n = x.n := by
        obtain ⟨d, hd, e⟩ := hn k f hf
        obtain ⟨c, q1, q2, _⟩ := fnd_at h1
        rw [q1] at hd
        injection hd with hd
        subst hd
        rw [put_n, e]
        exact eqS_iff.1 q2
      rw [once_upd (resGo_once g) (by rw [q]; simp)] at u
      exact ⟨k, f.put x, h1, u, rfl⟩
    · exact resGo_isin hcs g (by rw [List.length_modify]; exact hl) hn' x hx
theorem self_names (zs : List Ct) : ∀ (i : Nat) (e : Ct), zs[i]? = some e → ∃ d, zs[i]? = some d ∧ e.n = d.n := fun _ e h => ⟨e, h, rfl⟩
/-- The parts of a resize that was done. -/
theorem resV_done {pn : ByteArray} {pr po : Int} {zs : List Ct} {l : List Ch} {o : List Ct} (h : resV pn pr po zs l = (0, o)) :
    podB pn pr po zs = true ∧ 0 < l.length ∧ resGo zs zs [] l = (0, o) ∧ podB pn pr po o = true ∧ classI o = classI zs := by
  by_cases a : podB pn pr po zs = true ∧ 0 < l.length
  · obtain ⟨⟨e, o'⟩, g⟩ : ∃ x, resGo zs zs [] l = x := ⟨_, rfl⟩
    by_cases e0 : e = 0
    · subst e0
      cases p : podB pn pr po o' with
      | false => rw [resV_pod a g p] at h; injection h with h _; exact absurd h (by decide)
      | true =>
        by_cases c : classI o' = classI zs
        · rw [resV_ok a g p c] at h
          injection h with _ h
          subst h
          exact ⟨a.1, a.2, g, p, c⟩
        · rw [resV_class a g p c] at h
          injection h with h _; exact absurd h (by decide)
    · rw [resV_err a g e0] at h
      exact absurd (congrArg Prod.fst h) e0
  · rw [resV_arg a] at h
    injection h with h _; exact absurd h (by decide)
theorem resV_keeps {pn : ByteArray} {pr po : Int} {zs : List Ct} {l : List Ch} {o : List Ct} (h : resV pn pr po zs l = (0, o)) :
    o.length = zs.length ∧ ∀ (i : Nat) (d : Ct), zs[i]? = some d → o[i]? = some (upd l d) := by
  obtain ⟨h1, -, h3, -, -⟩ := resV_done h
  exact ⟨resGo_len h3, resGo_upd (pod_parts h1).2.2.1 h3 (self_names zs)⟩
theorem resV_again {pn : ByteArray} {pr po : Int} {zs : List Ct} {l : List Ch} {o : List Ct} (h : resV pn pr po zs l = (0, o)) : resV pn pr po o l = (0, o) := by
  obtain ⟨h1, h2, h3, h4, -⟩ := resV_done h
  obtain ⟨k1, k2⟩ := resV_keeps h
  have hcs := (pod_parts h1).2.2.1
  refine resV_ok ⟨h4, h2⟩ (resGo_again (resGo_once h3) fun x hx => ?_) h4 rfl
  obtain ⟨k, e, q1, q2, q3⟩ := resGo_isin hcs h3 rfl (self_names zs) x hx
  refine ⟨k, e, ?_, q2, q3⟩
  rw [← q1]
  refine fnd_names k1 fun i c d hc hd => ?_
  have := k2 i d hd
  rw [hc] at this
  injection this with this
  rw [this, upd_n]
theorem rst_self {zs : List Ct} (h : csB zs = true) : rstL zs zs = [] := by
  unfold rstL
  rw [List.filter_eq_nil_iff.2, List.map_nil]
  intro c hc
  obtain ⟨i, hi⟩ := List.mem_iff_getElem?.1 hc
  have f := (csB_iff.1 h i c hi).2
  unfold rstB
  rw [chgOf_some f hi]
  simp [chg]
/-- What a container has, as a change. -/
def own1 (c : Ct) : Ch := ⟨c.n, c.rc, c.rm, c.rh, c.lc, c.lm, c.lh⟩
theorem once_own {zs : List Ct} (h : csB zs = true) : ∀ (j : Nat) (seen : List ByteArray), (∀ m ∈ seen, ∃ (i : Nat) (c : Ct), i < j ∧ zs[i]? = some c ∧ c.n = m) → onceB seen ((zs.drop j).map own1) = true := by
  intro j
  induction hk : zs.length - j generalizing j with
  | zero =>
    intro seen _
    rw [List.drop_eq_nil_of_le (by omega)]
    rfl
  | succ n ih =>
    intro seen hs
    have hj : j < zs.length := by omega
    rw [List.drop_eq_getElem_cons hj, List.map_cons, onceB, Bool.and_eq_true, Bool.not_eq_true']
    refine ⟨?_, ih (j + 1) (by omega) _ fun m hm => ?_⟩
    · rw [List.any_eq_false]
      intro m hm q
      obtain ⟨i, c, hi, hc, e⟩ := hs m hm
      have := csB_two h hc (List.getElem?_eq_getElem hj) (by rw [e]; exact (eqS_iff.1 q).symm)
      omega
    · rcases List.mem_cons.1 hm with rfl | hm
      · exact ⟨j, zs[j], by omega, List.getElem?_eq_getElem hj, rfl⟩
      · obtain ⟨i, c, hi, hc, e⟩ := hs m hm
        exact ⟨i, c, by omega, hc, e⟩
theorem resV_own {pn : ByteArray} {pr po : Int} {zs : List Ct} (h : podB pn pr po zs = true) : resV pn pr po zs (zs.map own1) = (0, zs) := by
  obtain ⟨-, h2, h3, -⟩ := pod_parts h
  refine resV_ok ⟨h, by rw [List.length_map]; omega⟩ (resGo_again ?_ fun x hx => ?_) h rfl
  · have := once_own h3 0 [] (fun m hm => by cases hm)
    rwa [List.drop_zero] at this
  · obtain ⟨c, hc, rfl⟩ := List.mem_map.1 hx
    obtain ⟨i, hi⟩ := List.mem_iff_getElem?.1 hc
    exact ⟨i, c, (csB_iff.1 h3 i c hi).2, hi, rfl⟩

end Go.Proofs.YtfgbppngnafpoaaDoor.Sp
