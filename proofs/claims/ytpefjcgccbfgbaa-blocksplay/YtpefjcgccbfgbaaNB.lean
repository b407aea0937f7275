/-
  A map from owners to spreads as the list of its rows, at this program: looked up, put, struck, gone over. Conditions: owners' texts within the reach.
-/
import Derived.Test.YtpefjcgccbfgbaaNA
namespace Go.Proofs.Ytpefjcgccbfgbaa.Bk
open Go.RowKit Go.Maps

def spD (s : Nat → Int) : DataW Unit := .agg [.lit (.int .i64 (s 0)), .lit (.int .i64 (s 1)), .lit (.int .i64 (s 2)), .lit (.int .i64 (s 3)), .lit (.int .i64 (s 4)), .lit (.int .i64 (s 5)), .lit (.int .i64 (s 6)), .lit (.int .i64 (s 7))]
/-- How an element reads. -/
def rdL : List Value → Option (DataW Unit × List MemPlace)
  | [.int .i64 a, .int .i64 b, .int .i64 c, .int .i64 d, .int .i64 e, .int .i64 f, .int .i64 g, .int .i64 h] => some (.agg [.lit (.int .i64 a), .lit (.int .i64 b), .lit (.int .i64 c), .lit (.int .i64 d), .lit (.int .i64 e), .lit (.int .i64 f), .lit (.int .i64 g), .lit (.int .i64 h)], [])
  | _ => none
def rdSp : Value → Option (DataW Unit × List MemPlace)
  | .agg xs => rdL xs.toList
  | _ => none
theorem rdSp_mk (s : Nat → Int) : rdSp (spV s) = some (spD s, []) := rfl
theorem rdL_inv : ∀ {l : List Value} {y}, rdL l = some y → ∃ s : Nat → Int, l = [.int .i64 (s 0), .int .i64 (s 1), .int .i64 (s 2), .int .i64 (s 3), .int .i64 (s 4), .int .i64 (s 5), .int .i64 (s 6), .int .i64 (s 7)] ∧ y = (spD s, []) := by
  intro l y h
  unfold rdL at h
  split at h
  · rename_i a b c d e f g k
    cases h
    exact ⟨fun i => [a, b, c, d, e, f, g, k].getD i 0, rfl, rfl⟩
  · cases h
theorem rdSp_inv {v : Value} {y} (h : rdSp v = some y) : ∃ s, v = spV s ∧ y = (spD s, []) := by
  cases v <;> try (cases h; done)
  rename_i xs
  obtain ⟨s, e, hy⟩ := rdL_inv (show rdL xs.toList = some y from h)
  refine ⟨s, ?_, hy⟩
  cases xs
  simp at e
  rw [e]
theorem spD_inj {s t : Nat → Int} (h : spD s = spD t) : spV s = spV t := by
  unfold spD at h
  simp at h
  obtain ⟨h0, h1, h2, h3, h4, h5, h6, h7⟩ := h
  rw [spV, spV, h0, h1, h2, h3, h4, h5, h6, h7]
theorem spV_eq {s t : Nat → Int} (h : spV s = spV t) : ∀ i, i < 8 → s i = t i := by
  simp at h
  obtain ⟨h0, h1, h2, h3, h4, h5, h6, h7⟩ := h
  intro i hi
  rcases i with _ | _ | _ | _ | _ | _ | _ | _ | i <;> first | assumption | omega

/-- A row's key is one that reads. -/
def GdK (p c : ByteArray) (k : Int) : Prop := (p.size ≤ maxLen ∧ c.size ≤ maxLen) ∧ (Lit.int .i64 k).wf = true
abbrev Gd (r : Rw) : Prop := GdK r.p r.c r.k
def keyR (r : Rw) : Lit := keyL r.p r.c r.k
theorem GdK.key {p c : ByteArray} {k : Int} (h : GdK p c k) : keyOf Try.prog 45 (ownV p c k) = some (keyL p c k) := key_of h.1.1 h.1.2 h.2
theorem keyL_is (p c : ByteArray) (k : Int) : WideAt.IsKeyLit (keyL p c k) := trivial
theorem key_inj {p c p' c' : ByteArray} {k k' : Int} (h : GdK p c k) (h' : GdK p' c' k') (e : keyL p c k = keyL p' c' k') : p = p' ∧ c = c' ∧ k = k' := by
  have := ownK.inj h.key (e ▸ h'.key)
  simpa using this
theorem key_eqO {p c p' c' : ByteArray} {k k' : Int} (h : GdK p c k) (h' : GdK p' c' k') : eqO p c k p' c' k' = true ↔ keyL p c k = keyL p' c' k' := by
  rw [eqO_iff, eqS_iff, eqS_iff]
  exact ⟨fun ⟨a, b, c⟩ => by rw [a, b, c], key_inj h h'⟩
theorem key_eqF {p c p' c' : ByteArray} {k k' : Int} (h : GdK p c k) (h' : GdK p' c' k') : eqO p c k p' c' k' = false ↔ keyL p c k ≠ keyL p' c' k' := by
  rw [← Bool.not_eq_true, key_eqO h h']

/-- A datum is just these rows. -/
structure Rep (D : DataW Unit) (ls : List Rw) : Prop where
  tidy : Tidy D
  keys : ∀ kl, has D kl = true → ∃ r ∈ ls, kl = keyR r
  vals : ∀ r ∈ ls, ∀ z, D.atKey (keyR r) z = spD r.s
  good : ∀ r ∈ ls, Gd r
  apart : ls.Pairwise (fun r q => keyR r ≠ keyR q)
  size : size D = ls.length
theorem Rep.perm {D : DataW Unit} {ls ms : List Rw} (h : Rep D ls) (p : ls.Perm ms) : Rep D ms :=
  ⟨h.tidy, fun kl hk => let ⟨r, hr, e⟩ := h.keys kl hk; ⟨r, p.mem_iff.1 hr, e⟩, fun r hr => h.vals r (p.mem_iff.2 hr), fun r hr => h.good r (p.mem_iff.2 hr), (p.pairwise_iff (fun {a b} (k : keyR a ≠ keyR b) => k.symm)).1 h.apart, h.size.trans p.length_eq⟩
theorem Rep.has_mem {D : DataW Unit} {ls : List Rw} (h : Rep D ls) {r : Rw} (hr : r ∈ ls) : has D (keyR r) = true := has_true_of_atKey (h.vals r hr)
theorem Rep.not_has {D : DataW Unit} {ls : List Rw} (h : Rep D ls) {kl : Lit} (hk : ∀ r ∈ ls, keyR r ≠ kl) : has D kl = false := by
  cases e : has D kl with
  | false => rfl
  | true =>
    obtain ⟨r, hr, rfl⟩ := h.keys kl e
    exact absurd rfl (hk r hr)
theorem hld_none {p c : ByteArray} {k : Int} : ∀ {ls : List Rw}, (∀ r ∈ ls, eqO r.p r.c r.k p c k = false) → hld p c k ls = nought
  | [], _ => rfl
  | r :: l, h => by rw [hld, if_neg (by rw [h r (by simp)]; simp), hld_none fun q hq => h q (by simp [hq])]
theorem hld_mem {p c : ByteArray} {k : Int} {x : Rw} : ∀ {ls : List Rw}, x ∈ ls → eqO x.p x.c x.k p c k = true → (∀ r ∈ ls, eqO r.p r.c r.k p c k = true → r = x) → hld p c k ls = x.s
  | [], h, _, _ => by cases h
  | r :: l, h, e, u => by
    rw [hld]
    by_cases g : eqO r.p r.c r.k p c k = true
    · rw [if_pos g, u r (by simp) g]
    · rw [if_neg g]
      rcases List.mem_cons.1 h with rfl | h
      · exact absurd e g
      · exact hld_mem h e fun q hq => u q (by simp [hq])
theorem eq_of_key {ls : List Rw} (h : ls.Pairwise (fun r q => keyR r ≠ keyR q)) {r q : Rw} (hr : r ∈ ls) (hq : q ∈ ls) (e : keyR r = keyR q) : r = q := by
  induction h with
  | nil => cases hr
  | @cons a l h1 h2 ih =>
    rcases List.mem_cons.1 hr with hr' | hr' <;> rcases List.mem_cons.1 hq with hq' | hq'
    · rw [hr', hq']
    · exact absurd (hr' ▸ e) (h1 q hq')
    · exact absurd (hq' ▸ e).symm (h1 r hr')
    · exact ih hr' hq'
theorem Rep.look {D : DataW Unit} {ls : List Rw} (h : Rep D ls) {p c : ByteArray} {k : Int} (g : GdK p c k) : D.atKey (keyL p c k) (spD nought) = spD (hld p c k ls) := by
  by_cases m : ∃ r ∈ ls, keyR r = keyL p c k
  · obtain ⟨r, hr, e⟩ := m
    rw [← e, h.vals r hr, hld_mem hr ((key_eqO (h.good r hr) g).2 e) fun q hq hk => eq_of_key h.apart hq hr (((key_eqO (h.good q hq) g).1 hk).trans e.symm)]
  · have m' : ∀ r ∈ ls, keyR r ≠ keyL p c k := fun r hr e => m ⟨r, hr, e⟩
    rw [atKey_of_not_has (h.not_has m'), hld_none fun r hr => (key_eqF (h.good r hr) g).2 (m' r hr)]
def kq (q : Rw) (kl : Lit) : Bool := (keyR q).sameKey kl
theorem kq_iff {q : Rw} {kl : Lit} : kq q kl = true ↔ keyR q = kl := ⟨fun h => WideAt.sameKey_eq h, fun h => by rw [← h]; exact WideAt.sameKey_self (keyL_is _ _ _)⟩
theorem kq_no {q : Rw} {kl : Lit} : (!kq q kl) = true ↔ keyR q ≠ kl := by rw [Bool.not_eq_true', ← Bool.not_eq_true, kq_iff]
theorem kq_f {q : Rw} {kl : Lit} (h : keyR q ≠ kl) : kq q kl = false := by rw [← Bool.not_eq_true, kq_iff]; exact h
theorem len_strike (kl : Lit) : ∀ {ls : List Rw}, ls.Pairwise (fun r q => keyR r ≠ keyR q) → (ls.filter fun q => !kq q kl).length + (if ls.any (fun q => kq q kl) = true then 1 else 0) = ls.length
  | [], _ => rfl
  | r :: l, h => by
    obtain ⟨h1, h2⟩ := List.pairwise_cons.1 h
    have ih := len_strike kl h2
    by_cases e : keyR r = kl
    · have hn : l.any (fun q => kq q kl) = false := by
        rw [List.any_eq_false]
        intro q hq hk
        exact h1 q hq (e.trans (kq_iff.1 hk).symm)
      rw [hn] at ih
      rw [List.filter_cons, List.any_cons, kq_iff.2 e]
      simp at ih ⊢
      omega
    · rw [List.filter_cons, List.any_cons, kq_f e]
      simp at ih ⊢
      omega
theorem Rep.any {D : DataW Unit} {ls : List Rw} (h : Rep D ls) (kl : Lit) : has D kl = ls.any (fun q => kq q kl) := by
  rw [Bool.eq_iff_iff, List.any_eq_true]
  constructor
  · intro e
    obtain ⟨r, hr, rfl⟩ := h.keys kl e
    exact ⟨r, hr, kq_iff.2 rfl⟩
  · rintro ⟨r, hr, e⟩
    rw [← kq_iff.1 e]
    exact h.has_mem hr
theorem Rep.del {D : DataW Unit} {ls : List Rw} (h : Rep D ls) (kl : Lit) : Rep (D.del kl) (ls.filter fun q => !kq q kl) where
  tidy := h.tidy.del kl
  keys l hl := by
    by_cases e : l = kl
    · rw [e, has_del_same] at hl; cases hl
    · rw [has_del_other e] at hl
      obtain ⟨r, hr, rfl⟩ := h.keys l hl
      exact ⟨r, List.mem_filter.2 ⟨hr, kq_no.2 e⟩, rfl⟩
  vals r hr z := by
    obtain ⟨h1, h2⟩ := List.mem_filter.1 hr
    rw [atKey_del_other (kq_no.1 h2), h.vals r h1]
  good r hr := h.good r (List.mem_filter.1 hr).1
  apart := h.apart.filter _
  size := by
    have h1 := size_del (k := kl) h.tidy
    have h2 := len_strike kl h.apart
    rw [h.any kl] at h1
    rw [h.size] at h1
    omega
theorem Rep.put {D : DataW Unit} {ls : List Rw} (h : Rep D ls) {r : Rw} (g : Gd r) : Rep (D.put (keyR r) (spD r.s)) (r :: ls.filter fun q => !kq q (keyR r)) where
  tidy := h.tidy.put (keyL_is _ _ _) _
  keys l hl := by
    by_cases e : l = keyR r
    · exact ⟨r, by simp, e⟩
    · rw [has_put_other e] at hl
      obtain ⟨q, hq, rfl⟩ := h.keys l hl
      exact ⟨q, List.mem_cons_of_mem _ (List.mem_filter.2 ⟨hq, kq_no.2 e⟩), rfl⟩
  vals q hq z := by
    rcases List.mem_cons.1 hq with rfl | hq
    · exact atKey_put_same h.tidy.isMap (keyL_is _ _ _) _ _
    · obtain ⟨h1, h2⟩ := List.mem_filter.1 hq
      rw [atKey_put_other (kq_no.1 h2), h.vals q h1]
  good q hq := by
    rcases List.mem_cons.1 hq with rfl | hq
    · exact g
    · exact h.good q (List.mem_filter.1 hq).1
  apart := List.pairwise_cons.2 ⟨fun q hq e => (kq_no.1 (List.mem_filter.1 hq).2) e.symm, h.apart.filter _⟩
  size := by
    have h1 := size_put (k := keyR r) h.tidy (spD r.s)
    have h2 := len_strike (keyR r) h.apart
    rw [h.any (keyR r), h.size] at h1
    rw [h1, List.length_cons]
    cases e : ls.any (fun q => kq q (keyR r)) with
    | true => rw [e] at h2; simpa using h2.symm
    | false => rw [e] at h2; simpa using h2.symm
theorem Rep.empty : Rep (.map []) [] := ⟨tidy_empty, fun kl h => (by simp [has] at h), fun r h => absurd h (by simp), fun r h => absurd h (by simp), List.Pairwise.nil, rfl⟩
theorem wth_key {p c : ByteArray} {k : Int} (g : GdK p c k) : ∀ {ls : List Rw}, (∀ r ∈ ls, Gd r) → (ls.filter fun q => !kq q (keyL p c k)) = wth p c k ls := fun {ls} h =>
  List.filter_congr fun r hr => by
    cases e : eqO r.p r.c r.k p c k with
    | true => rw [kq_iff.2 ((key_eqO (h r hr) g).1 e)]
    | false => rw [kq_f ((key_eqF (h r hr) g).1 e)]

/-- A block is a map that is just these rows. -/
def MapW (W : World) (b : Nat) (ls : List Rw) : Prop := ∃ D, W.ownsMap Try.prog 45 rdSp b ls.length D ∧ Rep D ls
theorem tight {W : World} {b n : Nat} {D : DataW Unit} (h : W.ownsMap Try.prog 45 rdSp b n D) : W.ownsMap Try.prog 45 rdSp b (size D) D := by
  obtain ⟨es, clock, hb, F, hs, rfl⟩ := h
  refine ⟨es, clock, hb, F, ?_, rfl⟩
  simp [Maps.size, length_sorted]
theorem MapW.of {W : World} {b n : Nat} {D : DataW Unit} {ls : List Rw} (h : W.ownsMap Try.prog 45 rdSp b n D) (r : Rep D ls) : MapW W b ls := ⟨D, by rw [← r.size]; exact tight h, r⟩
theorem MapW.perm {W : World} {b : Nat} {ls ms : List Rw} (h : MapW W b ls) (p : ls.Perm ms) : MapW W b ms := let ⟨_, h1, h2⟩ := h; MapW.of h1 (h2.perm p)
theorem MapW.kept {W w1 : World} {b : Nat} {ls : List Rw} {row : Option Nat} (h : MapW W b ls) (hg : W.grownBy w1 row) (hne : some b ≠ row) : MapW w1 b ls := let ⟨D, h1, h2⟩ := h; ⟨D, h1.kept hg hne, h2⟩
theorem below_grown {W w1 : World} (h : Below W.heap.size W w1) : W.grownBy w1 none := ⟨h.os, h.tape, h.output, h.size, fun k hk _ => h.block k hk⟩
theorem grown_below {W w1 : World} (h : W.grownBy w1 none) : Below W.heap.size W w1 := ⟨h.os, h.tape, h.output, h.size, fun k hk => h.block k hk (by simp)⟩
theorem MapW.later {W w1 : World} {b : Nat} {ls : List Rw} (hb : Below W.heap.size W w1) (h : MapW W b ls) : MapW w1 b ls := h.kept (below_grown hb) (by simp)
theorem MapW.alloc {W : World} {b : Nat} {ls : List Rw} (h : MapW W b ls) (o : Obj) : MapW (W.alloc o) b ls := MapW.later ((Below.refl _ _).alloc (Nat.le_refl _) o) h
theorem MapW.drewN {W : World} {b : Nat} {ls : List Rw} (h : MapW W b ls) (n : Nat) : MapW (W.drewN n) b ls := MapW.later (below_drewN (Below.refl _ _) n) h
theorem MapW.set {W : World} {b : Nat} {ls : List Rw} (h : MapW W b ls) {a : Addr} (ha : b ≠ a.block) (u : Value) : MapW (W.setCell a u) b ls := let ⟨D, h1, h2⟩ := h; ⟨D, h1.setCell ha u, h2⟩
theorem MapW.lt {W : World} {b : Nat} {ls : List Rw} (h : MapW W b ls) : b < W.heap.size := let ⟨_, h1, _⟩ := h; h1.lt
theorem MapW.good {W : World} {b : Nat} {ls : List Rw} (h : MapW W b ls) : ∀ r ∈ ls, Gd r := let ⟨_, _, h2⟩ := h; h2.good
theorem MapW.apart {W : World} {b : Nat} {ls : List Rw} (h : MapW W b ls) : ls.Pairwise (fun r q => keyR r ≠ keyR q) := let ⟨_, _, h2⟩ := h; h2.apart
theorem MapW.made (W : World) : MapW (W.alloc (.map #[] 0)) W.heap.size [] := ⟨_, World.ownsMap_made W _ _ _, Rep.empty⟩
theorem MapW.ne {W : World} {b : Nat} {ls : List Rw} (h : MapW W b ls) {c i : Nat} {v : Value} (hc : W.cell? ⟨c, i, none⟩ = some v) : b ≠ c := by
  rintro rfl
  obtain ⟨D, ⟨es, clock, hb, _⟩, _⟩ := h
  simp [World.cell?, hb] at hc
abbrev tMap : TypeId := 72
theorem zeroSp (w : World) : (zeroValue 47).run Try.prog w = .ok (spV nought) w := by kernel_rfl
theorem MapW.look {W : World} {b : Nat} {ls : List Rw} (h : MapW W b ls) {p c : ByteArray} {k : Int} (g : GdK p c k) :
    Sem.run Try.prog (Instr.lookup tMap (.map (some b)) (ownV p c k) false) W = .ok (spV (hld p c k ls)) W := by
  obtain ⟨D, h1, h2⟩ := h
  obtain ⟨v, ps, hrun, hv⟩ := h1.lookup ownK Try.underlying72 (zeroSp W) (rdSp_mk nought) g.key
  rw [h2.look g] at hv
  obtain ⟨s, rfl, hy⟩ := rdSp_inv hv
  simp only [Prod.mk.injEq] at hy
  rw [spD_inj hy.1]
  exact hrun
theorem MapW.drop {W : World} {b : Nat} {ls : List Rw} (h : MapW W b ls) {p c : ByteArray} {k : Int} (g : GdK p c k) (ty : TypeId) :
    ∃ w', (Builtin.delete_ #[tMap, 45] ty #[.map (some b), ownV p c k]).run Try.prog W = .ok (.tuple #[]) w' ∧ MapW w' b (wth p c k ls) ∧ W.mapTurned w' b := by
  obtain ⟨D, h1, h2⟩ := h
  obtain ⟨w', hrun, h3, h4⟩ := h1.drop ownK Try.underlying72 g.key ty
  have r := h2.del (keyL p c k)
  rw [wth_key g h2.good] at r
  exact ⟨w', hrun, MapW.of h3 r, h4⟩
theorem MapW.store {W : World} {b : Nat} {ls : List Rw} (h : MapW W b ls) {r : Rw} (g : Gd r) (hl : ls.length < maxLen) :
    ∃ w', (Instr.mapUpdate tMap (.map (some b)) (ownV r.p r.c r.k) (spV r.s)).run Try.prog W = .ok () w' ∧ MapW w' b (r :: wth r.p r.c r.k ls) ∧ W.mapTurned w' b := by
  obtain ⟨D, h1, h2⟩ := h
  obtain ⟨w', hrun, h3, h4⟩ := h1.store ownK Try.underlying72 hl g.key (rdSp_mk r.s)
  have x := h2.put g
  rw [show keyR r = keyL r.p r.c r.k from rfl, wth_key g h2.good] at x
  exact ⟨w', hrun, MapW.of h3 x, h4⟩

end Go.Proofs.Ytpefjcgccbfgbaa.Bk
