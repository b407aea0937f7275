/-
  The tables of the law BlocksPlay and the document's tables, side by side, at this program. Conditions: none.
-/
import Derived.Test.YtpefjcgccbfgbaaOC
import Derived.Maps.AppendAt
namespace Go.Proofs.Ytpefjcgccbfgbaa.Bk
open Go.RowKit

/-- One of the tables: its blocks, its rows, the document's list, and what that reads as. -/
structure Ent where
  b : Nat
  m : Nat
  ls : List Rw
  lv : Value
  ms : List Rw
/-- A block is none of a table's. -/
def Off (W : World) (g b m : Nat) : Prop := g ≠ b ∧ g ≠ m ∧ ∀ (zb zo n cap : Nat), W.cell? ⟨b, 0, none⟩ = some (.slice (some ⟨zb, zo, none⟩) n cap) → g ≠ zb
section
variable {W w1 : World} {b m g n : Nat} {zs : List Zn} {ls : List Rw} {row : Option Nat}
theorem Tb.off (t : Tb W b m zs ls) (h : Off W g b m) (hg : W.grownBy w1 (some g)) : Tb w1 b m zs ls := t.kept hg fun r e => by cases e; exact h
theorem cell_kept (hg : W.grownBy w1 row) (hb : row ≠ some b) (lb : b < W.heap.size) (i : Nat) : w1.cell? ⟨b, i, none⟩ = W.cell? ⟨b, i, none⟩ := by
  simp only [World.cell?, hg.block b lb fun e => hb e.symm]
theorem Off.kept (h : Off W g b m) (t : Tb W b m zs ls) (hg : W.grownBy w1 row) (hb : row ≠ some b) : Off w1 g b m :=
  ⟨h.1, h.2.1, fun zb zo n cap hc => h.2.2 zb zo n cap (by rwa [cell_kept hg hb t.b_lt] at hc)⟩
theorem Off.new (t : Tb W b m zs ls) (hg : W.heap.size ≤ g) : Off W g b m := by
  have hb := t.b_lt
  have hm := t.map.lt
  refine ⟨by omega, by omega, fun zb zo n cap hc => ?_⟩
  obtain ⟨⟨zb', zo', cap', c0, hz⟩, -, -, hf⟩ := t
  rw [c0] at hc
  injection hc with hc
  injection hc with e1 e2 e3
  injection e1 with e1
  injection e1 with e1 e4 e5
  obtain ⟨z, cz⟩ := hz.cellOf (fits_len hf).1
  have lz : zb' < W.heap.size := by have := World.block_lt_of_cell? _ _ cz; simpa using this
  omega
theorem Off.fresh (hf : Fresh W n b m) (h : g < n) : Off W g b m := by
  obtain ⟨h1, h2, zb, k, cap, h3, h4⟩ := hf
  refine ⟨by omega, by omega, fun zb' zo n' cap' hc => ?_⟩
  rw [h3] at hc
  injection hc with hc
  injection hc with e1 e2 e3
  injection e1 with e1
  injection e1 with e1 e4 e5
  omega
theorem MapW.obj (h : MapW W m ls) (cur : Array Value) (T : TypeId) (fz : Nat × Nat) : W.heap[m]? ≠ some (.cells cur T fz) := by
  obtain ⟨D, ⟨es, clock, hb, _⟩, _⟩ := h
  rw [hb]
  exact fun e => by cases e
/-- A row of one's own is kept where a block of another type turns. -/
theorem own_off {base : Nat} {T : TypeId} {size k : Nat} {v : Value} {xs : List Value} (h : W.ownsRow base T size v k xs) (hg : W.grownBy w1 (some g)) (hx : ∀ cur, W.heap[g]? ≠ some (.cells cur T (0, 0))) : w1.ownsRow base T size v k xs :=
  World.ownsRow.kept h hg (by
    rcases h.2 with ⟨rfl, -⟩ | ⟨g', cap, cur, rfl, -, hh, -⟩
    · exact .inl rfl
    · refine .inr fun e => ?_
      injection e with e
      exact hx cur (by rw [← e]; exact hh))
theorem own_later {base : Nat} {T : TypeId} {size k : Nat} {v : Value} {xs : List Value} (h : W.ownsRow base T size v k xs) (hb : Below W.heap.size W w1) : w1.ownsRow base T size v k xs :=
  World.ownsRow.kept h (below_grown hb) (by
    by_cases e : v.ownBlock = none
    · exact .inl e
    · exact .inr e)
end
theorem map_set_same {β : Type} {φ : Ent → β} : ∀ {es : List Ent} {i : Nat} {e e' : Ent}, es[i]? = some e → φ e' = φ e → (es.set i e').map φ = es.map φ
  | [], _, _, _, _, _ => rfl
  | x :: l, 0, e, e', h, k => by
    simp at h
    subst h
    simp [k]
  | x :: l, i + 1, e, e', h, k => by
    simp at h
    simp [map_set_same h k]
theorem mem_set {es : List Ent} {i : Nat} {e' f : Ent} (h : f ∈ es.set i e') : f = e' ∨ ∃ j, j ≠ i ∧ es[j]? = some f := by
  obtain ⟨j, hj⟩ := List.getElem?_of_mem h
  rw [List.getElem?_set] at hj
  split at hj
  · split at hj
    · exact .inl (Option.some.inj hj).symm
    · cases hj
  · rename_i hn
    exact .inr ⟨j, fun e => hn e.symm, hj⟩
abbrev tPt : TypeId := 28
abbrev tRt : TypeId := 54
abbrev tRw : TypeId := 66
/-- The tables, and what the document's lists read as. -/
structure St (W : World) (base n : Nat) (zs : List Zn) (es : List Ent) : Prop where
  tab : ∀ e ∈ es, Aft W e.b e.m n zs e.ls
  row : ∀ e ∈ es, OwnW W 0 e.lv e.ms
  ne : ∀ (i j : Nat) (e f : Ent), es[i]? = some e → es[j]? = some f → i ≠ j → e.m ≠ f.m
  lm : ∀ e ∈ es, base ≤ e.m
/-- A block is none of the tables'. -/
def Offs (W : World) (g : Nat) (es : List Ent) : Prop := ∀ e ∈ es, Off W g e.b e.m
/-- The slice of the tables. -/
def OwnA (W : World) (base : Nat) (v : Value) (es : List Ent) : Prop := W.ownsRow base tPt 1 v es.length (es.map fun e => tbV e.b)
def flatT (zv : Value) (es : List Ent) : List Value := (es.map fun e => [zv, e.lv]).flatten
/-- The slice of the document's tables. -/
def OwnT (W : World) (base : Nat) (zv v : Value) (es : List Ent) : Prop := W.ownsRow base tRt 2 v es.length (flatT zv es)
theorem flat_at (zv : Value) : ∀ {es : List Ent} {i : Nat} {e : Ent}, es[i]? = some e → (flatT zv es)[i * 2]? = some zv ∧ (flatT zv es)[i * 2 + 1]? = some e.lv
  | [], _, _, h => by simp at h
  | x :: l, 0, e, h => by
    simp at h
    subst h
    exact ⟨rfl, rfl⟩
  | x :: l, i + 1, e, h => by
    have ih := flat_at zv (es := l) (i := i) (e := e) (by simpa using h)
    rw [show (i + 1) * 2 = i * 2 + 1 + 1 by omega]
    exact ih
theorem flat_set (zv lv : Value) (ms : List Rw) : ∀ {es : List Ent} {i : Nat} {e : Ent}, es[i]? = some e → ((flatT zv es).set (i * 2) zv).set (i * 2 + 1) lv = flatT zv (es.set i { e with lv := lv, ms := ms })
  | [], _, _, h => by simp at h
  | x :: l, 0, e, h => by
    simp at h
    subst h
    rfl
  | x :: l, i + 1, e, h => by
    have ih := flat_set zv lv ms (es := l) (i := i) (e := e) (by simpa using h)
    rw [show (i + 1) * 2 = i * 2 + 1 + 1 by omega]
    show zv :: x.lv :: (((flatT zv l).set (i * 2) zv).set (i * 2 + 1) lv) = zv :: x.lv :: flatT zv (l.set i _)
    rw [ih]
theorem flat_add (zv : Value) (es : List Ent) (e : Ent) : flatT zv (es ++ [e]) = flatT zv es ++ [zv, e.lv] := by simp [flatT]
section
variable {W w1 : World} {base n : Nat} {zs : List Zn} {es : List Ent} {zv va vw : Value}
theorem St.later (h : St W base n zs es) (hb : Below W.heap.size W w1) : St w1 base n zs es :=
  ⟨fun e he => ⟨Tb.later hb (h.tab e he).tb, (h.tab e he).ord, (h.tab e he).len⟩, fun e he => OwnW.later (h.row e he) hb, h.ne, h.lm⟩
theorem Offs.kept {g : Nat} {row : Option Nat} (h : Offs W g es) (s : St W base n zs es) (hg : W.grownBy w1 row) (hr : ∀ e ∈ es, row ≠ some e.b) : Offs w1 g es := fun e he => (h e he).kept (s.tab e he).tb hg (hr e he)
theorem Offs.later {g : Nat} (h : Offs W g es) (s : St W base n zs es) (hb : Below W.heap.size W w1) : Offs w1 g es := h.kept s (below_grown hb) fun e he => by simp
/-- A block of another type turns. -/
theorem St.beside {g : Nat} (h : St W base n zs es) (ho : Offs W g es) (hg : W.grownBy w1 (some g)) (ht : ∀ cur, W.heap[g]? ≠ some (.cells cur tRw (0, 0))) : St w1 base n zs es :=
  ⟨fun e he => ⟨(h.tab e he).tb.off (ho e he) hg, (h.tab e he).ord, (h.tab e he).len⟩, fun e he => own_off (h.row e he) hg ht, h.ne, h.lm⟩
theorem set_key {i : Nat} {e e' : Ent} (hi : es[i]? = some e) (hm : e'.m = e.m) {j : Nat} {f : Ent} (hj : (es.set i e')[j]? = some f) : ∃ f', es[j]? = some f' ∧ f'.m = f.m := by
  rw [List.getElem?_set] at hj
  split at hj
  · rename_i hij
    split at hj
    · obtain rfl := Option.some.inj hj
      exact ⟨e, by rw [← hij]; exact hi, hm.symm⟩
    · cases hj
  · exact ⟨f, hj, rfl⟩
/-- A table has turned. -/
theorem St.turn (h : St W base n zs es) {i : Nat} {e : Ent} (hi : es[i]? = some e) (hg : W.grownBy w1 (some e.m)) {ls' : List Rw} (a : Aft w1 e.b e.m (n + 1) zs ls') : St w1 base (n + 1) zs (es.set i { e with ls := ls' }) := by
  have he : e ∈ es := List.mem_of_getElem? hi
  have hm := (h.tab e he).tb.map
  have ob := fun T cur => hm.obj cur T (0, 0)
  refine ⟨fun f hf => ?_, fun f hf => ?_, fun j k f f' hj hk hn => ?_, fun f hf => ?_⟩
  · rcases mem_set hf with rfl | ⟨j, hj, hf⟩
    · exact a
    · have f0 := h.tab f (List.mem_of_getElem? hf)
      exact ⟨f0.tb.other hm (h.ne j i f e hf hi hj) hg, f0.ord, Nat.le_succ_of_le f0.len⟩
  · rcases mem_set hf with rfl | ⟨j, hj, hf⟩
    · exact own_off (h.row e he) hg (ob _)
    · exact own_off (h.row f (List.mem_of_getElem? hf)) hg (ob _)
  · obtain ⟨x, hx, ex⟩ := set_key hi (by rfl) hj
    obtain ⟨y, hy, ey⟩ := set_key hi (by rfl) hk
    rw [← ex, ← ey]
    exact h.ne j k x y hx hy hn
  · rcases mem_set hf with rfl | ⟨j, hj, hf⟩
    · exact h.lm e he
    · exact h.lm f (List.mem_of_getElem? hf)
theorem Offs.turn {g : Nat} (h : Offs W g es) (s : St W base n zs es) {i : Nat} {e : Ent} (hi : es[i]? = some e) (hg : W.grownBy w1 (some e.m)) (ls' : List Rw) : Offs w1 g (es.set i { e with ls := ls' }) := fun f hf => by
  have he : e ∈ es := List.mem_of_getElem? hi
  have hm := (s.tab e he).tb.map
  have k := h.kept s hg fun f hf x => ((s.tab f hf).tb.apart hm).1 (Option.some.inj x)
  rcases mem_set hf with rfl | ⟨j, hj, hf⟩
  · exact k e he
  · exact k f (List.mem_of_getElem? hf)
theorem OwnA.turn (h : OwnA W base va es) (s : St W base n zs es) {i : Nat} {e : Ent} (hi : es[i]? = some e) (hg : W.grownBy w1 (some e.m)) (ls' : List Rw) : OwnA w1 base va (es.set i { e with ls := ls' }) := by
  unfold OwnA
  rw [List.length_set, map_set_same hi (by rfl)]
  exact own_off h hg fun cur => (s.tab e (List.mem_of_getElem? hi)).tb.map.obj cur _ _
theorem OwnT.turn (h : OwnT W base zv vw es) (s : St W base n zs es) {i : Nat} {e : Ent} (hi : es[i]? = some e) (hg : W.grownBy w1 (some e.m)) (ls' : List Rw) : OwnT w1 base zv vw (es.set i { e with ls := ls' }) := by
  unfold OwnT flatT
  rw [List.length_set, map_set_same hi (by rfl)]
  exact own_off h hg fun cur => (s.tab e (List.mem_of_getElem? hi)).tb.map.obj cur _ _
/-- The type of a slice's block. -/
theorem own_type {T : TypeId} {size k g cap : Nat} {xs : List Value} (h : W.ownsRow base T size (.slice (some ⟨g, 0, none⟩) k cap) k xs) {T' : TypeId} (hn : T ≠ T') : ∀ cur, W.heap[g]? ≠ some (.cells cur T' (0, 0)) := fun cur e => by
  rcases h.2 with ⟨h', -⟩ | ⟨g', cap', cur', h', -, hh, -⟩
  · cases h'
  · cases h'
    rw [hh] at e
    cases e
    exact hn rfl
/-- The document's table number i is laid anew. -/
theorem St.list (h : St W base n zs es) {g cap : Nat} (t : OwnT W base zv (.slice (some ⟨g, 0, none⟩) es.length cap) es) (ho : Offs W g es) {i : Nat} {e : Ent} (hi : es[i]? = some e) {lv : Value} {ms : List Rw} (own : OwnW W 0 lv ms) :
    let W' := (W.setCell ⟨g, i * 2, none⟩ zv).setCell ⟨g, i * 2 + 1, none⟩ lv
    St W' base n zs (es.set i { e with lv := lv, ms := ms }) ∧ OwnT W' base zv (.slice (some ⟨g, 0, none⟩) es.length cap) (es.set i { e with lv := lv, ms := ms }) ∧ Offs W' g (es.set i { e with lv := lv, ms := ms }) ∧ W.grownBy W' (some g) := by
  have s1 := World.ownsRow.stored t (i * 2) zv
  have s2 := World.ownsRow.stored s1.1 (i * 2 + 1) lv
  have hg := s1.2.trans s2.2
  have rw' := own_type t (T' := tRw) (by decide)
  have hs := h.beside ho hg rw'
  have hk := ho.kept h hg fun f hf x => (ho f hf).1 (Option.some.inj x)
  have he : e ∈ es := List.mem_of_getElem? hi
  refine ⟨⟨fun f hf => ?_, fun f hf => ?_, fun j k f f' hj hk' hn => ?_, fun f hf => ?_⟩, ?_, fun f hf => ?_, hg⟩
  · rcases mem_set hf with rfl | ⟨j, hj, hf⟩
    · exact hs.tab e he
    · exact hs.tab f (List.mem_of_getElem? hf)
  · rcases mem_set hf with rfl | ⟨j, hj, hf⟩
    · exact own_off own hg rw'
    · exact hs.row f (List.mem_of_getElem? hf)
  · obtain ⟨x, hx, ex⟩ := set_key hi (by rfl) hj
    obtain ⟨y, hy, ey⟩ := set_key hi (by rfl) hk'
    rw [← ex, ← ey]
    exact h.ne j k x y hx hy hn
  · rcases mem_set hf with rfl | ⟨j, hj, hf⟩
    · exact h.lm e he
    · exact h.lm f (List.mem_of_getElem? hf)
  · have := s2.1
    rw [flat_set zv lv ms hi] at this
    unfold OwnT
    rw [List.length_set]
    exact this
  · rcases mem_set hf with rfl | ⟨j, hj, hf⟩
    · exact hk e he
    · exact hk f (List.mem_of_getElem? hf)
theorem OwnA.list (h : OwnA W base va es) {g : Nat} (hg : W.grownBy w1 (some g)) (ht : ∀ cur, W.heap[g]? ≠ some (.cells cur tPt (0, 0))) {i : Nat} {e : Ent} (hi : es[i]? = some e) (lv : Value) (ms : List Rw) : OwnA w1 base va (es.set i { e with lv := lv, ms := ms }) := by
  unfold OwnA
  rw [List.length_set, map_set_same hi (by rfl)]
  exact own_off h hg ht
/-- One more table. -/
theorem St.add (h : St W base n zs es) {e : Ent} (a : Aft W e.b e.m n zs e.ls) (r : OwnW W 0 e.lv e.ms) (hn : ∀ f ∈ es, f.m ≠ e.m) (hb : base ≤ e.m) : St W base n zs (es ++ [e]) := by
  refine ⟨fun f hf => ?_, fun f hf => ?_, fun i j f f' hi hj hij => ?_, fun f hf => ?_⟩
  · rcases List.mem_append.1 hf with hf | hf
    · exact h.tab f hf
    · rw [List.mem_singleton.1 hf]; exact a
  · rcases List.mem_append.1 hf with hf | hf
    · exact h.row f hf
    · rw [List.mem_singleton.1 hf]; exact r
  · have key : ∀ {i : Nat} {f : Ent}, (es ++ [e])[i]? = some f → es[i]? = some f ∨ (i = es.length ∧ f = e) := fun {i f} hi => by
      rw [List.getElem?_append] at hi
      split at hi
      · exact .inl hi
      · have hl := (List.getElem?_eq_some_iff.1 hi).1
        simp at hl
        have e0 : i - es.length = 0 := by omega
        rw [e0] at hi
        exact .inr ⟨by omega, (Option.some.inj hi).symm⟩
    rcases key hi with p | ⟨e1, rfl⟩ <;> rcases key hj with q | ⟨e2, rfl⟩
    · exact h.ne i j f f' p q hij
    · exact hn f (List.mem_of_getElem? p)
    · exact (hn f' (List.mem_of_getElem? q)).symm
    · exact absurd (e1.trans e2.symm) hij
  · rcases List.mem_append.1 hf with hf | hf
    · exact h.lm f hf
    · rw [List.mem_singleton.1 hf]; exact hb
theorem Offs.add {g : Nat} (h : Offs W g es) {e : Ent} (ho : Off W g e.b e.m) : Offs W g (es ++ [e]) := fun f hf => by
  rcases List.mem_append.1 hf with hf | hf
  · exact h f hf
  · rw [List.mem_singleton.1 hf]; exact ho
end

end Go.Proofs.Ytpefjcgccbfgbaa.Bk
