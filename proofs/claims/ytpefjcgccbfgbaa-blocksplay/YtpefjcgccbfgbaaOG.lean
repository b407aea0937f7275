/-
  The tables of the law BlocksPlay behind an op, at this program: what holds where a table turns and the document's one is laid anew. Conditions: none.
-/
import Derived.Test.YtpefjcgccbfgbaaOF
import Derived.Test.YtpefjcgccbfgbaaBG
import Derived.Laws.OwnMore
namespace Go.Proofs.Ytpefjcgccbfgbaa.Bk
open Go.RowKit

theorem at_is (p : Int) {n : Nat} (h0 : 0 < n) (h4 : n ≤ 4) : ∃ a : Nat, a < n ∧ wrap64 ((IntKind.u64.wrap p).tmod n) = (a : Int) := by
  rw [IntKind.wrap_u64]
  have h1 : 0 ≤ p % 18446744073709551616 := by omega
  rw [Int.tmod_eq_emod_of_nonneg h1]
  have h2 := Int.emod_nonneg (p % 18446744073709551616) (show (n : Int) ≠ 0 by omega)
  have h3 := Int.emod_lt_of_pos (p % 18446744073709551616) (show (0 : Int) < n by omega)
  refine ⟨(p % 18446744073709551616 % n).toNat, by omega, ?_⟩
  unfold wrap64
  omega
/-- The tables, the document's tables, and where they lie. -/
structure Sys0 (W : World) (base n : Nat) (zs : List Zn) (zv : Value) (ga ca gw cw : Nat) (es : List Ent) : Prop where
  st : St W base n zs es
  oa : OwnA W base (.slice (some ⟨ga, 0, none⟩) es.length ca) es
  ow : OwnT W base zv (.slice (some ⟨gw, 0, none⟩) es.length cw) es
  fa : Offs W ga es
  fw : Offs W gw es
  lo : 0 < es.length
  hi : es.length ≤ 4
structure Sys (W : World) (base n : Nat) (zs : List Zn) (zv : Value) (ga ca gw cw : Nat) (es : List Ent) : Prop extends Sys0 W base n zs zv ga ca gw cw es where
  eq : ∀ e ∈ es, e.ms = e.ls
section
variable {W w1 : World} {base n : Nat} {zs : List Zn} {zv : Value} {ga ca gw cw : Nat} {es : List Ent}
theorem Sys0.later (h : Sys0 W base n zs zv ga ca gw cw es) (hb : Below W.heap.size W w1) : Sys0 w1 base n zs zv ga ca gw cw es :=
  ⟨h.st.later hb, own_later h.oa hb, own_later h.ow hb, h.fa.later h.st hb, h.fw.later h.st hb, h.lo, h.hi⟩
theorem Sys.later (h : Sys W base n zs zv ga ca gw cw es) (hb : Below W.heap.size W w1) : Sys w1 base n zs zv ga ca gw cw es := ⟨h.toSys0.later hb, h.eq⟩
theorem Sys.more (h : Sys W base n zs zv ga ca gw cw es) : Sys W base (n + 1) zs zv ga ca gw cw es :=
  ⟨⟨⟨fun e he => ⟨(h.st.tab e he).tb, (h.st.tab e he).ord, Nat.le_succ_of_le (h.st.tab e he).len⟩, h.st.row, h.st.ne, h.st.lm⟩, h.oa, h.ow, h.fa, h.fw, h.lo, h.hi⟩, h.eq⟩
/-- The cells of the slices. -/
theorem Sys0.cells (h : Sys0 W base n zs zv ga ca gw cw es) {i : Nat} {e : Ent} (hi : es[i]? = some e) :
    W.cell? ⟨ga, i, none⟩ = some (tbV e.b) ∧ W.cell? ⟨gw, i * 2, none⟩ = some zv ∧ W.cell? ⟨gw, i * 2 + 1, none⟩ = some e.lv := by
  have hl := (List.getElem?_eq_some_iff.1 hi).1
  refine ⟨?_, ?_, ?_⟩
  · rw [World.ownsRow.cellAt h.oa i (by omega), List.getElem?_map, hi]; rfl
  · rw [World.ownsRow.cellAt h.ow (i * 2) (by omega)]; exact (flat_at zv hi).1
  · rw [World.ownsRow.cellAt h.ow (i * 2 + 1) (by omega)]; exact (flat_at zv hi).2
theorem Sys.cells (h : Sys W base n zs zv ga ca gw cw es) {i : Nat} {e : Ent} (hi : es[i]? = some e) :
    W.cell? ⟨ga, i, none⟩ = some (tbV e.b) ∧ W.cell? ⟨gw, i * 2, none⟩ = some zv ∧ W.cell? ⟨gw, i * 2 + 1, none⟩ = some e.lv := h.toSys0.cells hi
theorem Sys0.frozen (h : Sys0 W base n zs zv ga ca gw cw es) (j : Nat) : W.frozen? ⟨gw, j, none⟩ = false := World.ownsRow.frozenAt h.ow j
/-- A table has turned. -/
theorem Sys0.turn (h : Sys0 W base n zs zv ga ca gw cw es) {i : Nat} {e : Ent} (he : es[i]? = some e) (hg : W.grownBy w1 (some e.m)) {ls' : List Rw} (a : Aft w1 e.b e.m (n + 1) zs ls') :
    Sys0 w1 base (n + 1) zs zv ga ca gw cw (es.set i { e with ls := ls' }) :=
  ⟨h.st.turn he hg a, by rw [List.length_set]; exact h.oa.turn h.st he hg ls', by rw [List.length_set]; exact h.ow.turn h.st he hg ls', h.fa.turn h.st he hg ls', h.fw.turn h.st he hg ls', by rw [List.length_set]; exact h.lo, by rw [List.length_set]; exact h.hi⟩
theorem offs_set {g i : Nat} {e e' : Ent} (h : Offs W g es) (hi : es[i]? = some e) (hb : e'.b = e.b) (hm : e'.m = e.m) : Offs W g (es.set i e') := fun f hf => by
  rcases mem_set hf with rfl | ⟨j, hj, hf⟩
  · rw [hb, hm]
    exact h e (List.mem_of_getElem? hi)
  · exact h f (List.mem_of_getElem? hf)
/-- The document's table is laid anew. -/
theorem Sys0.list (h : Sys0 W base n zs zv ga ca gw cw es) {i : Nat} {e : Ent} (he : es[i]? = some e) {lv : Value} {ms : List Rw} (own : OwnW W 0 lv ms) :
    Sys0 ((W.setCell ⟨gw, i * 2, none⟩ zv).setCell ⟨gw, i * 2 + 1, none⟩ lv) base n zs zv ga ca gw cw (es.set i { e with lv := lv, ms := ms }) ∧ W.grownBy ((W.setCell ⟨gw, i * 2, none⟩ zv).setCell ⟨gw, i * 2 + 1, none⟩ lv) (some gw) := by
  obtain ⟨s1, s2, s3, s4⟩ := h.st.list h.ow h.fw he own
  refine ⟨⟨s1, ?_, ?_, ?_, s3, by rw [List.length_set]; exact h.lo, by rw [List.length_set]; exact h.hi⟩, s4⟩
  · rw [List.length_set]
    exact h.oa.list s4 (own_type h.ow (by decide)) he lv ms
  · rw [List.length_set]
    exact s2
  · exact offs_set (h.fa.kept h.st s4 fun f hf x => (h.fw f hf).1 (Option.some.inj x)) he rfl rfl
/-- Both. -/
theorem Sys.step (h : Sys W base n zs zv ga ca gw cw es) {i : Nat} {e : Ent} (he : es[i]? = some e) {ls' : List Rw} {lv : Value}
    (k : Sys0 w1 base (n + 1) zs zv ga ca gw cw (es.set i { e with ls := ls' })) (own : OwnW w1 0 lv ls') :
    Sys ((w1.setCell ⟨gw, i * 2, none⟩ zv).setCell ⟨gw, i * 2 + 1, none⟩ lv) base (n + 1) zs zv ga ca gw cw (es.set i ⟨e.b, e.m, ls', lv, ls'⟩) ∧ w1.grownBy ((w1.setCell ⟨gw, i * 2, none⟩ zv).setCell ⟨gw, i * 2 + 1, none⟩ lv) (some gw) ∧ base ≤ gw := by
  have hl := (List.getElem?_eq_some_iff.1 he).1
  obtain ⟨s1, s2⟩ := k.list (i := i) (e := { e with ls := ls' }) (by rw [List.getElem?_set_self (by omega)]) own
  rw [List.set_set] at s1
  refine ⟨⟨s1, fun f hf => ?_⟩, s2, (World.ownsRow.lt h.ow gw rfl).1⟩
  rcases mem_set hf with rfl | ⟨j, hj, hf⟩
  · rfl
  · exact h.eq f (List.mem_of_getElem? hf)
/-- A block holds no rows of the document's. -/
def NoRw (W : World) (g : Nat) : Prop := ∀ cur, W.heap[g]? ≠ some (.cells cur tRw (0, 0))
theorem alloc_type (W : World) (vs : Array Value) {T T' : TypeId} (h : T ≠ T') : ∀ cur, (W.alloc (.cells vs T)).heap[W.heap.size]? ≠ some (.cells cur T' (0, 0)) := fun cur e => by
  rw [heap_alloc_new] at e
  cases e
  exact h rfl
theorem type_later {T : TypeId} {g : Nat} (h : ∀ cur, W.heap[g]? ≠ some (.cells cur T (0, 0))) (hb : Below W.heap.size W w1) (hl : g < W.heap.size) : ∀ cur, w1.heap[g]? ≠ some (.cells cur T (0, 0)) := fun cur e => h cur (by rw [← hb.block g hl]; exact e)
theorem cs_map {m b : Nat} {ls : List Rw} {v : Value} {vs : List Value} (h : MapW W m ls) (q : Cs W b (v :: vs)) : m ≠ b := h.ne (q.1 0 v rfl)
end

theorem frees_at {zs : List Zn} {ls : List Rw} (hz : fits zs = true) (h : Sound zs ls) {i : Nat} (hi : i < 8) (k : Int) : freeV zs ls (i : Int) k = freV zs ls k i := by
  rw [freeV_is hz h, freT]
  by_cases hI : isZ zs (i : Int) = true
  · rw [if_pos hI, Int.toNat_natCast]
  · rw [if_neg hI]
    have hl : zs.length ≤ i := by
      have : isZ zs (i : Int) = false := by simpa using hI
      have := of_decide_eq_false this
      omega
    have r0 := roomV_out hl k
    have h1 := h.le i k hi
    have h2 := sumK_nn (i := i) (k := k) fun r hr => h.nn r hr i hi
    unfold freV
    omega
theorem sameL_refl {ls : List Rw} (h : Srt ls) : sameL ls ls = true := by rw [← same_eq h h, same_refl h]

end Go.Proofs.Ytpefjcgccbfgbaa.Bk
