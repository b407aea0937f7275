/-
  One more table behind the others, and one more of the document's, at this program: where the slices lie behind the two appends. Conditions: none.
-/
import Derived.Test.YtpefjcgccbfgbaaOG
import Derived.Maps.AppendAt
namespace Go.Proofs.Ytpefjcgccbfgbaa.Bk
open Go.RowKit

/-- append onto a row of one's own: what lay there lies there still, in the old block too. -/
theorem append_keep {P : Program} (w : World) (base : Nat) (t ty e : TypeId) (i : TypeInfo) (z : Value) (size bytes : Nat) (ht : P.underlying t = some (.slice e)) (hi : P.info? e = some i) (hz : i.zero = some z)
    (hsize : i.size = size) (hby : i.bytes = bytes) (hzs : z.cells.size = size) (hsz : 0 < size) (g cap n : Nat) (xs : List Value) (hown : w.ownsRow base e size (.slice (some ⟨g, 0, none⟩) n cap) n xs)
    (a : Addr) (m c : Nat) (news : List Value) (hl : news.length = m * size) (hnews : ∀ j u, news[j]? = some u → w.cell? (a.add j) = some u) (h1 : ∀ u ∈ news, u.oneCell' = true)
    (h63 : n + m ≤ maxLen) (hbytes : (n + m) * bytes ≤ 140737488355328) (hbase : base ≤ w.heap.size) (hm : 0 < m) :
    ∃ g' cap' w', (Builtin.append_ #[t, t] ty #[.slice (some ⟨g, 0, none⟩) n cap, .slice (some a) m c]).run P w = .ok (.slice (some ⟨g', 0, none⟩) (n + m) cap') w' ∧ w'.ownsRow base e size (.slice (some ⟨g', 0, none⟩) (n + m) cap') (n + m) (xs ++ news) ∧
      w.grownBy w' (some g) ∧ (g' = g ∨ g' = w.heap.size) ∧ ∀ j, j < n * size → w'.cell? ⟨g, j, none⟩ = w.cell? ⟨g, j, none⟩ := by
  obtain ⟨v', w', hr, own', hg, hn, hat⟩ := run_append_own_at (P := P) w base t ty e i z size bytes ht hi hz hsize hby hzs hsz _ n xs hown a m c news hl hnews h1 h63 hbytes hbase
  have hlen := hown.1
  have hcell := fun j hj => World.ownsRow.cellAt hown j hj
  have hgl : g < w.heap.size := (World.ownsRow.lt hown g rfl).2
  rcases own'.2 with ⟨rfl, e0⟩ | ⟨g', cap', cur, rfl, -⟩
  · omega
  refine ⟨g', cap', w', hr, own', hg, ?_, fun j hj => ?_⟩
  · rcases hat with h | h
    · exact .inl (Option.some.inj h)
    · exact .inr (Option.some.inj h)
  rcases hat with h | h
  · obtain rfl : g' = g := Option.some.inj h
    rw [World.ownsRow.cellAt own' j (by have := Nat.mul_le_mul_right size (Nat.le_add_right n m); omega), hcell j hj, List.getElem?_append_left (by omega)]
  · obtain rfl : g' = w.heap.size := Option.some.inj h
    rcases hown.2 with ⟨h', -⟩ | ⟨g2, cap2, cur2, h2, hb2, hg2, hnc, hcm, hcs, htk⟩
    · cases h'
    · cases h2
      subst hsize
      subst hby
      by_cases hroom : n + m ≤ cap
      · have hfit : n * i.size + news.length ≤ cur2.size := by rw [hl, hcs, ← Nat.add_mul]; exact Nat.mul_le_mul_right _ hroom
        have hr2 := run_append_room (P := P) w t ty e i ht hi g n cap cur2 hg2 a m c news hl hnews h1 hroom hfit
        rw [hr] at hr2
        injection hr2 with e1 e2
        injection e1 with e1
        injection e1 with e1
        injection e1 with e1
        omega
      · have holds : ∀ j u, xs[j]? = some u → w.cell? ((⟨g, 0, none⟩ : Addr).add j) = some u := hown.cells (g := g) rfl
        have hr2 := run_append_grow (P := P) w t ty e i z ht hi hz ⟨g, 0, none⟩ n cap xs hlen holds a m c news hl hnews (by omega) (by unfold maxLen at h63; omega) (growslice_fits (by omega) hbytes)
        rw [hr] at hr2
        injection hr2 with e1 e2
        rw [e2]
        simp only [World.cell?, heap_alloc_old w.drew _ (show g < w.drew.heap.size from hgl)]
        rfl

/-- The operation append, by what it comes to. -/
theorem wp_append {P : Program} {o : Oper} {a : Act} {w w' : World} {next : Act → World → Prop} {Q : Exit → Act → World → Prop} {s x : Operand} {t : TypeId} {v v1 v2 : Value}
    (ho : o.op = Op.call { callee := Callee.builtin Builtin.append, args := #[s, x], argTypes := #[t, t] }) (hs : a.eval s = v1) (hx : a.eval x = v2) (hr : (Builtin.append_ #[t, t] o.type #[v1, v2]).run P w = .ok v w') (hk : next (a.put o.dst v) w') :
    Oper.wp P o a w next Q := by
  unfold Oper.wp execOp
  simp only [ho, resolve, invoke, builtin, Sem.run_bind, Sem.run_pure, Result.andThen_ok, List.map_toArray, List.map_cons, List.map_nil, hs, hx, hr]
  exact hk

section
variable {W w1 : World} {base n : Nat} {zs : List Zn} {zv : Value} {ga ca gw cw : Nat} {es : List Ent}
theorem Off.later {g b m : Nat} {ls : List Rw} (h : Off W g b m) (t : Tb W b m zs ls) (hb : Below W.heap.size W w1) : Off w1 g b m := h.kept t (below_grown hb) (by simp)
/-- A new table beside the others. -/
structure Nw (W : World) (zs : List Zn) (ga gw b m : Nat) (ls : List Rw) : Prop where
  tb : Tb W b m zs ls
  oa : Off W ga b m
  ow : Off W gw b m
theorem Nw.later {b m : Nat} {ls : List Rw} (h : Nw W zs ga gw b m ls) (hb : Below W.heap.size W w1) : Nw w1 zs ga gw b m ls := ⟨Tb.later hb h.tb, h.oa.later h.tb hb, h.ow.later h.tb hb⟩
theorem Nw.new {N b m : Nat} {ls : List Rw} (t : Tb W b m zs ls) (f : Fresh W N b m) (h1 : ga < N) (h2 : gw < N) : Nw W zs ga gw b m ls := ⟨t, Off.fresh f h1, Off.fresh f h2⟩
/-- Behind the first append. -/
structure Mid (W : World) (base n : Nat) (zs : List Zn) (zv : Value) (ga g1 c1 gw cw : Nat) (es : List Ent) (e : Ent) (at_ : Nat) (v : Value) : Prop where
  st : St W base n zs es
  oa : OwnA W base (.slice (some ⟨g1, 0, none⟩) (es.length + 1) c1) (es ++ [e])
  ow : OwnT W base zv (.slice (some ⟨gw, 0, none⟩) es.length cw) es
  fa : Offs W g1 es
  fw : Offs W gw es
  tb : Tb W e.b e.m zs e.ls
  na : Off W g1 e.b e.m
  nw : Off W gw e.b e.m
  ca : W.cell? ⟨ga, at_, none⟩ = some v
  lt : ga < W.heap.size
  ne : gw ≠ ga
theorem Mid.later {g1 c1 at_ : Nat} {e : Ent} {v : Value} (h : Mid W base n zs zv ga g1 c1 gw cw es e at_ v) (hb : Below W.heap.size W w1) : Mid w1 base n zs zv ga g1 c1 gw cw es e at_ v :=
  ⟨h.st.later hb, own_later h.oa hb, own_later h.ow hb, h.fa.later h.st hb, h.fw.later h.st hb, Tb.later hb h.tb, h.na.later h.tb hb, h.nw.later h.tb hb, cell_later hb h.ca, Nat.lt_of_lt_of_le h.lt hb.size, h.ne⟩
theorem Mid.cells {g1 c1 at_ : Nat} {e : Ent} {v : Value} (h : Mid W base n zs zv ga g1 c1 gw cw es e at_ v) {i : Nat} {f : Ent} (hi : es[i]? = some f) : W.cell? ⟨gw, i * 2, none⟩ = some zv ∧ W.cell? ⟨gw, i * 2 + 1, none⟩ = some f.lv := by
  have hl := (List.getElem?_eq_some_iff.1 hi).1
  refine ⟨?_, ?_⟩
  · rw [World.ownsRow.cellAt h.ow (i * 2) (by omega)]; exact (flat_at zv hi).1
  · rw [World.ownsRow.cellAt h.ow (i * 2 + 1) (by omega)]; exact (flat_at zv hi).2
abbrev tSl : TypeId := 52
abbrev tRl : TypeId := 55
theorem ptInfo : (Try.prog.info? tPt).map (fun i => (i.zero, i.size, i.bytes)) = some (some (.pointer none), 1, 8) := by kernel_rfl
theorem rtInfo : (Try.prog.info? tRt).map (fun i => (i.zero, i.size, i.bytes)) = some (some (.agg #[.slice none 0 0, .slice none 0 0]), 2, 48) := by kernel_rfl
theorem Sys0.addA (h : Sys0 W base n zs zv ga ca gw cw es) {e : Ent} (N : Nw W zs ga gw e.b e.m e.ls) {pB : Nat} (q : Cs W pB [tbV e.b]) {at_ : Nat} {f : Ent} (hi : es[at_]? = some f) (hb : base ≤ W.heap.size) (ty : TypeId) :
    ∃ g1 c1 w1, (Builtin.append_ #[tSl, tSl] ty #[.slice (some ⟨ga, 0, none⟩) es.length ca, .slice (some ⟨pB, 0, none⟩) 1 1]).run Try.prog W = .ok (.slice (some ⟨g1, 0, none⟩) (es.length + 1) c1) w1 ∧
      Mid w1 base n zs zv ga g1 c1 gw cw es e at_ (tbV f.b) ∧ W.grownBy w1 (some ga) ∧ base ≤ ga := by
  obtain ⟨i0, k1, k2, k3, k4⟩ := info_parts ptInfo
  have hl := (List.getElem?_eq_some_iff.1 hi).1
  have h4 := h.hi
  obtain ⟨g1, c1, w1, hr, own, hg, hat, hc⟩ := append_keep (P := Try.prog) W base tSl ty tPt i0 _ 1 8 Try.underlying52 k1 k2 k3 k4 rfl (by decide) ga ca es.length _ h.oa ⟨pB, 0, none⟩ 1 1 [tbV e.b] rfl
    (fun j u hj => by
      match j, hj with
      | 0, hj =>
        rw [Addr.add_lit]
        exact q.1 0 u hj)
    (fun u hu => by rw [List.mem_singleton.1 hu]; rfl) (by unfold maxLen; omega) (by omega) hb (by omega)
  have ot := h.oa
  have ga' := World.ownsRow.lt ot ga rfl
  have tb2 := N.tb.off N.oa hg
  have st2 := h.st.beside h.fa hg (own_type ot (by decide))
  have ow2 : OwnT w1 base zv (.slice (some ⟨gw, 0, none⟩) es.length cw) es := own_off h.ow hg (own_type ot (by decide))
  refine ⟨g1, c1, w1, hr, ⟨st2, ?_, ow2, ?_, ?_, tb2, ?_, ?_, ?_, Nat.lt_of_lt_of_le ga'.2 hg.size, fun x => ?_⟩, hg, ga'.1⟩
  · unfold OwnA
    rw [List.length_append, List.map_append]
    exact own
  · rcases hat with rfl | rfl
    · exact h.fa.kept h.st hg fun f hf x => (h.fa f hf).1 (Option.some.inj x)
    · exact fun f hf => (Off.new (h.st.tab f hf).tb (Nat.le_refl _)).kept (h.st.tab f hf).tb hg fun x => (h.fa f hf).1 (Option.some.inj x)
  · exact h.fw.kept h.st hg fun f hf x => (h.fa f hf).1 (Option.some.inj x)
  · rcases hat with rfl | rfl
    · exact N.oa.kept N.tb hg fun x => N.oa.1 (Option.some.inj x)
    · exact (Off.new N.tb (Nat.le_refl _)).kept N.tb hg fun x => N.oa.1 (Option.some.inj x)
  · exact N.ow.kept N.tb hg fun x => N.oa.1 (Option.some.inj x)
  · rw [hc at_ (by omega)]
    exact (h.cells hi).1
  · subst x
    rcases ot.2 with ⟨h', -⟩ | ⟨g', cap', cur, h2, -, hg2, -⟩
    · cases h'
    · cases h2
      exact own_type h.ow (T' := tPt) (by decide) cur hg2
theorem Mid.addT {g1 c1 at_ : Nat} {e : Ent} {v : Value} (h : Mid W base n zs zv ga g1 c1 gw cw es e at_ v) {pD : Nat} (q : Cs W pD [zv, e.lv]) (hu : zv.oneCell' = true ∧ e.lv.oneCell' = true) (ow : OwnW W 0 e.lv e.ms) (ho : Ord zs e.ls) (hl : e.ls.length ≤ n) (hn : ∀ f ∈ es, f.m ≠ e.m) (he : base ≤ e.m) (h4 : es.length < 4) (hb : base ≤ W.heap.size) (ty : TypeId) :
    ∃ g2 c2 w1, (Builtin.append_ #[tRl, tRl] ty #[.slice (some ⟨gw, 0, none⟩) es.length cw, .slice (some ⟨pD, 0, none⟩) 1 1]).run Try.prog W = .ok (.slice (some ⟨g2, 0, none⟩) (es.length + 1) c2) w1 ∧
      Sys0 w1 base n zs zv g1 c1 g2 c2 (es ++ [e]) ∧ W.grownBy w1 (some gw) ∧ base ≤ gw ∧ w1.cell? ⟨ga, at_, none⟩ = some v ∧ ∀ j, j < es.length * 2 → w1.cell? ⟨gw, j, none⟩ = W.cell? ⟨gw, j, none⟩ := by
  obtain ⟨i0, k1, k2, k3, k4⟩ := info_parts rtInfo
  obtain ⟨g2, c2, w1, hr, own, hg, hat, hc⟩ := append_keep (P := Try.prog) W base tRl ty tRt i0 _ 2 48 Try.underlying55 k1 k2 k3 k4 rfl (by decide) gw cw es.length _ h.ow ⟨pD, 0, none⟩ 1 1 [zv, e.lv] rfl
    (fun j u hj => by
      rw [Addr.add_lit]
      simpa using q.1 j u hj)
    (fun u hu' => by
      rcases List.mem_cons.1 hu' with rfl | hu'
      · exact hu.1
      · rw [List.mem_singleton.1 hu']
        exact hu.2) (by unfold maxLen; omega) (by omega) hb (by omega)
  have ot := h.ow
  have gl := World.ownsRow.lt ot gw rfl
  have tb2 := h.tb.off h.nw hg
  have st2 := h.st.beside h.fw hg (own_type ot (by decide))
  have ow2 : OwnW w1 0 e.lv e.ms := own_off ow hg (own_type ot (by decide))
  have nl : ∀ f ∈ es, some gw ≠ some f.b := fun f hf x => (h.fw f hf).1 (Option.some.inj x)
  have ne : some gw ≠ some e.b := fun x => h.nw.1 (Option.some.inj x)
  have lenE : (es ++ [e]).length = es.length + 1 := List.length_append ..
  refine ⟨g2, c2, w1, hr, ⟨st2.add ⟨tb2, ho, hl⟩ ow2 hn he, ?_, ?_, ?_, ?_, by omega, by omega⟩, hg, gl.1, ?_, hc⟩
  · rw [lenE]
    exact own_off h.oa hg (own_type ot (by decide))
  · rw [lenE]
    unfold OwnT
    rw [lenE, flat_add]
    exact own
  · exact (h.fa.kept h.st hg nl).add (h.na.kept h.tb hg ne)
  · refine Offs.add ?_ ?_
    · rcases hat with rfl | rfl
      · exact h.fw.kept h.st hg nl
      · exact fun f hf => (Off.new (h.st.tab f hf).tb (Nat.le_refl _)).kept (h.st.tab f hf).tb hg (nl f hf)
    · rcases hat with rfl | rfl
      · exact h.nw.kept h.tb hg ne
      · exact (Off.new h.tb (Nat.le_refl _)).kept h.tb hg ne
  · rw [cell_kept hg (fun x => ?_) h.lt]
    · exact h.ca
    · exact h.ne (Option.some.inj x)
end

end Go.Proofs.Ytpefjcgccbfgbaa.Bk
