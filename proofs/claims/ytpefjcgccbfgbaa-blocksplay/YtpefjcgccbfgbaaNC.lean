/-
  Going over a map from owners to spreads, whatever order its entries come in, at this program. No condition but that the map is just some rows.
-/
import Derived.Test.YtpefjcgccbfgbaaNB
namespace Go.Proofs.Ytpefjcgccbfgbaa.Bk
open Go.RowKit Go.Maps

/-- A map is gone over by the iterator in a block: these rows have come, those are still to come. -/
def Rng (W : World) (b it : Nat) (done todo : List Rw) : Prop := ∃ D left cnt n, W.ranges Try.prog 45 rdSp b it n D left cnt ∧ Rep D (done ++ todo) ∧ (∀ r ∈ done, left (keyR r) = false) ∧ ∀ r ∈ todo, left (keyR r) = true
theorem Rng.map {W : World} {b it : Nat} {done todo : List Rw} (h : Rng W b it done todo) : MapW W b (done ++ todo) := let ⟨_, _, _, _, h1, h2, _⟩ := h; MapW.of h1.owns h2
theorem Rng.ne {W : World} {b it : Nat} {done todo : List Rw} (h : Rng W b it done todo) : it ≠ b := let ⟨_, _, _, _, h1, _⟩ := h; h1.ne
theorem Rng.lt {W : World} {b it : Nat} {done todo : List Rw} (h : Rng W b it done todo) : it < W.heap.size := let ⟨_, _, _, _, h1, _⟩ := h; h1.lt
theorem Rng.kept {W w1 : World} {b it : Nat} {done todo : List Rw} {row : Option Nat} (h : Rng W b it done todo) (hg : W.grownBy w1 row) (hb : some b ≠ row) (hi : some it ≠ row) : Rng w1 b it done todo := let ⟨D, l, c, n, h1, h2⟩ := h; ⟨D, l, c, n, h1.kept hg hb hi, h2⟩
theorem Rng.later {W w1 : World} {b it : Nat} {done todo : List Rw} (h : Rng W b it done todo) (hb : Below W.heap.size W w1) : Rng w1 b it done todo := h.kept (below_grown hb) (by simp) (by simp)
theorem Rng.alloc {W : World} {b it : Nat} {done todo : List Rw} (h : Rng W b it done todo) (o : Obj) : Rng (W.alloc o) b it done todo := h.later ((Below.refl _ _).alloc (Nat.le_refl _) o)
theorem left_same {W w1 : World} {b it : Nat} (h1 : w1.heap[b]? = W.heap[b]?) (h2 : w1.heap[it]? = W.heap[it]?) : w1.rangeLeft b it = W.rangeLeft b it := by simp only [World.rangeLeft, h1, h2]
theorem Rng.left_grown {W w1 : World} {b it : Nat} {done todo : List Rw} {row : Option Nat} (h : Rng W b it done todo) (hg : W.grownBy w1 row) (hb : some b ≠ row) (hi : some it ≠ row) : w1.rangeLeft b it = W.rangeLeft b it :=
  left_same (hg.block b h.map.lt hb) (hg.block it h.lt hi)
theorem Rng.left_later {W w1 : World} {b it : Nat} {done todo : List Rw} (h : Rng W b it done todo) (hb : Below W.heap.size W w1) : w1.rangeLeft b it = W.rangeLeft b it := h.left_grown (below_grown hb) (by simp) (by simp)
theorem MapW.range {W : World} {b : Nat} {ls : List Rw} (h : MapW W b ls) :
    ∃ w', (Instr.range tMap (.map (some b))).run Try.prog W = .ok (.pointer (some ⟨W.heap.size, 0, none⟩)) w' ∧ Rng w' b W.heap.size [] ls ∧ Below W.heap.size W w' ∧ w'.heap.size = W.heap.size + 1 := by
  obtain ⟨D, h1, h2⟩ := h
  obtain ⟨w', hrun, h3, h4, h5⟩ := h1.range ownK Try.underlying72
  exact ⟨w', hrun, ⟨D, _, _, _, h3, h2, fun r h => absurd h (by simp), fun r hr => h2.has_mem hr⟩, grown_below h4, h5⟩
/-- What an owner's type reads from is an owner. -/
theorem key_inv {key : Value} {kl : Lit} (h : keyOf Try.prog 45 key = some kl) {p c : ByteArray} {k : Int} (g : GdK p c k) (e : kl = keyL p c k) : key = ownV p c k := by
  subst e
  exact ownK.inj h g.key
theorem pick_one {ls : List Rw} {r : Rw} (h : r ∈ ls) : ∃ ms, ls.Perm (r :: ms) := by
  obtain ⟨a, b, rfl⟩ := List.append_of_mem h
  exact ⟨a ++ b, List.perm_middle⟩
theorem same_f {r q : Rw} (h : keyR r ≠ keyR q) : (keyR r).sameKey (keyR q) = false := sameKey_ne h

theorem Rng.next {W : World} {b it : Nat} {done todo : List Rw} (h : Rng W b it done todo) (ty : TypeId) :
    (todo = [] ∧ (Instr.next (.pointer (some ⟨it, 0, none⟩)) false ty).run Try.prog W = .ok (.tuple #[.bool false]) W) ∨
    ∃ r todo' w', todo.Perm (r :: todo') ∧ Gd r ∧ (Instr.next (.pointer (some ⟨it, 0, none⟩)) false ty).run Try.prog W = .ok (.tuple #[.bool true, ownV r.p r.c r.k, spV r.s]) w' ∧
      Rng w' b it (done ++ [r]) todo' ∧ w'.rangeLeft b it < W.rangeLeft b it ∧ W.grownBy w' (some it) ∧ w'.heap.size = W.heap.size ∧
      (Instr.entry (.pointer (some ⟨it, 0, none⟩))).run Try.prog w' = .ok (.tuple #[ownV r.p r.c r.k, spV r.s]) w' := by
  obtain ⟨D, left, cnt, n, h1, h2, h3, h4⟩ := h
  rcases h1.next ownK ty with ⟨-, hl, hrun⟩ | ⟨key, v, kl, y, w', cnt', hkey, hlk, hv, hat, hrun, hrg, hlt, hgr, hsz, hen⟩
  · refine .inl ⟨?_, hrun⟩
    cases todo with
    | nil => rfl
    | cons r l => have := h4 r (by simp); rw [hl] at this; cases this
  · obtain ⟨r, hr, rfl⟩ := h2.keys kl (has_true_of_atKey hat)
    have hg := h2.good r hr
    obtain rfl := key_inv hkey hg rfl
    have ht : r ∈ todo := by
      rcases List.mem_append.1 hr with hd | ht
      · rw [h3 r hd] at hlk; cases hlk
      · exact ht
    obtain ⟨s, rfl, hy⟩ := rdSp_inv hv
    have e : spD s = spD r.s := by rw [← h2.vals r hr (spD r.s), hat, hy]
    rw [spD_inj e] at hrun hen
    obtain ⟨todo', hp⟩ := pick_one ht
    have hp' : (done ++ todo).Perm ((done ++ [r]) ++ todo') := by rw [List.append_assoc]; exact hp.append_left done
    have hR := h2.perm hp'
    have hap := hR.apart
    have hn1 := hrg.left_eq
    have hn2 := h1.left_eq
    refine .inr ⟨r, todo', w', hp, hg, hrun, ⟨D, _, cnt', n, hrg, hR, fun q hq => ?_, fun q hq => ?_⟩, by omega, hgr, hsz, hen⟩
    · rcases List.mem_append.1 hq with hd | hd
      · simp only [h3 q hd, Bool.false_and]
      · obtain rfl : q = r := by simpa using hd
        simp only [WideAt.sameKey_self (keyL_is _ _ _), keyR, Bool.not_true, Bool.and_false]
    · have hne : keyR q ≠ keyR r := fun e => (List.pairwise_append.1 hap).2.2 r (by simp) q hq e.symm
      simp only [same_f hne, h4 q (hp.mem_iff.2 (List.mem_cons_of_mem _ hq)), Bool.not_false, Bool.and_self]

theorem wth_app {done todo : List Rw} {r : Rw} (h : (done ++ [r] ++ todo).Pairwise (fun r q => keyR r ≠ keyR q)) (g : ∀ q ∈ done ++ [r] ++ todo, Gd q) : wth r.p r.c r.k (done ++ [r] ++ todo) = done ++ todo := by
  have hr : Gd r := g r (by simp)
  unfold wth
  rw [List.filter_append, List.filter_append]
  have k : ∀ q ∈ done ++ [r] ++ todo, keyR q ≠ keyR r → (!eqO q.p q.c q.k r.p r.c r.k) = true := fun q hq hn => by rw [(key_eqF (g q hq) hr).2 hn]; rfl
  rw [List.append_assoc] at h
  obtain ⟨-, h2, h3⟩ := List.pairwise_append.1 h
  obtain ⟨h4, -⟩ := List.pairwise_cons.1 h2
  have f1 : done.filter (fun q => !eqO q.p q.c q.k r.p r.c r.k) = done := List.filter_eq_self.2 fun q hq => k q (by simp [hq]) (h3 q hq r (by simp))
  have f2 : todo.filter (fun q => !eqO q.p q.c q.k r.p r.c r.k) = todo := List.filter_eq_self.2 fun q hq => k q (by simp [hq]) (h4 q hq).symm
  rw [f1, f2, List.filter_cons, (key_eqO hr hr).2 rfl]
  simp
theorem Rng.drop {W : World} {b it : Nat} {done todo : List Rw} {r : Rw} (h : Rng W b it (done ++ [r]) todo) (ty : TypeId) :
    ∃ w', (Builtin.delete_ #[tMap, 45] ty #[.map (some b), ownV r.p r.c r.k]).run Try.prog W = .ok (.tuple #[]) w' ∧ Rng w' b it done todo ∧ w'.rangeLeft b it ≤ W.rangeLeft b it ∧ W.mapTurned w' b := by
  obtain ⟨D, left, cnt, n, h1, h2, h3, h4⟩ := h
  have hg : Gd r := h2.good r (by simp)
  obtain ⟨w', cnt', hrun, r1, r2, r3⟩ := h1.drop ownK Try.underlying72 hg.key ty
  have x := h2.del (keyL r.p r.c r.k)
  rw [wth_key hg h2.good, wth_app h2.apart h2.good] at x
  have e1 := r1.left_eq
  have e2 := h1.left_eq
  refine ⟨w', hrun, ⟨D.del (keyL r.p r.c r.k), _, cnt', n, r1, x, fun q hq => ?_, fun q hq => ?_⟩, by omega, r3⟩
  · simp only [h3 q (by simp [hq]), Bool.false_and]
  · have hne : keyR q ≠ keyR r := fun e => by
      have := h4 q hq
      rw [e, h3 r (by simp)] at this
      cases this
    simp only [h4 q hq, show (keyR q).sameKey (keyL r.p r.c r.k) = false from same_f hne, Bool.not_false, Bool.and_self]

section
variable (w : World) {ops : Array Oper} {rest : List Oper} {o : Oper} {a : Act} {Q : Exit → Act → World → Prop}
theorem wpList_range_tab (hg : o.guard = none) (m : Operand) (hop : o.op = Op.range tMap m) (b : Nat) (ls : List Rw) (hm : a.eval m = .map (some b)) (h : MapW w b ls)
    (hK : ∀ w', Rng w' b w.heap.size [] ls → Below w.heap.size w w' → w'.heap.size = w.heap.size + 1 → wpList Try.prog ops Q rest (a.put o.dst (.pointer (some ⟨w.heap.size, 0, none⟩))) w') :
    wpList Try.prog ops Q (o :: rest) a w := by
  refine wpList_plain hg fun K' hK' => ?_
  obtain ⟨w', hrun, r1, r2, r3⟩ := h.range
  unfold Oper.wp
  simp [execOp, hop, hm, hrun, Result.andThen]
  exact hK' _ _ (hK w' r1 r2 r3)
theorem wpList_next_tab (hg : o.guard = none) (i : Operand) (hop : o.op = Op.next i false) (b it : Nat) (done todo : List Rw) (hi : a.eval i = .pointer (some ⟨it, 0, none⟩)) (h : Rng w b it done todo)
    (hDone : todo = [] → wpList Try.prog ops Q rest (a.put o.dst (.tuple #[.bool false])) w)
    (hMore : ∀ r todo' w', todo.Perm (r :: todo') → Gd r → Rng w' b it (done ++ [r]) todo' → w'.rangeLeft b it < w.rangeLeft b it → w.grownBy w' (some it) → w'.heap.size = w.heap.size →
      (Instr.entry (.pointer (some ⟨it, 0, none⟩))).run Try.prog w' = .ok (.tuple #[ownV r.p r.c r.k, spV r.s]) w' → wpList Try.prog ops Q rest (a.put o.dst (.tuple #[.bool true, ownV r.p r.c r.k, spV r.s])) w') :
    wpList Try.prog ops Q (o :: rest) a w := by
  refine wpList_plain hg fun K' hK' => ?_
  unfold Oper.wp
  rcases h.next o.type with ⟨h0, hrun⟩ | ⟨r, todo', w', h1, h2, hrun, h3, h4, h5, h6, h7⟩
  · simp [execOp, hop, hi, hrun, Result.andThen]
    exact hK' _ _ (hDone h0)
  · simp [execOp, hop, hi, hrun, Result.andThen]
    exact hK' _ _ (hMore r todo' w' h1 h2 h3 h4 h5 h6 h7)
end

end Go.Proofs.Ytpefjcgccbfgbaa.Bk
