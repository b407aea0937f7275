/-
  The document's tables of blocks without an owner's rows (Without), and without a pod's (Release), at this program. Conditions: the table reads as rows, fewer than 2^40.
-/
import Derived.Test.YtpefjcgccbfgbaaBB
namespace Go.Proofs.Ytpefjcgccbfgbaa.Bk
open Go.RowKit

/-- A slice of one's own of rows. -/
def OwnW (W : World) (base : Nat) (o : Value) (xs : List Rw) : Prop := W.ownsRow base 66 11 o xs.length (xs.map rowL).flatten
section
variable {W w1 : World} {base : Nat} {o : Value} {xs : List Rw}
theorem OwnW.later (h : OwnW W base o xs) (hb : Below W.heap.size W w1) : OwnW w1 base o xs :=
  World.ownsRow.kept (row := none) h ⟨hb.os, hb.tape, hb.output, hb.size, fun k hk _ => hb.block k hk⟩ (by cases hv : o.ownBlock <;> simp)
theorem OwnW.alloc (h : OwnW W base o xs) (ob : Obj) : OwnW (W.alloc ob) base o xs := World.ownsRow.alloc h ob
theorem OwnW.nil (W : World) (base : Nat) : OwnW W base (.slice none 0 0) [] := World.ownsRow_nil W base _ 11
theorem OwnW.more {r : Rw} {o' : Value} (h' : w1.ownsRow base 66 11 o' (xs.length + 1) ((xs.map rowL).flatten ++ rowL r)) : OwnW w1 base o' (xs ++ [r]) := by
  unfold OwnW
  rw [List.map_append, List.flatten_append, List.length_append]
  simpa using h'
theorem OwnW.kept {w' : World} {row : Option Nat} (h : OwnW W base o xs) (hg : W.grownBy w' row) (hne : o.ownBlock = none ∨ o.ownBlock ≠ row) : OwnW w' base o xs := World.ownsRow.kept h hg hne
theorem OwnW.ge (h : OwnW W base o xs) : ∀ b, o.ownBlock = some b → base ≤ b := fun b hb => (World.ownsRow.lt h b hb).1
end
theorem flatW_at : ∀ {xs : List Rw} {j i : Nat} {r : Rw} {v : Value}, xs[j]? = some r → (rowL r)[i]? = some v → (xs.map rowL).flatten[j * 11 + i]? = some v
  | [], j, i, r, v, h, _ => by simp at h
  | x :: t, 0, i, r, v, h, hv => by
    simp at h
    subst h
    have : i < (rowL x).length := (List.getElem?_eq_some_iff.1 hv).1
    rw [List.map_cons, List.flatten_cons, Nat.zero_mul, Nat.zero_add, List.getElem?_append_left this]
    exact hv
  | x :: t, j + 1, i, r, v, h, hv => by
    rw [List.map_cons, List.flatten_cons, List.getElem?_append_right (by show 11 ≤ _; omega), show (j + 1) * 11 + i - (rowL x).length = j * 11 + i by show (j + 1) * 11 + i - 11 = _; omega]
    exact flatW_at (by simpa using h) hv
/-- It reads as those rows. -/
theorem OwnW.read {W : World} {base : Nat} {o : Value} {xs : List Rw} (h : OwnW W base o xs) (hm : ∀ r ∈ xs, r.p.size ≤ maxLen ∧ r.c.size ≤ maxLen) : RdW W o xs := by
  have hc := fun g hg => World.ownsRow.cells (g := g) h hg
  obtain ⟨-, ⟨rfl, e⟩ | ⟨g, cap, cur, rfl, -, hb, h1, h2, -⟩⟩ := h
  · exact ⟨none, 0, by rw [e], by omega, by unfold maxLen; omega, fun j r hj => by have := (List.getElem?_eq_some_iff.1 hj).1; omega⟩
  · refine ⟨some ⟨g, 0, none⟩, cap, rfl, h1, h2, fun j r hj => ⟨hm r (List.mem_of_getElem? hj), g, 0, rfl, ?_⟩⟩
    have c : ∀ i v, (rowL r)[i]? = some v → W.cell? ⟨g, 0 + j * 11 + i, none⟩ = some v := fun i v hv => by
      have := hc g rfl (j * 11 + i) v (flatW_at hj hv)
      rw [Addr.add_lit] at this
      rwa [Nat.add_assoc]
    exact ⟨c 0 _ rfl, c 1 _ rfl, c 2 _ rfl, c 3 _ rfl, c 4 _ rfl, c 5 _ rfl, c 6 _ rfl, c 7 _ rfl, c 8 _ rfl, c 9 _ rfl, c 10 _ rfl⟩
theorem rowInfo : (Try.prog.info? 66).map (fun i => (i.zero, i.size, i.bytes)) = some (some (.agg #[.string ⟨#[]⟩, .string ⟨#[]⟩, .int .i64 0, .int .i64 0, .int .i64 0, .int .i64 0, .int .i64 0, .int .i64 0, .int .i64 0, .int .i64 0, .int .i64 0]), 11, 104) := by kernel_rfl
theorem rowL_one (r : Rw) : ∀ u ∈ rowL r, u.oneCell' = true := by
  intro u hu
  simp [rowL] at hu
  rcases hu with rfl | rfl | rfl | rfl | rfl | rfl | rfl | rfl | rfl | rfl | rfl <;> rfl
theorem rowL_new (W : World) (r : Rw) (T : TypeId) : ∀ j u, (rowL r)[j]? = some u → (W.alloc (.cells #[.string r.p, .string r.c, .int .i64 r.k, .int .i64 (r.s 0), .int .i64 (r.s 1), .int .i64 (r.s 2), .int .i64 (r.s 3), .int .i64 (r.s 4), .int .i64 (r.s 5), .int .i64 (r.s 6), .int .i64 (r.s 7)] T)).cell? ((⟨W.heap.size, 0, none⟩ : Addr).add j) = some u := fun j u hj => by
  have := (Cs.new W W.heap.size (rowL r) T rfl).1 j u hj
  rwa [Addr.add_lit, Nat.zero_add]
/-- Rows that are kept. -/
def wth (p c : ByteArray) (k : Int) (ls : List Rw) : List Rw := ls.filter fun r => !eqO r.p r.c r.k p c k
def rel (p : ByteArray) (ls : List Rw) : List Rw := ls.filter fun r => !eqS r.p p
theorem filter_next {α : Type} (f : α → Bool) {ls : List α} {j : Nat} {r : α} (h : ls[j]? = some r) : (ls.take (j + 1)).filter f = if f r then (ls.take j).filter f ++ [r] else (ls.take j).filter f := by
  rw [List.take_add_one, h, List.filter_append]
  cases e : f r <;> simp [e]

end Go.Proofs.Ytpefjcgccbfgbaa.Bk
