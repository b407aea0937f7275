/-
  Rows of a function's own: plain facts on slices whose elements have several cells. No program is spoken of but for its name.
-/
import Derived.Test.YtaeejemknmjglaaDoorPG
namespace Go.Proofs.YtaeejemknmjglaaDoor.Sp
open Go.RowKit

theorem flat_at {α : Type} {k : Nat} : ∀ {xss : List (List α)} {j i : Nat} {xs : List α} {v : α}, (∀ x ∈ xss, x.length = k) → xss[j]? = some xs → xs[i]? = some v → xss.flatten[j * k + i]? = some v
  | [], j, i, xs, v, _, h, _ => by simp at h
  | x :: r, 0, i, xs, v, hl, h, hv => by
    simp at h
    subst h
    have : i < x.length := (List.getElem?_eq_some_iff.1 hv).1
    rw [List.flatten_cons, Nat.zero_mul, Nat.zero_add, List.getElem?_append_left this]
    exact hv
  | x :: r, j + 1, i, xs, v, hl, h, hv => by
    have e : x.length = k := hl x (by simp)
    rw [List.flatten_cons, List.getElem?_append_right (by rw [e, Nat.add_mul]; omega), show (j + 1) * k + i - x.length = j * k + i by rw [e, Nat.add_mul]; omega]
    exact flat_at (fun y hy => hl y (by simp [hy])) (by simpa using h) hv
/-- A slice of one's own, of elements of k cells each. -/
def Owns (W : World) (base : Nat) (T : TypeId) (k : Nat) (o : Value) (xss : List (List Value)) : Prop := (∀ x ∈ xss, x.length = k) ∧ W.ownsRow base T k o xss.length xss.flatten
section
variable {W w1 : World} {base k : Nat} {T : TypeId} {o : Value} {xss : List (List Value)}
theorem Owns.later (h : Owns W base T k o xss) (hb : Below W.heap.size W w1) : Owns w1 base T k o xss :=
  ⟨h.1, World.ownsRow.kept (row := none) h.2 ⟨hb.os, hb.tape, hb.output, hb.size, fun k hk _ => hb.block k hk⟩ (by cases hv : o.ownBlock <;> simp)⟩
theorem Owns.alloc (h : Owns W base T k o xss) (ob : Obj) : Owns (W.alloc ob) base T k o xss := ⟨h.1, World.ownsRow.alloc h.2 ob⟩
theorem Owns.drew (h : Owns W base T k o xss) : Owns W.drew base T k o xss := h
theorem Owns.nil (W : World) (base : Nat) (T : TypeId) (k : Nat) : Owns W base T k (.slice none 0 0) [] := ⟨by simp, World.ownsRow_nil W base _ k⟩
theorem Owns.made {cap : Nat} (h : W.ownsRow base T k o cap []) (e : cap = 0) : Owns W base T k o [] := ⟨by simp, by subst e; exact h⟩
theorem Owns.more {xs : List Value} (h : Owns W base T k o xss) (hx : xs.length = k) {o' : Value} (h' : w1.ownsRow base T k o' (xss.length + 1) (xss.flatten ++ xs)) : Owns w1 base T k o' (xss ++ [xs]) := by
  refine ⟨fun x m => ?_, ?_⟩
  · rcases List.mem_append.1 m with m | m
    · exact h.1 x m
    · simp at m
      rw [m]; exact hx
  · rw [List.flatten_append, List.length_append]
    simpa using h'
theorem Owns.kept {w' : World} {row : Option Nat} (h : Owns W base T k o xss) (hg : W.grownBy w' row) (hne : o.ownBlock = none ∨ o.ownBlock ≠ row) : Owns w' base T k o xss := ⟨h.1, World.ownsRow.kept h.2 hg hne⟩
theorem Owns.ge (h : Owns W base T k o xss) : ∀ b, o.ownBlock = some b → base ≤ b := fun b hb => (World.ownsRow.lt h.2 b hb).1
theorem Owns.lt (h : Owns W base T k o xss) : ∀ b, o.ownBlock = some b → b < W.heap.size := fun b hb => (World.ownsRow.lt h.2 b hb).2
/-- What it reads as. -/
theorem Owns.read (h : Owns W base T k o xss) : ∃ (a : Option Addr) (cap : Nat), o = .slice a xss.length cap ∧ xss.length ≤ cap ∧ cap ≤ maxLen ∧ (a = none → cap = 0) ∧
    ∀ (j : Nat) (xs : List Value), xss[j]? = some xs → ∃ b : Nat, a = some ⟨b, 0, none⟩ ∧ ∀ i v, xs[i]? = some v → W.cell? ⟨b, 0 + j * k + i, none⟩ = some v := by
  obtain ⟨hl, h⟩ := h
  have hc := fun g hg => World.ownsRow.cells (g := g) h hg
  obtain ⟨-, ⟨rfl, e⟩ | ⟨g, cap, cur, rfl, -, hb, h1, h2, -⟩⟩ := h
  · refine ⟨none, 0, by rw [e], by omega, by unfold maxLen; omega, fun _ => rfl, fun j xs hj => ?_⟩
    have := (List.getElem?_eq_some_iff.1 hj).1
    omega
  · refine ⟨some ⟨g, 0, none⟩, cap, rfl, h1, h2, (fun e => by cases e), fun j xs hj => ⟨g, rfl, fun i v hv => ?_⟩⟩
    have := hc g rfl (j * k + i) v (flat_at hl hj hv)
    rw [Addr.add_lit] at this
    rwa [Nat.add_assoc]
end
def vl (x : Int × Int × Int) : List Value := [.int .i64 x.1, .int .i64 x.2.1, .int .i64 x.2.2]
/-- A row of one's own reads as vectors. -/
theorem Owns.vecs {W : World} {base : Nat} {T : TypeId} {o : Value} {zs : List (Int × Int × Int)} (h : Owns W base T 3 o (zs.map vl)) : RdV W o zs := by
  obtain ⟨a, cap, e, h1, h2, -, h3⟩ := h.read
  rw [List.length_map] at e h1
  refine ⟨a, cap, e, h1, h2, fun j d hj => ?_⟩
  obtain ⟨b, rfl, hc⟩ := h3 j (vl d) (by rw [List.getElem?_map, hj]; rfl)
  exact ⟨b, 0, rfl, hc 0 _ rfl, hc 1 _ rfl, hc 2 _ rfl⟩

end Go.Proofs.YtaeejemknmjglaaDoor.Sp
