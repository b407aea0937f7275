/-
  A block that holds a list of values, and may be written: plain facts on worlds. No program is spoken of but for its name.
-/
import Derived.Test.YtpefjcgccbfgbaaM
namespace Go.Proofs.Ytpefjcgccbfgbaa
open Go.RowKit

/-- These values lie in a block from its first cell on, and may be written. -/
def Cs (W : World) (b : Nat) (vs : List Value) : Prop := (∀ (i : Nat) v, vs[i]? = some v → W.cell? ⟨b, i, none⟩ = some v) ∧ (∀ i : Nat, i < vs.length → W.frozen? ⟨b, i, none⟩ = false) ∧ b < W.heap.size
theorem Cs.lt {W : World} {b : Nat} {vs : List Value} (k : Cs W b vs) : b < W.heap.size := k.2.2
theorem Cs.same {W w1 : World} {b : Nat} {vs : List Value} (k : Cs W b vs) (e : w1.heap[b]? = W.heap[b]?) (z : b < w1.heap.size) : Cs w1 b vs := by
  have ce : ∀ i, w1.cell? ⟨b, i, none⟩ = W.cell? ⟨b, i, none⟩ := fun i => by simp only [World.cell?, e]
  have fe : ∀ i, w1.frozen? ⟨b, i, none⟩ = W.frozen? ⟨b, i, none⟩ := fun i => by simp only [World.frozen?, e]
  exact ⟨fun i v h => (ce i).trans (k.1 i v h), fun i h => (fe i).trans (k.2.1 i h), z⟩
theorem Cs.later {W w1 : World} {b : Nat} {vs : List Value} (hb : Below W.heap.size W w1) (k : Cs W b vs) : Cs w1 b vs := k.same (hb.block b k.lt) (Nat.lt_of_lt_of_le k.lt hb.size)
theorem Cs.alloc {W : World} {b : Nat} {vs : List Value} (k : Cs W b vs) (o : Obj) : Cs (W.alloc o) b vs := Cs.later ((Below.refl _ _).alloc (Nat.le_refl _) o) k
theorem Cs.drew {W : World} {b : Nat} {vs : List Value} (k : Cs W b vs) : Cs W.drew b vs := k
theorem Cs.grown {W w1 : World} {b : Nat} {vs : List Value} {row : Option Nat} (k : Cs W b vs) (hg : W.grownBy w1 row) (hr : some b ≠ row) : Cs w1 b vs := k.same (hg.block b k.lt hr) (Nat.lt_of_lt_of_le k.lt hg.size)
theorem Cs.new (W : World) (b : Nat) (vs : List Value) (t : TypeId) (e : b = W.heap.size) : Cs (W.alloc (.cells vs.toArray t)) b vs := by
  subst e
  refine ⟨fun i v h => ?_, fun i h => ?_, by simp⟩
  · simp [go_sem, h]
  · simp [go_sem]
theorem Cs.beside {W : World} {b b' : Nat} {vs : List Value} (k : Cs W b vs) (i : Nat) (x : Value) (e : b ≠ b') : Cs (W.setCell ⟨b', i, none⟩ x) b vs := k.same (Below.heap_setCell W ⟨b', i, none⟩ x b e) (by simpa [World.setCell] using k.lt)
theorem Cs.set {W : World} {b : Nat} {vs : List Value} (k : Cs W b vs) (i : Nat) (x : Value) (hi : i < vs.length) : Cs (W.setCell ⟨b, i, none⟩ x) b (vs.set i x) := by
  obtain ⟨h1, h2, h3⟩ := k
  refine ⟨fun j v h => ?_, fun j h => ?_, by simpa [World.setCell] using h3⟩
  · rw [List.getElem?_set] at h
    by_cases e : i = j
    · subst e
      simp [hi] at h
      subst h
      have := h1 i vs[i] (List.getElem?_eq_getElem hi)
      simp [go_sem, this]
    · rw [if_neg e] at h
      have := h1 j v h
      simp [go_sem, this]
  · have := h2 j (by simpa using h)
    simp [go_sem, this]

end Go.Proofs.Ytpefjcgccbfgbaa
