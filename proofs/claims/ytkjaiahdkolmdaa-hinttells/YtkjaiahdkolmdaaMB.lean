/-
  Lists of numbers that are read: the mask of nodes (mask.Of), and whether two lists are the same (the law's own), at this program. Conditions: the slices read as those lists.
-/
import Derived.Test.YtkjaiahdkolmdaaMA
import Derived.BigQuiet
namespace Go.Proofs.Ytkjaiahdkolmdaa.Mk
open Go.RowKit

theorem below_drewN {B : Nat} {w w1 : World} (h : Below B w w1) (n : Nat) : Below B w (w1.drewN n) :=
  h.trans ⟨rfl, rfl, rfl, Nat.le_refl _, fun _ _ => rfl⟩
/-- A slice reads as a row of numbers. -/
def RdI (W : World) (v : Value) (zs : List Int) : Prop := ∃ (a : Option Addr) (cap : Nat), v = .slice a zs.length cap ∧ zs.length ≤ cap ∧ cap ≤ maxLen ∧
  ∀ (j : Nat) (d : Int), zs[j]? = some d → ∃ b off : Nat, a = some ⟨b, off, none⟩ ∧ W.cell? ⟨b, off + j, none⟩ = some (.int .i64 d)
theorem RdI.later {W w1 : World} {v : Value} {zs : List Int} (h : RdI W v zs) (hb : Below W.heap.size W w1) : RdI w1 v zs := by
  obtain ⟨a, cap, e, h1, h2, h3⟩ := h
  refine ⟨a, cap, e, h1, h2, fun j d hj => ?_⟩
  obtain ⟨b, off, e1, e2⟩ := h3 j d hj
  exact ⟨b, off, e1, cell_later hb e2⟩
theorem RdI.under {W w1 : World} {B : Nat} {v : Value} {zs : List Int} (h : RdI W v zs) (hb : Below B W w1) (hB : W.heap.size ≤ B) : RdI w1 v zs := h.later (hb.mono hB)
/-- Its first ones. -/
theorem RdI.take {W : World} {a : Option Addr} {len cap : Nat} {zs : List Int} (h : RdI W (.slice a len cap) zs) {k : Nat} (hk : k ≤ len) : RdI W (.slice a k cap) (zs.take k) := by
  obtain ⟨a', cap', e, h1, h2, h3⟩ := h
  injection e with e1 e2 e3
  subst e1 e3
  refine ⟨a, cap, by rw [List.length_take, Nat.min_eq_left (by omega)], by rw [List.length_take]; omega, h2, fun j d hj => h3 j d ?_⟩
  rw [List.getElem?_take] at hj
  split at hj
  · exact hj
  · cases hj
/-- A row of one's own reads as its numbers. -/
theorem own_read {W : World} {base n : Nat} {T : TypeId} {v : Value} {zs : List Int} (h : W.ownsRow base T 1 v n (zs.map (Value.int .i64))) : RdI W v zs := by
  have hc := fun g hg => World.ownsRow.cells (g := g) h hg
  obtain ⟨hl, ⟨rfl, e⟩ | ⟨g, cap, cur, rfl, -, hb, h1, h2, -⟩⟩ := h
  · rw [List.length_map] at hl
    have : zs.length = 0 := by omega
    exact ⟨none, 0, by rw [this], by omega, by unfold maxLen; omega, fun j d hj => by have := (List.getElem?_eq_some_iff.1 hj).1; omega⟩
  · rw [List.length_map] at hl
    refine ⟨some ⟨g, 0, none⟩, cap, by rw [hl, Nat.mul_one], by omega, h2, fun j d hj => ⟨g, 0, rfl, ?_⟩⟩
    have := hc g rfl j (.int .i64 d) (by rw [List.getElem?_map, hj]; rfl)
    rw [Addr.add_lit] at this
    exact this

/-- The mask of so many nodes. -/
def ofL (zs : List Int) : Nat := zs.foldl withB 0
theorem foldl_lt : ∀ (zs : List Int) (b : Nat), b < 256 → zs.foldl withB b < 256
  | [], _, h => h
  | z :: zs, _, h => foldl_lt zs _ (withB_lt h z)

theorem list_ne {xs ys : List Int} {j : Nat} {c d : Int} (hx : xs[j]? = some c) (hy : ys[j]? = some d) (h : c ≠ d) : decide (xs = ys) = false := by
  refine decide_eq_false fun e => h ?_
  rw [e, hy] at hx
  injection hx with hx
  exact hx.symm

end Go.Proofs.Ytkjaiahdkolmdaa.Mk
