/-
  The law's own lists of what an iterator of package mask hands on (of a mask's nodes, of masks), up to so many, at this program. Conditions: where it is said, so many is no number below 0.
-/
import Derived.Maps.AppendAt
import Derived.Test.YtkjaiahdkolmdaaMC
namespace Go.Proofs.Ytkjaiahdkolmdaa.Mk
open Go.RowKit Go.Shelf

attribute [local go_sem] Oper.semAt_some

theorem ownsRow_weak {W : World} {base n₀ : Nat} {T : TypeId} {s n : Nat} {v : Value} {xs : List Value} (h : W.ownsRow base T s v n xs) (hb : n₀ ≤ base) : W.ownsRow n₀ T s v n xs := by
  obtain ⟨hl, h | ⟨g, cap, cur, e, h1, h2⟩⟩ := h
  · exact ⟨hl, .inl h⟩
  · exact ⟨hl, .inr ⟨g, cap, cur, e, by omega, h2⟩⟩
/-- Behind 'out = append(out, ..)' with the new slice stored in its box. -/
theorem appended3 {W w1 : World} {n₀ b₃ B : Nat} {t e : TypeId} {size : Nat} {v v' : Value} {k m : Nat} {xs ys : List Value} {tmp : Obj}
    (hv : Boxed W B t v) (hte : t ≠ e) (hrow : W.ownsRow b₃ e size v k xs) (hn₀ : n₀ ≤ W.heap.size) (hB : n₀ ≤ B) (h3 : n₀ ≤ b₃)
    (hown' : w1.ownsRow b₃ e size v' m ys) (hgrow : (W.alloc tmp).grownBy w1 v.ownBlock) :
    (Boxed w1 B t v ∧ Boxed (w1.setCell ⟨B, 0, none⟩ v') B t v' ∧ (w1.setCell ⟨B, 0, none⟩ v').ownsRow b₃ e size v' m ys ∧ KeepsOthers W (w1.setCell ⟨B, 0, none⟩ v') ∧ Below n₀ W (w1.setCell ⟨B, 0, none⟩ v')) ∧
    ∀ j, j < b₃ → j ≠ B → j < W.heap.size → (w1.setCell ⟨B, 0, none⟩ v').heap[j]? = W.heap[j]? := by
  obtain ⟨a1, a2, -, a4, a5⟩ := hv.appended hte (ownsRow_weak hrow h3) hn₀ hB (ownsRow_weak hown' h3) hgrow
  refine ⟨⟨a1, a2, hown'.kept (grownBy_setCell' w1 B v') (.inr (a1.not_row hte hown').symm), a4, a5⟩, fun j h1 h2 h4 => ?_⟩
  refine (Below.heap_setCell w1 ⟨B, 0, none⟩ v' j h2).trans ((hgrow.block j (by simp; omega) fun e => ?_).trans (Below.heap_alloc W tmp j h4))
  have := (World.ownsRow.lt (hrow.alloc tmp) j e.symm).1
  omega
theorem prefix_take {α : Type} {pre xs : List α} {k : Nat} (h : pre <+: xs) (hk : pre.dropLast.length = k) : pre.dropLast = xs.take k := by
  have := List.prefix_iff_eq_take.1 ((List.dropLast_prefix pre).trans h)
  rw [hk] at this
  exact this
theorem own_slice {W : World} {base : Nat} {T : TypeId} {s n : Nat} {v : Value} {xs : List Value} (h : W.ownsRow base T s v n xs) : ∃ a cap, v = .slice a n cap := by
  obtain ⟨-, ⟨rfl, rfl⟩ | ⟨g, cap, cur, e, -⟩⟩ := h
  · exact ⟨none, 0, rfl⟩
  · exact ⟨_, cap, e⟩
theorem intInfo : (Try.prog.info? 3).map (fun i => (i.zero, i.size, i.bytes)) = some (some (.int .i64 0), 1, 8) := by kernel_rfl

abbrev encN (x : Fin 8) : Value := .int .i64 (x.1 : Int)

abbrev encM (x : Nat) : Value := .int .i64 (x : Int)

end Go.Proofs.Ytkjaiahdkolmdaa.Mk
