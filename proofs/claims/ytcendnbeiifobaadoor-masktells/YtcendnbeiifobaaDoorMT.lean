/-
  Plain facts on masks for the statements MaskTells and MaskLists, and the law's list of nodes as it is read, at this program. Conditions: none.
-/
import Derived.Test.YtcendnbeiifobaaDoorMO
namespace Go.Proofs.YtcendnbeiifobaaDoor.Mk
open Go.RowKit

/-- Among the first ones: is each node of a in b? -/
def undT (a b k : Nat) : Bool := (List.range k).all fun j => !tb a j || tb b j
theorem undT_succ (a b k : Nat) : undT a b (k + 1) = (undT a b k && (!tb a k || tb b k)) := by
  unfold undT
  rw [List.range_succ, List.all_append]
  simp
theorem und_is {a b : Nat} (_ : a < 256) (hb : b < 256) : undT a b 8 = underB a b := by
  have e : underB a b = true ↔ undT a b 8 = true := by
    unfold underB undT
    rw [beq_iff_eq, List.all_eq_true]
    have hs : ∀ j, (255 - b).testBit j = (decide (j < 8) && !b.testBit j) := fun j => by
      rw [show 255 - b = 2 ^ 8 - (b + 1) by omega]
      exact Nat.testBit_two_pow_sub_succ (n := 8) hb j
    constructor
    · intro h j hj
      have hj : j < 8 := by simpa using hj
      have := congrArg (·.testBit j) h
      simp only [Nat.testBit_and, hs, Nat.zero_testBit] at this
      unfold tb
      revert this
      cases a.testBit j <;> cases b.testBit j <;> simp [hj]
    · intro h
      refine Nat.eq_of_testBit_eq fun j => ?_
      rw [Nat.testBit_and, hs, Nat.zero_testBit]
      by_cases hj : j < 8
      · have := h j (by simpa using hj)
        unfold tb at this
        revert this
        cases a.testBit j <;> cases b.testBit j <;> simp [hj]
      · simp [hj]
  cases h1 : underB a b <;> cases h2 : undT a b 8 <;> simp_all
def setB (b : Nat) : List Bool := (List.range 8).map fun i => tb b i
theorem setB_on : ∀ b : Fin 256, ∀ n : Fin 8, (setB b.1).set n.1 true = setB (withB b.1 (n.1 : Int)) ∧ (setB b.1).set n.1 false = setB (lessB b.1 (n.1 : Int)) ∧ tb b.1 n.1 = hasB b.1 (n.1 : Int) := by decide +kernel
theorem setL_map (b : Nat) : setL b = (setB b).map Value.bool := rfl
theorem set_with {b n : Nat} (hb : b < 256) (hn : n < 8) : (setL b).set n (.bool true) = setL (withB b (n : Int)) := by
  rw [setL_map, setL_map, ← (setB_on ⟨b, hb⟩ ⟨n, hn⟩).1, List.map_set]
theorem set_less {b n : Nat} (hb : b < 256) (hn : n < 8) : (setL b).set n (.bool false) = setL (lessB b (n : Int)) := by
  rw [setL_map, setL_map, ← (setB_on ⟨b, hb⟩ ⟨n, hn⟩).2.1, List.map_set]
theorem lawnodes_read (a : Int) (k : Nat) (w : World) :
    Calls Tryd.prog 20 #[.int .i64 a, .int .i64 k] w fun e w' => ∃ v, e = .returned v ∧ RdI w' v ((ndI (low a)).take k) ∧ Below w.heap.size w w' :=
  (lawnodes_own a k w).mono fun e w' ⟨v, he, own, hb⟩ => ⟨v, he, own_read (by rw [← List.map_take, List.map_map]; exact own), hb⟩

end Go.Proofs.YtcendnbeiifobaaDoor.Mk
