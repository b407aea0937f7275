/-
  A resource's number and text as package vector reads and writes them, at this program. Conditions: the tables of the program lie as its text lays them; a text's length fits the machine.
-/
import Derived.Test.YtpbgolcimbjekaaGreatDoorKB
import Derived.Test.YtpbgolcimbjekaaGreatDoorVP
namespace Go.Proofs.YtpbgolcimbjekaaGreatDoor
open Go.RowKit

/-! ### A resource's number -/
def each (r : Nat) : Nat := if r = 0 then 1000000 else 1000000000
def bnd (r : Nat) : Nat := if r = 0 then 1099511627776 else 1125899906842624
/-- How much of a resource an amount is. -/
def cntL (r v : Nat) : Int × Int := if up v (each r) ≤ 1152921504606846976 then ((up v (each r) : Nat), 0) else (0, 15)
def iiv (x : Int × Int) : Value := .tuple #[.int .i64 x.1, .int .i64 x.2]

theorem counted_eq {a v : Nat} {e : Ending} {r : Nat} (hv : each r = v) (h : Counted a v e) : e = .returned (iiv (cntL r a)) := by
  obtain ⟨n, g, rfl, f⟩ := h
  subst hv
  unfold cntL
  rcases f with ⟨f, rfl, rfl⟩ | ⟨f, rfl, rfl⟩
  · rw [if_pos f]; rfl
  · rw [if_neg (by omega)]; rfl

set_option maxHeartbeats 1000000 in
theorem vcounted_is {ah al r : Int} {a k : Nat} (i : Is ah al a) (hr : r = (k : Int)) (w : World) :
    Calls Tryz.prog 36 #[.int .i64 r, .agg #[.int .u64 ah, .int .u64 al]] w fun e w' => e = .returned (iiv (cntL k a)) ∧ Below w.heap.size w w' := by
  obtain ⟨x, y, hx⟩ : ∃ x y, cntL k a = (x, y) := ⟨_, _, Prod.eta _ |>.symm⟩
  rw [hx]
  have I : Hid (Is ah al a) := i
  by_cases c : r = 0
  · have M : Hid (∀ w, Calls Tryz.prog 56 #[.agg #[.int .u64 ah, .int .u64 al]] w fun e w' => e = .returned (iiv (x, y)) ∧ Below w.heap.size w w') := fun w => by
      refine (milli_is i w).mono ?_
      rintro e w' ⟨f, hw⟩
      exact ⟨by rw [counted_eq (r := k) (by unfold each; rw [if_pos (by omega)]) f, hx], hw⟩
    subst c
    clear hx i hr
    go_enter Tryz.func36, Tryz.ntmps36
    go_wp2_with (fail)
    refine (M.out _).mono ?_
    rintro e w1 ⟨rfl, hw1⟩
    rw [show iiv (x, y) = .tuple #[.int .i64 x, .int .i64 y] from rfl]
    have HB : Below w.heap.size w w1 := Below.trans (by go_grown) (hw1.mono (by simp))
    clear hw1
    go_wp2
    go_ret2
    exact ⟨rfl, HB⟩
  · have M : Hid (∀ w, Calls Tryz.prog 57 #[.agg #[.int .u64 ah, .int .u64 al]] w fun e w' => e = .returned (iiv (x, y)) ∧ Below w.heap.size w w') := fun w => by
      refine (units_is i w).mono ?_
      rintro e w' ⟨f, hw⟩
      exact ⟨by rw [counted_eq (r := k) (by unfold each; rw [if_neg (by omega)]) f, hx], hw⟩
    have g : (r == 0) = false := by simp [c]
    clear hx i hr
    go_enter Tryz.func36, Tryz.ntmps36
    go_wp2_with (fail)
    refine (M.out _).mono ?_
    rintro e w1 ⟨rfl, hw1⟩
    rw [show iiv (x, y) = .tuple #[.int .i64 x, .int .i64 y] from rfl]
    have HB : Below w.heap.size w w1 := Below.trans (by go_grown) (hw1.mono (by simp))
    clear hw1
    go_wp2
    go_ret2
    exact ⟨rfl, HB⟩

/-- A resource's number, as a text tells it; or nothing and the error. -/
def numP (r : Nat) (p : Nat × Int) : Int × Int :=
  if p.2 ≠ 0 then (0, p.2) else
  if (cntL r p.1).2 ≠ 0 then (0, (cntL r p.1).2) else
  if (bnd r : Int) < (cntL r p.1).1 then (0, 15) else
  if r = 2 ∧ (cntL r p.1).1 % 2097152 ≠ 0 then (0, 11) else ((cntL r p.1).1, 0)
def numL (r : Nat) (l : List UInt8) : Int × Int := numP r (parseL l)
theorem cnt_pos (r v : Nat) : 0 ≤ (cntL r v).1 := by unfold cntL; split <;> simp <;> omega

/-! ### A resource's text -/
def amtL (r : Nat) (n : Int) : List UInt8 := if r = 0 then textL (n.toNat * 1000000) else binL (n.toNat * 1000000000)

set_option maxHeartbeats 1000000 in
theorem amountText_is {r : Int} {k : Nat} (n : Int) (hr : r = (k : Int)) (n0 : 0 ≤ n) (n1 : n ≤ 1125899906842624) (w : World) (hL : LaidV w) :
    Calls Tryz.prog 25 #[.int .i64 r, .int .i64 n] w fun e w' => (∃ t : ByteArray, e = .returned (.string t) ∧ t.data.toList = amtL k n) ∧ Below w.heap.size w w' := by
  have HL : Hid (LaidV w) := hL
  clear hL
  have NN : Hid (0 ≤ n ∧ n ≤ 1125899906842624) := ⟨n0, n1⟩
  clear n0 n1
  by_cases c : r = 0
  · obtain rfl : k = 0 := by omega
    subst c
    clear hr
    go_enter Tryz.func25, Tryz.ntmps25
    go_wp2_with (fail)
    refine (ofMilli_any n _).mono ?_
    rintro e w1 ⟨⟨h, l, g, rfl, f⟩, hw1⟩
    have F : Hid (Is h l (n.toNat * 1000000)) := by
      obtain ⟨n0, n1⟩ := NN.out
      rcases f with ⟨f, _⟩ | ⟨f, _⟩ | ⟨_, _, f, rfl⟩
      · omega
      · omega
      · exact f
    have HL1 : Hid (LaidV w1) := HL.out.later hw1
    have hs := hw1.size
    clear f HL
    go_wp2_with (fail)
    refine (text_amount F.out _ (HL1.out.alloc _).1).mono ?_
    rintro e w2 ⟨⟨t, rfl, ht⟩, hw2⟩
    have T : Hid (t.data.toList = amtL 0 n) := by unfold Hid amtL; rw [ht, if_pos rfl]
    have HB : Below w.heap.size w w2 := Below.trans (show Below w.heap.size w _ by go_grown) (hw2.mono (by simp; omega))
    clear ht hw1 hw2 HL1
    go_wp2
    go_ret
    exact ⟨⟨t, rfl, T.out⟩, HB⟩
  · have g : (r == 0) = false := by simp [c]
    have K : Hid (k ≠ 0) := fun h => c (by omega)
    clear hr
    go_enter Tryz.func25, Tryz.ntmps25
    go_wp2_with (fail)
    refine (ofUnits_any n _).mono ?_
    rintro e w1 ⟨⟨h, l, g', rfl, f⟩, hw1⟩
    have F : Hid (Is h l (n.toNat * 1000000000)) := by
      obtain ⟨n0, n1⟩ := NN.out
      rcases f with ⟨f, _⟩ | ⟨f, _⟩ | ⟨_, _, f, rfl⟩
      · omega
      · omega
      · exact f
    have HL1 : Hid (LaidV w1) := HL.out.later hw1
    have hs := hw1.size
    clear f HL
    go_wp2_with (fail)
    refine (binary_amount F.out _ (HL1.out.alloc _).1).mono ?_
    rintro e w2 ⟨⟨t, rfl, ht⟩, hw2⟩
    have T : Hid (t.data.toList = amtL k n) := by unfold Hid amtL; rw [ht, if_neg K.out]
    have HB : Below w.heap.size w w2 := Below.trans (show Below w.heap.size w _ by go_grown) (hw2.mono (by simp; omega))
    clear ht hw1 hw2 HL1
    go_wp2
    go_ret
    exact ⟨⟨t, rfl, T.out⟩, HB⟩

end Go.Proofs.YtpbgolcimbjekaaGreatDoor
