/-
  A table's zones and room at this program, and the document's Fits. Conditions: the table is one; the slice reads as zones.
-/
import Derived.Test.YtpefjcgccbfgbaaND
namespace Go.Proofs.Ytpefjcgccbfgbaa.Bk
open Go.RowKit

/-- The zone of a number, the zero one where there is none. -/
def zn0 : Zn := ⟨0, 0, 0, 0⟩
def zoneAt (zs : List Zn) (i : Int) : Zn := if 0 ≤ i then (zs[i.toNat]?).getD zn0 else zn0
def isZ (zs : List Zn) (i : Int) : Bool := decide (0 ≤ i ∧ i < zs.length)
theorem zoneAt_no {zs : List Zn} {i : Int} (h : isZ zs i = false) : zoneAt zs i = zn0 := by
  have := of_decide_eq_false h
  unfold zoneAt
  split
  · rw [List.getElem?_eq_none (by omega)]
    rfl
  · rfl
theorem zoneAt_yes {zs : List Zn} {j : Nat} {z : Zn} (h : zs[j]? = some z) : zoneAt zs (j : Int) = z := by
  unfold zoneAt
  rw [if_pos (by omega), show (j : Int).toNat = j by omega, h]
  rfl

set_option maxHeartbeats 2000000 in
set_option maxRecDepth 100000 in
theorem zone_is {b m : Nat} {zs : List Zn} {ls : List Rw} (i : Int) (w : World) (h : Tb w b m zs ls) : Calls Try.prog 10 #[tbV b, .int .i64 i] w fun e w' => e = .returned (.tuple #[zoneV (zoneAt zs i), .bool (isZ zs i)]) ∧ Below w.heap.size w w' := by
  have ZS : Hid (∀ w1, Below w.heap.size w w1 → Calls Try.prog 11 #[tbV b] w1 fun e w' => e = .returned (.int .i64 zs.length) ∧ Below w1.heap.size w1 w') := fun w1 hb => zones_is w1 (Tb.later hb h)
  have zl := (fits_len h.fit).2
  obtain ⟨⟨zb, zo, cap, c0, a', cap', e', h1, h2, h3⟩, -, -, -⟩ := h
  cases e'
  have H3 : Hid (∀ (j : Nat) (z : Zn), zs[j]? = some z → ∃ b off : Nat, some (⟨zb, zo, none⟩ : Addr) = some ⟨b, off, none⟩ ∧ ElZ w b (off + j * 4) z) := h3
  clear h3
  by_cases i0 : i < 0
  · have X : isZ zs i = false := decide_eq_false (by omega)
    rw [X, zoneAt_no X]
    clear X H3 ZS
    go_enter Try.func10, Try.ntmps10
    go_wp2
    refine bodyPost_ret (v := .tuple #[zoneV zn0, .bool false]) (by simp [results, Try.results10, go_sem, zn0]) rfl ⟨rfl, by go_grown⟩
  by_cases il : (zs.length : Int) ≤ i
  · have X : isZ zs i = false := decide_eq_false (by omega)
    rw [X, zoneAt_no X]
    clear X H3
    go_enter Try.func10, Try.ntmps10
    go_wp2_with (fail)
    refine (ZS.out _ (by go_grown)).mono ?_
    rintro e w1 ⟨rfl, hw1⟩
    have q1 : Cs w1 w.heap.size [.int .i64 0, .int .i64 0, .int .i64 0, .int .i64 0] := Cs.later hw1 (Cs.new _ _ _ _ rfl)
    have HB : Below w.heap.size w w1 := Below.trans (by go_grown) (hw1.mono (by simp))
    have r0 := q1.1 0 _ rfl
    have r1 := q1.1 1 _ rfl
    have r2 := q1.1 2 _ rfl
    have r3 := q1.1 3 _ rfl
    have f0 := q1.2.1 0 (by show 0 < 4; omega)
    have f1 := q1.2.1 1 (by show 1 < 4; omega)
    have f2 := q1.2.1 2 (by show 2 < 4; omega)
    have f3 := q1.2.1 3 (by show 3 < 4; omega)
    clear hw1 ZS q1
    go_wp2
    refine bodyPost_ret (v := .tuple #[zoneV zn0, .bool false]) (by simp [results, Try.results10, go_sem, zn0, r0, r1, r2, r3]) rfl ⟨rfl, by go_grown⟩
  obtain ⟨j, rfl⟩ : ∃ j : Nat, i = j := ⟨i.toNat, by omega⟩
  obtain ⟨z, hz⟩ : ∃ z, zs[j]? = some z := ⟨zs[j], List.getElem?_eq_getElem (by omega)⟩
  have X : isZ zs (j : Int) = true := decide_eq_true (by omega)
  rw [X, zoneAt_yes hz]
  obtain ⟨b', off, e', T⟩ := H3.out j z hz
  cases e'
  clear X H3 hz
  have i2 : (j : Int) < (zs.length : Int) := by omega
  have i3 : (0 : Int) ≤ (j : Int) := by omega
  go_enter Try.func10, Try.ntmps10
  go_wp2_with (fail)
  refine (ZS.out _ (by go_grown)).mono ?_
  rintro e w1 ⟨rfl, hw1⟩
  have q1 : Cs w1 w.heap.size [.int .i64 0, .int .i64 0, .int .i64 0, .int .i64 0] := Cs.later hw1 (Cs.new _ _ _ _ rfl)
  have HB : Below w.heap.size w w1 := Below.trans (by go_grown) (hw1.mono (by simp))
  have c1 := cell_later HB c0
  obtain ⟨t0, t1, t2, t3⟩ := T.later HB
  have r0 := q1.1 0 _ rfl
  have r1 := q1.1 1 _ rfl
  have r2 := q1.1 2 _ rfl
  have r3 := q1.1 3 _ rfl
  have f0 := q1.2.1 0 (by show 0 < 4; omega)
  have f1 := q1.2.1 1 (by show 1 < 4; omega)
  have f2 := q1.2.1 2 (by show 2 < 4; omega)
  have f3 := q1.2.1 3 (by show 3 < 4; omega)
  clear hw1 ZS q1 T c0
  go_wp2
  refine bodyPost_ret (v := .tuple #[zoneV z, .bool true]) (by simp [results, Try.results10, go_sem, r0, r1, r2, r3]) rfl ⟨rfl, by go_grown⟩

set_option maxHeartbeats 2000000 in
theorem zone_nil (w : World) : Calls Try.prog 10 #[.pointer none, .int .i64 0] w fun e w' => e = .returned (.tuple #[zoneV zn0, .bool false]) ∧ Below w.heap.size w w' := by
  go_enter Try.func10, Try.ntmps10
  go_wp2_with (fail)
  refine (zones_nil _).mono ?_
  rintro e w1 ⟨rfl, hw1⟩
  have q1 : Cs w1 w.heap.size [.int .i64 0, .int .i64 0, .int .i64 0, .int .i64 0] := Cs.later hw1 (Cs.new _ _ _ _ rfl)
  have HB : Below w.heap.size w w1 := Below.trans (by go_grown) (hw1.mono (by simp))
  have r0 := q1.1 0 _ rfl
  have r1 := q1.1 1 _ rfl
  have r2 := q1.1 2 _ rfl
  have r3 := q1.1 3 _ rfl
  have f0 := q1.2.1 0 (by show 0 < 4; omega)
  have f1 := q1.2.1 1 (by show 1 < 4; omega)
  have f2 := q1.2.1 2 (by show 2 < 4; omega)
  have f3 := q1.2.1 3 (by show 3 < 4; omega)
  clear hw1 q1
  go_wp2
  refine bodyPost_ret (v := .tuple #[zoneV zn0, .bool false]) (by simp [results, Try.results10, go_sem, zn0, r0, r1, r2, r3]) rfl ⟨rfl, by go_grown⟩

end Go.Proofs.Ytpefjcgccbfgbaa.Bk
