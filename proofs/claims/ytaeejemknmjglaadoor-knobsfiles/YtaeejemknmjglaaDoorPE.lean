/-
  Contracts of package spec's functions on a container at this program, and of the document's own. Conditions: the tables of the program lie as its text lays them; the name's length fits the machine.
-/
import Derived.Test.YtaeejemknmjglaaDoorPD
namespace Go.Proofs.YtaeejemknmjglaaDoor.Sp
open Go.RowKit

/-- A container. -/
structure Ct where
  n : ByteArray
  rc : Int
  rm : Int
  rh : Int
  lc : Int
  lm : Int
  lh : Int
  x : Bool
  y : Bool
  z : Bool
def Ct.l (c : Ct) : List Value := [.string c.n, .int .i64 c.rc, .int .i64 c.rm, .int .i64 c.rh, .int .i64 c.lc, .int .i64 c.lm, .int .i64 c.lh, .bool c.x, .bool c.y, .bool c.z]
/-- A right container. -/
abbrev Cts (rc rm rh lc lm lh : Int) : Prop := (lc = 0 ∨ rc ≤ lc) ∧ (lm = 0 ∨ rm ≤ lm) ∧ rh = lh
def ctsB (rc rm rh lc lm lh : Int) : Bool := decide (Cts rc rm rh lc lm lh)
def ctB (n : ByteArray) (rc rm rh lc lm lh : Int) : Bool := nameB n && rightB rc rm rh && rightB lc lm lh && ctsB rc rm rh lc lm lh
theorem ct_no1 {n : ByteArray} {rc rm rh lc lm lh : Int} (h : nameB n = false) : ctB n rc rm rh lc lm lh = false := by simp [ctB, h]
theorem ct_no2 {n : ByteArray} {rc rm rh lc lm lh : Int} (h : rightB rc rm rh = false) : ctB n rc rm rh lc lm lh = false := by simp [ctB, h]
theorem ct_no3 {n : ByteArray} {rc rm rh lc lm lh : Int} (h : rightB lc lm lh = false) : ctB n rc rm rh lc lm lh = false := by simp [ctB, h]
theorem ct_no4 {n : ByteArray} {rc rm rh lc lm lh : Int} (h : ¬ Cts rc rm rh lc lm lh) : ctB n rc rm rh lc lm lh = false := by
  have : ctsB rc rm rh lc lm lh = false := decide_eq_false h
  simp [ctB, this]
theorem ct_yes {n : ByteArray} {rc rm rh lc lm lh : Int} (h1 : nameB n = true) (h2 : rightB rc rm rh = true) (h3 : rightB lc lm lh = true) : ctB n rc rm rh lc lm lh = ctsB rc rm rh lc lm lh := by
  simp [ctB, h1, h2, h3]

theorem bded_ix0 (w : World) : (Instr.index 48 (.agg #[.int .i64 0, .int .i64 1]) (.int .i64 0)).run Tryd.prog w = .ok (.int .i64 0) w := by kernel_rfl
theorem bded_ix1 (w : World) : (Instr.index 48 (.agg #[.int .i64 0, .int .i64 1]) (.int .i64 1)).run Tryd.prog w = .ok (.int .i64 1) w := by kernel_rfl

set_option maxHeartbeats 2000000 in
set_option maxRecDepth 100000 in
theorem container_is (n : ByteArray) (rc rm rh lc lm lh : Int) (x y z : Bool) (hm : n.size ≤ maxLen) (w : World) (hL : LaidS w) :
    Calls Tryd.prog 26 #[.agg #[.string n, .int .i64 rc, .int .i64 rm, .int .i64 rh, .int .i64 lc, .int .i64 lm, .int .i64 lh, .bool x, .bool y, .bool z]] w fun e w' => e = .returned (.bool (ctB n rc rm rh lc lm lh)) ∧ Below w.heap.size w w' := by
  obtain ⟨R, hR⟩ : ∃ R, R = ctB n rc rm rh lc lm lh := ⟨_, rfl⟩
  rw [← hR]
  have HR : Hid (R = ctB n rc rm rh lc lm lh) := hR
  have HL : Hid (LaidS w) := hL
  have HM : Hid (n.size ≤ maxLen) := hm
  clear hR hL hm
  go_enter Tryd.func26, Tryd.ntmps26
  go_wp2_with (fail)
  refine (name_is n HM.out _).mono ?_
  rintro e w1 ⟨rfl, rfl⟩
  obtain ⟨g1, hg1⟩ : ∃ g, g = nameB n := ⟨_, rfl⟩
  rw [← hg1]
  have G1 : Hid (nameB n = g1) := hg1.symm
  clear hg1
  cases g1 with
  | false =>
    go_wp2
    go_ret
    exact ⟨by rw [HR.out, ct_no1 G1.out]; rfl, by go_grown⟩
  | true =>
  go_wp2_with (fail)
  refine (right_any rc rm rh _ (HL.out.alloc _)).mono ?_
  rintro e w2 ⟨rfl, hw2⟩
  obtain ⟨g2, hg2⟩ : ∃ g, g = rightB rc rm rh := ⟨_, rfl⟩
  rw [← hg2]
  have G2 : Hid (rightB rc rm rh = g2) := hg2.symm
  clear hg2
  have HBw2 : Below w.heap.size w w2 := Below.trans (by go_grown) (hw2.mono (by first | omega | (simp; done) | (simp; omega)))
  have p_a : Cs w2 (w.heap.size) [.string n, .int .i64 rc, .int .i64 rm, .int .i64 rh, .int .i64 lc, .int .i64 lm, .int .i64 lh, .bool x, .bool y, .bool z] := Cs.later hw2 (by repeat (first | assumption | (refine Cs.new _ _ _ _ ?_; simp; done) | refine Cs.alloc ?_ _ | refine Cs.drew ?_ | (refine Cs.beside ?_ _ _ (by omega))))
  have q_a := p_a
  have a0 : w2.cell? ⟨w.heap.size, 0, none⟩ = some (.string n) := p_a.1 0 _ rfl
  have a1 : w2.cell? ⟨w.heap.size, 1, none⟩ = some (.int .i64 rc) := p_a.1 1 _ rfl
  have a2 : w2.cell? ⟨w.heap.size, 2, none⟩ = some (.int .i64 rm) := p_a.1 2 _ rfl
  have a3 : w2.cell? ⟨w.heap.size, 3, none⟩ = some (.int .i64 rh) := p_a.1 3 _ rfl
  have a4 : w2.cell? ⟨w.heap.size, 4, none⟩ = some (.int .i64 lc) := p_a.1 4 _ rfl
  have a5 : w2.cell? ⟨w.heap.size, 5, none⟩ = some (.int .i64 lm) := p_a.1 5 _ rfl
  have a6 : w2.cell? ⟨w.heap.size, 6, none⟩ = some (.int .i64 lh) := p_a.1 6 _ rfl
  have a7 : w2.cell? ⟨w.heap.size, 7, none⟩ = some (.bool x) := p_a.1 7 _ rfl
  have a8 : w2.cell? ⟨w.heap.size, 8, none⟩ = some (.bool y) := p_a.1 8 _ rfl
  have a9 : w2.cell? ⟨w.heap.size, 9, none⟩ = some (.bool z) := p_a.1 9 _ rfl
  have az : w.heap.size < w2.heap.size := p_a.2.2
  clear p_a
  have hsw2 := hw2.size
  (try simp at hsw2)
  clear hw2
  cases g2 with
  | false =>
    go_wp2
    go_ret
    exact ⟨by rw [HR.out, ct_no2 G2.out]; rfl, by go_grown⟩
  | true =>
  go_wp2_with (fail)
  refine (right_any lc lm lh _ (HL.out.later HBw2)).mono ?_
  rintro e w3 ⟨rfl, hw3⟩
  obtain ⟨g3, hg3⟩ : ∃ g, g = rightB lc lm lh := ⟨_, rfl⟩
  rw [← hg3]
  have G3 : Hid (rightB lc lm lh = g3) := hg3.symm
  clear hg3
  have HBw3 : Below w.heap.size w w3 := Below.trans (by go_grown) (hw3.mono (by first | omega | (simp; done) | (simp; omega)))
  have p_a : Cs w3 (w.heap.size) [.string n, .int .i64 rc, .int .i64 rm, .int .i64 rh, .int .i64 lc, .int .i64 lm, .int .i64 lh, .bool x, .bool y, .bool z] := Cs.later hw3 (by repeat (first | assumption | (refine Cs.new _ _ _ _ ?_; simp; done) | refine Cs.alloc ?_ _ | refine Cs.drew ?_ | (refine Cs.beside ?_ _ _ (by omega))))
  clear q_a a0 a1 a2 a3 a4 a5 a6 a7 a8 a9 az
  have q_a := p_a
  have a0 : w3.cell? ⟨w.heap.size, 0, none⟩ = some (.string n) := p_a.1 0 _ rfl
  have a1 : w3.cell? ⟨w.heap.size, 1, none⟩ = some (.int .i64 rc) := p_a.1 1 _ rfl
  have a2 : w3.cell? ⟨w.heap.size, 2, none⟩ = some (.int .i64 rm) := p_a.1 2 _ rfl
  have a3 : w3.cell? ⟨w.heap.size, 3, none⟩ = some (.int .i64 rh) := p_a.1 3 _ rfl
  have a4 : w3.cell? ⟨w.heap.size, 4, none⟩ = some (.int .i64 lc) := p_a.1 4 _ rfl
  have a5 : w3.cell? ⟨w.heap.size, 5, none⟩ = some (.int .i64 lm) := p_a.1 5 _ rfl
  have a6 : w3.cell? ⟨w.heap.size, 6, none⟩ = some (.int .i64 lh) := p_a.1 6 _ rfl
  have a7 : w3.cell? ⟨w.heap.size, 7, none⟩ = some (.bool x) := p_a.1 7 _ rfl
  have a8 : w3.cell? ⟨w.heap.size, 8, none⟩ = some (.bool y) := p_a.1 8 _ rfl
  have a9 : w3.cell? ⟨w.heap.size, 9, none⟩ = some (.bool z) := p_a.1 9 _ rfl
  have az : w.heap.size < w3.heap.size := p_a.2.2
  clear p_a
  have hsw3 := hw3.size
  (try simp at hsw3)
  clear hw3
  cases g3 with
  | false =>
    go_wp2
    go_ret
    exact ⟨by rw [HR.out, ct_no3 G3.out]; rfl, by go_grown⟩
  | true =>
  have Y : Hid (R = ctsB rc rm rh lc lm lh) := by unfold Hid; rw [HR.out, ct_yes G1.out G2.out G3.out]
  clear HR G1 G2 G3
  obtain ⟨b0, b1, bz⟩ := (HL.out.later HBw3).bounded
  go_wp2
  clear b0 b1
  go_loopw [23] (fun p wr => ∃ j : Nat, p = .int .i64 j ∧ j ≤ 2 ∧ Hid ((0 < j → lc = 0 ∨ rc ≤ lc) ∧ (1 < j → lm = 0 ∨ rm ≤ lm)) ∧ Cs wr w.heap.size [.string n, .int .i64 rc, .int .i64 rm, .int .i64 rh, .int .i64 lc, .int .i64 lm, .int .i64 lh, .bool x, .bool y, .bool z] ∧ Below w.heap.size w wr) (fun p _ => 2 - (intOf p).toNat)
  case atStart => exact ⟨0, rfl, by omega, ⟨by omega, by omega⟩, q_a, HBw3⟩
  case round =>
    clear q_a a0 a1 a2 a3 a4 a5 a6 a7 a8 a9 az HBw2 HBw3 hsw2 hsw3 bz
    obtain ⟨j, rfl, jl, HJ, q_a, HB⟩ := hrel
    have a0 : wr.cell? ⟨w.heap.size, 0, none⟩ = some (.string n) := q_a.1 0 _ rfl
    have a1 : wr.cell? ⟨w.heap.size, 1, none⟩ = some (.int .i64 rc) := q_a.1 1 _ rfl
    have a2 : wr.cell? ⟨w.heap.size, 2, none⟩ = some (.int .i64 rm) := q_a.1 2 _ rfl
    have a3 : wr.cell? ⟨w.heap.size, 3, none⟩ = some (.int .i64 rh) := q_a.1 3 _ rfl
    have a4 : wr.cell? ⟨w.heap.size, 4, none⟩ = some (.int .i64 lc) := q_a.1 4 _ rfl
    have a5 : wr.cell? ⟨w.heap.size, 5, none⟩ = some (.int .i64 lm) := q_a.1 5 _ rfl
    have a6 : wr.cell? ⟨w.heap.size, 6, none⟩ = some (.int .i64 lh) := q_a.1 6 _ rfl
    have a7 : wr.cell? ⟨w.heap.size, 7, none⟩ = some (.bool x) := q_a.1 7 _ rfl
    have a8 : wr.cell? ⟨w.heap.size, 8, none⟩ = some (.bool y) := q_a.1 8 _ rfl
    have a9 : wr.cell? ⟨w.heap.size, 9, none⟩ = some (.bool z) := q_a.1 9 _ rfl
    have az : w.heap.size < wr.heap.size := q_a.2.2
    have hs := HB.size
    match j, jl with
    | 0, _ =>
      have ix : ∀ w : World, (Instr.index 48 (.agg #[.int .i64 0, .int .i64 1]) (.int .i64 0)).run Tryd.prog w = .ok (.int .i64 0) w := bded_ix0
      go_wp2_with (fail)
      refine (at_any lc lm lh 0 _).mono ?_
      rintro e w4 ⟨rfl, hw4⟩
      rw [show atv lc lm lh 0 = lc from rfl]
      have HBw4 : Below w.heap.size w w4 := Below.trans (by go_grown) (hw4.mono (by first | omega | (simp; done) | (simp; omega)))
      have p_a : Cs w4 (w.heap.size) [.string n, .int .i64 rc, .int .i64 rm, .int .i64 rh, .int .i64 lc, .int .i64 lm, .int .i64 lh, .bool x, .bool y, .bool z] := Cs.later hw4 (by repeat (first | assumption | (refine Cs.new _ _ _ _ ?_; simp; done) | refine Cs.alloc ?_ _ | refine Cs.drew ?_ | (refine Cs.beside ?_ _ _ (by omega))))
      clear q_a a0 a1 a2 a3 a4 a5 a6 a7 a8 a9 az
      have q_a := p_a
      have a0 : w4.cell? ⟨w.heap.size, 0, none⟩ = some (.string n) := p_a.1 0 _ rfl
      have a1 : w4.cell? ⟨w.heap.size, 1, none⟩ = some (.int .i64 rc) := p_a.1 1 _ rfl
      have a2 : w4.cell? ⟨w.heap.size, 2, none⟩ = some (.int .i64 rm) := p_a.1 2 _ rfl
      have a3 : w4.cell? ⟨w.heap.size, 3, none⟩ = some (.int .i64 rh) := p_a.1 3 _ rfl
      have a4 : w4.cell? ⟨w.heap.size, 4, none⟩ = some (.int .i64 lc) := p_a.1 4 _ rfl
      have a5 : w4.cell? ⟨w.heap.size, 5, none⟩ = some (.int .i64 lm) := p_a.1 5 _ rfl
      have a6 : w4.cell? ⟨w.heap.size, 6, none⟩ = some (.int .i64 lh) := p_a.1 6 _ rfl
      have a7 : w4.cell? ⟨w.heap.size, 7, none⟩ = some (.bool x) := p_a.1 7 _ rfl
      have a8 : w4.cell? ⟨w.heap.size, 8, none⟩ = some (.bool y) := p_a.1 8 _ rfl
      have a9 : w4.cell? ⟨w.heap.size, 9, none⟩ = some (.bool z) := p_a.1 9 _ rfl
      have az : w.heap.size < w4.heap.size := p_a.2.2
      clear p_a
      have hsw4 := hw4.size
      (try simp at hsw4)
      clear hw4
      by_cases k0 : lc = 0
      · have k0' : (lc != 0) = false := by simp [k0]
        have HJ' : Hid ((0 < 1 → lc = 0 ∨ rc ≤ lc) ∧ (1 < 1 → lm = 0 ∨ rm ≤ lm)) := ⟨fun _ => Or.inl k0, by omega⟩
        clear k0
        go_wp2
        go_roundw
        case rel => exact ⟨1, by go_num, by omega, HJ', q_a, HBw4⟩
        case measure => simp [intOf]
      have k0' : (lc != 0) = true := by simp [k0]
      go_wp2_with (fail)
      refine (at_any rc rm rh 0 _).mono ?_
      rintro e w5 ⟨rfl, hw5⟩
      rw [show atv rc rm rh 0 = rc from rfl]
      have HBw5 : Below w.heap.size w w5 := Below.trans (by go_grown) (hw5.mono (by first | omega | (simp; done) | (simp; omega)))
      have p_a : Cs w5 (w.heap.size) [.string n, .int .i64 rc, .int .i64 rm, .int .i64 rh, .int .i64 lc, .int .i64 lm, .int .i64 lh, .bool x, .bool y, .bool z] := Cs.later hw5 (by repeat (first | assumption | (refine Cs.new _ _ _ _ ?_; simp; done) | refine Cs.alloc ?_ _ | refine Cs.drew ?_ | (refine Cs.beside ?_ _ _ (by omega))))
      clear q_a a0 a1 a2 a3 a4 a5 a6 a7 a8 a9 az
      have q_a := p_a
      have a0 : w5.cell? ⟨w.heap.size, 0, none⟩ = some (.string n) := p_a.1 0 _ rfl
      have a1 : w5.cell? ⟨w.heap.size, 1, none⟩ = some (.int .i64 rc) := p_a.1 1 _ rfl
      have a2 : w5.cell? ⟨w.heap.size, 2, none⟩ = some (.int .i64 rm) := p_a.1 2 _ rfl
      have a3 : w5.cell? ⟨w.heap.size, 3, none⟩ = some (.int .i64 rh) := p_a.1 3 _ rfl
      have a4 : w5.cell? ⟨w.heap.size, 4, none⟩ = some (.int .i64 lc) := p_a.1 4 _ rfl
      have a5 : w5.cell? ⟨w.heap.size, 5, none⟩ = some (.int .i64 lm) := p_a.1 5 _ rfl
      have a6 : w5.cell? ⟨w.heap.size, 6, none⟩ = some (.int .i64 lh) := p_a.1 6 _ rfl
      have a7 : w5.cell? ⟨w.heap.size, 7, none⟩ = some (.bool x) := p_a.1 7 _ rfl
      have a8 : w5.cell? ⟨w.heap.size, 8, none⟩ = some (.bool y) := p_a.1 8 _ rfl
      have a9 : w5.cell? ⟨w.heap.size, 9, none⟩ = some (.bool z) := p_a.1 9 _ rfl
      have az : w.heap.size < w5.heap.size := p_a.2.2
      clear p_a
      have hsw5 := hw5.size
      (try simp at hsw5)
      clear hw5
      by_cases k1 : lc < rc
      · go_wp2
        go_ret
        exact ⟨by rw [Y.out, show ctsB rc rm rh lc lm lh = false from decide_eq_false (by unfold Cts; omega)]; rfl, by go_grown⟩
      · have HJ' : Hid ((0 < 1 → lc = 0 ∨ rc ≤ lc) ∧ (1 < 1 → lm = 0 ∨ rm ≤ lm)) := ⟨fun _ => Or.inr (by omega), by omega⟩
        go_wp2
        go_roundw
        case rel => exact ⟨1, by go_num, by omega, HJ', q_a, HBw5⟩
        case measure => simp [intOf]
    | 1, _ =>
      have ix : ∀ w : World, (Instr.index 48 (.agg #[.int .i64 0, .int .i64 1]) (.int .i64 1)).run Tryd.prog w = .ok (.int .i64 1) w := bded_ix1
      go_wp2_with (fail)
      refine (at_any lc lm lh 1 _).mono ?_
      rintro e w4 ⟨rfl, hw4⟩
      rw [show atv lc lm lh 1 = lm from rfl]
      have HBw4 : Below w.heap.size w w4 := Below.trans (by go_grown) (hw4.mono (by first | omega | (simp; done) | (simp; omega)))
      have p_a : Cs w4 (w.heap.size) [.string n, .int .i64 rc, .int .i64 rm, .int .i64 rh, .int .i64 lc, .int .i64 lm, .int .i64 lh, .bool x, .bool y, .bool z] := Cs.later hw4 (by repeat (first | assumption | (refine Cs.new _ _ _ _ ?_; simp; done) | refine Cs.alloc ?_ _ | refine Cs.drew ?_ | (refine Cs.beside ?_ _ _ (by omega))))
      clear q_a a0 a1 a2 a3 a4 a5 a6 a7 a8 a9 az
      have q_a := p_a
      have a0 : w4.cell? ⟨w.heap.size, 0, none⟩ = some (.string n) := p_a.1 0 _ rfl
      have a1 : w4.cell? ⟨w.heap.size, 1, none⟩ = some (.int .i64 rc) := p_a.1 1 _ rfl
      have a2 : w4.cell? ⟨w.heap.size, 2, none⟩ = some (.int .i64 rm) := p_a.1 2 _ rfl
      have a3 : w4.cell? ⟨w.heap.size, 3, none⟩ = some (.int .i64 rh) := p_a.1 3 _ rfl
      have a4 : w4.cell? ⟨w.heap.size, 4, none⟩ = some (.int .i64 lc) := p_a.1 4 _ rfl
      have a5 : w4.cell? ⟨w.heap.size, 5, none⟩ = some (.int .i64 lm) := p_a.1 5 _ rfl
      have a6 : w4.cell? ⟨w.heap.size, 6, none⟩ = some (.int .i64 lh) := p_a.1 6 _ rfl
      have a7 : w4.cell? ⟨w.heap.size, 7, none⟩ = some (.bool x) := p_a.1 7 _ rfl
      have a8 : w4.cell? ⟨w.heap.size, 8, none⟩ = some (.bool y) := p_a.1 8 _ rfl
      have a9 : w4.cell? ⟨w.heap.size, 9, none⟩ = some (.bool z) := p_a.1 9 _ rfl
      have az : w.heap.size < w4.heap.size := p_a.2.2
      clear p_a
      have hsw4 := hw4.size
      (try simp at hsw4)
      clear hw4
      by_cases k0 : lm = 0
      · have k0' : (lm != 0) = false := by simp [k0]
        have HJ' : Hid ((0 < 2 → lc = 0 ∨ rc ≤ lc) ∧ (1 < 2 → lm = 0 ∨ rm ≤ lm)) := ⟨fun _ => HJ.out.1 (by omega), fun _ => Or.inl k0⟩
        clear k0
        go_wp2
        go_roundw
        case rel => exact ⟨2, by go_num, by omega, HJ', q_a, HBw4⟩
        case measure => simp [intOf]
      have k0' : (lm != 0) = true := by simp [k0]
      go_wp2_with (fail)
      refine (at_any rc rm rh 1 _).mono ?_
      rintro e w5 ⟨rfl, hw5⟩
      rw [show atv rc rm rh 1 = rm from rfl]
      have HBw5 : Below w.heap.size w w5 := Below.trans (by go_grown) (hw5.mono (by first | omega | (simp; done) | (simp; omega)))
      have p_a : Cs w5 (w.heap.size) [.string n, .int .i64 rc, .int .i64 rm, .int .i64 rh, .int .i64 lc, .int .i64 lm, .int .i64 lh, .bool x, .bool y, .bool z] := Cs.later hw5 (by repeat (first | assumption | (refine Cs.new _ _ _ _ ?_; simp; done) | refine Cs.alloc ?_ _ | refine Cs.drew ?_ | (refine Cs.beside ?_ _ _ (by omega))))
      clear q_a a0 a1 a2 a3 a4 a5 a6 a7 a8 a9 az
      have q_a := p_a
      have a0 : w5.cell? ⟨w.heap.size, 0, none⟩ = some (.string n) := p_a.1 0 _ rfl
      have a1 : w5.cell? ⟨w.heap.size, 1, none⟩ = some (.int .i64 rc) := p_a.1 1 _ rfl
      have a2 : w5.cell? ⟨w.heap.size, 2, none⟩ = some (.int .i64 rm) := p_a.1 2 _ rfl
      have a3 : w5.cell? ⟨w.heap.size, 3, none⟩ = some (.int .i64 rh) := p_a.1 3 _ rfl
      have a4 : w5.cell? ⟨w.heap.size, 4, none⟩ = some (.int .i64 lc) := p_a.1 4 _ rfl
      have a5 : w5.cell? ⟨w.heap.size, 5, none⟩ = some (.int .i64 lm) := p_a.1 5 _ rfl
      have a6 : w5.cell? ⟨w.heap.size, 6, none⟩ = some (.int .i64 lh) := p_a.1 6 _ rfl
      have a7 : w5.cell? ⟨w.heap.size, 7, none⟩ = some (.bool x) := p_a.1 7 _ rfl
      have a8 : w5.cell? ⟨w.heap.size, 8, none⟩ = some (.bool y) := p_a.1 8 _ rfl
      have a9 : w5.cell? ⟨w.heap.size, 9, none⟩ = some (.bool z) := p_a.1 9 _ rfl
      have az : w.heap.size < w5.heap.size := p_a.2.2
      clear p_a
      have hsw5 := hw5.size
      (try simp at hsw5)
      clear hw5
      by_cases k1 : lm < rm
      · go_wp2
        go_ret
        exact ⟨by rw [Y.out, show ctsB rc rm rh lc lm lh = false from decide_eq_false (by unfold Cts; omega)]; rfl, by go_grown⟩
      · have HJ' : Hid ((0 < 2 → lc = 0 ∨ rc ≤ lc) ∧ (1 < 2 → lm = 0 ∨ rm ≤ lm)) := ⟨fun _ => HJ.out.1 (by omega), fun _ => Or.inr (by omega)⟩
        go_wp2
        go_roundw
        case rel => exact ⟨2, by go_num, by omega, HJ', q_a, HBw5⟩
        case measure => simp [intOf]
    | 2, _ =>
      obtain ⟨k1, k2⟩ := HJ.out
      have k1 := k1 (by omega)
      have k2 := k2 (by omega)
      have E : Hid (ctsB rc rm rh lc lm lh = (rh == lh)) := by
        unfold Hid ctsB
        rw [Bool.eq_iff_iff]
        simp [k1, k2]
      clear k1 k2 HJ
      go_wp2
      go_ret
      refine ⟨?_, HB⟩
      rw [Y.out, E.out]
      rfl

end Go.Proofs.YtaeejemknmjglaaDoor.Sp
