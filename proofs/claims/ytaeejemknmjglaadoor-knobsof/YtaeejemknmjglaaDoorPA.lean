/-
  Contracts of package vector's plain functions at this program: a vector's resources, whether it is right. Conditions: where it is said, the tables of the program lie as its text lays them.
-/
import Derived.Test.YtaeejemknmjglaaDoorGA
import Derived.Test.YtaeejemknmjglaaDoorRows
import Derived.WalkKit
import Derived.WalkSpells
import Derived.WalkLawsBesides
import Derived.Handy
import Derived.Deep.Light
import Derived.WalkSmall
import Derived.OwnWalk
import Derived.PlainAid
import Derived.Deep.MidRow
namespace Go.Proofs.YtaeejemknmjglaaDoor.Sp
open Go.RowKit

theorem bcell {W w1 : World} (hb : Below W.heap.size W w1) : (∀ b o, b < W.heap.size → w1.cell? ⟨b, o, none⟩ = W.cell? ⟨b, o, none⟩) ∧ (∀ b o, b < W.heap.size → w1.frozen? ⟨b, o, none⟩ = W.frozen? ⟨b, o, none⟩) :=
  ⟨fun b o h => hb.cell (p := ⟨b, o, none⟩) h, fun b o h => hb.frozen (p := ⟨b, o, none⟩) h⟩
theorem range_later {w w1 : World} {b o : Nat} {vs : List Value} (h : w.rangeAt b o vs) (hb : Below w.heap.size w w1) (hz : b < w.heap.size) : w1.rangeAt b o vs := fun j v hv => by
  rw [(bcell hb).1 _ _ hz]; exact h j v hv
/-- Three numbers lie in a block, and may be written. -/
def Bx3 (W : World) (b : Nat) (c m h : Int) : Prop := W.cell? ⟨b, 0, none⟩ = some (.int .i64 c) ∧ W.cell? ⟨b, 1, none⟩ = some (.int .i64 m) ∧ W.cell? ⟨b, 2, none⟩ = some (.int .i64 h) ∧ W.frozen? ⟨b, 0, none⟩ = false ∧ W.frozen? ⟨b, 1, none⟩ = false ∧ W.frozen? ⟨b, 2, none⟩ = false ∧ b < W.heap.size
theorem Bx3.later {W w1 : World} {b : Nat} {c m h : Int} (hb : Below W.heap.size W w1) (k : Bx3 W b c m h) : Bx3 w1 b c m h := by
  obtain ⟨c0, c1, c2, f0, f1, f2, z⟩ := k
  have := hb.size
  obtain ⟨_, hf⟩ := bcell hb
  exact ⟨cell_later hb c0, cell_later hb c1, cell_later hb c2, (hf _ _ z).trans f0, (hf _ _ z).trans f1, (hf _ _ z).trans f2, by omega⟩
theorem Bx3.alloc {W : World} {b : Nat} {c m h : Int} (k : Bx3 W b c m h) (o : Obj) : Bx3 (W.alloc o) b c m h := Bx3.later ((Below.refl _ _).alloc (Nat.le_refl _) o) k
theorem Bx3.drew {W : World} {b : Nat} {c m h : Int} (k : Bx3 W b c m h) : Bx3 W.drew b c m h := k
theorem Bx3.new (W : World) (b : Nat) (c m h : Int) (t : TypeId) (e : b = W.heap.size) : Bx3 (W.alloc (.cells #[.int .i64 c, .int .i64 m, .int .i64 h] t)) b c m h := by
  subst e
  exact ⟨by simp [go_sem], by simp [go_sem], by simp [go_sem], by simp [go_sem], by simp [go_sem], by simp [go_sem], by simp⟩

theorem Bx3.beside {W : World} {b b' : Nat} {c m h : Int} (k : Bx3 W b c m h) (i : Nat) (x : Value) (e : b ≠ b') : Bx3 (W.setCell ⟨b', i, none⟩ x) b c m h := by
  obtain ⟨c0, c1, c2, f0, f1, f2, z⟩ := k
  exact ⟨by simp [go_sem, c0], by simp [go_sem, c1], by simp [go_sem, c2], by simp [go_sem, f0], by simp [go_sem, f1], by simp [go_sem, f2], by simpa using z⟩
theorem Bx3.put {W : World} {b : Nat} {c m h : Int} (k : Bx3 W b c m h) (x y z : Int) : Bx3 (((W.setCell ⟨b, 0, none⟩ (.int .i64 x)).setCell ⟨b, 1, none⟩ (.int .i64 y)).setCell ⟨b, 2, none⟩ (.int .i64 z)) b x y z := by
  obtain ⟨c0, c1, c2, f0, f1, f2, z⟩ := k
  exact ⟨by simp [go_sem, c0], by simp [go_sem, c1], by simp [go_sem, c2], by simp [go_sem, f0], by simp [go_sem, f1], by simp [go_sem, f2], by simpa using z⟩
def boundV : List Value := [.int .i64 1099511627776, .int .i64 1125899906842624, .int .i64 1125899906842624]
def boundedV : List Value := [.int .i64 0, .int .i64 1]
/-- The tables lie as the program's text lays them. -/
def LaidS (w : World) : Prop := w.rangeAt 4 0 boundV ∧ w.rangeAt 0 0 boundedV ∧ max 4 0 < w.heap.size
theorem LaidS.later {w w1 : World} (h : LaidS w) (hb : Below w.heap.size w w1) : LaidS w1 :=
  ⟨range_later h.1 hb (by have := h.2.2; omega), range_later h.2.1 hb (by have := h.2.2; omega), Nat.lt_of_lt_of_le h.2.2 hb.size⟩
theorem LaidS.under {w w1 : World} {B : Nat} (h : LaidS w) (hb : Below B w w1) (hB : w.heap.size ≤ B) : LaidS w1 := h.later (hb.mono hB)
theorem LaidS.alloc {w : World} (h : LaidS w) (o : Obj) : LaidS (w.alloc o) := h.later ((Below.refl _ _).alloc (Nat.le_refl _) o)
theorem LaidS.drew {w : World} (h : LaidS w) : LaidS w.drew := ⟨(World.rangeAt_drew _ _ _ _).2 h.1, (World.rangeAt_drew _ _ _ _).2 h.2.1, h.2.2⟩
theorem LaidS.bounds {w : World} (h : LaidS w) : w.cell? ⟨4, 0, none⟩ = some (.int .i64 1099511627776) ∧ w.cell? ⟨4, 1, none⟩ = some (.int .i64 1125899906842624) ∧ w.cell? ⟨4, 2, none⟩ = some (.int .i64 1125899906842624) ∧ 4 < w.heap.size :=
  ⟨h.1 0 _ rfl, h.1 1 _ rfl, h.1 2 _ rfl, by have := h.2.2; omega⟩
theorem LaidS.bounded {w : World} (h : LaidS w) : w.cell? ⟨0, 0, none⟩ = some (.int .i64 0) ∧ w.cell? ⟨0, 1, none⟩ = some (.int .i64 1) ∧ 0 < w.heap.size :=
  ⟨h.2.1 0 _ rfl, h.2.1 1 _ rfl, by have := h.2.2; omega⟩

/-- That resource; nothing of another number. -/
def atv (c m h r : Int) : Int := if r = 0 then c else if r = 1 then m else if r = 2 then h else 0

set_option maxHeartbeats 1000000 in
theorem at_any (c m h r : Int) (w : World) :
    Calls Tryd.prog 44 #[.agg #[.int .i64 c, .int .i64 m, .int .i64 h], .int .i64 r] w fun e w' => e = .returned (.int .i64 (atv c m h r)) ∧ Below w.heap.size w w' := by
  obtain ⟨R, hR⟩ : ∃ R, R = atv c m h r := ⟨_, rfl⟩
  rw [← hR]
  have HR : Hid (R = atv c m h r) := hR
  clear hR
  by_cases h0 : r = 0
  · subst h0
    go_enter Tryd.func44, Tryd.ntmps44
    go_wp2
    go_ret
    exact ⟨by rw [HR.out]; rfl, by go_grown⟩
  by_cases h1 : r = 1
  · subst h1
    go_enter Tryd.func44, Tryd.ntmps44
    go_wp2
    go_ret
    exact ⟨by rw [HR.out]; rfl, by go_grown⟩
  by_cases h2 : r = 2
  · subst h2
    go_enter Tryd.func44, Tryd.ntmps44
    go_wp2
    go_ret
    exact ⟨by rw [HR.out]; rfl, by go_grown⟩
  have g0 : (r == 0) = false := by simp [h0]
  have g1 : (r == 1) = false := by simp [h1]
  have g2 : (r == 2) = false := by simp [h2]
  go_enter Tryd.func44, Tryd.ntmps44
  go_wp2
  go_ret
  exact ⟨by rw [HR.out]; simp [atv, h0, h1, h2], by go_grown⟩

/-- A right vector. -/
abbrev Rt (c m h : Int) : Prop := 0 ≤ c ∧ c ≤ 1099511627776 ∧ 0 ≤ m ∧ m ≤ 1125899906842624 ∧ 0 ≤ h ∧ h ≤ 1125899906842624 ∧ h % 2097152 = 0
def rightB (c m h : Int) : Bool := decide (Rt c m h)
theorem right_yes {c m h : Int} (k : Rt c m h) : rightB c m h = true := decide_eq_true k
theorem right_no {c m h : Int} (k : ¬ Rt c m h) : rightB c m h = false := decide_eq_false k

theorem bound_ix0 (w : World) : (Instr.index 94 (.agg #[.int .i64 1099511627776, .int .i64 1125899906842624, .int .i64 1125899906842624]) (.int .i64 0)).run Tryd.prog w = .ok (.int .i64 1099511627776) w := by kernel_rfl
theorem bound_ix1 (w : World) : (Instr.index 94 (.agg #[.int .i64 1099511627776, .int .i64 1125899906842624, .int .i64 1125899906842624]) (.int .i64 1)).run Tryd.prog w = .ok (.int .i64 1125899906842624) w := by kernel_rfl
theorem bound_ix2 (w : World) : (Instr.index 94 (.agg #[.int .i64 1099511627776, .int .i64 1125899906842624, .int .i64 1125899906842624]) (.int .i64 2)).run Tryd.prog w = .ok (.int .i64 1125899906842624) w := by kernel_rfl

theorem right_end {c m h : Int} (k : 0 ≤ c ∧ c ≤ 1099511627776 ∧ 0 ≤ m ∧ m ≤ 1125899906842624 ∧ 0 ≤ h ∧ h ≤ 1125899906842624) : (h % 2097152 == 0) = rightB c m h := by
  unfold rightB
  obtain ⟨k1, k2, k3, k4, k5, k6⟩ := k
  by_cases d : h % 2097152 = 0
  · rw [decide_eq_true (show Rt c m h from ⟨k1, k2, k3, k4, k5, k6, d⟩)]; simp [d]
  · rw [decide_eq_false (show ¬ Rt c m h from fun h => d h.2.2.2.2.2.2)]; simp [d]

set_option maxHeartbeats 2000000 in
set_option maxRecDepth 100000 in
theorem right_any (c m h : Int) (w : World) (hL : LaidS w) :
    Calls Tryd.prog 43 #[.agg #[.int .i64 c, .int .i64 m, .int .i64 h]] w fun e w' => e = .returned (.bool (rightB c m h)) ∧ Below w.heap.size w w' := by
  obtain ⟨R, hR⟩ : ∃ R, R = rightB c m h := ⟨_, rfl⟩
  rw [← hR]
  have HR : Hid (R = rightB c m h) := hR
  clear hR
  obtain ⟨b0, b1, b2, bz⟩ := hL.bounds
  clear hL
  go_enter Tryd.func43, Tryd.ntmps43
  go_wp2
  clear b0 b1 b2
  go_loopw [7] (fun p wr => ∃ j : Nat, p = .int .i64 j ∧ j ≤ 3 ∧ Hid ((0 < j → 0 ≤ c ∧ c ≤ 1099511627776) ∧ (1 < j → 0 ≤ m ∧ m ≤ 1125899906842624) ∧ (2 < j → 0 ≤ h ∧ h ≤ 1125899906842624)) ∧ Bx3 wr w.heap.size c m h ∧ Below w.heap.size w wr) (fun p _ => 3 - (intOf p).toNat)
  case atStart => exact ⟨0, rfl, by omega, ⟨by omega, by omega, by omega⟩, Bx3.new _ _ _ _ _ _ rfl, by go_grown⟩
  case round =>
    obtain ⟨j, rfl, jl, HJ, q_p, HB⟩ := hrel
    obtain ⟨p0, p1, p2, p3, p4, p5, p6⟩ := id q_p
    have hs := HB.size
    match j, jl with
    | 0, _ =>
      have ix : ∀ w : World, (Instr.index 94 (.agg #[.int .i64 1099511627776, .int .i64 1125899906842624, .int .i64 1125899906842624]) (.int .i64 0)).run Tryd.prog w = .ok (.int .i64 1099511627776) w := bound_ix0
      go_wp2_with (fail)
      refine (at_any c m h 0 _).mono ?_
      rintro e w1 ⟨rfl, hw1⟩
      rw [show atv c m h 0 = c from rfl]
      have q_1 := q_p.later hw1
      have HB1 : Below w.heap.size w w1 := HB.trans (hw1.mono HB.size)
      clear q_p p0 p1 p2 p3 p4 p5 p6 HB hw1
      by_cases k1 : c < 0
      · go_wp2
        go_ret
        exact ⟨by rw [HR.out, right_no (by unfold Rt; omega)]; rfl, HB1⟩
      by_cases k2 : 1099511627776 < c
      · go_wp2
        go_ret
        exact ⟨by rw [HR.out, right_no (by unfold Rt; omega)]; rfl, HB1⟩
      have HJ' : Hid ((0 < 1 → 0 ≤ c ∧ c ≤ 1099511627776) ∧ (1 < 1 → 0 ≤ m ∧ m ≤ 1125899906842624) ∧ (2 < 1 → 0 ≤ h ∧ h ≤ 1125899906842624)) := ⟨by omega, by omega, by omega⟩
      go_wp2
      go_roundw
      case rel => exact ⟨1, by go_num, by omega, HJ', q_1, HB1⟩
      case measure => simp [intOf]
    | 1, _ =>
      have ix : ∀ w : World, (Instr.index 94 (.agg #[.int .i64 1099511627776, .int .i64 1125899906842624, .int .i64 1125899906842624]) (.int .i64 1)).run Tryd.prog w = .ok (.int .i64 1125899906842624) w := bound_ix1
      go_wp2_with (fail)
      refine (at_any c m h 1 _).mono ?_
      rintro e w1 ⟨rfl, hw1⟩
      rw [show atv c m h 1 = m from rfl]
      have q_1 := q_p.later hw1
      have HB1 : Below w.heap.size w w1 := HB.trans (hw1.mono HB.size)
      clear q_p p0 p1 p2 p3 p4 p5 p6 HB hw1
      by_cases k1 : m < 0
      · go_wp2
        go_ret
        exact ⟨by rw [HR.out, right_no (by unfold Rt; omega)]; rfl, HB1⟩
      by_cases k2 : 1125899906842624 < m
      · go_wp2
        go_ret
        exact ⟨by rw [HR.out, right_no (by unfold Rt; omega)]; rfl, HB1⟩
      have HJ' : Hid ((0 < 2 → 0 ≤ c ∧ c ≤ 1099511627776) ∧ (1 < 2 → 0 ≤ m ∧ m ≤ 1125899906842624) ∧ (2 < 2 → 0 ≤ h ∧ h ≤ 1125899906842624)) := ⟨fun _ => HJ.out.1 (by omega), by omega, by omega⟩
      go_wp2
      go_roundw
      case rel => exact ⟨2, by go_num, by omega, HJ', q_1, HB1⟩
      case measure => simp [intOf]
    | 2, _ =>
      have ix : ∀ w : World, (Instr.index 94 (.agg #[.int .i64 1099511627776, .int .i64 1125899906842624, .int .i64 1125899906842624]) (.int .i64 2)).run Tryd.prog w = .ok (.int .i64 1125899906842624) w := bound_ix2
      go_wp2_with (fail)
      refine (at_any c m h 2 _).mono ?_
      rintro e w1 ⟨rfl, hw1⟩
      rw [show atv c m h 2 = h from rfl]
      have q_1 := q_p.later hw1
      have HB1 : Below w.heap.size w w1 := HB.trans (hw1.mono HB.size)
      clear q_p p0 p1 p2 p3 p4 p5 p6 HB hw1
      by_cases k1 : h < 0
      · go_wp2
        go_ret
        exact ⟨by rw [HR.out, right_no (by unfold Rt; omega)]; rfl, HB1⟩
      by_cases k2 : 1125899906842624 < h
      · go_wp2
        go_ret
        exact ⟨by rw [HR.out, right_no (by unfold Rt; omega)]; rfl, HB1⟩
      have HJ' : Hid ((0 < 3 → 0 ≤ c ∧ c ≤ 1099511627776) ∧ (1 < 3 → 0 ≤ m ∧ m ≤ 1125899906842624) ∧ (2 < 3 → 0 ≤ h ∧ h ≤ 1125899906842624)) := ⟨fun _ => HJ.out.1 (by omega), fun _ => HJ.out.2.1 (by omega), by omega⟩
      go_wp2
      go_roundw
      case rel => exact ⟨3, by go_num, by omega, HJ', q_1, HB1⟩
      case measure => simp [intOf]
    | 3, _ =>
      obtain ⟨k1, k2, k3⟩ := HJ.out
      have k1 := k1 (by omega)
      have k2 := k2 (by omega)
      have k3 := k3 (by omega)
      have K : Hid (0 ≤ c ∧ c ≤ 1099511627776 ∧ 0 ≤ m ∧ m ≤ 1125899906842624 ∧ 0 ≤ h ∧ h ≤ 1125899906842624) := ⟨k1.1, k1.2, k2.1, k2.2, k3.1, k3.2⟩
      have g0 : 0 ≤ h := k3.1
      clear k1 k2 k3
      go_wp2
      go_ret
      refine ⟨?_, HB⟩
      rw [HR.out]
      exact congrArg (fun b => Ending.returned (Value.bool b)) (right_end K.out)

set_option maxHeartbeats 1000000 in
theorem refRight_any (c m h : Int) (w : World) :
    Calls Tryd.prog 45 #[.agg #[.int .i64 c, .int .i64 m, .int .i64 h]] w fun e w' => e = .returned (.bool (rightB c m h)) ∧ Below w.heap.size w w' := by
  obtain ⟨R, hR⟩ : ∃ R, R = rightB c m h := ⟨_, rfl⟩
  rw [← hR]
  have HR : Hid (R = rightB c m h) := hR
  clear hR
  by_cases k1 : c < 0
  · go_enter Tryd.func45, Tryd.ntmps45
    go_wp2
    go_ret
    exact ⟨by rw [HR.out, right_no (by unfold Rt; omega)]; rfl, by go_grown⟩
  by_cases k2 : 1099511627776 < c
  · go_enter Tryd.func45, Tryd.ntmps45
    go_wp2
    go_ret
    exact ⟨by rw [HR.out, right_no (by unfold Rt; omega)]; rfl, by go_grown⟩
  by_cases k3 : m < 0
  · go_enter Tryd.func45, Tryd.ntmps45
    go_wp2
    go_ret
    exact ⟨by rw [HR.out, right_no (by unfold Rt; omega)]; rfl, by go_grown⟩
  by_cases k4 : 1125899906842624 < m
  · go_enter Tryd.func45, Tryd.ntmps45
    go_wp2
    go_ret
    exact ⟨by rw [HR.out, right_no (by unfold Rt; omega)]; rfl, by go_grown⟩
  by_cases k5 : h < 0
  · go_enter Tryd.func45, Tryd.ntmps45
    go_wp2
    go_ret
    exact ⟨by rw [HR.out, right_no (by unfold Rt; omega)]; rfl, by go_grown⟩
  by_cases k6 : 1125899906842624 < h
  · go_enter Tryd.func45, Tryd.ntmps45
    go_wp2
    go_ret
    exact ⟨by rw [HR.out, right_no (by unfold Rt; omega)]; rfl, by go_grown⟩
  have K : Hid (0 ≤ c ∧ c ≤ 1099511627776 ∧ 0 ≤ m ∧ m ≤ 1125899906842624 ∧ 0 ≤ h ∧ h ≤ 1125899906842624) := ⟨by omega, by omega, by omega, by omega, by omega, by omega⟩
  have g0 : 0 ≤ h := by omega
  have g1 : 0 ≤ c := by omega
  have g2 : c ≤ 1099511627776 := by omega
  have g3 : 0 ≤ m := by omega
  have g4 : m ≤ 1125899906842624 := by omega
  have g5 : h ≤ 1125899906842624 := by omega
  go_enter Tryd.func45, Tryd.ntmps45
  go_wp2
  go_ret
  refine ⟨?_, by go_grown⟩
  rw [HR.out]
  exact congrArg (fun b => Ending.returned (Value.bool b)) (right_end K.out)

/-- With that resource. -/
def withv (c m h r n : Int) : Int × Int × Int := if r = 0 then (n, m, h) else if r = 1 then (c, n, h) else if r = 2 then (c, m, n) else (c, m, h)
def vv (x : Int × Int × Int) : Value := .agg #[.int .i64 x.1, .int .i64 x.2.1, .int .i64 x.2.2]

def fitsB (a b c d e f : Int) : Bool := decide (a ≤ d ∧ b ≤ e ∧ c ≤ f)
theorem fits_no {a b c d e f : Int} (h : ¬ (a ≤ d ∧ b ≤ e ∧ c ≤ f)) : fitsB a b c d e f = false := decide_eq_false h
theorem fits_yes {a b c d e f : Int} (h : a ≤ d ∧ b ≤ e ∧ c ≤ f) : fitsB a b c d e f = true := decide_eq_true h

end Go.Proofs.YtaeejemknmjglaaDoor.Sp
