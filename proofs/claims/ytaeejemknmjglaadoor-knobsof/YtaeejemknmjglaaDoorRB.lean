/-
  Which knobs are right, and their files' numbers, at this program: package knobs' own, and the document's. Conditions: where it is said, the tables of the program lie as its text lays them.
-/
import Derived.Test.YtaeejemknmjglaaDoorRA
import Derived.Lib.LaidTab
import Derived.Lib.ItoaNum
namespace Go.Proofs.YtaeejemknmjglaaDoor.Sp
open Go.RowKit

def leastsV : List Value := [.int .i64 0, .int .i64 1, .int .i64 0, .int .i64 0, .int .i64 0]
def mostsV : List Value := [.int .i64 9007199254740992, .int .i64 10000, .int .i64 9007199254740992, .int .i64 9007199254740992, .int .i64 9007199254740992]
def endlessV : List Value := [.bool true, .bool false, .bool false, .bool true, .bool false]
/-- The tables of knobs lie as the program's text lays them; the library's one, too. -/
def LaidK (w : World) : Prop := LaidS w ∧ w.rangeAt 2 0 leastsV ∧ w.rangeAt 3 0 mostsV ∧ w.rangeAt 1 0 endlessV ∧ max 2 (max 3 1) < w.heap.size ∧ Lib.TabIs Tryd.prog w "internal/strconv.uint64pow10" .u64 Lib.pow10Tab
theorem gPow : Tryd.prog.globalNamed "internal/strconv.uint64pow10" = some 6 := by kernel_rfl
theorem LaidK.later {w w1 : World} (h : LaidK w) (hb : Below w.heap.size w w1) : LaidK w1 :=
  ⟨h.1.later hb, range_later h.2.1 hb (by have := h.2.2.2.2.1; omega), range_later h.2.2.1 hb (by have := h.2.2.2.2.1; omega), range_later h.2.2.2.1 hb (by have := h.2.2.2.2.1; omega), Nat.lt_of_lt_of_le h.2.2.2.2.1 hb.size, Go.Joins.tab_stays gPow h.2.2.2.2.2 hb (Nat.le_refl _)⟩
theorem LaidK.alloc {w : World} (h : LaidK w) (o : Obj) : LaidK (w.alloc o) := h.later ((Below.refl _ _).alloc (Nat.le_refl _) o)
theorem LaidK.under {w w1 : World} {B : Nat} (h : LaidK w) (hb : Below B w w1) (hB : w.heap.size ≤ B) : LaidK w1 := h.later (hb.mono hB)
theorem LaidK.cells {w : World} (h : LaidK w) : (2 < w.heap.size ∧ 3 < w.heap.size ∧ 1 < w.heap.size) ∧
    (w.cell? ⟨2, 0, none⟩ = some (.int .i64 0) ∧ w.cell? ⟨2, 1, none⟩ = some (.int .i64 1) ∧ w.cell? ⟨2, 2, none⟩ = some (.int .i64 0) ∧ w.cell? ⟨2, 3, none⟩ = some (.int .i64 0) ∧ w.cell? ⟨2, 4, none⟩ = some (.int .i64 0)) ∧
    (w.cell? ⟨3, 0, none⟩ = some (.int .i64 9007199254740992) ∧ w.cell? ⟨3, 1, none⟩ = some (.int .i64 10000) ∧ w.cell? ⟨3, 2, none⟩ = some (.int .i64 9007199254740992) ∧ w.cell? ⟨3, 3, none⟩ = some (.int .i64 9007199254740992) ∧ w.cell? ⟨3, 4, none⟩ = some (.int .i64 9007199254740992)) ∧
    (w.cell? ⟨1, 0, none⟩ = some (.bool true) ∧ w.cell? ⟨1, 1, none⟩ = some (.bool false) ∧ w.cell? ⟨1, 2, none⟩ = some (.bool false) ∧ w.cell? ⟨1, 3, none⟩ = some (.bool true) ∧ w.cell? ⟨1, 4, none⟩ = some (.bool false)) := by
  obtain ⟨-, a, b, c, z, -⟩ := h
  exact ⟨⟨by omega, by omega, by omega⟩, ⟨a 0 _ rfl, a 1 _ rfl, a 2 _ rfl, a 3 _ rfl, a 4 _ rfl⟩, ⟨b 0 _ rfl, b 1 _ rfl, b 2 _ rfl, b 3 _ rfl, b 4 _ rfl⟩, ⟨c 0 _ rfl, c 1 _ rfl, c 2 _ rfl, c 3 _ rfl, c 4 _ rfl⟩⟩

/-- A number that is right: between two ones, or Unlimited where that is right, too. -/
def fitN (lo hi : Int) (u : Bool) (n : Int) : Bool := if n = 4611686018427387904 then u else decide (lo ≤ n ∧ n ≤ hi)
def fitF (f : Nat) (n : Int) : Bool := if f = 1 then fitN 1 10000 false n else if f = 0 ∨ f = 3 then fitN 0 9007199254740992 true n else fitN 0 9007199254740992 false n

set_option maxHeartbeats 4000000 in
set_option maxRecDepth 100000 in
theorem fits_is (f : Nat) (hf : f < 5) (n : Int) (w : World) (hL : LaidK w) :
    Calls Tryd.prog 37 #[.int .i64 f, .int .i64 n] w fun e w' => e = .returned (.bool (fitF f n)) ∧ w' = w := by
  obtain ⟨R, hR⟩ : ∃ R, R = fitF f n := ⟨_, rfl⟩
  rw [← hR]
  have HR : Hid (R = fitF f n) := hR
  clear hR
  obtain ⟨⟨g1, g2, g3⟩, ⟨a0, a1, a2, a3, a4⟩, ⟨b0, b1, b2, b3, b4⟩, ⟨c0, c1, c2, c3, c4⟩⟩ := hL.cells
  clear hL
  by_cases hu : n = 4611686018427387904
  · subst hu
    rcases (show f = 0 ∨ f = 1 ∨ f = 2 ∨ f = 3 ∨ f = 4 by omega) with rfl | rfl | rfl | rfl | rfl
    all_goals
      go_enter Tryd.func37, Tryd.ntmps37
      go_wp2
      go_ret
      exact ⟨by rw [HR.out]; rfl, rfl⟩
  · have h0 : (n == 4611686018427387904) = false := by simp [hu]
    have HU : Hid (n ≠ 4611686018427387904) := hu
    clear hu
    rcases (show f = 0 ∨ f = 1 ∨ f = 2 ∨ f = 3 ∨ f = 4 by omega) with rfl | rfl | rfl | rfl | rfl
    · by_cases k : n < 0
      all_goals
        go_enter Tryd.func37, Tryd.ntmps37
        go_wp2
        go_ret
        exact ⟨by rw [HR.out]; simp [fitF, fitN, HU.out]; omega, rfl⟩
    · by_cases k : n < 1
      all_goals
        go_enter Tryd.func37, Tryd.ntmps37
        go_wp2
        go_ret
        exact ⟨by rw [HR.out]; simp [fitF, fitN, HU.out]; omega, rfl⟩
    all_goals
      by_cases k : n < 0
      all_goals
        go_enter Tryd.func37, Tryd.ntmps37
        go_wp2
        go_ret
        exact ⟨by rw [HR.out]; simp [fitF, fitN, HU.out]; omega, rfl⟩

theorem num_ix0 (ka kb kc kd ke : Int) (w : World) : (Instr.index 51 (.agg #[.int .i64 ka, .int .i64 kb, .int .i64 kc, .int .i64 kd, .int .i64 ke]) (.int .i64 0)).run Tryd.prog w = .ok (.int .i64 ka) w := by kernel_rfl
theorem num_ix1 (ka kb kc kd ke : Int) (w : World) : (Instr.index 51 (.agg #[.int .i64 ka, .int .i64 kb, .int .i64 kc, .int .i64 kd, .int .i64 ke]) (.int .i64 1)).run Tryd.prog w = .ok (.int .i64 kb) w := by kernel_rfl
theorem num_ix2 (ka kb kc kd ke : Int) (w : World) : (Instr.index 51 (.agg #[.int .i64 ka, .int .i64 kb, .int .i64 kc, .int .i64 kd, .int .i64 ke]) (.int .i64 2)).run Tryd.prog w = .ok (.int .i64 kc) w := by kernel_rfl
theorem num_ix3 (ka kb kc kd ke : Int) (w : World) : (Instr.index 51 (.agg #[.int .i64 ka, .int .i64 kb, .int .i64 kc, .int .i64 kd, .int .i64 ke]) (.int .i64 3)).run Tryd.prog w = .ok (.int .i64 kd) w := by kernel_rfl
theorem num_ix4 (ka kb kc kd ke : Int) (w : World) : (Instr.index 51 (.agg #[.int .i64 ka, .int .i64 kb, .int .i64 kc, .int .i64 kd, .int .i64 ke]) (.int .i64 4)).run Tryd.prog w = .ok (.int .i64 ke) w := by kernel_rfl
/-- The number of a file; 0 of another one. -/
def atK (ka kb kc kd ke f : Int) : Int := if f = 0 then ka else if f = 1 then kb else if f = 2 then kc else if f = 3 then kd else if f = 4 then ke else 0
/-- What stands in file i behind a number has been written into file f. -/
def putK (i f k n : Int) : Int := if f = i then n else k
/-- Knobs with a number in a file. -/
abbrev withV (ka kb kc kd ke f n : Int) : Value := .agg #[.int .i64 (putK 0 f ka n), .int .i64 (putK 1 f kb n), .int .i64 (putK 2 f kc n), .int .i64 (putK 3 f kd n), .int .i64 (putK 4 f ke n)]
theorem isF_yes {f : Int} (h : f = 0 ∨ f = 1 ∨ f = 2 ∨ f = 3 ∨ f = 4) : isF f = true := decide_eq_true (by omega)
theorem isF_no {f : Int} (h : ¬ (f = 0 ∨ f = 1 ∨ f = 2 ∨ f = 3 ∨ f = 4)) : isF f = false := decide_eq_false (by omega)
theorem at_no {ka kb kc kd ke f : Int} (h : ¬ (f = 0 ∨ f = 1 ∨ f = 2 ∨ f = 3 ∨ f = 4)) : atK ka kb kc kd ke f = 0 := by
  unfold atK
  rw [if_neg (by omega), if_neg (by omega), if_neg (by omega), if_neg (by omega), if_neg (by omega)]
theorem with_no {ka kb kc kd ke f n : Int} (h : ¬ (f = 0 ∨ f = 1 ∨ f = 2 ∨ f = 3 ∨ f = 4)) : withV ka kb kc kd ke f n = .agg #[.int .i64 ka, .int .i64 kb, .int .i64 kc, .int .i64 kd, .int .i64 ke] := by
  unfold withV putK
  rw [if_neg (by omega), if_neg (by omega), if_neg (by omega), if_neg (by omega), if_neg (by omega)]

set_option maxHeartbeats 4000000 in
set_option maxRecDepth 100000 in
theorem at_is (ka kb kc kd ke f : Int) (w : World) :
    Calls Tryd.prog 17 #[.agg #[.int .i64 ka, .int .i64 kb, .int .i64 kc, .int .i64 kd, .int .i64 ke], .int .i64 f] w fun e w' => e = .returned (.int .i64 (atK ka kb kc kd ke f)) ∧ Below w.heap.size w w' := by
  obtain ⟨R, hR⟩ : ∃ R, R = atK ka kb kc kd ke f := ⟨_, rfl⟩
  rw [← hR]
  have HR : Hid (R = atK ka kb kc kd ke f) := hR
  clear hR
  by_cases hf : f = 0 ∨ f = 1 ∨ f = 2 ∨ f = 3 ∨ f = 4
  · have I : Hid (isF f = true) := isF_yes hf
    rcases hf with rfl | rfl | rfl | rfl | rfl
    · have ix := num_ix0 ka kb kc kd ke
      go_enter Tryd.func17, Tryd.ntmps17
      go_wp2_with (fail)
      refine (isFile_is _ _).mono ?_
      rintro e w1 ⟨rfl, rfl⟩
      rw [I.out]
      go_wp2_with (fail)
      refine (numbers_is ka kb kc kd ke _).mono ?_
      rintro e w2 ⟨rfl, hw2⟩
      have HB : Below w.heap.size w w2 := Below.trans (show Below w.heap.size w _ by go_grown) (hw2.mono (by simp))
      clear hw2
      go_wp2
      go_ret
      exact ⟨by rw [HR.out]; rfl, HB⟩
    · have ix := num_ix1 ka kb kc kd ke
      go_enter Tryd.func17, Tryd.ntmps17
      go_wp2_with (fail)
      refine (isFile_is _ _).mono ?_
      rintro e w1 ⟨rfl, rfl⟩
      rw [I.out]
      go_wp2_with (fail)
      refine (numbers_is ka kb kc kd ke _).mono ?_
      rintro e w2 ⟨rfl, hw2⟩
      have HB : Below w.heap.size w w2 := Below.trans (show Below w.heap.size w _ by go_grown) (hw2.mono (by simp))
      clear hw2
      go_wp2
      go_ret
      exact ⟨by rw [HR.out]; rfl, HB⟩
    · have ix := num_ix2 ka kb kc kd ke
      go_enter Tryd.func17, Tryd.ntmps17
      go_wp2_with (fail)
      refine (isFile_is _ _).mono ?_
      rintro e w1 ⟨rfl, rfl⟩
      rw [I.out]
      go_wp2_with (fail)
      refine (numbers_is ka kb kc kd ke _).mono ?_
      rintro e w2 ⟨rfl, hw2⟩
      have HB : Below w.heap.size w w2 := Below.trans (show Below w.heap.size w _ by go_grown) (hw2.mono (by simp))
      clear hw2
      go_wp2
      go_ret
      exact ⟨by rw [HR.out]; rfl, HB⟩
    · have ix := num_ix3 ka kb kc kd ke
      go_enter Tryd.func17, Tryd.ntmps17
      go_wp2_with (fail)
      refine (isFile_is _ _).mono ?_
      rintro e w1 ⟨rfl, rfl⟩
      rw [I.out]
      go_wp2_with (fail)
      refine (numbers_is ka kb kc kd ke _).mono ?_
      rintro e w2 ⟨rfl, hw2⟩
      have HB : Below w.heap.size w w2 := Below.trans (show Below w.heap.size w _ by go_grown) (hw2.mono (by simp))
      clear hw2
      go_wp2
      go_ret
      exact ⟨by rw [HR.out]; rfl, HB⟩
    · have ix := num_ix4 ka kb kc kd ke
      go_enter Tryd.func17, Tryd.ntmps17
      go_wp2_with (fail)
      refine (isFile_is _ _).mono ?_
      rintro e w1 ⟨rfl, rfl⟩
      rw [I.out]
      go_wp2_with (fail)
      refine (numbers_is ka kb kc kd ke _).mono ?_
      rintro e w2 ⟨rfl, hw2⟩
      have HB : Below w.heap.size w w2 := Below.trans (show Below w.heap.size w _ by go_grown) (hw2.mono (by simp))
      clear hw2
      go_wp2
      go_ret
      exact ⟨by rw [HR.out]; rfl, HB⟩
  · have I : Hid (isF f = false) := isF_no hf
    have N : Hid (R = 0) := by unfold Hid; rw [HR.out, at_no hf]
    clear hf
    go_enter Tryd.func17, Tryd.ntmps17
    go_wp2_with (fail)
    refine (isFile_is f _).mono ?_
    rintro e w1 ⟨rfl, rfl⟩
    rw [I.out]
    go_wp2
    go_ret
    exact ⟨by rw [N.out]; rfl, by go_grown⟩

set_option maxHeartbeats 4000000 in
set_option maxRecDepth 100000 in
theorem with_is (ka kb kc kd ke f n : Int) (w : World) :
    Calls Tryd.prog 19 #[.agg #[.int .i64 ka, .int .i64 kb, .int .i64 kc, .int .i64 kd, .int .i64 ke], .int .i64 f, .int .i64 n] w fun e w' => e = .returned (withV ka kb kc kd ke f n) ∧ Below w.heap.size w w' := by
  obtain ⟨R, hR⟩ : ∃ R, R = withV ka kb kc kd ke f n := ⟨_, rfl⟩
  rw [← hR]
  have HR : Hid (R = withV ka kb kc kd ke f n) := hR
  clear hR
  by_cases hf : f = 0 ∨ f = 1 ∨ f = 2 ∨ f = 3 ∨ f = 4
  · have I : Hid (isF f = true) := isF_yes hf
    rcases hf with rfl | rfl | rfl | rfl | rfl
    all_goals
      go_enter Tryd.func19, Tryd.ntmps19
      go_wp2_with (fail)
      refine (isFile_is _ _).mono ?_
      rintro e w1 ⟨rfl, rfl⟩
      rw [I.out]
      go_wp2_with (fail)
      refine (numbers_is ka kb kc kd ke _).mono ?_
      rintro e w2 ⟨rfl, hw2⟩
      have HBw2 : Below w.heap.size w w2 := Below.trans (by go_grown) (hw2.mono (by first | omega | (simp; done) | (simp; omega)))
      have p_r : Cs w2 (w.heap.size + 1) [.int .i64 0, .int .i64 0, .int .i64 0, .int .i64 0, .int .i64 0] := Cs.later hw2 (by repeat (first | assumption | (refine Cs.new _ _ _ _ ?_; simp; done) | refine Cs.alloc ?_ _ | refine Cs.drew ?_ | (refine Cs.beside ?_ _ _ (by omega))))
      have q_r := p_r
      have r0 : w2.cell? ⟨w.heap.size + 1, 0, none⟩ = some (.int .i64 0) := p_r.1 0 _ rfl
      have rF0 : w2.frozen? ⟨w.heap.size + 1, 0, none⟩ = false := p_r.2.1 0 (by simp)
      have r1 : w2.cell? ⟨w.heap.size + 1, 1, none⟩ = some (.int .i64 0) := p_r.1 1 _ rfl
      have rF1 : w2.frozen? ⟨w.heap.size + 1, 1, none⟩ = false := p_r.2.1 1 (by simp)
      have r2 : w2.cell? ⟨w.heap.size + 1, 2, none⟩ = some (.int .i64 0) := p_r.1 2 _ rfl
      have rF2 : w2.frozen? ⟨w.heap.size + 1, 2, none⟩ = false := p_r.2.1 2 (by simp)
      have r3 : w2.cell? ⟨w.heap.size + 1, 3, none⟩ = some (.int .i64 0) := p_r.1 3 _ rfl
      have rF3 : w2.frozen? ⟨w.heap.size + 1, 3, none⟩ = false := p_r.2.1 3 (by simp)
      have r4 : w2.cell? ⟨w.heap.size + 1, 4, none⟩ = some (.int .i64 0) := p_r.1 4 _ rfl
      have rF4 : w2.frozen? ⟨w.heap.size + 1, 4, none⟩ = false := p_r.2.1 4 (by simp)
      have rz : w.heap.size + 1 < w2.heap.size := p_r.2.2
      clear p_r
      have hsw2 := hw2.size
      (try simp at hsw2)
      clear hw2
      go_wp2_with (fail)
      refine (of_is _ _ _ _ _ _).mono ?_
      rintro e w3 ⟨rfl, hw3⟩
      have HB3 : Below w.heap.size w w3 := Below.trans (show Below w.heap.size w _ by go_grown) (hw3.mono (by simp; omega))
      have q_3 : Cs w3 (w.heap.size + 1) [.int .i64 0, .int .i64 0, .int .i64 0, .int .i64 0, .int .i64 0] := Cs.later hw3 (by repeat (first | assumption | (refine Cs.beside ?_ _ _ (by omega)) | refine Cs.alloc ?_ _))
      have hs3 := HB3.size
      clear q_r r0 r1 r2 r3 r4 rF0 rF1 rF2 rF3 rF4 rz hsw2 hw3 HBw2
      have r0 : w3.cell? ⟨w.heap.size + 1, 0, none⟩ = some (.int .i64 0) := q_3.1 0 _ rfl
      have r1 : w3.cell? ⟨w.heap.size + 1, 1, none⟩ = some (.int .i64 0) := q_3.1 1 _ rfl
      have r2 : w3.cell? ⟨w.heap.size + 1, 2, none⟩ = some (.int .i64 0) := q_3.1 2 _ rfl
      have r3 : w3.cell? ⟨w.heap.size + 1, 3, none⟩ = some (.int .i64 0) := q_3.1 3 _ rfl
      have r4 : w3.cell? ⟨w.heap.size + 1, 4, none⟩ = some (.int .i64 0) := q_3.1 4 _ rfl
      have rF0 : w3.frozen? ⟨w.heap.size + 1, 0, none⟩ = false := q_3.2.1 0 (by simp)
      have rF1 : w3.frozen? ⟨w.heap.size + 1, 1, none⟩ = false := q_3.2.1 1 (by simp)
      have rF2 : w3.frozen? ⟨w.heap.size + 1, 2, none⟩ = false := q_3.2.1 2 (by simp)
      have rF3 : w3.frozen? ⟨w.heap.size + 1, 3, none⟩ = false := q_3.2.1 3 (by simp)
      have rF4 : w3.frozen? ⟨w.heap.size + 1, 4, none⟩ = false := q_3.2.1 4 (by simp)
      have rz : w.heap.size + 1 < w3.heap.size := q_3.2.2
      clear q_3
      go_wp2
      refine bodyPost_ret (v := R) (by rw [HR.out]; simp [results, Tryd.results19, go_sem, r0, r1, r2, r3, r4, putK]) rfl ⟨rfl, by go_grown⟩
  · have I : Hid (isF f = false) := isF_no hf
    have N : Hid (R = .agg #[.int .i64 ka, .int .i64 kb, .int .i64 kc, .int .i64 kd, .int .i64 ke]) := by unfold Hid; rw [HR.out, with_no hf]
    clear hf
    go_enter Tryd.func19, Tryd.ntmps19
    go_wp2_with (fail)
    refine (isFile_is f _).mono ?_
    rintro e w1 ⟨rfl, rfl⟩
    rw [I.out]
    go_wp2
    go_returns
    exact ⟨by rw [N.out], by go_grown⟩

end Go.Proofs.YtaeejemknmjglaaDoor.Sp
