/-
  What must be answered ahead of everything else: the law's own example, at this program. Conditions: none.
-/
import Derived.Test.YtkjaiahdkolmdaaHK
import Derived.Test.YtkjaiahdkolmdaaHL
import Derived.Test.YtkjaiahdkolmdaaHM
import Derived.ChangeKeysEq
namespace Go.Proofs.Ytkjaiahdkolmdaa.Mk
open Go.RowKit

/-- Like spreads. -/
def eqP (a b : Nat → Int) : Bool := a 0 == b 0 && (a 1 == b 1 && (a 2 == b 2 && (a 3 == b 3 && (a 4 == b 4 && (a 5 == b 5 && (a 6 == b 6 && a 7 == b 7))))))
theorem sp_eq (d : Nat) (a b : Nat → Int) (w : World) : Sem.run Try.prog (Op.equalIn (d + 2) 23 (spV a) (spV b)) w = .ok (eqP a b) w := by
  obtain ⟨i, hi⟩ := info_of_underlying Try.underlying3
  rw [show d + 2 = (d + 1) + 1 from rfl, run_equalIn_array w (d + 1) _ _ Try.underlying23 hi]
  rw [show Try.prog.cellsOf 3 = 1 by kernel_rfl, show List.range 8 = [0, 1, 2, 3, 4, 5, 6, 7] by rfl]
  have u := Try.underlying3
  unfold eqP
  simp only [Op.eqItems, Sem.run_bind]
  go_simp
  by_cases h0 : a 0 = b 0 <;> simp [h0]
  by_cases h1 : a 1 = b 1 <;> simp [h1]
  by_cases h2 : a 2 = b 2 <;> simp [h2]
  by_cases h3 : a 3 = b 3 <;> simp [h3]
  by_cases h4 : a 4 = b 4 <;> simp [h4]
  by_cases h5 : a 5 = b 5 <;> simp [h5]
  by_cases h6 : a 6 = b 6 <;> simp [h6]
  by_cases h7 : a 7 = b 7 <;> simp [h7]
def fFst : Nat → Nat → Int := fun k i => if k = 0 then (match i with | 0 => 4 | 1 => 2 | 2 => 9 | _ => 0) else (match i with | 0 => 1 | 1 => 1 | _ => 0)
def kOf (a b : Int) : Nat → Int := fun i => if i = 0 then a else b
theorem fst_h1 : comes (rightH fFst (kOf 6 0) 3 0) fFst (kOf 6 0) 3 0 = [4, 3, 5, 6, 7] := by decide +kernel
theorem fst_h2 : comes (rightH fFst (kOf 6 2) 3 0) fFst (kOf 6 2) 3 0 = [3, 7] := by decide +kernel
theorem fst_h3 : comes (rightH fFst (kOf 6 0) 3 1) fFst (kOf 6 0) 3 1 = [3, 5, 7] := by decide +kernel
theorem fst_h4 : comes (rightH fFst (kOf 16 0) 3 0) fFst (kOf 16 0) 3 0 = [] := by decide +kernel
theorem fst_e : enoughB fFst (kOf 15 2) 7 = true := by decide +kernel
theorem fst_o : overB (fFst 0) 5 6 = true := by decide +kernel
theorem fst_f : spV (overF (fFst 0) 5 6) = .agg #[.int .i64 4, .int .i64 0, .int .i64 2, .int .i64 0, .int .i64 0, .int .i64 0, .int .i64 0, .int .i64 0] := by
  have e0 : overF (fFst 0) 5 6 0 = 4 := by decide +kernel
  have e1 : overF (fFst 0) 5 6 1 = 0 := by decide +kernel
  have e2 : overF (fFst 0) 5 6 2 = 2 := by decide +kernel
  have e3 : overF (fFst 0) 5 6 3 = 0 := by decide +kernel
  have e4 : overF (fFst 0) 5 6 4 = 0 := by decide +kernel
  have e5 : overF (fFst 0) 5 6 5 = 0 := by decide +kernel
  have e6 : overF (fFst 0) 5 6 6 = 0 := by decide +kernel
  have e7 : overF (fFst 0) 5 6 7 = 0 := by decide +kernel
  rw [spV, e0, e1, e2, e3, e4, e5, e6, e7]
set_option maxHeartbeats 2000000 in
set_option maxRecDepth 100000 in
theorem first_is (w : World) : Calls Try.prog 6 #[] w fun e w' => e = .returned (.bool true) ∧ Below w.heap.size w w' := by
  have C1 : Hid (∀ w, Calls Try.prog 7 #[.agg #[.int .i64 4, .int .i64 2, .int .i64 9, .int .i64 0, .int .i64 0, .int .i64 0, .int .i64 0, .int .i64 0, .int .i64 1, .int .i64 1, .int .i64 0, .int .i64 0, .int .i64 0, .int .i64 0, .int .i64 0, .int .i64 0], .int .i64 3, .agg #[.int .i64 6, .int .i64 0]] w fun e w' => e = .returned (.tuple #[.int .i64 4, .bool true]) ∧ Below w.heap.size w w') := fun w => by
    have := hint_is fFst (kOf 6 0) 3 w
    rw [fst_h1] at this
    exact this
  have C2 : Hid (∀ w, Calls Try.prog 7 #[.agg #[.int .i64 4, .int .i64 2, .int .i64 9, .int .i64 0, .int .i64 0, .int .i64 0, .int .i64 0, .int .i64 0, .int .i64 1, .int .i64 1, .int .i64 0, .int .i64 0, .int .i64 0, .int .i64 0, .int .i64 0, .int .i64 0], .int .i64 3, .agg #[.int .i64 6, .int .i64 2]] w fun e w' => e = .returned (.tuple #[.int .i64 3, .bool true]) ∧ Below w.heap.size w w') := fun w => by
    have := hint_is fFst (kOf 6 2) 3 w
    rw [fst_h2] at this
    exact this
  have C3 : Hid (∀ w, Calls Try.prog 8 #[.agg #[.int .i64 4, .int .i64 2, .int .i64 9, .int .i64 0, .int .i64 0, .int .i64 0, .int .i64 0, .int .i64 0, .int .i64 1, .int .i64 1, .int .i64 0, .int .i64 0, .int .i64 0, .int .i64 0, .int .i64 0, .int .i64 0], .int .i64 3, .int .i64 1, .agg #[.int .i64 6, .int .i64 0]] w fun e w' => e = .returned (.tuple #[.int .i64 3, .bool true]) ∧ Below w.heap.size w w') := fun w => by
    have := with_hint fFst (kOf 6 0) 3 1 w
    rw [fst_h3] at this
    exact this
  have C4 : Hid (∀ w, Calls Try.prog 9 #[.agg #[.int .i64 4, .int .i64 2, .int .i64 9, .int .i64 0, .int .i64 0, .int .i64 0, .int .i64 0, .int .i64 0], .int .i64 5, .int .i64 6] w fun e w' => e = .returned (.tuple #[.agg #[.int .i64 4, .int .i64 0, .int .i64 2, .int .i64 0, .int .i64 0, .int .i64 0, .int .i64 0, .int .i64 0], .bool true]) ∧ Below w.heap.size w w') := fun w => by
    have := over_is (fFst 0) 5 6 w
    rw [fst_o, fst_f] at this
    exact this
  have C5 : Hid (∀ w, Calls Try.prog 7 #[.agg #[.int .i64 4, .int .i64 2, .int .i64 9, .int .i64 0, .int .i64 0, .int .i64 0, .int .i64 0, .int .i64 0, .int .i64 1, .int .i64 1, .int .i64 0, .int .i64 0, .int .i64 0, .int .i64 0, .int .i64 0, .int .i64 0], .int .i64 3, .agg #[.int .i64 16, .int .i64 0]] w fun e w' => e = .returned (.tuple #[.int .i64 0, .bool false]) ∧ Below w.heap.size w w') := fun w => by
    have := hint_is fFst (kOf 16 0) 3 w
    rw [fst_h4] at this
    exact this
  have C6 : Hid (∀ w, Calls Try.prog 10 #[.agg #[.int .i64 4, .int .i64 2, .int .i64 9, .int .i64 0, .int .i64 0, .int .i64 0, .int .i64 0, .int .i64 0, .int .i64 1, .int .i64 1, .int .i64 0, .int .i64 0, .int .i64 0, .int .i64 0, .int .i64 0, .int .i64 0], .int .i64 3, .agg #[.int .i64 6, .int .i64 0], .int .i64 99] w fun e w' => ∃ a cap, e = .returned (.slice a 5 cap) ∧ Below w.heap.size w w') := fun w => by
    have := lawhints_is fFst (kOf 6 0) 3 99 (by omega) w
    rw [fst_h1] at this
    refine this.mono ?_
    rintro e w' ⟨v, rfl, own, hb⟩
    obtain ⟨a, cap, rfl⟩ := own_slice own
    exact ⟨a, cap, rfl, hb⟩
  have C7 : Hid (∀ w, Calls Try.prog 15 #[.agg #[.int .i64 4, .int .i64 2, .int .i64 9, .int .i64 0, .int .i64 0, .int .i64 0, .int .i64 0, .int .i64 0, .int .i64 1, .int .i64 1, .int .i64 0, .int .i64 0, .int .i64 0, .int .i64 0, .int .i64 0, .int .i64 0], .int .i64 7, .agg #[.int .i64 15, .int .i64 2]] w fun e w' => e = .returned (.bool true) ∧ Below w.heap.size w w') := fun w => by
    have := enough_is fFst (kOf 15 2) 7 w
    rw [fst_e] at this
    exact this
  have sm : ∀ w : World, Sem.run Try.prog (Op.equalIn 10000 23 (.agg #[.int .i64 4, .int .i64 0, .int .i64 2, .int .i64 0, .int .i64 0, .int .i64 0, .int .i64 0, .int .i64 0]) (.agg #[.int .i64 4, .int .i64 0, .int .i64 2, .int .i64 0, .int .i64 0, .int .i64 0, .int .i64 0, .int .i64 0])) w = .ok true w := fun w => by
    have := sp_eq 9998 (fun i => match i with | 0 => 4 | 2 => 2 | _ => 0) (fun i => match i with | 0 => 4 | 2 => 2 | _ => 0) w
    exact this
  have q0 : Cs (w.alloc (.cells #[.int .i64 4, .int .i64 2, .int .i64 9, .int .i64 0, .int .i64 0, .int .i64 0, .int .i64 0, .int .i64 0, .int .i64 1, .int .i64 1, .int .i64 0, .int .i64 0, .int .i64 0, .int .i64 0, .int .i64 0, .int .i64 0] 24)) w.heap.size [.int .i64 4, .int .i64 2, .int .i64 9, .int .i64 0, .int .i64 0, .int .i64 0, .int .i64 0, .int .i64 0, .int .i64 1, .int .i64 1, .int .i64 0, .int .i64 0, .int .i64 0, .int .i64 0, .int .i64 0, .int .i64 0] := Cs.new _ _ _ _ rfl
  have g0 : Below w.heap.size w (w.alloc (.cells #[.int .i64 4, .int .i64 2, .int .i64 9, .int .i64 0, .int .i64 0, .int .i64 0, .int .i64 0, .int .i64 0, .int .i64 1, .int .i64 1, .int .i64 0, .int .i64 0, .int .i64 0, .int .i64 0, .int .i64 0, .int .i64 0] 24)) := by go_grown
  go_enter Try.func6, Try.ntmps6
  go_upto_region 2 with (fail)
  generalize w.alloc (.cells #[.int .i64 4, .int .i64 2, .int .i64 9, .int .i64 0, .int .i64 0, .int .i64 0, .int .i64 0, .int .i64 0, .int .i64 1, .int .i64 1, .int .i64 0, .int .i64 0, .int .i64 0, .int .i64 0, .int .i64 0, .int .i64 0] 24) = W0 at *
  have qW0 := q0
  have gW0 := g0
  clear q0 g0
  have c0 := qW0.1 0 _ rfl
  have c1 := qW0.1 1 _ rfl
  have c2 := qW0.1 2 _ rfl
  have c3 := qW0.1 3 _ rfl
  have c4 := qW0.1 4 _ rfl
  have c5 := qW0.1 5 _ rfl
  have c6 := qW0.1 6 _ rfl
  have c7 := qW0.1 7 _ rfl
  have c8 := qW0.1 8 _ rfl
  have c9 := qW0.1 9 _ rfl
  have c10 := qW0.1 10 _ rfl
  have c11 := qW0.1 11 _ rfl
  have c12 := qW0.1 12 _ rfl
  have c13 := qW0.1 13 _ rfl
  have c14 := qW0.1 14 _ rfl
  have c15 := qW0.1 15 _ rfl
  have zc := qW0.2.2
  go_wp2_with (first | (refine ld16 (F := fFst) (cs_range qW0) rfl _ rfl rfl ?_) | fail)
  refine (C1.out _).mono ?_
  rintro e w1 ⟨rfl, hb⟩
  have qw1 := Cs.later hb qW0
  have gw1 := gW0.trans (hb.mono gW0.size)
  clear hb qW0 gW0 C1 c0 c1 c2 c3 c4 c5 c6 c7 c8 c9 c10 c11 c12 c13 c14 c15 zc
  have c0 := qw1.1 0 _ rfl
  have c1 := qw1.1 1 _ rfl
  have c2 := qw1.1 2 _ rfl
  have c3 := qw1.1 3 _ rfl
  have c4 := qw1.1 4 _ rfl
  have c5 := qw1.1 5 _ rfl
  have c6 := qw1.1 6 _ rfl
  have c7 := qw1.1 7 _ rfl
  have c8 := qw1.1 8 _ rfl
  have c9 := qw1.1 9 _ rfl
  have c10 := qw1.1 10 _ rfl
  have c11 := qw1.1 11 _ rfl
  have c12 := qw1.1 12 _ rfl
  have c13 := qw1.1 13 _ rfl
  have c14 := qw1.1 14 _ rfl
  have c15 := qw1.1 15 _ rfl
  have zc := qw1.2.2
  go_wp2_with (first | (refine ld16 (F := fFst) (cs_range qw1) rfl _ rfl rfl ?_) | fail)
  refine (C2.out _).mono ?_
  rintro e w2 ⟨rfl, hb⟩
  have qw2 := Cs.later hb qw1
  have gw2 := gw1.trans (hb.mono gw1.size)
  clear hb qw1 gw1 C2 c0 c1 c2 c3 c4 c5 c6 c7 c8 c9 c10 c11 c12 c13 c14 c15 zc
  have c0 := qw2.1 0 _ rfl
  have c1 := qw2.1 1 _ rfl
  have c2 := qw2.1 2 _ rfl
  have c3 := qw2.1 3 _ rfl
  have c4 := qw2.1 4 _ rfl
  have c5 := qw2.1 5 _ rfl
  have c6 := qw2.1 6 _ rfl
  have c7 := qw2.1 7 _ rfl
  have c8 := qw2.1 8 _ rfl
  have c9 := qw2.1 9 _ rfl
  have c10 := qw2.1 10 _ rfl
  have c11 := qw2.1 11 _ rfl
  have c12 := qw2.1 12 _ rfl
  have c13 := qw2.1 13 _ rfl
  have c14 := qw2.1 14 _ rfl
  have c15 := qw2.1 15 _ rfl
  have zc := qw2.2.2
  go_wp2_with (first | (refine ld16 (F := fFst) (cs_range qw2) rfl _ rfl rfl ?_) | fail)
  refine (C3.out _).mono ?_
  rintro e w3 ⟨rfl, hb⟩
  have qw3 := Cs.later hb qw2
  have gw3 := gw2.trans (hb.mono gw2.size)
  clear hb qw2 gw2 C3 c0 c1 c2 c3 c4 c5 c6 c7 c8 c9 c10 c11 c12 c13 c14 c15 zc
  have c0 := qw3.1 0 _ rfl
  have c1 := qw3.1 1 _ rfl
  have c2 := qw3.1 2 _ rfl
  have c3 := qw3.1 3 _ rfl
  have c4 := qw3.1 4 _ rfl
  have c5 := qw3.1 5 _ rfl
  have c6 := qw3.1 6 _ rfl
  have c7 := qw3.1 7 _ rfl
  have c8 := qw3.1 8 _ rfl
  have c9 := qw3.1 9 _ rfl
  have c10 := qw3.1 10 _ rfl
  have c11 := qw3.1 11 _ rfl
  have c12 := qw3.1 12 _ rfl
  have c13 := qw3.1 13 _ rfl
  have c14 := qw3.1 14 _ rfl
  have c15 := qw3.1 15 _ rfl
  have zc := qw3.2.2
  go_wp2_with (first | (refine ld16 (F := fFst) (cs_range qw3) rfl _ rfl rfl ?_) | fail)
  refine (C4.out _).mono ?_
  rintro e w4 ⟨rfl, hb⟩
  have qw4 := Cs.later hb qw3
  have gw4 := gw3.trans (hb.mono gw3.size)
  clear hb qw3 gw3 C4 c0 c1 c2 c3 c4 c5 c6 c7 c8 c9 c10 c11 c12 c13 c14 c15 zc
  have c0 := qw4.1 0 _ rfl
  have c1 := qw4.1 1 _ rfl
  have c2 := qw4.1 2 _ rfl
  have c3 := qw4.1 3 _ rfl
  have c4 := qw4.1 4 _ rfl
  have c5 := qw4.1 5 _ rfl
  have c6 := qw4.1 6 _ rfl
  have c7 := qw4.1 7 _ rfl
  have c8 := qw4.1 8 _ rfl
  have c9 := qw4.1 9 _ rfl
  have c10 := qw4.1 10 _ rfl
  have c11 := qw4.1 11 _ rfl
  have c12 := qw4.1 12 _ rfl
  have c13 := qw4.1 13 _ rfl
  have c14 := qw4.1 14 _ rfl
  have c15 := qw4.1 15 _ rfl
  have zc := qw4.2.2
  go_upto_region 6 with (fail)
  have p0 : Cs (w4.alloc (.cells #[.int .i64 4, .int .i64 0, .int .i64 2, .int .i64 0, .int .i64 0, .int .i64 0, .int .i64 0, .int .i64 0] 23)) w4.heap.size [.int .i64 4, .int .i64 0, .int .i64 2, .int .i64 0, .int .i64 0, .int .i64 0, .int .i64 0, .int .i64 0] := Cs.new _ _ _ _ rfl
  have qw5 := qw4.alloc (.cells #[.int .i64 4, .int .i64 0, .int .i64 2, .int .i64 0, .int .i64 0, .int .i64 0, .int .i64 0, .int .i64 0] 23)
  have gw5 := gw4.alloc gw4.size (.cells #[.int .i64 4, .int .i64 0, .int .i64 2, .int .i64 0, .int .i64 0, .int .i64 0, .int .i64 0, .int .i64 0] 23)
  obtain ⟨p8, hp8⟩ : ∃ p8, p8 = w4.heap.size := ⟨_, rfl⟩
  rw [← hp8] at p0 ⊢
  clear hp8 qw4 gw4 c0 c1 c2 c3 c4 c5 c6 c7 c8 c9 c10 c11 c12 c13 c14 c15 zc
  generalize w4.alloc (.cells #[.int .i64 4, .int .i64 0, .int .i64 2, .int .i64 0, .int .i64 0, .int .i64 0, .int .i64 0, .int .i64 0] 23) = w5 at *
  have c0 := qw5.1 0 _ rfl
  have c1 := qw5.1 1 _ rfl
  have c2 := qw5.1 2 _ rfl
  have c3 := qw5.1 3 _ rfl
  have c4 := qw5.1 4 _ rfl
  have c5 := qw5.1 5 _ rfl
  have c6 := qw5.1 6 _ rfl
  have c7 := qw5.1 7 _ rfl
  have c8 := qw5.1 8 _ rfl
  have c9 := qw5.1 9 _ rfl
  have c10 := qw5.1 10 _ rfl
  have c11 := qw5.1 11 _ rfl
  have c12 := qw5.1 12 _ rfl
  have c13 := qw5.1 13 _ rfl
  have c14 := qw5.1 14 _ rfl
  have c15 := qw5.1 15 _ rfl
  have zc := qw5.2.2
  go_wp2_with (first | (refine ld16 (F := fFst) (cs_range qw5) rfl _ rfl rfl ?_) | fail)
  refine (C5.out _).mono ?_
  rintro e w6 ⟨rfl, hb⟩
  have qw6 := Cs.later hb qw5
  have gw6 := gw5.trans (hb.mono gw5.size)
  replace p0 := Cs.later hb p0
  clear hb qw5 gw5 C5 c0 c1 c2 c3 c4 c5 c6 c7 c8 c9 c10 c11 c12 c13 c14 c15 zc
  have c0 := qw6.1 0 _ rfl
  have c1 := qw6.1 1 _ rfl
  have c2 := qw6.1 2 _ rfl
  have c3 := qw6.1 3 _ rfl
  have c4 := qw6.1 4 _ rfl
  have c5 := qw6.1 5 _ rfl
  have c6 := qw6.1 6 _ rfl
  have c7 := qw6.1 7 _ rfl
  have c8 := qw6.1 8 _ rfl
  have c9 := qw6.1 9 _ rfl
  have c10 := qw6.1 10 _ rfl
  have c11 := qw6.1 11 _ rfl
  have c12 := qw6.1 12 _ rfl
  have c13 := qw6.1 13 _ rfl
  have c14 := qw6.1 14 _ rfl
  have c15 := qw6.1 15 _ rfl
  have zc := qw6.2.2
  have d0 := p0.1 0 _ rfl
  have d1 := p0.1 1 _ rfl
  have d2 := p0.1 2 _ rfl
  have d3 := p0.1 3 _ rfl
  have d4 := p0.1 4 _ rfl
  have d5 := p0.1 5 _ rfl
  have d6 := p0.1 6 _ rfl
  have d7 := p0.1 7 _ rfl
  have zd := p0.2.2
  go_wp2_with (first | (refine ld16 (F := fFst) (cs_range qw6) rfl _ rfl rfl ?_) | fail)
  refine (C6.out _).mono ?_
  rintro e w7 ⟨a7, k7, rfl, hb⟩
  have qw7 := Cs.later hb qw6
  have gw7 := gw6.trans (hb.mono gw6.size)
  clear hb qw6 gw6 C6 c0 c1 c2 c3 c4 c5 c6 c7 c8 c9 c10 c11 c12 c13 c14 c15 zc
  have c0 := qw7.1 0 _ rfl
  have c1 := qw7.1 1 _ rfl
  have c2 := qw7.1 2 _ rfl
  have c3 := qw7.1 3 _ rfl
  have c4 := qw7.1 4 _ rfl
  have c5 := qw7.1 5 _ rfl
  have c6 := qw7.1 6 _ rfl
  have c7 := qw7.1 7 _ rfl
  have c8 := qw7.1 8 _ rfl
  have c9 := qw7.1 9 _ rfl
  have c10 := qw7.1 10 _ rfl
  have c11 := qw7.1 11 _ rfl
  have c12 := qw7.1 12 _ rfl
  have c13 := qw7.1 13 _ rfl
  have c14 := qw7.1 14 _ rfl
  have c15 := qw7.1 15 _ rfl
  have zc := qw7.2.2
  go_wp2_with (first | (refine ld16 (F := fFst) (cs_range qw7) rfl _ rfl rfl ?_) | fail)
  refine (C7.out _).mono ?_
  rintro e w8 ⟨rfl, hb⟩
  have qw8 := Cs.later hb qw7
  have gw8 := gw7.trans (hb.mono gw7.size)
  clear hb qw7 gw7 C7 c0 c1 c2 c3 c4 c5 c6 c7 c8 c9 c10 c11 c12 c13 c14 c15 zc
  have c0 := qw8.1 0 _ rfl
  have c1 := qw8.1 1 _ rfl
  have c2 := qw8.1 2 _ rfl
  have c3 := qw8.1 3 _ rfl
  have c4 := qw8.1 4 _ rfl
  have c5 := qw8.1 5 _ rfl
  have c6 := qw8.1 6 _ rfl
  have c7 := qw8.1 7 _ rfl
  have c8 := qw8.1 8 _ rfl
  have c9 := qw8.1 9 _ rfl
  have c10 := qw8.1 10 _ rfl
  have c11 := qw8.1 11 _ rfl
  have c12 := qw8.1 12 _ rfl
  have c13 := qw8.1 13 _ rfl
  have c14 := qw8.1 14 _ rfl
  have c15 := qw8.1 15 _ rfl
  have zc := qw8.2.2
  go_wp2
  go_ret
  exact ⟨rfl, gw8⟩

end Go.Proofs.Ytkjaiahdkolmdaa.Mk
