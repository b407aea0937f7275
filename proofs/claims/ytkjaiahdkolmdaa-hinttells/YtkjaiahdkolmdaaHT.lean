/-
  The law HintLeast at this program: no node less than it must; what is spread is all that is needed, nowhere more than is free, and within the mask. Conditions: none on the argument.
-/
import Derived.Test.YtkjaiahdkolmdaaHR
import Derived.Test.YtkjaiahdkolmdaaHS
import Derived.Test.YtkjaiahdkolmdaaHN
import Derived.Deep.RegionHeld3
import Derived.Deep.RegionWith
namespace Go.Proofs.Ytkjaiahdkolmdaa.Mk
open Go.RowKit

theorem case_free {W : World} {b : Nat} {F : Nat → Nat → Int} {vs : List Value} (q : Cs W b (frL F ++ vs)) : W.rangeAt b 0 (frL F) := fun j v h => by
  rw [Nat.zero_add]
  exact q.1 j v (by rw [List.getElem?_append_left (List.getElem?_eq_some_iff.1 h).1]; exact h)
theorem case_at0 {vs : List Value} (F : Nat → Nat → Int) {i : Nat} (h : i < 8) : (frL F ++ vs)[i]? = some (.int .i64 (F 0 i)) := by
  rw [List.getElem?_append_left (by show i < 16; omega)]
  exact frL_at0 F h
theorem case_at1 {vs : List Value} (F : Nat → Nat → Int) {i : Nat} (h : i < 8) : (frL F ++ vs)[8 + i]? = some (.int .i64 (F 1 i)) := by
  rw [List.getElem?_append_left (by show 8 + i < 16; omega)]
  exact frL_at1 F h
theorem bit_at : ∀ m : Fin 256, ∀ i : Fin 8, (bits .and .i64 ((m.1 : Int) / 2 ^ i.1) 1 == 1) = tb m.1 i.1 := by decide +kernel
theorem bit_no : ∀ m : Fin 256, ∀ i : Fin 8, (bits .and .i64 ((m.1 : Int) / 2 ^ i.1) 1 == 0) = !tb m.1 i.1 := by decide +kernel
theorem less_at : ∀ m : Fin 256, ∀ i : Fin 8, bits .andNot .i64 (m.1 : Int) (IntKind.i64.wrap (2 ^ i.1)) = (lessB m.1 (i.1 : Int) : Int) := by decide +kernel

set_option maxHeartbeats 4000000 in
set_option maxRecDepth 100000 in
theorem least_is (F : Nat → Nat → Int) (nodes held mask : Int) (K : Nat → Int) (most : Int) (w : World) :
    Calls Try.prog 4 #[.agg #[.int .i64 (F 0 0), .int .i64 (F 0 1), .int .i64 (F 0 2), .int .i64 (F 0 3), .int .i64 (F 0 4), .int .i64 (F 0 5), .int .i64 (F 0 6), .int .i64 (F 0 7), .int .i64 (F 1 0), .int .i64 (F 1 1), .int .i64 (F 1 2), .int .i64 (F 1 3), .int .i64 (F 1 4), .int .i64 (F 1 5), .int .i64 (F 1 6), .int .i64 (F 1 7), .int .i64 nodes, .int .i64 held, .int .i64 mask, .int .i64 (K 0), .int .i64 (K 1), .int .i64 most]] w fun e w' => e = .returned (.bool true) ∧ Below w.heap.size w w' := by
  have EN : Hid (∀ (m : Nat) w, Calls Try.prog 15 #[frV F, .int .i64 m, ndV K] w fun e w' => e = .returned (.bool (enoughB F K m)) ∧ Below w.heap.size w w') := fun m w => enough_is F K m w
  have OV : Hid (∀ k (m : Nat) w, Calls Try.prog 9 #[spV (F k), .int .i64 m, .int .i64 (K k)] w fun e w' => e = .returned (.tuple #[spV (overF (F k) m (K k)), .bool (overB (F k) m (K k))]) ∧ Below w.heap.size w w') := fun k m w => over_is (F k) m (K k) w
  have HC0 : Hid (∀ w, Calls Try.prog 7 #[frV F, .int .i64 nodes, ndV K] w fun e w' => e = .returned (.tuple #[.int .i64 (headI (comes (rightH F K nodes 0) F K nodes 0)), .bool (anyL (comes (rightH F K nodes 0) F K nodes 0))]) ∧ Below w.heap.size w w') := hint_is F K nodes
  have LS : Hid (∀ m rest, comes (rightH F K nodes 0) F K nodes 0 = m :: rest → m < 256 ∧ enoughB F K (m : Int) = true ∧ ∀ i, i < 8 → tb m i = true → enoughB F K ((lessB m (i : Int) : Nat) : Int) = false) := fun m rest h => hint_least h
  obtain ⟨L, hL⟩ : ∃ L, L = comes (rightH F K nodes 0) F K nodes 0 := ⟨_, rfl⟩
  rw [← hL] at HC0 LS
  clear hL
  have q0 : Cs (w.alloc (.cells #[.int .i64 (F 0 0), .int .i64 (F 0 1), .int .i64 (F 0 2), .int .i64 (F 0 3), .int .i64 (F 0 4), .int .i64 (F 0 5), .int .i64 (F 0 6), .int .i64 (F 0 7), .int .i64 (F 1 0), .int .i64 (F 1 1), .int .i64 (F 1 2), .int .i64 (F 1 3), .int .i64 (F 1 4), .int .i64 (F 1 5), .int .i64 (F 1 6), .int .i64 (F 1 7), .int .i64 nodes, .int .i64 held, .int .i64 mask, .int .i64 (K 0), .int .i64 (K 1), .int .i64 most] 27)) w.heap.size [.int .i64 (F 0 0), .int .i64 (F 0 1), .int .i64 (F 0 2), .int .i64 (F 0 3), .int .i64 (F 0 4), .int .i64 (F 0 5), .int .i64 (F 0 6), .int .i64 (F 0 7), .int .i64 (F 1 0), .int .i64 (F 1 1), .int .i64 (F 1 2), .int .i64 (F 1 3), .int .i64 (F 1 4), .int .i64 (F 1 5), .int .i64 (F 1 6), .int .i64 (F 1 7), .int .i64 nodes, .int .i64 held, .int .i64 mask, .int .i64 (K 0), .int .i64 (K 1), .int .i64 most] := Cs.new _ _ _ _ rfl
  have g0 : Below w.heap.size w (w.alloc (.cells #[.int .i64 (F 0 0), .int .i64 (F 0 1), .int .i64 (F 0 2), .int .i64 (F 0 3), .int .i64 (F 0 4), .int .i64 (F 0 5), .int .i64 (F 0 6), .int .i64 (F 0 7), .int .i64 (F 1 0), .int .i64 (F 1 1), .int .i64 (F 1 2), .int .i64 (F 1 3), .int .i64 (F 1 4), .int .i64 (F 1 5), .int .i64 (F 1 6), .int .i64 (F 1 7), .int .i64 nodes, .int .i64 held, .int .i64 mask, .int .i64 (K 0), .int .i64 (K 1), .int .i64 most] 27)) := by go_grown
  go_enter Try.func4, Try.ntmps4
  go_wp2_with (fail)
  obtain ⟨b1, hb1⟩ : ∃ b1, b1 = w.heap.size := ⟨_, rfl⟩
  have e1 : Value.pointer (some ⟨w.heap.size, 0, none⟩) = .pointer (some ⟨b1, 0, none⟩) := by rw [hb1]
  have q0' : Cs (w.alloc (.cells #[.int .i64 (F 0 0), .int .i64 (F 0 1), .int .i64 (F 0 2), .int .i64 (F 0 3), .int .i64 (F 0 4), .int .i64 (F 0 5), .int .i64 (F 0 6), .int .i64 (F 0 7), .int .i64 (F 1 0), .int .i64 (F 1 1), .int .i64 (F 1 2), .int .i64 (F 1 3), .int .i64 (F 1 4), .int .i64 (F 1 5), .int .i64 (F 1 6), .int .i64 (F 1 7), .int .i64 nodes, .int .i64 held, .int .i64 mask, .int .i64 (K 0), .int .i64 (K 1), .int .i64 most] 27)) b1 [.int .i64 (F 0 0), .int .i64 (F 0 1), .int .i64 (F 0 2), .int .i64 (F 0 3), .int .i64 (F 0 4), .int .i64 (F 0 5), .int .i64 (F 0 6), .int .i64 (F 0 7), .int .i64 (F 1 0), .int .i64 (F 1 1), .int .i64 (F 1 2), .int .i64 (F 1 3), .int .i64 (F 1 4), .int .i64 (F 1 5), .int .i64 (F 1 6), .int .i64 (F 1 7), .int .i64 nodes, .int .i64 held, .int .i64 mask, .int .i64 (K 0), .int .i64 (K 1), .int .i64 most] := by rw [hb1]; exact q0
  rw [e1]
  clear hb1 e1 q0
  refine (first_is _).mono ?_
  generalize w.alloc (.cells #[.int .i64 (F 0 0), .int .i64 (F 0 1), .int .i64 (F 0 2), .int .i64 (F 0 3), .int .i64 (F 0 4), .int .i64 (F 0 5), .int .i64 (F 0 6), .int .i64 (F 0 7), .int .i64 (F 1 0), .int .i64 (F 1 1), .int .i64 (F 1 2), .int .i64 (F 1 3), .int .i64 (F 1 4), .int .i64 (F 1 5), .int .i64 (F 1 6), .int .i64 (F 1 7), .int .i64 nodes, .int .i64 held, .int .i64 mask, .int .i64 (K 0), .int .i64 (K 1), .int .i64 most] 27) = W0 at *
  rintro e w1 ⟨rfl, hb⟩
  have q1 := Cs.later hb q0'
  have g1 := g0.trans (hb.mono g0.size)
  clear q0' g0 hb
  have c16 := q1.1 16 _ rfl
  have c19 := q1.1 19 _ rfl
  have c20 := q1.1 20 _ rfl
  have zc := q1.2.2
  go_wp2_with (first | (refine ld16 (F := F) (case_free q1) rfl _ rfl rfl ?_) | fail)
  refine (HC0.out _).mono ?_
  rintro e w2 ⟨rfl, hb⟩
  have q2 := Cs.later hb q1
  have g2 := g1.trans (hb.mono g1.size)
  clear HC0 q1 g1 hb c16 c19 c20 zc
  cases L with
  | nil =>
    clear LS EN OV
    have a1 : headI [] = 0 := rfl
    have a2 : anyL [] = false := rfl
    rw [a1, a2]
    go_wp2
    go_ret
    exact ⟨rfl, g2⟩
  | cons m rest =>
    obtain ⟨m8, LE, LN⟩ := LS.out m rest rfl
    have a1 : headI (m :: rest) = (m : Int) := rfl
    have a2 : anyL (m :: rest) = true := rfl
    rw [a1, a2]
    clear LS a1 a2
    have E0 := EN.out m
    rw [LE] at E0
    have HE0 : Hid _ := E0
    have M8 : Hid (m < 256 ∧ True) := ⟨m8, trivial⟩
    have HLE : Hid (enoughB F K (m : Int) = true ∧ True) := ⟨LE, trivial⟩
    have HLN : Hid ((∀ i, i < 8 → tb m i = true → enoughB F K ((lessB m (i : Int) : Nat) : Int) = false) ∧ True) := ⟨LN, trivial⟩
    clear E0 LE LN m8
    have c16 := q2.1 16 _ rfl
    have c19 := q2.1 19 _ rfl
    have c20 := q2.1 20 _ rfl
    have zc := q2.2.2
    go_wp2_with (first | (refine ld16 (F := F) (case_free q2) rfl _ rfl rfl ?_) | fail)
    refine (HE0.out _).mono ?_
    rintro e w3 ⟨rfl, hb⟩
    have q3 := Cs.later hb q2
    have g3 := g2.trans (hb.mono g2.size)
    clear HE0 q2 g2 hb c16 c19 c20 zc
    go_wp2
    go_loopw [35] (fun f wr => ∃ i : Nat, f = .int .i64 i ∧ i ≤ 8 ∧ Cs wr b1 [.int .i64 (F 0 0), .int .i64 (F 0 1), .int .i64 (F 0 2), .int .i64 (F 0 3), .int .i64 (F 0 4), .int .i64 (F 0 5), .int .i64 (F 0 6), .int .i64 (F 0 7), .int .i64 (F 1 0), .int .i64 (F 1 1), .int .i64 (F 1 2), .int .i64 (F 1 3), .int .i64 (F 1 4), .int .i64 (F 1 5), .int .i64 (F 1 6), .int .i64 (F 1 7), .int .i64 nodes, .int .i64 held, .int .i64 mask, .int .i64 (K 0), .int .i64 (K 1), .int .i64 most] ∧ Below w.heap.size w wr) (fun f _ => 8 - (intOf f).toNat)
    case atStart => exact ⟨0, rfl, by omega, q3, g3⟩
    case round =>
      clear q3 g3
      obtain ⟨i, rfl, il, q4, HB⟩ := hrel
      by_cases ci : i < 8
      · have j0 : (0 : Int) ≤ (i : Int) := by omega
        have j1 : (i : Int) < 8 := by omega
        have B1 : (bits .and .i64 ((m : Int) / 2 ^ i) 1 == 1) = tb m i := bit_at ⟨m, M8.out.1⟩ ⟨i, ci⟩
        have B2 : bits .andNot .i64 (m : Int) (IntKind.i64.wrap (2 ^ i)) = (lessB m (i : Int) : Int) := less_at ⟨m, M8.out.1⟩ ⟨i, ci⟩
        go_upto_region 11 with (fail)
        cases ht : tb m i with
        | false =>
          rw [ht] at B1
          clear ht B2
          have F_0 : Hid (Below wr.heap.size wr _) := Below.drew (Below.refl _ _)
          refine wp_region_noPanic ?_
          refine wp_region_held_drew (S := fun w' => Cs w' b1 [.int .i64 (F 0 0), .int .i64 (F 0 1), .int .i64 (F 0 2), .int .i64 (F 0 3), .int .i64 (F 0 4), .int .i64 (F 0 5), .int .i64 (F 0 6), .int .i64 (F 0 7), .int .i64 (F 1 0), .int .i64 (F 1 1), .int .i64 (F 1 2), .int .i64 (F 1 3), .int .i64 (F 1 4), .int .i64 (F 1 5), .int .i64 (F 1 6), .int .i64 (F 1 7), .int .i64 nodes, .int .i64 held, .int .i64 mask, .int .i64 (K 0), .int .i64 (K 1), .int .i64 most]) (by kernel_rfl) ?_ (fun hHeld => ?_)
          · exact Cs.later F_0.out q4
          refine wpAnyH_take (i := 0) (v := ?_) rfl (by kernel_rfl) (by kernel_rfl) (by kernel_rfl) (fun _ _ _ h => h) (Or.inl ⟨by rfl, ?_⟩) (by assumption) ?_
          rotate_left
          · (intro wS hSw; have c0 := hSw.1 0 _ rfl; have c1 := hSw.1 1 _ rfl; have c2 := hSw.1 2 _ rfl; have c3 := hSw.1 3 _ rfl; have c4 := hSw.1 4 _ rfl; have c5 := hSw.1 5 _ rfl; have c6 := hSw.1 6 _ rfl; have c7 := hSw.1 7 _ rfl; have c8 := hSw.1 8 _ rfl; have c9 := hSw.1 9 _ rfl; have c10 := hSw.1 10 _ rfl; have c11 := hSw.1 11 _ rfl; have c12 := hSw.1 12 _ rfl; have c13 := hSw.1 13 _ rfl; have c14 := hSw.1 14 _ rfl; have c15 := hSw.1 15 _ rfl; have c16 := hSw.1 16 _ rfl; have c17 := hSw.1 17 _ rfl; have c18 := hSw.1 18 _ rfl; have c19 := hSw.1 19 _ rfl; have c20 := hSw.1 20 _ rfl; have c21 := hSw.1 21 _ rfl; have zc := hSw.2.2; go_simp; try with_reducible rfl)
          change wpAnyH _ _ _ _ _ _ _ (Act.put _ (some 38) _) _
          simp only [Act.put, List.setIfInBounds_toArray, List.set_cons_zero, List.set_cons_succ]
          refine wpAnyH_take (i := 1) (v := ?_) rfl (by kernel_rfl) (by kernel_rfl) (by kernel_rfl) (fun _ _ _ h => h) (Or.inl ⟨by rfl, ?_⟩) (by assumption) ?_
          rotate_left
          · (intro wS hSw; have c0 := hSw.1 0 _ rfl; have c1 := hSw.1 1 _ rfl; have c2 := hSw.1 2 _ rfl; have c3 := hSw.1 3 _ rfl; have c4 := hSw.1 4 _ rfl; have c5 := hSw.1 5 _ rfl; have c6 := hSw.1 6 _ rfl; have c7 := hSw.1 7 _ rfl; have c8 := hSw.1 8 _ rfl; have c9 := hSw.1 9 _ rfl; have c10 := hSw.1 10 _ rfl; have c11 := hSw.1 11 _ rfl; have c12 := hSw.1 12 _ rfl; have c13 := hSw.1 13 _ rfl; have c14 := hSw.1 14 _ rfl; have c15 := hSw.1 15 _ rfl; have c16 := hSw.1 16 _ rfl; have c17 := hSw.1 17 _ rfl; have c18 := hSw.1 18 _ rfl; have c19 := hSw.1 19 _ rfl; have c20 := hSw.1 20 _ rfl; have c21 := hSw.1 21 _ rfl; have zc := hSw.2.2; go_simp; try with_reducible rfl)
          change wpAnyH _ _ _ _ _ _ _ (Act.put _ (some 39) _) _
          simp only [Act.put, List.setIfInBounds_toArray, List.set_cons_zero, List.set_cons_succ]
          refine wpAnyH_take (i := 2) (v := ?_) rfl (by kernel_rfl) (by kernel_rfl) (by kernel_rfl) (fun _ _ _ h => h) (Or.inl ⟨by rfl, ?_⟩) (by assumption) ?_
          rotate_left
          · (intro wS hSw; have c0 := hSw.1 0 _ rfl; have c1 := hSw.1 1 _ rfl; have c2 := hSw.1 2 _ rfl; have c3 := hSw.1 3 _ rfl; have c4 := hSw.1 4 _ rfl; have c5 := hSw.1 5 _ rfl; have c6 := hSw.1 6 _ rfl; have c7 := hSw.1 7 _ rfl; have c8 := hSw.1 8 _ rfl; have c9 := hSw.1 9 _ rfl; have c10 := hSw.1 10 _ rfl; have c11 := hSw.1 11 _ rfl; have c12 := hSw.1 12 _ rfl; have c13 := hSw.1 13 _ rfl; have c14 := hSw.1 14 _ rfl; have c15 := hSw.1 15 _ rfl; have c16 := hSw.1 16 _ rfl; have c17 := hSw.1 17 _ rfl; have c18 := hSw.1 18 _ rfl; have c19 := hSw.1 19 _ rfl; have c20 := hSw.1 20 _ rfl; have c21 := hSw.1 21 _ rfl; have zc := hSw.2.2; go_simp; try with_reducible rfl)
          change wpAnyH _ _ _ _ _ _ _ (Act.put _ (some 40) _) _
          simp only [Act.put, List.setIfInBounds_toArray, List.set_cons_zero, List.set_cons_succ]
          refine wpAnyH_take (i := 3) (v := ?_) rfl (by kernel_rfl) (by kernel_rfl) (by kernel_rfl) (fun _ _ _ h => h) (Or.inl ⟨by rfl, ?_⟩) (by assumption) ?_
          rotate_left
          · (intro wS hSw; have c0 := hSw.1 0 _ rfl; have c1 := hSw.1 1 _ rfl; have c2 := hSw.1 2 _ rfl; have c3 := hSw.1 3 _ rfl; have c4 := hSw.1 4 _ rfl; have c5 := hSw.1 5 _ rfl; have c6 := hSw.1 6 _ rfl; have c7 := hSw.1 7 _ rfl; have c8 := hSw.1 8 _ rfl; have c9 := hSw.1 9 _ rfl; have c10 := hSw.1 10 _ rfl; have c11 := hSw.1 11 _ rfl; have c12 := hSw.1 12 _ rfl; have c13 := hSw.1 13 _ rfl; have c14 := hSw.1 14 _ rfl; have c15 := hSw.1 15 _ rfl; have c16 := hSw.1 16 _ rfl; have c17 := hSw.1 17 _ rfl; have c18 := hSw.1 18 _ rfl; have c19 := hSw.1 19 _ rfl; have c20 := hSw.1 20 _ rfl; have c21 := hSw.1 21 _ rfl; have zc := hSw.2.2; go_simp; try with_reducible rfl)
          change wpAnyH _ _ _ _ _ _ _ (Act.put _ (some 41) _) _
          simp only [Act.put, List.setIfInBounds_toArray, List.set_cons_zero, List.set_cons_succ]
          refine wpAnyH_take (i := 4) (v := ?_) rfl (by kernel_rfl) (by kernel_rfl) (by kernel_rfl) (fun _ _ _ h => h) (Or.inl ⟨by rfl, ?_⟩) (by assumption) ?_
          rotate_left
          · (intro wS hSw; have c0 := hSw.1 0 _ rfl; have c1 := hSw.1 1 _ rfl; have c2 := hSw.1 2 _ rfl; have c3 := hSw.1 3 _ rfl; have c4 := hSw.1 4 _ rfl; have c5 := hSw.1 5 _ rfl; have c6 := hSw.1 6 _ rfl; have c7 := hSw.1 7 _ rfl; have c8 := hSw.1 8 _ rfl; have c9 := hSw.1 9 _ rfl; have c10 := hSw.1 10 _ rfl; have c11 := hSw.1 11 _ rfl; have c12 := hSw.1 12 _ rfl; have c13 := hSw.1 13 _ rfl; have c14 := hSw.1 14 _ rfl; have c15 := hSw.1 15 _ rfl; have c16 := hSw.1 16 _ rfl; have c17 := hSw.1 17 _ rfl; have c18 := hSw.1 18 _ rfl; have c19 := hSw.1 19 _ rfl; have c20 := hSw.1 20 _ rfl; have c21 := hSw.1 21 _ rfl; have zc := hSw.2.2; go_simp; try with_reducible rfl)
          change wpAnyH _ _ _ _ _ _ _ (Act.put _ (some 42) _) _
          simp only [Act.put, List.setIfInBounds_toArray, List.set_cons_zero, List.set_cons_succ]
          refine wpAnyH_take (i := 5) (v := ?_) rfl (by kernel_rfl) (by kernel_rfl) (by kernel_rfl) (fun _ _ _ h => h) (Or.inl ⟨by rfl, ?_⟩) (by assumption) ?_
          rotate_left
          · (intro wS hSw; have c0 := hSw.1 0 _ rfl; have c1 := hSw.1 1 _ rfl; have c2 := hSw.1 2 _ rfl; have c3 := hSw.1 3 _ rfl; have c4 := hSw.1 4 _ rfl; have c5 := hSw.1 5 _ rfl; have c6 := hSw.1 6 _ rfl; have c7 := hSw.1 7 _ rfl; have c8 := hSw.1 8 _ rfl; have c9 := hSw.1 9 _ rfl; have c10 := hSw.1 10 _ rfl; have c11 := hSw.1 11 _ rfl; have c12 := hSw.1 12 _ rfl; have c13 := hSw.1 13 _ rfl; have c14 := hSw.1 14 _ rfl; have c15 := hSw.1 15 _ rfl; have c16 := hSw.1 16 _ rfl; have c17 := hSw.1 17 _ rfl; have c18 := hSw.1 18 _ rfl; have c19 := hSw.1 19 _ rfl; have c20 := hSw.1 20 _ rfl; have c21 := hSw.1 21 _ rfl; have zc := hSw.2.2; go_simp; try with_reducible rfl)
          change wpAnyH _ _ _ _ _ _ _ (Act.put _ (some 43) _) _
          simp only [Act.put, List.setIfInBounds_toArray, List.set_cons_zero, List.set_cons_succ]
          refine wpAnyH_take (i := 6) (v := undef) rfl (by kernel_rfl) (by kernel_rfl) (by kernel_rfl) (fun _ _ _ h => h) (Or.inr ⟨by rfl, rfl⟩) (by assumption) ?_
          change wpAnyH _ _ _ _ _ _ _ (Act.put _ (some 44) _) _
          simp only [Act.put, List.setIfInBounds_toArray, List.set_cons_zero, List.set_cons_succ]
          refine wpAnyH_take (i := 7) (v := undef) rfl (by kernel_rfl) (by kernel_rfl) (by kernel_rfl) (fun _ _ _ h => h) (Or.inr ⟨by rfl, rfl⟩) (by assumption) ?_
          change wpAnyH _ _ _ _ _ _ _ (Act.put _ (some 45) _) _
          simp only [Act.put, List.setIfInBounds_toArray, List.set_cons_zero, List.set_cons_succ]
          refine wpAnyH_take (i := 8) (v := undef) rfl (by kernel_rfl) (by kernel_rfl) (by kernel_rfl) (fun _ _ _ h => h) (Or.inr ⟨by rfl, rfl⟩) (by assumption) ?_
          change wpAnyH _ _ _ _ _ _ _ (Act.put _ (some 46) _) _
          simp only [Act.put, List.setIfInBounds_toArray, List.set_cons_zero, List.set_cons_succ]
          refine wpAnyH_take (i := 9) (v := undef) rfl (by kernel_rfl) (by kernel_rfl) (by kernel_rfl) (fun _ _ _ h => h) (Or.inr ⟨by rfl, rfl⟩) (by assumption) ?_
          change wpAnyH _ _ _ _ _ _ _ (Act.put _ (some 47) _) _
          simp only [Act.put, List.setIfInBounds_toArray, List.set_cons_zero, List.set_cons_succ]
          refine wpAnyH_take (i := 10) (v := undef) rfl (by kernel_rfl) (by kernel_rfl) (by kernel_rfl) (fun _ _ _ h => h) (Or.inr ⟨by rfl, rfl⟩) (by assumption) ?_
          change wpAnyH _ _ _ _ _ _ _ (Act.put _ (some 48) _) _
          simp only [Act.put, List.setIfInBounds_toArray, List.set_cons_zero, List.set_cons_succ]
          refine wpAnyH_take (i := 11) (v := undef) rfl (by kernel_rfl) (by kernel_rfl) (by kernel_rfl) (fun _ _ _ h => h) (Or.inr ⟨by rfl, rfl⟩) (by assumption) ?_
          change wpAnyH _ _ _ _ _ _ _ (Act.put _ (some 49) _) _
          simp only [Act.put, List.setIfInBounds_toArray, List.set_cons_zero, List.set_cons_succ]
          refine wpAnyH_take (i := 12) (v := undef) rfl (by kernel_rfl) (by kernel_rfl) (by kernel_rfl) (fun _ _ _ h => h) (Or.inr ⟨by rfl, rfl⟩) (by assumption) ?_
          change wpAnyH _ _ _ _ _ _ _ (Act.put _ (some 50) _) _
          simp only [Act.put, List.setIfInBounds_toArray, List.set_cons_zero, List.set_cons_succ]
          refine wpAnyH_take (i := 13) (v := undef) rfl (by kernel_rfl) (by kernel_rfl) (by kernel_rfl) (fun _ _ _ h => h) (Or.inr ⟨by rfl, rfl⟩) (by assumption) ?_
          change wpAnyH _ _ _ _ _ _ _ (Act.put _ (some 51) _) _
          simp only [Act.put, List.setIfInBounds_toArray, List.set_cons_zero, List.set_cons_succ]
          refine wpAnyH_take (i := 14) (v := undef) rfl (by kernel_rfl) (by kernel_rfl) (by kernel_rfl) (fun _ _ _ h => h) (Or.inr ⟨by rfl, rfl⟩) (by assumption) ?_
          change wpAnyH _ _ _ _ _ _ _ (Act.put _ (some 52) _) _
          simp only [Act.put, List.setIfInBounds_toArray, List.set_cons_zero, List.set_cons_succ]
          refine wpAnyH_take (i := 15) (v := ?_) rfl (by kernel_rfl) (by kernel_rfl) (by kernel_rfl) (fun _ _ _ h => h) (Or.inl ⟨by rfl, ?_⟩) (by assumption) ?_
          rotate_left
          · (intro wS hSw; have c0 := hSw.1 0 _ rfl; have c1 := hSw.1 1 _ rfl; have c2 := hSw.1 2 _ rfl; have c3 := hSw.1 3 _ rfl; have c4 := hSw.1 4 _ rfl; have c5 := hSw.1 5 _ rfl; have c6 := hSw.1 6 _ rfl; have c7 := hSw.1 7 _ rfl; have c8 := hSw.1 8 _ rfl; have c9 := hSw.1 9 _ rfl; have c10 := hSw.1 10 _ rfl; have c11 := hSw.1 11 _ rfl; have c12 := hSw.1 12 _ rfl; have c13 := hSw.1 13 _ rfl; have c14 := hSw.1 14 _ rfl; have c15 := hSw.1 15 _ rfl; have c16 := hSw.1 16 _ rfl; have c17 := hSw.1 17 _ rfl; have c18 := hSw.1 18 _ rfl; have c19 := hSw.1 19 _ rfl; have c20 := hSw.1 20 _ rfl; have c21 := hSw.1 21 _ rfl; have zc := hSw.2.2; go_simp; try with_reducible rfl)
          change wpAnyH _ _ _ _ _ _ _ (Act.put _ (some 53) _) _
          simp only [Act.put, List.setIfInBounds_toArray, List.set_cons_zero, List.set_cons_succ]
          refine wpAnyH_done (by kernel_rfl) ?_ _
          refine NoPanic.normal ?_
          go_wp2
          go_roundw
          case rel => exact ⟨i + 1, by go_num, by omega, Cs.later F_0.out q4, HB.trans (F_0.out.mono HB.size)⟩
          case measure => simp [intOf]; omega
        | true =>
          have EE : Hid (∀ w, Calls Try.prog 15 #[frV F, .int .i64 (lessB m (i : Int) : Nat), ndV K] w fun e w' => e = .returned (.bool false) ∧ Below w.heap.size w w') := fun w => by
            have := EN.out (lessB m (i : Int)) w
            rwa [HLN.out.1 i ci ht] at this
          rw [ht] at B1
          clear ht
          have F_0 : Hid (Below wr.heap.size wr _) := Below.drew (Below.refl _ _)
          refine wp_region_noPanic ?_
          refine wp_region_held_drew (S := fun w' => Cs w' b1 [.int .i64 (F 0 0), .int .i64 (F 0 1), .int .i64 (F 0 2), .int .i64 (F 0 3), .int .i64 (F 0 4), .int .i64 (F 0 5), .int .i64 (F 0 6), .int .i64 (F 0 7), .int .i64 (F 1 0), .int .i64 (F 1 1), .int .i64 (F 1 2), .int .i64 (F 1 3), .int .i64 (F 1 4), .int .i64 (F 1 5), .int .i64 (F 1 6), .int .i64 (F 1 7), .int .i64 nodes, .int .i64 held, .int .i64 mask, .int .i64 (K 0), .int .i64 (K 1), .int .i64 most]) (by kernel_rfl) ?_ (fun hHeld => ?_)
          · exact Cs.later F_0.out q4
          refine wpAnyH_take (i := 0) (v := ?_) rfl (by kernel_rfl) (by kernel_rfl) (by kernel_rfl) (fun _ _ _ h => h) (Or.inl ⟨by rfl, ?_⟩) (by assumption) ?_
          rotate_left
          · (intro wS hSw; have c0 := hSw.1 0 _ rfl; have c1 := hSw.1 1 _ rfl; have c2 := hSw.1 2 _ rfl; have c3 := hSw.1 3 _ rfl; have c4 := hSw.1 4 _ rfl; have c5 := hSw.1 5 _ rfl; have c6 := hSw.1 6 _ rfl; have c7 := hSw.1 7 _ rfl; have c8 := hSw.1 8 _ rfl; have c9 := hSw.1 9 _ rfl; have c10 := hSw.1 10 _ rfl; have c11 := hSw.1 11 _ rfl; have c12 := hSw.1 12 _ rfl; have c13 := hSw.1 13 _ rfl; have c14 := hSw.1 14 _ rfl; have c15 := hSw.1 15 _ rfl; have c16 := hSw.1 16 _ rfl; have c17 := hSw.1 17 _ rfl; have c18 := hSw.1 18 _ rfl; have c19 := hSw.1 19 _ rfl; have c20 := hSw.1 20 _ rfl; have c21 := hSw.1 21 _ rfl; have zc := hSw.2.2; go_simp; try with_reducible rfl)
          change wpAnyH _ _ _ _ _ _ _ (Act.put _ (some 38) _) _
          simp only [Act.put, List.setIfInBounds_toArray, List.set_cons_zero, List.set_cons_succ]
          refine wpAnyH_take (i := 1) (v := ?_) rfl (by kernel_rfl) (by kernel_rfl) (by kernel_rfl) (fun _ _ _ h => h) (Or.inl ⟨by rfl, ?_⟩) (by assumption) ?_
          rotate_left
          · (intro wS hSw; have c0 := hSw.1 0 _ rfl; have c1 := hSw.1 1 _ rfl; have c2 := hSw.1 2 _ rfl; have c3 := hSw.1 3 _ rfl; have c4 := hSw.1 4 _ rfl; have c5 := hSw.1 5 _ rfl; have c6 := hSw.1 6 _ rfl; have c7 := hSw.1 7 _ rfl; have c8 := hSw.1 8 _ rfl; have c9 := hSw.1 9 _ rfl; have c10 := hSw.1 10 _ rfl; have c11 := hSw.1 11 _ rfl; have c12 := hSw.1 12 _ rfl; have c13 := hSw.1 13 _ rfl; have c14 := hSw.1 14 _ rfl; have c15 := hSw.1 15 _ rfl; have c16 := hSw.1 16 _ rfl; have c17 := hSw.1 17 _ rfl; have c18 := hSw.1 18 _ rfl; have c19 := hSw.1 19 _ rfl; have c20 := hSw.1 20 _ rfl; have c21 := hSw.1 21 _ rfl; have zc := hSw.2.2; go_simp; try with_reducible rfl)
          change wpAnyH _ _ _ _ _ _ _ (Act.put _ (some 39) _) _
          simp only [Act.put, List.setIfInBounds_toArray, List.set_cons_zero, List.set_cons_succ]
          refine wpAnyH_take (i := 2) (v := ?_) rfl (by kernel_rfl) (by kernel_rfl) (by kernel_rfl) (fun _ _ _ h => h) (Or.inl ⟨by rfl, ?_⟩) (by assumption) ?_
          rotate_left
          · (intro wS hSw; have c0 := hSw.1 0 _ rfl; have c1 := hSw.1 1 _ rfl; have c2 := hSw.1 2 _ rfl; have c3 := hSw.1 3 _ rfl; have c4 := hSw.1 4 _ rfl; have c5 := hSw.1 5 _ rfl; have c6 := hSw.1 6 _ rfl; have c7 := hSw.1 7 _ rfl; have c8 := hSw.1 8 _ rfl; have c9 := hSw.1 9 _ rfl; have c10 := hSw.1 10 _ rfl; have c11 := hSw.1 11 _ rfl; have c12 := hSw.1 12 _ rfl; have c13 := hSw.1 13 _ rfl; have c14 := hSw.1 14 _ rfl; have c15 := hSw.1 15 _ rfl; have c16 := hSw.1 16 _ rfl; have c17 := hSw.1 17 _ rfl; have c18 := hSw.1 18 _ rfl; have c19 := hSw.1 19 _ rfl; have c20 := hSw.1 20 _ rfl; have c21 := hSw.1 21 _ rfl; have zc := hSw.2.2; go_simp; try with_reducible rfl)
          change wpAnyH _ _ _ _ _ _ _ (Act.put _ (some 40) _) _
          simp only [Act.put, List.setIfInBounds_toArray, List.set_cons_zero, List.set_cons_succ]
          refine wpAnyH_take (i := 3) (v := ?_) rfl (by kernel_rfl) (by kernel_rfl) (by kernel_rfl) (fun _ _ _ h => h) (Or.inl ⟨by rfl, ?_⟩) (by assumption) ?_
          rotate_left
          · (intro wS hSw; have c0 := hSw.1 0 _ rfl; have c1 := hSw.1 1 _ rfl; have c2 := hSw.1 2 _ rfl; have c3 := hSw.1 3 _ rfl; have c4 := hSw.1 4 _ rfl; have c5 := hSw.1 5 _ rfl; have c6 := hSw.1 6 _ rfl; have c7 := hSw.1 7 _ rfl; have c8 := hSw.1 8 _ rfl; have c9 := hSw.1 9 _ rfl; have c10 := hSw.1 10 _ rfl; have c11 := hSw.1 11 _ rfl; have c12 := hSw.1 12 _ rfl; have c13 := hSw.1 13 _ rfl; have c14 := hSw.1 14 _ rfl; have c15 := hSw.1 15 _ rfl; have c16 := hSw.1 16 _ rfl; have c17 := hSw.1 17 _ rfl; have c18 := hSw.1 18 _ rfl; have c19 := hSw.1 19 _ rfl; have c20 := hSw.1 20 _ rfl; have c21 := hSw.1 21 _ rfl; have zc := hSw.2.2; go_simp; try with_reducible rfl)
          change wpAnyH _ _ _ _ _ _ _ (Act.put _ (some 41) _) _
          simp only [Act.put, List.setIfInBounds_toArray, List.set_cons_zero, List.set_cons_succ]
          refine wpAnyH_take (i := 4) (v := ?_) rfl (by kernel_rfl) (by kernel_rfl) (by kernel_rfl) (fun _ _ _ h => h) (Or.inl ⟨by rfl, ?_⟩) (by assumption) ?_
          rotate_left
          · (intro wS hSw; have c0 := hSw.1 0 _ rfl; have c1 := hSw.1 1 _ rfl; have c2 := hSw.1 2 _ rfl; have c3 := hSw.1 3 _ rfl; have c4 := hSw.1 4 _ rfl; have c5 := hSw.1 5 _ rfl; have c6 := hSw.1 6 _ rfl; have c7 := hSw.1 7 _ rfl; have c8 := hSw.1 8 _ rfl; have c9 := hSw.1 9 _ rfl; have c10 := hSw.1 10 _ rfl; have c11 := hSw.1 11 _ rfl; have c12 := hSw.1 12 _ rfl; have c13 := hSw.1 13 _ rfl; have c14 := hSw.1 14 _ rfl; have c15 := hSw.1 15 _ rfl; have c16 := hSw.1 16 _ rfl; have c17 := hSw.1 17 _ rfl; have c18 := hSw.1 18 _ rfl; have c19 := hSw.1 19 _ rfl; have c20 := hSw.1 20 _ rfl; have c21 := hSw.1 21 _ rfl; have zc := hSw.2.2; go_simp; try with_reducible rfl)
          change wpAnyH _ _ _ _ _ _ _ (Act.put _ (some 42) _) _
          simp only [Act.put, List.setIfInBounds_toArray, List.set_cons_zero, List.set_cons_succ]
          refine wpAnyH_take (i := 5) (v := ?_) rfl (by kernel_rfl) (by kernel_rfl) (by kernel_rfl) (fun _ _ _ h => h) (Or.inl ⟨by rfl, ?_⟩) (by assumption) ?_
          rotate_left
          · (intro wS hSw; have c0 := hSw.1 0 _ rfl; have c1 := hSw.1 1 _ rfl; have c2 := hSw.1 2 _ rfl; have c3 := hSw.1 3 _ rfl; have c4 := hSw.1 4 _ rfl; have c5 := hSw.1 5 _ rfl; have c6 := hSw.1 6 _ rfl; have c7 := hSw.1 7 _ rfl; have c8 := hSw.1 8 _ rfl; have c9 := hSw.1 9 _ rfl; have c10 := hSw.1 10 _ rfl; have c11 := hSw.1 11 _ rfl; have c12 := hSw.1 12 _ rfl; have c13 := hSw.1 13 _ rfl; have c14 := hSw.1 14 _ rfl; have c15 := hSw.1 15 _ rfl; have c16 := hSw.1 16 _ rfl; have c17 := hSw.1 17 _ rfl; have c18 := hSw.1 18 _ rfl; have c19 := hSw.1 19 _ rfl; have c20 := hSw.1 20 _ rfl; have c21 := hSw.1 21 _ rfl; have zc := hSw.2.2; go_simp; try with_reducible rfl)
          change wpAnyH _ _ _ _ _ _ _ (Act.put _ (some 43) _) _
          simp only [Act.put, List.setIfInBounds_toArray, List.set_cons_zero, List.set_cons_succ]
          refine wpAnyH_take (i := 6) (v := ?_) rfl (by kernel_rfl) (by kernel_rfl) (by kernel_rfl) (fun _ _ _ h => h) (Or.inl ⟨by rfl, ?_⟩) (by assumption) ?_
          rotate_left
          · (intro wS hSw; have c0 := hSw.1 0 _ rfl; have c1 := hSw.1 1 _ rfl; have c2 := hSw.1 2 _ rfl; have c3 := hSw.1 3 _ rfl; have c4 := hSw.1 4 _ rfl; have c5 := hSw.1 5 _ rfl; have c6 := hSw.1 6 _ rfl; have c7 := hSw.1 7 _ rfl; have c8 := hSw.1 8 _ rfl; have c9 := hSw.1 9 _ rfl; have c10 := hSw.1 10 _ rfl; have c11 := hSw.1 11 _ rfl; have c12 := hSw.1 12 _ rfl; have c13 := hSw.1 13 _ rfl; have c14 := hSw.1 14 _ rfl; have c15 := hSw.1 15 _ rfl; have c16 := hSw.1 16 _ rfl; have c17 := hSw.1 17 _ rfl; have c18 := hSw.1 18 _ rfl; have c19 := hSw.1 19 _ rfl; have c20 := hSw.1 20 _ rfl; have c21 := hSw.1 21 _ rfl; have zc := hSw.2.2; go_simp; try with_reducible rfl)
          change wpAnyH _ _ _ _ _ _ _ (Act.put _ (some 44) _) _
          simp only [Act.put, List.setIfInBounds_toArray, List.set_cons_zero, List.set_cons_succ]
          refine wpAnyH_take (i := 7) (v := ?_) rfl (by kernel_rfl) (by kernel_rfl) (by kernel_rfl) (fun _ _ _ h => h) (Or.inl ⟨by rfl, ?_⟩) (by assumption) ?_
          rotate_left
          · (intro wS hSw; have c0 := hSw.1 0 _ rfl; have c1 := hSw.1 1 _ rfl; have c2 := hSw.1 2 _ rfl; have c3 := hSw.1 3 _ rfl; have c4 := hSw.1 4 _ rfl; have c5 := hSw.1 5 _ rfl; have c6 := hSw.1 6 _ rfl; have c7 := hSw.1 7 _ rfl; have c8 := hSw.1 8 _ rfl; have c9 := hSw.1 9 _ rfl; have c10 := hSw.1 10 _ rfl; have c11 := hSw.1 11 _ rfl; have c12 := hSw.1 12 _ rfl; have c13 := hSw.1 13 _ rfl; have c14 := hSw.1 14 _ rfl; have c15 := hSw.1 15 _ rfl; have c16 := hSw.1 16 _ rfl; have c17 := hSw.1 17 _ rfl; have c18 := hSw.1 18 _ rfl; have c19 := hSw.1 19 _ rfl; have c20 := hSw.1 20 _ rfl; have c21 := hSw.1 21 _ rfl; have zc := hSw.2.2; go_simp; try with_reducible rfl)
          change wpAnyH _ _ _ _ _ _ _ (Act.put _ (some 45) _) _
          simp only [Act.put, List.setIfInBounds_toArray, List.set_cons_zero, List.set_cons_succ]
          refine wpAnyH_take (i := 8) (v := ?_) rfl (by kernel_rfl) (by kernel_rfl) (by kernel_rfl) (fun _ _ _ h => h) (Or.inl ⟨by rfl, ?_⟩) (by assumption) ?_
          rotate_left
          · (intro wS hSw; have c0 := hSw.1 0 _ rfl; have c1 := hSw.1 1 _ rfl; have c2 := hSw.1 2 _ rfl; have c3 := hSw.1 3 _ rfl; have c4 := hSw.1 4 _ rfl; have c5 := hSw.1 5 _ rfl; have c6 := hSw.1 6 _ rfl; have c7 := hSw.1 7 _ rfl; have c8 := hSw.1 8 _ rfl; have c9 := hSw.1 9 _ rfl; have c10 := hSw.1 10 _ rfl; have c11 := hSw.1 11 _ rfl; have c12 := hSw.1 12 _ rfl; have c13 := hSw.1 13 _ rfl; have c14 := hSw.1 14 _ rfl; have c15 := hSw.1 15 _ rfl; have c16 := hSw.1 16 _ rfl; have c17 := hSw.1 17 _ rfl; have c18 := hSw.1 18 _ rfl; have c19 := hSw.1 19 _ rfl; have c20 := hSw.1 20 _ rfl; have c21 := hSw.1 21 _ rfl; have zc := hSw.2.2; go_simp; try with_reducible rfl)
          change wpAnyH _ _ _ _ _ _ _ (Act.put _ (some 46) _) _
          simp only [Act.put, List.setIfInBounds_toArray, List.set_cons_zero, List.set_cons_succ]
          refine wpAnyH_take (i := 9) (v := ?_) rfl (by kernel_rfl) (by kernel_rfl) (by kernel_rfl) (fun _ _ _ h => h) (Or.inl ⟨by rfl, ?_⟩) (by assumption) ?_
          rotate_left
          · (intro wS hSw; have c0 := hSw.1 0 _ rfl; have c1 := hSw.1 1 _ rfl; have c2 := hSw.1 2 _ rfl; have c3 := hSw.1 3 _ rfl; have c4 := hSw.1 4 _ rfl; have c5 := hSw.1 5 _ rfl; have c6 := hSw.1 6 _ rfl; have c7 := hSw.1 7 _ rfl; have c8 := hSw.1 8 _ rfl; have c9 := hSw.1 9 _ rfl; have c10 := hSw.1 10 _ rfl; have c11 := hSw.1 11 _ rfl; have c12 := hSw.1 12 _ rfl; have c13 := hSw.1 13 _ rfl; have c14 := hSw.1 14 _ rfl; have c15 := hSw.1 15 _ rfl; have c16 := hSw.1 16 _ rfl; have c17 := hSw.1 17 _ rfl; have c18 := hSw.1 18 _ rfl; have c19 := hSw.1 19 _ rfl; have c20 := hSw.1 20 _ rfl; have c21 := hSw.1 21 _ rfl; have zc := hSw.2.2; go_simp; try with_reducible rfl)
          change wpAnyH _ _ _ _ _ _ _ (Act.put _ (some 47) _) _
          simp only [Act.put, List.setIfInBounds_toArray, List.set_cons_zero, List.set_cons_succ]
          refine wpAnyH_take (i := 10) (v := ?_) rfl (by kernel_rfl) (by kernel_rfl) (by kernel_rfl) (fun _ _ _ h => h) (Or.inl ⟨by rfl, ?_⟩) (by assumption) ?_
          rotate_left
          · (intro wS hSw; have c0 := hSw.1 0 _ rfl; have c1 := hSw.1 1 _ rfl; have c2 := hSw.1 2 _ rfl; have c3 := hSw.1 3 _ rfl; have c4 := hSw.1 4 _ rfl; have c5 := hSw.1 5 _ rfl; have c6 := hSw.1 6 _ rfl; have c7 := hSw.1 7 _ rfl; have c8 := hSw.1 8 _ rfl; have c9 := hSw.1 9 _ rfl; have c10 := hSw.1 10 _ rfl; have c11 := hSw.1 11 _ rfl; have c12 := hSw.1 12 _ rfl; have c13 := hSw.1 13 _ rfl; have c14 := hSw.1 14 _ rfl; have c15 := hSw.1 15 _ rfl; have c16 := hSw.1 16 _ rfl; have c17 := hSw.1 17 _ rfl; have c18 := hSw.1 18 _ rfl; have c19 := hSw.1 19 _ rfl; have c20 := hSw.1 20 _ rfl; have c21 := hSw.1 21 _ rfl; have zc := hSw.2.2; go_simp; try with_reducible rfl)
          change wpAnyH _ _ _ _ _ _ _ (Act.put _ (some 48) _) _
          simp only [Act.put, List.setIfInBounds_toArray, List.set_cons_zero, List.set_cons_succ]
          refine wpAnyH_take (i := 11) (v := ?_) rfl (by kernel_rfl) (by kernel_rfl) (by kernel_rfl) (fun _ _ _ h => h) (Or.inl ⟨by rfl, ?_⟩) (by assumption) ?_
          rotate_left
          · (intro wS hSw; have c0 := hSw.1 0 _ rfl; have c1 := hSw.1 1 _ rfl; have c2 := hSw.1 2 _ rfl; have c3 := hSw.1 3 _ rfl; have c4 := hSw.1 4 _ rfl; have c5 := hSw.1 5 _ rfl; have c6 := hSw.1 6 _ rfl; have c7 := hSw.1 7 _ rfl; have c8 := hSw.1 8 _ rfl; have c9 := hSw.1 9 _ rfl; have c10 := hSw.1 10 _ rfl; have c11 := hSw.1 11 _ rfl; have c12 := hSw.1 12 _ rfl; have c13 := hSw.1 13 _ rfl; have c14 := hSw.1 14 _ rfl; have c15 := hSw.1 15 _ rfl; have c16 := hSw.1 16 _ rfl; have c17 := hSw.1 17 _ rfl; have c18 := hSw.1 18 _ rfl; have c19 := hSw.1 19 _ rfl; have c20 := hSw.1 20 _ rfl; have c21 := hSw.1 21 _ rfl; have zc := hSw.2.2; go_simp; try with_reducible rfl)
          change wpAnyH _ _ _ _ _ _ _ (Act.put _ (some 49) _) _
          simp only [Act.put, List.setIfInBounds_toArray, List.set_cons_zero, List.set_cons_succ]
          refine wpAnyH_take (i := 12) (v := ?_) rfl (by kernel_rfl) (by kernel_rfl) (by kernel_rfl) (fun _ _ _ h => h) (Or.inl ⟨by rfl, ?_⟩) (by assumption) ?_
          rotate_left
          · (intro wS hSw; have c0 := hSw.1 0 _ rfl; have c1 := hSw.1 1 _ rfl; have c2 := hSw.1 2 _ rfl; have c3 := hSw.1 3 _ rfl; have c4 := hSw.1 4 _ rfl; have c5 := hSw.1 5 _ rfl; have c6 := hSw.1 6 _ rfl; have c7 := hSw.1 7 _ rfl; have c8 := hSw.1 8 _ rfl; have c9 := hSw.1 9 _ rfl; have c10 := hSw.1 10 _ rfl; have c11 := hSw.1 11 _ rfl; have c12 := hSw.1 12 _ rfl; have c13 := hSw.1 13 _ rfl; have c14 := hSw.1 14 _ rfl; have c15 := hSw.1 15 _ rfl; have c16 := hSw.1 16 _ rfl; have c17 := hSw.1 17 _ rfl; have c18 := hSw.1 18 _ rfl; have c19 := hSw.1 19 _ rfl; have c20 := hSw.1 20 _ rfl; have c21 := hSw.1 21 _ rfl; have zc := hSw.2.2; go_simp; try with_reducible rfl)
          change wpAnyH _ _ _ _ _ _ _ (Act.put _ (some 50) _) _
          simp only [Act.put, List.setIfInBounds_toArray, List.set_cons_zero, List.set_cons_succ]
          refine wpAnyH_take (i := 13) (v := ?_) rfl (by kernel_rfl) (by kernel_rfl) (by kernel_rfl) (fun _ _ _ h => h) (Or.inl ⟨by rfl, ?_⟩) (by assumption) ?_
          rotate_left
          · (intro wS hSw; have c0 := hSw.1 0 _ rfl; have c1 := hSw.1 1 _ rfl; have c2 := hSw.1 2 _ rfl; have c3 := hSw.1 3 _ rfl; have c4 := hSw.1 4 _ rfl; have c5 := hSw.1 5 _ rfl; have c6 := hSw.1 6 _ rfl; have c7 := hSw.1 7 _ rfl; have c8 := hSw.1 8 _ rfl; have c9 := hSw.1 9 _ rfl; have c10 := hSw.1 10 _ rfl; have c11 := hSw.1 11 _ rfl; have c12 := hSw.1 12 _ rfl; have c13 := hSw.1 13 _ rfl; have c14 := hSw.1 14 _ rfl; have c15 := hSw.1 15 _ rfl; have c16 := hSw.1 16 _ rfl; have c17 := hSw.1 17 _ rfl; have c18 := hSw.1 18 _ rfl; have c19 := hSw.1 19 _ rfl; have c20 := hSw.1 20 _ rfl; have c21 := hSw.1 21 _ rfl; have zc := hSw.2.2; go_simp; try with_reducible rfl)
          change wpAnyH _ _ _ _ _ _ _ (Act.put _ (some 51) _) _
          simp only [Act.put, List.setIfInBounds_toArray, List.set_cons_zero, List.set_cons_succ]
          refine wpAnyH_ready (rs := [14]) (by kernel_rfl) (by simp) ?_
          refine AllReadyH.cons rfl (fun K hK => ?_) AllReadyH.nil
          go_simp
          refine (EE.out _).mono ?_
          rintro e v1 ⟨rfl, hv1⟩
          have F_1 : Hid (Below wr.heap.size wr v1) := F_0.out.trans (hv1.mono F_0.out.size)
          clear hv1 F_0
          (try go_wp2_with (fail))
          refine hK.out _ _ ?_ (fun hHeld => ?_)
          · exact Cs.later F_1.out q4
          clear hK K
          refine wpAnyH_take (i := 15) (v := ?_) rfl (by kernel_rfl) (by kernel_rfl) (by kernel_rfl) (fun _ _ _ h => h) (Or.inl ⟨by rfl, ?_⟩) (by assumption) ?_
          rotate_left
          · (intro wS hSw; have c0 := hSw.1 0 _ rfl; have c1 := hSw.1 1 _ rfl; have c2 := hSw.1 2 _ rfl; have c3 := hSw.1 3 _ rfl; have c4 := hSw.1 4 _ rfl; have c5 := hSw.1 5 _ rfl; have c6 := hSw.1 6 _ rfl; have c7 := hSw.1 7 _ rfl; have c8 := hSw.1 8 _ rfl; have c9 := hSw.1 9 _ rfl; have c10 := hSw.1 10 _ rfl; have c11 := hSw.1 11 _ rfl; have c12 := hSw.1 12 _ rfl; have c13 := hSw.1 13 _ rfl; have c14 := hSw.1 14 _ rfl; have c15 := hSw.1 15 _ rfl; have c16 := hSw.1 16 _ rfl; have c17 := hSw.1 17 _ rfl; have c18 := hSw.1 18 _ rfl; have c19 := hSw.1 19 _ rfl; have c20 := hSw.1 20 _ rfl; have c21 := hSw.1 21 _ rfl; have zc := hSw.2.2; go_simp; try with_reducible rfl)
          change wpAnyH _ _ _ _ _ _ _ (Act.put _ (some 53) _) _
          simp only [Act.put, List.setIfInBounds_toArray, List.set_cons_zero, List.set_cons_succ]
          refine wpAnyH_done (by kernel_rfl) ?_ _
          refine NoPanic.normal ?_
          go_wp2
          go_roundw
          case rel => exact ⟨i + 1, by go_num, by omega, Cs.later F_1.out q4, HB.trans (F_1.out.mono HB.size)⟩
          case measure => simp [intOf]; omega
      · obtain rfl : i = 8 := by omega
        rw [show ((8 : Nat) : Int) = 8 from rfl]
        go_wp2
        have q5 := q4
        have HB5 := HB
        clear q4 HB ci il
        go_loopw [55] (fun f wr => ∃ j : Nat, f = .int .i64 j ∧ j ≤ 2 ∧ Cs wr b1 [.int .i64 (F 0 0), .int .i64 (F 0 1), .int .i64 (F 0 2), .int .i64 (F 0 3), .int .i64 (F 0 4), .int .i64 (F 0 5), .int .i64 (F 0 6), .int .i64 (F 0 7), .int .i64 (F 1 0), .int .i64 (F 1 1), .int .i64 (F 1 2), .int .i64 (F 1 3), .int .i64 (F 1 4), .int .i64 (F 1 5), .int .i64 (F 1 6), .int .i64 (F 1 7), .int .i64 nodes, .int .i64 held, .int .i64 mask, .int .i64 (K 0), .int .i64 (K 1), .int .i64 most] ∧ Below w.heap.size w wr) (fun f _ => 2 - (intOf f).toNat)
        case atStart => exact ⟨0, rfl, by omega, q5, HB5⟩
        case round =>
          clear q5 HB5
          obtain ⟨j, rfl, jl, q4, HB⟩ := hrel
          rcases (show j = 0 ∨ j = 1 ∨ j = 2 by omega) with rfl | rfl | rfl
          · rw [show ((0 : Nat) : Int) = 0 from rfl]
            obtain ⟨OB9, OI, OS, OT, KB⟩ := over_all M8.out.1 HLE.out.1 0 (by omega)
            have OF0 := OV.out 0 m
            obtain ⟨fo, hfo⟩ : ∃ fo, fo = overF (F 0) (m : Int) (K 0) := ⟨_, rfl⟩
            rw [OB9] at OF0
            rw [← hfo] at OF0 OI OS OT
            have OF : Hid (∀ w, Calls Try.prog 9 #[spV (F 0), .int .i64 m, .int .i64 (K 0)] w fun e w' => e = .returned (.tuple #[spV fo, .bool true]) ∧ Below w.heap.size w w') := OF0
            have HOI : Hid ((∀ i, i < 8 → 0 ≤ fo i ∧ fo i ≤ F 0 i ∧ (tb m i = false → fo i = 0)) ∧ True) := ⟨OI, trivial⟩
            have HOS : Hid (sumT fo 8 = K 0 ∧ True) := ⟨OS, trivial⟩
            have HOT : Hid ((∀ i, i ≤ 8 → 0 ≤ sumT fo i ∧ sumT fo i ≤ K 0) ∧ True) := ⟨OT, trivial⟩
            have HKB : Hid ((0 ≤ K 0 ∧ K 0 ≤ 1073741824) ∧ True) := ⟨KB, trivial⟩
            clear OB9 OI OS OT KB OF0 hfo
            go_upto_region 17 with (fail)
            go_cut [7, 8] (fun s7 s8 wc => ∃ p7, s7 = .pointer (some ⟨p7, 0, none⟩) ∧ s8 = .bool true ∧ Cs wc p7 (spL fo) ∧ Below wr.heap.size wr wc)
            case first =>
              have BW : Hid (Below wr.heap.size wr _) := Below.drew (Below.refl _ _)
              refine wp_region_noPanic ?_
              refine wp_region_held_drew (S := fun w' => Cs w' b1 [.int .i64 (F 0 0), .int .i64 (F 0 1), .int .i64 (F 0 2), .int .i64 (F 0 3), .int .i64 (F 0 4), .int .i64 (F 0 5), .int .i64 (F 0 6), .int .i64 (F 0 7), .int .i64 (F 1 0), .int .i64 (F 1 1), .int .i64 (F 1 2), .int .i64 (F 1 3), .int .i64 (F 1 4), .int .i64 (F 1 5), .int .i64 (F 1 6), .int .i64 (F 1 7), .int .i64 nodes, .int .i64 held, .int .i64 mask, .int .i64 (K 0), .int .i64 (K 1), .int .i64 most]) (by kernel_rfl) ?_ (fun hHeld => ?_)
              · exact Cs.later BW.out q4
              generalize World.drew _ = wd0 at *
              refine wpAnyH_take (i := 0) (v := ?_) rfl (by kernel_rfl) (by kernel_rfl) (by kernel_rfl) (fun _ _ _ h => h) (Or.inl ⟨by rfl, ?_⟩) (by assumption) ?_
              rotate_left
              · (intro wS hSw; have c0 := hSw.1 0 _ rfl; have c1 := hSw.1 1 _ rfl; have c2 := hSw.1 2 _ rfl; have c3 := hSw.1 3 _ rfl; have c4 := hSw.1 4 _ rfl; have c5 := hSw.1 5 _ rfl; have c6 := hSw.1 6 _ rfl; have c7 := hSw.1 7 _ rfl; have c8 := hSw.1 8 _ rfl; have c9 := hSw.1 9 _ rfl; have c10 := hSw.1 10 _ rfl; have c11 := hSw.1 11 _ rfl; have c12 := hSw.1 12 _ rfl; have c13 := hSw.1 13 _ rfl; have c14 := hSw.1 14 _ rfl; have c15 := hSw.1 15 _ rfl; have c16 := hSw.1 16 _ rfl; have c17 := hSw.1 17 _ rfl; have c18 := hSw.1 18 _ rfl; have c19 := hSw.1 19 _ rfl; have c20 := hSw.1 20 _ rfl; have c21 := hSw.1 21 _ rfl; have zc := hSw.2.2; go_simp; try with_reducible rfl)
              change wpAnyH _ _ _ _ _ _ _ (Act.put _ (some 59) _) _
              simp only [Act.put, List.setIfInBounds_toArray, List.set_cons_zero, List.set_cons_succ]
              refine wpAnyH_take (i := 1) (v := ?_) rfl (by kernel_rfl) (by kernel_rfl) (by kernel_rfl) (fun _ _ _ h => h) (Or.inl ⟨by rfl, ?_⟩) (by assumption) ?_
              rotate_left
              · (intro wS hSw; have c0 := hSw.1 0 _ rfl; have c1 := hSw.1 1 _ rfl; have c2 := hSw.1 2 _ rfl; have c3 := hSw.1 3 _ rfl; have c4 := hSw.1 4 _ rfl; have c5 := hSw.1 5 _ rfl; have c6 := hSw.1 6 _ rfl; have c7 := hSw.1 7 _ rfl; have c8 := hSw.1 8 _ rfl; have c9 := hSw.1 9 _ rfl; have c10 := hSw.1 10 _ rfl; have c11 := hSw.1 11 _ rfl; have c12 := hSw.1 12 _ rfl; have c13 := hSw.1 13 _ rfl; have c14 := hSw.1 14 _ rfl; have c15 := hSw.1 15 _ rfl; have c16 := hSw.1 16 _ rfl; have c17 := hSw.1 17 _ rfl; have c18 := hSw.1 18 _ rfl; have c19 := hSw.1 19 _ rfl; have c20 := hSw.1 20 _ rfl; have c21 := hSw.1 21 _ rfl; have zc := hSw.2.2; go_simp; try with_reducible rfl)
              change wpAnyH _ _ _ _ _ _ _ (Act.put _ (some 60) _) _
              simp only [Act.put, List.setIfInBounds_toArray, List.set_cons_zero, List.set_cons_succ]
              refine wpAnyH_take (i := 2) (v := ?_) rfl (by kernel_rfl) (by kernel_rfl) (by kernel_rfl) (fun _ _ _ h => h) (Or.inl ⟨by rfl, ?_⟩) (by assumption) ?_
              rotate_left
              · (intro wS hSw; have c0 := hSw.1 0 _ rfl; have c1 := hSw.1 1 _ rfl; have c2 := hSw.1 2 _ rfl; have c3 := hSw.1 3 _ rfl; have c4 := hSw.1 4 _ rfl; have c5 := hSw.1 5 _ rfl; have c6 := hSw.1 6 _ rfl; have c7 := hSw.1 7 _ rfl; have c8 := hSw.1 8 _ rfl; have c9 := hSw.1 9 _ rfl; have c10 := hSw.1 10 _ rfl; have c11 := hSw.1 11 _ rfl; have c12 := hSw.1 12 _ rfl; have c13 := hSw.1 13 _ rfl; have c14 := hSw.1 14 _ rfl; have c15 := hSw.1 15 _ rfl; have c16 := hSw.1 16 _ rfl; have c17 := hSw.1 17 _ rfl; have c18 := hSw.1 18 _ rfl; have c19 := hSw.1 19 _ rfl; have c20 := hSw.1 20 _ rfl; have c21 := hSw.1 21 _ rfl; have zc := hSw.2.2; go_simp; try with_reducible rfl)
              change wpAnyH _ _ _ _ _ _ _ (Act.put _ (some 61) _) _
              simp only [Act.put, List.setIfInBounds_toArray, List.set_cons_zero, List.set_cons_succ]
              refine wpAnyH_take (i := 3) (v := ?_) rfl (by kernel_rfl) (by kernel_rfl) (by kernel_rfl) (fun _ _ _ h => h) (Or.inl ⟨by rfl, ?_⟩) (by assumption) ?_
              rotate_left
              · (intro wS hSw; have c0 := hSw.1 0 _ rfl; have c1 := hSw.1 1 _ rfl; have c2 := hSw.1 2 _ rfl; have c3 := hSw.1 3 _ rfl; have c4 := hSw.1 4 _ rfl; have c5 := hSw.1 5 _ rfl; have c6 := hSw.1 6 _ rfl; have c7 := hSw.1 7 _ rfl; have c8 := hSw.1 8 _ rfl; have c9 := hSw.1 9 _ rfl; have c10 := hSw.1 10 _ rfl; have c11 := hSw.1 11 _ rfl; have c12 := hSw.1 12 _ rfl; have c13 := hSw.1 13 _ rfl; have c14 := hSw.1 14 _ rfl; have c15 := hSw.1 15 _ rfl; have c16 := hSw.1 16 _ rfl; have c17 := hSw.1 17 _ rfl; have c18 := hSw.1 18 _ rfl; have c19 := hSw.1 19 _ rfl; have c20 := hSw.1 20 _ rfl; have c21 := hSw.1 21 _ rfl; have zc := hSw.2.2; go_simp; try with_reducible rfl)
              change wpAnyH _ _ _ _ _ _ _ (Act.put _ (some 62) _) _
              simp only [Act.put, List.setIfInBounds_toArray, List.set_cons_zero, List.set_cons_succ]
              refine wpAnyH_take (i := 4) (v := ?_) rfl (by kernel_rfl) (by kernel_rfl) (by kernel_rfl) (fun _ _ _ h => h) (Or.inl ⟨by rfl, ?_⟩) (by assumption) ?_
              rotate_left
              · (intro wS hSw; have c0 := hSw.1 0 _ rfl; have c1 := hSw.1 1 _ rfl; have c2 := hSw.1 2 _ rfl; have c3 := hSw.1 3 _ rfl; have c4 := hSw.1 4 _ rfl; have c5 := hSw.1 5 _ rfl; have c6 := hSw.1 6 _ rfl; have c7 := hSw.1 7 _ rfl; have c8 := hSw.1 8 _ rfl; have c9 := hSw.1 9 _ rfl; have c10 := hSw.1 10 _ rfl; have c11 := hSw.1 11 _ rfl; have c12 := hSw.1 12 _ rfl; have c13 := hSw.1 13 _ rfl; have c14 := hSw.1 14 _ rfl; have c15 := hSw.1 15 _ rfl; have c16 := hSw.1 16 _ rfl; have c17 := hSw.1 17 _ rfl; have c18 := hSw.1 18 _ rfl; have c19 := hSw.1 19 _ rfl; have c20 := hSw.1 20 _ rfl; have c21 := hSw.1 21 _ rfl; have zc := hSw.2.2; go_simp; try with_reducible rfl)
              change wpAnyH _ _ _ _ _ _ _ (Act.put _ (some 63) _) _
              simp only [Act.put, List.setIfInBounds_toArray, List.set_cons_zero, List.set_cons_succ]
              refine wpAnyH_take (i := 5) (v := ?_) rfl (by kernel_rfl) (by kernel_rfl) (by kernel_rfl) (fun _ _ _ h => h) (Or.inl ⟨by rfl, ?_⟩) (by assumption) ?_
              rotate_left
              · (intro wS hSw; have c0 := hSw.1 0 _ rfl; have c1 := hSw.1 1 _ rfl; have c2 := hSw.1 2 _ rfl; have c3 := hSw.1 3 _ rfl; have c4 := hSw.1 4 _ rfl; have c5 := hSw.1 5 _ rfl; have c6 := hSw.1 6 _ rfl; have c7 := hSw.1 7 _ rfl; have c8 := hSw.1 8 _ rfl; have c9 := hSw.1 9 _ rfl; have c10 := hSw.1 10 _ rfl; have c11 := hSw.1 11 _ rfl; have c12 := hSw.1 12 _ rfl; have c13 := hSw.1 13 _ rfl; have c14 := hSw.1 14 _ rfl; have c15 := hSw.1 15 _ rfl; have c16 := hSw.1 16 _ rfl; have c17 := hSw.1 17 _ rfl; have c18 := hSw.1 18 _ rfl; have c19 := hSw.1 19 _ rfl; have c20 := hSw.1 20 _ rfl; have c21 := hSw.1 21 _ rfl; have zc := hSw.2.2; go_simp; try with_reducible rfl)
              change wpAnyH _ _ _ _ _ _ _ (Act.put _ (some 64) _) _
              simp only [Act.put, List.setIfInBounds_toArray, List.set_cons_zero, List.set_cons_succ]
              refine wpAnyH_take (i := 6) (v := ?_) rfl (by kernel_rfl) (by kernel_rfl) (by kernel_rfl) (fun _ _ _ h => h) (Or.inl ⟨by rfl, ?_⟩) (by assumption) ?_
              rotate_left
              · (intro wS hSw; have c0 := hSw.1 0 _ rfl; have c1 := hSw.1 1 _ rfl; have c2 := hSw.1 2 _ rfl; have c3 := hSw.1 3 _ rfl; have c4 := hSw.1 4 _ rfl; have c5 := hSw.1 5 _ rfl; have c6 := hSw.1 6 _ rfl; have c7 := hSw.1 7 _ rfl; have c8 := hSw.1 8 _ rfl; have c9 := hSw.1 9 _ rfl; have c10 := hSw.1 10 _ rfl; have c11 := hSw.1 11 _ rfl; have c12 := hSw.1 12 _ rfl; have c13 := hSw.1 13 _ rfl; have c14 := hSw.1 14 _ rfl; have c15 := hSw.1 15 _ rfl; have c16 := hSw.1 16 _ rfl; have c17 := hSw.1 17 _ rfl; have c18 := hSw.1 18 _ rfl; have c19 := hSw.1 19 _ rfl; have c20 := hSw.1 20 _ rfl; have c21 := hSw.1 21 _ rfl; have zc := hSw.2.2; go_simp; try with_reducible rfl)
              change wpAnyH _ _ _ _ _ _ _ (Act.put _ (some 65) _) _
              simp only [Act.put, List.setIfInBounds_toArray, List.set_cons_zero, List.set_cons_succ]
              refine wpAnyH_take (i := 7) (v := ?_) rfl (by kernel_rfl) (by kernel_rfl) (by kernel_rfl) (fun _ _ _ h => h) (Or.inl ⟨by rfl, ?_⟩) (by assumption) ?_
              rotate_left
              · (intro wS hSw; have c0 := hSw.1 0 _ rfl; have c1 := hSw.1 1 _ rfl; have c2 := hSw.1 2 _ rfl; have c3 := hSw.1 3 _ rfl; have c4 := hSw.1 4 _ rfl; have c5 := hSw.1 5 _ rfl; have c6 := hSw.1 6 _ rfl; have c7 := hSw.1 7 _ rfl; have c8 := hSw.1 8 _ rfl; have c9 := hSw.1 9 _ rfl; have c10 := hSw.1 10 _ rfl; have c11 := hSw.1 11 _ rfl; have c12 := hSw.1 12 _ rfl; have c13 := hSw.1 13 _ rfl; have c14 := hSw.1 14 _ rfl; have c15 := hSw.1 15 _ rfl; have c16 := hSw.1 16 _ rfl; have c17 := hSw.1 17 _ rfl; have c18 := hSw.1 18 _ rfl; have c19 := hSw.1 19 _ rfl; have c20 := hSw.1 20 _ rfl; have c21 := hSw.1 21 _ rfl; have zc := hSw.2.2; go_simp; try with_reducible rfl)
              change wpAnyH _ _ _ _ _ _ _ (Act.put _ (some 66) _) _
              simp only [Act.put, List.setIfInBounds_toArray, List.set_cons_zero, List.set_cons_succ]
              refine wpAnyH_take (i := 8) (v := ?_) rfl (by kernel_rfl) (by kernel_rfl) (by kernel_rfl) (fun _ _ _ h => h) (Or.inl ⟨by rfl, ?_⟩) (by assumption) ?_
              rotate_left
              · (intro wS hSw; have c0 := hSw.1 0 _ rfl; have c1 := hSw.1 1 _ rfl; have c2 := hSw.1 2 _ rfl; have c3 := hSw.1 3 _ rfl; have c4 := hSw.1 4 _ rfl; have c5 := hSw.1 5 _ rfl; have c6 := hSw.1 6 _ rfl; have c7 := hSw.1 7 _ rfl; have c8 := hSw.1 8 _ rfl; have c9 := hSw.1 9 _ rfl; have c10 := hSw.1 10 _ rfl; have c11 := hSw.1 11 _ rfl; have c12 := hSw.1 12 _ rfl; have c13 := hSw.1 13 _ rfl; have c14 := hSw.1 14 _ rfl; have c15 := hSw.1 15 _ rfl; have c16 := hSw.1 16 _ rfl; have c17 := hSw.1 17 _ rfl; have c18 := hSw.1 18 _ rfl; have c19 := hSw.1 19 _ rfl; have c20 := hSw.1 20 _ rfl; have c21 := hSw.1 21 _ rfl; have zc := hSw.2.2; go_simp; try with_reducible rfl)
              change wpAnyH _ _ _ _ _ _ _ (Act.put _ (some 67) _) _
              simp only [Act.put, List.setIfInBounds_toArray, List.set_cons_zero, List.set_cons_succ]
              refine wpAnyH_ready (rs := [9, 13]) (by kernel_rfl) (by simp) ?_
              refine AllReadyH.cons rfl (fun K hK => ?_) (AllReadyH.cons rfl (fun K hK => ?_) AllReadyH.nil)
              ·
                go_simp
                refine (OF.out _).mono ?_
                rintro e v1 ⟨rfl, hv1⟩
                have BW' : Hid (Below wr.heap.size wr v1) := BW.out.trans (hv1.mono BW.out.size)
                clear hv1 BW
                have BW := BW'
                clear BW'
                (try go_wp2_with (fail))
                refine hK.out _ _ ?_ (fun hHeld => ?_)
                · exact Cs.later BW.out q4
                clear hK K
                refine wpAnyH_take (i := 10) (v := ?_) rfl (by kernel_rfl) (by kernel_rfl) (by kernel_rfl) (fun _ _ _ h => h) (Or.inl ⟨by rfl, ?_⟩) (by assumption) ?_
                rotate_left
                · (intro wS hSw; have c0 := hSw.1 0 _ rfl; have c1 := hSw.1 1 _ rfl; have c2 := hSw.1 2 _ rfl; have c3 := hSw.1 3 _ rfl; have c4 := hSw.1 4 _ rfl; have c5 := hSw.1 5 _ rfl; have c6 := hSw.1 6 _ rfl; have c7 := hSw.1 7 _ rfl; have c8 := hSw.1 8 _ rfl; have c9 := hSw.1 9 _ rfl; have c10 := hSw.1 10 _ rfl; have c11 := hSw.1 11 _ rfl; have c12 := hSw.1 12 _ rfl; have c13 := hSw.1 13 _ rfl; have c14 := hSw.1 14 _ rfl; have c15 := hSw.1 15 _ rfl; have c16 := hSw.1 16 _ rfl; have c17 := hSw.1 17 _ rfl; have c18 := hSw.1 18 _ rfl; have c19 := hSw.1 19 _ rfl; have c20 := hSw.1 20 _ rfl; have c21 := hSw.1 21 _ rfl; have zc := hSw.2.2; go_simp; try with_reducible rfl)
                change wpAnyH _ _ _ _ _ _ _ (Act.put _ (some 58) _) _
                simp only [Act.put, List.setIfInBounds_toArray, List.set_cons_zero, List.set_cons_succ]
                refine wpAnyH_take (i := 11) (v := ?_) rfl (by kernel_rfl) (by kernel_rfl) (by kernel_rfl) (fun _ _ _ h => h) (Or.inl ⟨by rfl, ?_⟩) (by assumption) ?_
                rotate_left
                · (intro wS hSw; have c0 := hSw.1 0 _ rfl; have c1 := hSw.1 1 _ rfl; have c2 := hSw.1 2 _ rfl; have c3 := hSw.1 3 _ rfl; have c4 := hSw.1 4 _ rfl; have c5 := hSw.1 5 _ rfl; have c6 := hSw.1 6 _ rfl; have c7 := hSw.1 7 _ rfl; have c8 := hSw.1 8 _ rfl; have c9 := hSw.1 9 _ rfl; have c10 := hSw.1 10 _ rfl; have c11 := hSw.1 11 _ rfl; have c12 := hSw.1 12 _ rfl; have c13 := hSw.1 13 _ rfl; have c14 := hSw.1 14 _ rfl; have c15 := hSw.1 15 _ rfl; have c16 := hSw.1 16 _ rfl; have c17 := hSw.1 17 _ rfl; have c18 := hSw.1 18 _ rfl; have c19 := hSw.1 19 _ rfl; have c20 := hSw.1 20 _ rfl; have c21 := hSw.1 21 _ rfl; have zc := hSw.2.2; go_simp; try with_reducible rfl)
                change wpAnyH _ _ _ _ _ _ _ (Act.put _ (some 69) _) _
                simp only [Act.put, List.setIfInBounds_toArray, List.set_cons_zero, List.set_cons_succ]
                refine wpAnyH_take (i := 12) (v := ?_) rfl (by kernel_rfl) (by kernel_rfl) (by kernel_rfl) (fun _ _ _ h => h) (Or.inl ⟨by rfl, ?_⟩) (by assumption) ?_
                rotate_left
                · (intro wS hSw; have c0 := hSw.1 0 _ rfl; have c1 := hSw.1 1 _ rfl; have c2 := hSw.1 2 _ rfl; have c3 := hSw.1 3 _ rfl; have c4 := hSw.1 4 _ rfl; have c5 := hSw.1 5 _ rfl; have c6 := hSw.1 6 _ rfl; have c7 := hSw.1 7 _ rfl; have c8 := hSw.1 8 _ rfl; have c9 := hSw.1 9 _ rfl; have c10 := hSw.1 10 _ rfl; have c11 := hSw.1 11 _ rfl; have c12 := hSw.1 12 _ rfl; have c13 := hSw.1 13 _ rfl; have c14 := hSw.1 14 _ rfl; have c15 := hSw.1 15 _ rfl; have c16 := hSw.1 16 _ rfl; have c17 := hSw.1 17 _ rfl; have c18 := hSw.1 18 _ rfl; have c19 := hSw.1 19 _ rfl; have c20 := hSw.1 20 _ rfl; have c21 := hSw.1 21 _ rfl; have zc := hSw.2.2; go_simp; try with_reducible rfl)
                change wpAnyH _ _ _ _ _ _ _ (Act.put _ (some 70) _) _
                simp only [Act.put, List.setIfInBounds_toArray, List.set_cons_zero, List.set_cons_succ]
                refine wpAnyH_ready (rs := [13]) (by kernel_rfl) (by simp) ?_
                refine AllReadyH.cons rfl (fun K hK => ?_) AllReadyH.nil
                go_simp
                obtain ⟨p7, hp7⟩ : ∃ p7, p7 = v1.heap.size := ⟨_, rfl⟩
                have BW' : Hid (Below wr.heap.size wr (v1.alloc (.cells #[.int .i64 0, .int .i64 0, .int .i64 0, .int .i64 0, .int .i64 0, .int .i64 0, .int .i64 0, .int .i64 0] 23))) := BW.out.alloc BW.out.size _
                have N7' : Hid (Cs (v1.alloc (.cells #[.int .i64 0, .int .i64 0, .int .i64 0, .int .i64 0, .int .i64 0, .int .i64 0, .int .i64 0, .int .i64 0] 23)) p7 (spL nought) ∧ wr.heap.size ≤ p7) := by rw [hp7]; exact ⟨Cs.new _ _ _ _ rfl, BW.out.size⟩
                clear BW
                have BW := BW'
                clear BW'
                have N7 := N7'
                clear N7'
                refine hK.out _ _ ?_ (fun hHeld => ?_)
                · exact Cs.later BW.out q4
                clear hK K
                rw [← hp7]
                clear hp7
                generalize v1.alloc (.cells #[.int .i64 0, .int .i64 0, .int .i64 0, .int .i64 0, .int .i64 0, .int .i64 0, .int .i64 0, .int .i64 0] 23) = wA2 at *
                refine wpAnyH_ready (rs := [14]) (by kernel_rfl) (by simp) ?_
                refine AllReadyH.cons rfl (fun K hK => ?_) AllReadyH.nil
                have c0 := N7.out.1.1 0 _ rfl
                have c1 := N7.out.1.1 1 _ rfl
                have c2 := N7.out.1.1 2 _ rfl
                have c3 := N7.out.1.1 3 _ rfl
                have c4 := N7.out.1.1 4 _ rfl
                have c5 := N7.out.1.1 5 _ rfl
                have c6 := N7.out.1.1 6 _ rfl
                have c7 := N7.out.1.1 7 _ rfl
                have f0 := N7.out.1.2.1 0 (by show 0 < 8; omega)
                have f1 := N7.out.1.2.1 1 (by show 1 < 8; omega)
                have f2 := N7.out.1.2.1 2 (by show 2 < 8; omega)
                have f3 := N7.out.1.2.1 3 (by show 3 < 8; omega)
                have f4 := N7.out.1.2.1 4 (by show 4 < 8; omega)
                have f5 := N7.out.1.2.1 5 (by show 5 < 8; omega)
                have f6 := N7.out.1.2.1 6 (by show 6 < 8; omega)
                have f7 := N7.out.1.2.1 7 (by show 7 < 8; omega)
                have z7 := N7.out.1.2.2
                have BW' : Hid (Below wr.heap.size wr ((((((((wA2.setCell ⟨p7, 0, none⟩ (.int .i64 (fo 0))).setCell ⟨p7, 1, none⟩ (.int .i64 (fo 1))).setCell ⟨p7, 2, none⟩ (.int .i64 (fo 2))).setCell ⟨p7, 3, none⟩ (.int .i64 (fo 3))).setCell ⟨p7, 4, none⟩ (.int .i64 (fo 4))).setCell ⟨p7, 5, none⟩ (.int .i64 (fo 5))).setCell ⟨p7, 6, none⟩ (.int .i64 (fo 6))).setCell ⟨p7, 7, none⟩ (.int .i64 (fo 7)))) := below_store8 fo BW.out N7.out.2
                have N7' : Hid (Cs ((((((((wA2.setCell ⟨p7, 0, none⟩ (.int .i64 (fo 0))).setCell ⟨p7, 1, none⟩ (.int .i64 (fo 1))).setCell ⟨p7, 2, none⟩ (.int .i64 (fo 2))).setCell ⟨p7, 3, none⟩ (.int .i64 (fo 3))).setCell ⟨p7, 4, none⟩ (.int .i64 (fo 4))).setCell ⟨p7, 5, none⟩ (.int .i64 (fo 5))).setCell ⟨p7, 6, none⟩ (.int .i64 (fo 6))).setCell ⟨p7, 7, none⟩ (.int .i64 (fo 7))) p7 (spL fo) ∧ wr.heap.size ≤ p7) := ⟨cs_store8 (g := fo) N7.out.1, N7.out.2⟩
                clear N7 BW
                have BW := BW'
                have N7 := N7'
                clear BW' N7'
                go_wp2_with (fail)
                refine hK.out _ _ ?_ (fun hHeld => ?_)
                · exact Cs.later BW.out q4
                clear hK K z7 c0 f0 c1 f1 c2 f2 c3 f3 c4 f4 c5 f5 c6 f6 c7 f7
                generalize ((((((((wA2.setCell ⟨p7, 0, none⟩ (.int .i64 (fo 0))).setCell ⟨p7, 1, none⟩ (.int .i64 (fo 1))).setCell ⟨p7, 2, none⟩ (.int .i64 (fo 2))).setCell ⟨p7, 3, none⟩ (.int .i64 (fo 3))).setCell ⟨p7, 4, none⟩ (.int .i64 (fo 4))).setCell ⟨p7, 5, none⟩ (.int .i64 (fo 5))).setCell ⟨p7, 6, none⟩ (.int .i64 (fo 6))).setCell ⟨p7, 7, none⟩ (.int .i64 (fo 7))) = wS at *
                refine wpAnyH_take (i := 15) (v := ?_) rfl (by kernel_rfl) (by kernel_rfl) (by kernel_rfl) (fun _ _ _ h => h) (Or.inl ⟨by rfl, ?_⟩) (by assumption) ?_
                rotate_left
                · (intro wS hSw; have c0 := hSw.1 0 _ rfl; have c1 := hSw.1 1 _ rfl; have c2 := hSw.1 2 _ rfl; have c3 := hSw.1 3 _ rfl; have c4 := hSw.1 4 _ rfl; have c5 := hSw.1 5 _ rfl; have c6 := hSw.1 6 _ rfl; have c7 := hSw.1 7 _ rfl; have c8 := hSw.1 8 _ rfl; have c9 := hSw.1 9 _ rfl; have c10 := hSw.1 10 _ rfl; have c11 := hSw.1 11 _ rfl; have c12 := hSw.1 12 _ rfl; have c13 := hSw.1 13 _ rfl; have c14 := hSw.1 14 _ rfl; have c15 := hSw.1 15 _ rfl; have c16 := hSw.1 16 _ rfl; have c17 := hSw.1 17 _ rfl; have c18 := hSw.1 18 _ rfl; have c19 := hSw.1 19 _ rfl; have c20 := hSw.1 20 _ rfl; have c21 := hSw.1 21 _ rfl; have zc := hSw.2.2; go_simp; try with_reducible rfl)
                change wpAnyH _ _ _ _ _ _ _ (Act.put _ (some 8) _) _
                simp only [Act.put, List.setIfInBounds_toArray, List.set_cons_zero, List.set_cons_succ]
                refine wpAnyH_done (by kernel_rfl) ?_ _
                refine NoPanic.normal ?_
                (try go_wp2)
                go_meet
                case rel => exact ⟨_, rfl, rfl, N7.out.1, BW.out⟩
              ·
                go_simp
                obtain ⟨p7, hp7⟩ : ∃ p7, p7 = wd0.heap.size := ⟨_, rfl⟩
                have BW' : Hid (Below wr.heap.size wr (wd0.alloc (.cells #[.int .i64 0, .int .i64 0, .int .i64 0, .int .i64 0, .int .i64 0, .int .i64 0, .int .i64 0, .int .i64 0] 23))) := BW.out.alloc BW.out.size _
                have N7' : Hid (Cs (wd0.alloc (.cells #[.int .i64 0, .int .i64 0, .int .i64 0, .int .i64 0, .int .i64 0, .int .i64 0, .int .i64 0, .int .i64 0] 23)) p7 (spL nought) ∧ wr.heap.size ≤ p7) := by rw [hp7]; exact ⟨Cs.new _ _ _ _ rfl, BW.out.size⟩
                clear BW
                have BW := BW'
                clear BW'
                have N7 := N7'
                clear N7'
                refine hK.out _ _ ?_ (fun hHeld => ?_)
                · exact Cs.later BW.out q4
                clear hK K
                rw [← hp7]
                clear hp7
                generalize wd0.alloc (.cells #[.int .i64 0, .int .i64 0, .int .i64 0, .int .i64 0, .int .i64 0, .int .i64 0, .int .i64 0, .int .i64 0] 23) = wA4 at *
                refine wpAnyH_ready (rs := [9]) (by kernel_rfl) (by simp) ?_
                refine AllReadyH.cons rfl (fun K hK => ?_) AllReadyH.nil
                go_simp
                refine (OF.out _).mono ?_
                rintro e v5 ⟨rfl, hv5⟩
                have BW' : Hid (Below wr.heap.size wr v5) := BW.out.trans (hv5.mono BW.out.size)
                have N7' : Hid (Cs v5 p7 (spL nought) ∧ wr.heap.size ≤ p7) := ⟨Cs.later hv5 N7.out.1, N7.out.2⟩
                clear hv5 BW N7
                have BW := BW'
                clear BW'
                have N7 := N7'
                clear N7'
                (try go_wp2_with (fail))
                refine hK.out _ _ ?_ (fun hHeld => ?_)
                · exact Cs.later BW.out q4
                clear hK K
                refine wpAnyH_take (i := 10) (v := ?_) rfl (by kernel_rfl) (by kernel_rfl) (by kernel_rfl) (fun _ _ _ h => h) (Or.inl ⟨by rfl, ?_⟩) (by assumption) ?_
                rotate_left
                · (intro wS hSw; have c0 := hSw.1 0 _ rfl; have c1 := hSw.1 1 _ rfl; have c2 := hSw.1 2 _ rfl; have c3 := hSw.1 3 _ rfl; have c4 := hSw.1 4 _ rfl; have c5 := hSw.1 5 _ rfl; have c6 := hSw.1 6 _ rfl; have c7 := hSw.1 7 _ rfl; have c8 := hSw.1 8 _ rfl; have c9 := hSw.1 9 _ rfl; have c10 := hSw.1 10 _ rfl; have c11 := hSw.1 11 _ rfl; have c12 := hSw.1 12 _ rfl; have c13 := hSw.1 13 _ rfl; have c14 := hSw.1 14 _ rfl; have c15 := hSw.1 15 _ rfl; have c16 := hSw.1 16 _ rfl; have c17 := hSw.1 17 _ rfl; have c18 := hSw.1 18 _ rfl; have c19 := hSw.1 19 _ rfl; have c20 := hSw.1 20 _ rfl; have c21 := hSw.1 21 _ rfl; have zc := hSw.2.2; go_simp; try with_reducible rfl)
                change wpAnyH _ _ _ _ _ _ _ (Act.put _ (some 58) _) _
                simp only [Act.put, List.setIfInBounds_toArray, List.set_cons_zero, List.set_cons_succ]
                refine wpAnyH_take (i := 11) (v := ?_) rfl (by kernel_rfl) (by kernel_rfl) (by kernel_rfl) (fun _ _ _ h => h) (Or.inl ⟨by rfl, ?_⟩) (by assumption) ?_
                rotate_left
                · (intro wS hSw; have c0 := hSw.1 0 _ rfl; have c1 := hSw.1 1 _ rfl; have c2 := hSw.1 2 _ rfl; have c3 := hSw.1 3 _ rfl; have c4 := hSw.1 4 _ rfl; have c5 := hSw.1 5 _ rfl; have c6 := hSw.1 6 _ rfl; have c7 := hSw.1 7 _ rfl; have c8 := hSw.1 8 _ rfl; have c9 := hSw.1 9 _ rfl; have c10 := hSw.1 10 _ rfl; have c11 := hSw.1 11 _ rfl; have c12 := hSw.1 12 _ rfl; have c13 := hSw.1 13 _ rfl; have c14 := hSw.1 14 _ rfl; have c15 := hSw.1 15 _ rfl; have c16 := hSw.1 16 _ rfl; have c17 := hSw.1 17 _ rfl; have c18 := hSw.1 18 _ rfl; have c19 := hSw.1 19 _ rfl; have c20 := hSw.1 20 _ rfl; have c21 := hSw.1 21 _ rfl; have zc := hSw.2.2; go_simp; try with_reducible rfl)
                change wpAnyH _ _ _ _ _ _ _ (Act.put _ (some 69) _) _
                simp only [Act.put, List.setIfInBounds_toArray, List.set_cons_zero, List.set_cons_succ]
                refine wpAnyH_take (i := 12) (v := ?_) rfl (by kernel_rfl) (by kernel_rfl) (by kernel_rfl) (fun _ _ _ h => h) (Or.inl ⟨by rfl, ?_⟩) (by assumption) ?_
                rotate_left
                · (intro wS hSw; have c0 := hSw.1 0 _ rfl; have c1 := hSw.1 1 _ rfl; have c2 := hSw.1 2 _ rfl; have c3 := hSw.1 3 _ rfl; have c4 := hSw.1 4 _ rfl; have c5 := hSw.1 5 _ rfl; have c6 := hSw.1 6 _ rfl; have c7 := hSw.1 7 _ rfl; have c8 := hSw.1 8 _ rfl; have c9 := hSw.1 9 _ rfl; have c10 := hSw.1 10 _ rfl; have c11 := hSw.1 11 _ rfl; have c12 := hSw.1 12 _ rfl; have c13 := hSw.1 13 _ rfl; have c14 := hSw.1 14 _ rfl; have c15 := hSw.1 15 _ rfl; have c16 := hSw.1 16 _ rfl; have c17 := hSw.1 17 _ rfl; have c18 := hSw.1 18 _ rfl; have c19 := hSw.1 19 _ rfl; have c20 := hSw.1 20 _ rfl; have c21 := hSw.1 21 _ rfl; have zc := hSw.2.2; go_simp; try with_reducible rfl)
                change wpAnyH _ _ _ _ _ _ _ (Act.put _ (some 70) _) _
                simp only [Act.put, List.setIfInBounds_toArray, List.set_cons_zero, List.set_cons_succ]
                refine wpAnyH_ready (rs := [14]) (by kernel_rfl) (by simp) ?_
                refine AllReadyH.cons rfl (fun K hK => ?_) AllReadyH.nil
                have c0 := N7.out.1.1 0 _ rfl
                have c1 := N7.out.1.1 1 _ rfl
                have c2 := N7.out.1.1 2 _ rfl
                have c3 := N7.out.1.1 3 _ rfl
                have c4 := N7.out.1.1 4 _ rfl
                have c5 := N7.out.1.1 5 _ rfl
                have c6 := N7.out.1.1 6 _ rfl
                have c7 := N7.out.1.1 7 _ rfl
                have f0 := N7.out.1.2.1 0 (by show 0 < 8; omega)
                have f1 := N7.out.1.2.1 1 (by show 1 < 8; omega)
                have f2 := N7.out.1.2.1 2 (by show 2 < 8; omega)
                have f3 := N7.out.1.2.1 3 (by show 3 < 8; omega)
                have f4 := N7.out.1.2.1 4 (by show 4 < 8; omega)
                have f5 := N7.out.1.2.1 5 (by show 5 < 8; omega)
                have f6 := N7.out.1.2.1 6 (by show 6 < 8; omega)
                have f7 := N7.out.1.2.1 7 (by show 7 < 8; omega)
                have z7 := N7.out.1.2.2
                have BW' : Hid (Below wr.heap.size wr ((((((((v5.setCell ⟨p7, 0, none⟩ (.int .i64 (fo 0))).setCell ⟨p7, 1, none⟩ (.int .i64 (fo 1))).setCell ⟨p7, 2, none⟩ (.int .i64 (fo 2))).setCell ⟨p7, 3, none⟩ (.int .i64 (fo 3))).setCell ⟨p7, 4, none⟩ (.int .i64 (fo 4))).setCell ⟨p7, 5, none⟩ (.int .i64 (fo 5))).setCell ⟨p7, 6, none⟩ (.int .i64 (fo 6))).setCell ⟨p7, 7, none⟩ (.int .i64 (fo 7)))) := below_store8 fo BW.out N7.out.2
                have N7' : Hid (Cs ((((((((v5.setCell ⟨p7, 0, none⟩ (.int .i64 (fo 0))).setCell ⟨p7, 1, none⟩ (.int .i64 (fo 1))).setCell ⟨p7, 2, none⟩ (.int .i64 (fo 2))).setCell ⟨p7, 3, none⟩ (.int .i64 (fo 3))).setCell ⟨p7, 4, none⟩ (.int .i64 (fo 4))).setCell ⟨p7, 5, none⟩ (.int .i64 (fo 5))).setCell ⟨p7, 6, none⟩ (.int .i64 (fo 6))).setCell ⟨p7, 7, none⟩ (.int .i64 (fo 7))) p7 (spL fo) ∧ wr.heap.size ≤ p7) := ⟨cs_store8 (g := fo) N7.out.1, N7.out.2⟩
                clear N7 BW
                have BW := BW'
                have N7 := N7'
                clear BW' N7'
                go_wp2_with (fail)
                refine hK.out _ _ ?_ (fun hHeld => ?_)
                · exact Cs.later BW.out q4
                clear hK K z7 c0 f0 c1 f1 c2 f2 c3 f3 c4 f4 c5 f5 c6 f6 c7 f7
                generalize ((((((((v5.setCell ⟨p7, 0, none⟩ (.int .i64 (fo 0))).setCell ⟨p7, 1, none⟩ (.int .i64 (fo 1))).setCell ⟨p7, 2, none⟩ (.int .i64 (fo 2))).setCell ⟨p7, 3, none⟩ (.int .i64 (fo 3))).setCell ⟨p7, 4, none⟩ (.int .i64 (fo 4))).setCell ⟨p7, 5, none⟩ (.int .i64 (fo 5))).setCell ⟨p7, 6, none⟩ (.int .i64 (fo 6))).setCell ⟨p7, 7, none⟩ (.int .i64 (fo 7))) = wS at *
                refine wpAnyH_take (i := 15) (v := ?_) rfl (by kernel_rfl) (by kernel_rfl) (by kernel_rfl) (fun _ _ _ h => h) (Or.inl ⟨by rfl, ?_⟩) (by assumption) ?_
                rotate_left
                · (intro wS hSw; have c0 := hSw.1 0 _ rfl; have c1 := hSw.1 1 _ rfl; have c2 := hSw.1 2 _ rfl; have c3 := hSw.1 3 _ rfl; have c4 := hSw.1 4 _ rfl; have c5 := hSw.1 5 _ rfl; have c6 := hSw.1 6 _ rfl; have c7 := hSw.1 7 _ rfl; have c8 := hSw.1 8 _ rfl; have c9 := hSw.1 9 _ rfl; have c10 := hSw.1 10 _ rfl; have c11 := hSw.1 11 _ rfl; have c12 := hSw.1 12 _ rfl; have c13 := hSw.1 13 _ rfl; have c14 := hSw.1 14 _ rfl; have c15 := hSw.1 15 _ rfl; have c16 := hSw.1 16 _ rfl; have c17 := hSw.1 17 _ rfl; have c18 := hSw.1 18 _ rfl; have c19 := hSw.1 19 _ rfl; have c20 := hSw.1 20 _ rfl; have c21 := hSw.1 21 _ rfl; have zc := hSw.2.2; go_simp; try with_reducible rfl)
                change wpAnyH _ _ _ _ _ _ _ (Act.put _ (some 8) _) _
                simp only [Act.put, List.setIfInBounds_toArray, List.set_cons_zero, List.set_cons_succ]
                refine wpAnyH_done (by kernel_rfl) ?_ _
                refine NoPanic.normal ?_
                (try go_wp2)
                go_meet
                case rel => exact ⟨_, rfl, rfl, N7.out.1, BW.out⟩
            case rest =>
              obtain ⟨p7, rfl, rfl, q7, hB⟩ := hcut
              replace q4 := Cs.later hB q4
              replace HB := HB.trans (hB.mono HB.size)
              clear hB OF
              have c0 := q7.1 0 _ rfl
              have c1 := q7.1 1 _ rfl
              have c2 := q7.1 2 _ rfl
              have c3 := q7.1 3 _ rfl
              have c4 := q7.1 4 _ rfl
              have c5 := q7.1 5 _ rfl
              have c6 := q7.1 6 _ rfl
              have c7 := q7.1 7 _ rfl
              have zz := q7.2.2
              go_wp2
              clear c0 c1 c2 c3 c4 c5 c6 c7 zz
              have q6 := q4
              have HB6 := HB
              go_loopw [9, 72] (fun n f wr => ∃ i : Nat, f = .int .i64 i ∧ i ≤ 8 ∧ n = .int .i64 (sumT fo i) ∧ Cs wr b1 [.int .i64 (F 0 0), .int .i64 (F 0 1), .int .i64 (F 0 2), .int .i64 (F 0 3), .int .i64 (F 0 4), .int .i64 (F 0 5), .int .i64 (F 0 6), .int .i64 (F 0 7), .int .i64 (F 1 0), .int .i64 (F 1 1), .int .i64 (F 1 2), .int .i64 (F 1 3), .int .i64 (F 1 4), .int .i64 (F 1 5), .int .i64 (F 1 6), .int .i64 (F 1 7), .int .i64 nodes, .int .i64 held, .int .i64 mask, .int .i64 (K 0), .int .i64 (K 1), .int .i64 most] ∧ Below w.heap.size w wr) (fun _ f _ => 8 - (intOf f).toNat)
              case atStart => exact ⟨0, rfl, by omega, rfl, q6, HB6⟩
              case round =>
                clear q6 HB6 q4 HB q7
                obtain ⟨i, rfl, il, rfl, q4, HB⟩ := hrel
                have KB := HKB.out.1
                by_cases ci : i < 8
                · have j0 : (0 : Int) ≤ (i : Int) := by omega
                  have j1 : (i : Int) < 8 := by omega
                  have x1 := ix8 fo ci
                  have cx : ‹World›.cell? ⟨b1, i, none⟩ = some (.int .i64 (F 0 i)) := q4.1 (i) _ (case_at0 F ci)
                  have zc := q4.2.2
                  obtain ⟨o1, o2, o3⟩ := HOI.out.1 i ci
                  have T0 := HOT.out.1 i (by omega)
                  have T1 := HOT.out.1 (i + 1) (by omega)
                  have ST : Hid (sumT fo (i + 1) = sumT fo i + fo i) := rfl
                  have B3 : (bits .and .i64 ((m : Int) / 2 ^ i) 1 == 0) = !tb m i := bit_no ⟨m, M8.out.1⟩ ⟨i, ci⟩
                  obtain ⟨N, hN⟩ : ∃ N, N = sumT fo i := ⟨_, rfl⟩
                  obtain ⟨x, hx⟩ : ∃ x, x = fo i := ⟨_, rfl⟩
                  obtain ⟨v, hv⟩ : ∃ v, v = F 0 i := ⟨_, rfl⟩
                  rw [ST.out] at T1
                  rw [← hN] at T0 T1 ST ⊢
                  rw [← hx] at o1 o2 o3 T1 ST x1
                  rw [← hv] at cx o2
                  have b2 : -9223372036854775808 ≤ N + x := by omega
                  have b3 : N + x ≤ 9223372036854775807 := by omega
                  clear T0 T1 hN hx hv KB
                  by_cases x0 : 0 < x
                  · have tt : tb m i = true := by
                      cases e : tb m i with
                      | true => rfl
                      | false => have := o3 e; omega
                    rw [tt] at B3
                    clear o3 tt
                    go_wp2
                    go_roundw
                    case rel => exact ⟨i + 1, by go_num, by omega, by rw [ST.out], q4, HB⟩
                    case measure => simp [intOf]; omega
                  · obtain rfl : x = 0 := by omega
                    clear o3 B3 x0
                    have ST2 : Hid (sumT fo (i + 1) = N) := by show sumT fo (i + 1) = N; rw [ST.out]; omega
                    go_wp2
                    go_roundw
                    case rel => exact ⟨i + 1, by go_num, by omega, by rw [ST2.out], q4, HB⟩
                    case measure => simp [intOf]; omega
                · obtain rfl : i = 8 := by omega
                  rw [show ((8 : Nat) : Int) = 8 from rfl]
                  rw [HOS.out.1]
                  have ck := q4.1 19 _ rfl
                  have zc := q4.2.2
                  go_wp2
                  go_roundw
                  case rel => exact ⟨1, rfl, by omega, q4, HB⟩
                  case measure => simp [intOf]
          · rw [show ((1 : Nat) : Int) = 1 from rfl]
            obtain ⟨OB9, OI, OS, OT, KB⟩ := over_all M8.out.1 HLE.out.1 1 (by omega)
            have OF0 := OV.out 1 m
            obtain ⟨fo, hfo⟩ : ∃ fo, fo = overF (F 1) (m : Int) (K 1) := ⟨_, rfl⟩
            rw [OB9] at OF0
            rw [← hfo] at OF0 OI OS OT
            have OF : Hid (∀ w, Calls Try.prog 9 #[spV (F 1), .int .i64 m, .int .i64 (K 1)] w fun e w' => e = .returned (.tuple #[spV fo, .bool true]) ∧ Below w.heap.size w w') := OF0
            have HOI : Hid ((∀ i, i < 8 → 0 ≤ fo i ∧ fo i ≤ F 1 i ∧ (tb m i = false → fo i = 0)) ∧ True) := ⟨OI, trivial⟩
            have HOS : Hid (sumT fo 8 = K 1 ∧ True) := ⟨OS, trivial⟩
            have HOT : Hid ((∀ i, i ≤ 8 → 0 ≤ sumT fo i ∧ sumT fo i ≤ K 1) ∧ True) := ⟨OT, trivial⟩
            have HKB : Hid ((0 ≤ K 1 ∧ K 1 ≤ 1073741824) ∧ True) := ⟨KB, trivial⟩
            clear OB9 OI OS OT KB OF0 hfo
            go_upto_region 17 with (fail)
            go_cut [7, 8] (fun s7 s8 wc => ∃ p7, s7 = .pointer (some ⟨p7, 0, none⟩) ∧ s8 = .bool true ∧ Cs wc p7 (spL fo) ∧ Below wr.heap.size wr wc)
            case first =>
              have BW : Hid (Below wr.heap.size wr _) := Below.drew (Below.refl _ _)
              refine wp_region_noPanic ?_
              refine wp_region_held_drew (S := fun w' => Cs w' b1 [.int .i64 (F 0 0), .int .i64 (F 0 1), .int .i64 (F 0 2), .int .i64 (F 0 3), .int .i64 (F 0 4), .int .i64 (F 0 5), .int .i64 (F 0 6), .int .i64 (F 0 7), .int .i64 (F 1 0), .int .i64 (F 1 1), .int .i64 (F 1 2), .int .i64 (F 1 3), .int .i64 (F 1 4), .int .i64 (F 1 5), .int .i64 (F 1 6), .int .i64 (F 1 7), .int .i64 nodes, .int .i64 held, .int .i64 mask, .int .i64 (K 0), .int .i64 (K 1), .int .i64 most]) (by kernel_rfl) ?_ (fun hHeld => ?_)
              · exact Cs.later BW.out q4
              generalize World.drew _ = wd0 at *
              refine wpAnyH_take (i := 0) (v := ?_) rfl (by kernel_rfl) (by kernel_rfl) (by kernel_rfl) (fun _ _ _ h => h) (Or.inl ⟨by rfl, ?_⟩) (by assumption) ?_
              rotate_left
              · (intro wS hSw; have c0 := hSw.1 0 _ rfl; have c1 := hSw.1 1 _ rfl; have c2 := hSw.1 2 _ rfl; have c3 := hSw.1 3 _ rfl; have c4 := hSw.1 4 _ rfl; have c5 := hSw.1 5 _ rfl; have c6 := hSw.1 6 _ rfl; have c7 := hSw.1 7 _ rfl; have c8 := hSw.1 8 _ rfl; have c9 := hSw.1 9 _ rfl; have c10 := hSw.1 10 _ rfl; have c11 := hSw.1 11 _ rfl; have c12 := hSw.1 12 _ rfl; have c13 := hSw.1 13 _ rfl; have c14 := hSw.1 14 _ rfl; have c15 := hSw.1 15 _ rfl; have c16 := hSw.1 16 _ rfl; have c17 := hSw.1 17 _ rfl; have c18 := hSw.1 18 _ rfl; have c19 := hSw.1 19 _ rfl; have c20 := hSw.1 20 _ rfl; have c21 := hSw.1 21 _ rfl; have zc := hSw.2.2; go_simp; try with_reducible rfl)
              change wpAnyH _ _ _ _ _ _ _ (Act.put _ (some 59) _) _
              simp only [Act.put, List.setIfInBounds_toArray, List.set_cons_zero, List.set_cons_succ]
              refine wpAnyH_take (i := 1) (v := ?_) rfl (by kernel_rfl) (by kernel_rfl) (by kernel_rfl) (fun _ _ _ h => h) (Or.inl ⟨by rfl, ?_⟩) (by assumption) ?_
              rotate_left
              · (intro wS hSw; have c0 := hSw.1 0 _ rfl; have c1 := hSw.1 1 _ rfl; have c2 := hSw.1 2 _ rfl; have c3 := hSw.1 3 _ rfl; have c4 := hSw.1 4 _ rfl; have c5 := hSw.1 5 _ rfl; have c6 := hSw.1 6 _ rfl; have c7 := hSw.1 7 _ rfl; have c8 := hSw.1 8 _ rfl; have c9 := hSw.1 9 _ rfl; have c10 := hSw.1 10 _ rfl; have c11 := hSw.1 11 _ rfl; have c12 := hSw.1 12 _ rfl; have c13 := hSw.1 13 _ rfl; have c14 := hSw.1 14 _ rfl; have c15 := hSw.1 15 _ rfl; have c16 := hSw.1 16 _ rfl; have c17 := hSw.1 17 _ rfl; have c18 := hSw.1 18 _ rfl; have c19 := hSw.1 19 _ rfl; have c20 := hSw.1 20 _ rfl; have c21 := hSw.1 21 _ rfl; have zc := hSw.2.2; go_simp; try with_reducible rfl)
              change wpAnyH _ _ _ _ _ _ _ (Act.put _ (some 60) _) _
              simp only [Act.put, List.setIfInBounds_toArray, List.set_cons_zero, List.set_cons_succ]
              refine wpAnyH_take (i := 2) (v := ?_) rfl (by kernel_rfl) (by kernel_rfl) (by kernel_rfl) (fun _ _ _ h => h) (Or.inl ⟨by rfl, ?_⟩) (by assumption) ?_
              rotate_left
              · (intro wS hSw; have c0 := hSw.1 0 _ rfl; have c1 := hSw.1 1 _ rfl; have c2 := hSw.1 2 _ rfl; have c3 := hSw.1 3 _ rfl; have c4 := hSw.1 4 _ rfl; have c5 := hSw.1 5 _ rfl; have c6 := hSw.1 6 _ rfl; have c7 := hSw.1 7 _ rfl; have c8 := hSw.1 8 _ rfl; have c9 := hSw.1 9 _ rfl; have c10 := hSw.1 10 _ rfl; have c11 := hSw.1 11 _ rfl; have c12 := hSw.1 12 _ rfl; have c13 := hSw.1 13 _ rfl; have c14 := hSw.1 14 _ rfl; have c15 := hSw.1 15 _ rfl; have c16 := hSw.1 16 _ rfl; have c17 := hSw.1 17 _ rfl; have c18 := hSw.1 18 _ rfl; have c19 := hSw.1 19 _ rfl; have c20 := hSw.1 20 _ rfl; have c21 := hSw.1 21 _ rfl; have zc := hSw.2.2; go_simp; try with_reducible rfl)
              change wpAnyH _ _ _ _ _ _ _ (Act.put _ (some 61) _) _
              simp only [Act.put, List.setIfInBounds_toArray, List.set_cons_zero, List.set_cons_succ]
              refine wpAnyH_take (i := 3) (v := ?_) rfl (by kernel_rfl) (by kernel_rfl) (by kernel_rfl) (fun _ _ _ h => h) (Or.inl ⟨by rfl, ?_⟩) (by assumption) ?_
              rotate_left
              · (intro wS hSw; have c0 := hSw.1 0 _ rfl; have c1 := hSw.1 1 _ rfl; have c2 := hSw.1 2 _ rfl; have c3 := hSw.1 3 _ rfl; have c4 := hSw.1 4 _ rfl; have c5 := hSw.1 5 _ rfl; have c6 := hSw.1 6 _ rfl; have c7 := hSw.1 7 _ rfl; have c8 := hSw.1 8 _ rfl; have c9 := hSw.1 9 _ rfl; have c10 := hSw.1 10 _ rfl; have c11 := hSw.1 11 _ rfl; have c12 := hSw.1 12 _ rfl; have c13 := hSw.1 13 _ rfl; have c14 := hSw.1 14 _ rfl; have c15 := hSw.1 15 _ rfl; have c16 := hSw.1 16 _ rfl; have c17 := hSw.1 17 _ rfl; have c18 := hSw.1 18 _ rfl; have c19 := hSw.1 19 _ rfl; have c20 := hSw.1 20 _ rfl; have c21 := hSw.1 21 _ rfl; have zc := hSw.2.2; go_simp; try with_reducible rfl)
              change wpAnyH _ _ _ _ _ _ _ (Act.put _ (some 62) _) _
              simp only [Act.put, List.setIfInBounds_toArray, List.set_cons_zero, List.set_cons_succ]
              refine wpAnyH_take (i := 4) (v := ?_) rfl (by kernel_rfl) (by kernel_rfl) (by kernel_rfl) (fun _ _ _ h => h) (Or.inl ⟨by rfl, ?_⟩) (by assumption) ?_
              rotate_left
              · (intro wS hSw; have c0 := hSw.1 0 _ rfl; have c1 := hSw.1 1 _ rfl; have c2 := hSw.1 2 _ rfl; have c3 := hSw.1 3 _ rfl; have c4 := hSw.1 4 _ rfl; have c5 := hSw.1 5 _ rfl; have c6 := hSw.1 6 _ rfl; have c7 := hSw.1 7 _ rfl; have c8 := hSw.1 8 _ rfl; have c9 := hSw.1 9 _ rfl; have c10 := hSw.1 10 _ rfl; have c11 := hSw.1 11 _ rfl; have c12 := hSw.1 12 _ rfl; have c13 := hSw.1 13 _ rfl; have c14 := hSw.1 14 _ rfl; have c15 := hSw.1 15 _ rfl; have c16 := hSw.1 16 _ rfl; have c17 := hSw.1 17 _ rfl; have c18 := hSw.1 18 _ rfl; have c19 := hSw.1 19 _ rfl; have c20 := hSw.1 20 _ rfl; have c21 := hSw.1 21 _ rfl; have zc := hSw.2.2; go_simp; try with_reducible rfl)
              change wpAnyH _ _ _ _ _ _ _ (Act.put _ (some 63) _) _
              simp only [Act.put, List.setIfInBounds_toArray, List.set_cons_zero, List.set_cons_succ]
              refine wpAnyH_take (i := 5) (v := ?_) rfl (by kernel_rfl) (by kernel_rfl) (by kernel_rfl) (fun _ _ _ h => h) (Or.inl ⟨by rfl, ?_⟩) (by assumption) ?_
              rotate_left
              · (intro wS hSw; have c0 := hSw.1 0 _ rfl; have c1 := hSw.1 1 _ rfl; have c2 := hSw.1 2 _ rfl; have c3 := hSw.1 3 _ rfl; have c4 := hSw.1 4 _ rfl; have c5 := hSw.1 5 _ rfl; have c6 := hSw.1 6 _ rfl; have c7 := hSw.1 7 _ rfl; have c8 := hSw.1 8 _ rfl; have c9 := hSw.1 9 _ rfl; have c10 := hSw.1 10 _ rfl; have c11 := hSw.1 11 _ rfl; have c12 := hSw.1 12 _ rfl; have c13 := hSw.1 13 _ rfl; have c14 := hSw.1 14 _ rfl; have c15 := hSw.1 15 _ rfl; have c16 := hSw.1 16 _ rfl; have c17 := hSw.1 17 _ rfl; have c18 := hSw.1 18 _ rfl; have c19 := hSw.1 19 _ rfl; have c20 := hSw.1 20 _ rfl; have c21 := hSw.1 21 _ rfl; have zc := hSw.2.2; go_simp; try with_reducible rfl)
              change wpAnyH _ _ _ _ _ _ _ (Act.put _ (some 64) _) _
              simp only [Act.put, List.setIfInBounds_toArray, List.set_cons_zero, List.set_cons_succ]
              refine wpAnyH_take (i := 6) (v := ?_) rfl (by kernel_rfl) (by kernel_rfl) (by kernel_rfl) (fun _ _ _ h => h) (Or.inl ⟨by rfl, ?_⟩) (by assumption) ?_
              rotate_left
              · (intro wS hSw; have c0 := hSw.1 0 _ rfl; have c1 := hSw.1 1 _ rfl; have c2 := hSw.1 2 _ rfl; have c3 := hSw.1 3 _ rfl; have c4 := hSw.1 4 _ rfl; have c5 := hSw.1 5 _ rfl; have c6 := hSw.1 6 _ rfl; have c7 := hSw.1 7 _ rfl; have c8 := hSw.1 8 _ rfl; have c9 := hSw.1 9 _ rfl; have c10 := hSw.1 10 _ rfl; have c11 := hSw.1 11 _ rfl; have c12 := hSw.1 12 _ rfl; have c13 := hSw.1 13 _ rfl; have c14 := hSw.1 14 _ rfl; have c15 := hSw.1 15 _ rfl; have c16 := hSw.1 16 _ rfl; have c17 := hSw.1 17 _ rfl; have c18 := hSw.1 18 _ rfl; have c19 := hSw.1 19 _ rfl; have c20 := hSw.1 20 _ rfl; have c21 := hSw.1 21 _ rfl; have zc := hSw.2.2; go_simp; try with_reducible rfl)
              change wpAnyH _ _ _ _ _ _ _ (Act.put _ (some 65) _) _
              simp only [Act.put, List.setIfInBounds_toArray, List.set_cons_zero, List.set_cons_succ]
              refine wpAnyH_take (i := 7) (v := ?_) rfl (by kernel_rfl) (by kernel_rfl) (by kernel_rfl) (fun _ _ _ h => h) (Or.inl ⟨by rfl, ?_⟩) (by assumption) ?_
              rotate_left
              · (intro wS hSw; have c0 := hSw.1 0 _ rfl; have c1 := hSw.1 1 _ rfl; have c2 := hSw.1 2 _ rfl; have c3 := hSw.1 3 _ rfl; have c4 := hSw.1 4 _ rfl; have c5 := hSw.1 5 _ rfl; have c6 := hSw.1 6 _ rfl; have c7 := hSw.1 7 _ rfl; have c8 := hSw.1 8 _ rfl; have c9 := hSw.1 9 _ rfl; have c10 := hSw.1 10 _ rfl; have c11 := hSw.1 11 _ rfl; have c12 := hSw.1 12 _ rfl; have c13 := hSw.1 13 _ rfl; have c14 := hSw.1 14 _ rfl; have c15 := hSw.1 15 _ rfl; have c16 := hSw.1 16 _ rfl; have c17 := hSw.1 17 _ rfl; have c18 := hSw.1 18 _ rfl; have c19 := hSw.1 19 _ rfl; have c20 := hSw.1 20 _ rfl; have c21 := hSw.1 21 _ rfl; have zc := hSw.2.2; go_simp; try with_reducible rfl)
              change wpAnyH _ _ _ _ _ _ _ (Act.put _ (some 66) _) _
              simp only [Act.put, List.setIfInBounds_toArray, List.set_cons_zero, List.set_cons_succ]
              refine wpAnyH_take (i := 8) (v := ?_) rfl (by kernel_rfl) (by kernel_rfl) (by kernel_rfl) (fun _ _ _ h => h) (Or.inl ⟨by rfl, ?_⟩) (by assumption) ?_
              rotate_left
              · (intro wS hSw; have c0 := hSw.1 0 _ rfl; have c1 := hSw.1 1 _ rfl; have c2 := hSw.1 2 _ rfl; have c3 := hSw.1 3 _ rfl; have c4 := hSw.1 4 _ rfl; have c5 := hSw.1 5 _ rfl; have c6 := hSw.1 6 _ rfl; have c7 := hSw.1 7 _ rfl; have c8 := hSw.1 8 _ rfl; have c9 := hSw.1 9 _ rfl; have c10 := hSw.1 10 _ rfl; have c11 := hSw.1 11 _ rfl; have c12 := hSw.1 12 _ rfl; have c13 := hSw.1 13 _ rfl; have c14 := hSw.1 14 _ rfl; have c15 := hSw.1 15 _ rfl; have c16 := hSw.1 16 _ rfl; have c17 := hSw.1 17 _ rfl; have c18 := hSw.1 18 _ rfl; have c19 := hSw.1 19 _ rfl; have c20 := hSw.1 20 _ rfl; have c21 := hSw.1 21 _ rfl; have zc := hSw.2.2; go_simp; try with_reducible rfl)
              change wpAnyH _ _ _ _ _ _ _ (Act.put _ (some 67) _) _
              simp only [Act.put, List.setIfInBounds_toArray, List.set_cons_zero, List.set_cons_succ]
              refine wpAnyH_ready (rs := [9, 13]) (by kernel_rfl) (by simp) ?_
              refine AllReadyH.cons rfl (fun K hK => ?_) (AllReadyH.cons rfl (fun K hK => ?_) AllReadyH.nil)
              ·
                go_simp
                refine (OF.out _).mono ?_
                rintro e v1 ⟨rfl, hv1⟩
                have BW' : Hid (Below wr.heap.size wr v1) := BW.out.trans (hv1.mono BW.out.size)
                clear hv1 BW
                have BW := BW'
                clear BW'
                (try go_wp2_with (fail))
                refine hK.out _ _ ?_ (fun hHeld => ?_)
                · exact Cs.later BW.out q4
                clear hK K
                refine wpAnyH_take (i := 10) (v := ?_) rfl (by kernel_rfl) (by kernel_rfl) (by kernel_rfl) (fun _ _ _ h => h) (Or.inl ⟨by rfl, ?_⟩) (by assumption) ?_
                rotate_left
                · (intro wS hSw; have c0 := hSw.1 0 _ rfl; have c1 := hSw.1 1 _ rfl; have c2 := hSw.1 2 _ rfl; have c3 := hSw.1 3 _ rfl; have c4 := hSw.1 4 _ rfl; have c5 := hSw.1 5 _ rfl; have c6 := hSw.1 6 _ rfl; have c7 := hSw.1 7 _ rfl; have c8 := hSw.1 8 _ rfl; have c9 := hSw.1 9 _ rfl; have c10 := hSw.1 10 _ rfl; have c11 := hSw.1 11 _ rfl; have c12 := hSw.1 12 _ rfl; have c13 := hSw.1 13 _ rfl; have c14 := hSw.1 14 _ rfl; have c15 := hSw.1 15 _ rfl; have c16 := hSw.1 16 _ rfl; have c17 := hSw.1 17 _ rfl; have c18 := hSw.1 18 _ rfl; have c19 := hSw.1 19 _ rfl; have c20 := hSw.1 20 _ rfl; have c21 := hSw.1 21 _ rfl; have zc := hSw.2.2; go_simp; try with_reducible rfl)
                change wpAnyH _ _ _ _ _ _ _ (Act.put _ (some 58) _) _
                simp only [Act.put, List.setIfInBounds_toArray, List.set_cons_zero, List.set_cons_succ]
                refine wpAnyH_take (i := 11) (v := ?_) rfl (by kernel_rfl) (by kernel_rfl) (by kernel_rfl) (fun _ _ _ h => h) (Or.inl ⟨by rfl, ?_⟩) (by assumption) ?_
                rotate_left
                · (intro wS hSw; have c0 := hSw.1 0 _ rfl; have c1 := hSw.1 1 _ rfl; have c2 := hSw.1 2 _ rfl; have c3 := hSw.1 3 _ rfl; have c4 := hSw.1 4 _ rfl; have c5 := hSw.1 5 _ rfl; have c6 := hSw.1 6 _ rfl; have c7 := hSw.1 7 _ rfl; have c8 := hSw.1 8 _ rfl; have c9 := hSw.1 9 _ rfl; have c10 := hSw.1 10 _ rfl; have c11 := hSw.1 11 _ rfl; have c12 := hSw.1 12 _ rfl; have c13 := hSw.1 13 _ rfl; have c14 := hSw.1 14 _ rfl; have c15 := hSw.1 15 _ rfl; have c16 := hSw.1 16 _ rfl; have c17 := hSw.1 17 _ rfl; have c18 := hSw.1 18 _ rfl; have c19 := hSw.1 19 _ rfl; have c20 := hSw.1 20 _ rfl; have c21 := hSw.1 21 _ rfl; have zc := hSw.2.2; go_simp; try with_reducible rfl)
                change wpAnyH _ _ _ _ _ _ _ (Act.put _ (some 69) _) _
                simp only [Act.put, List.setIfInBounds_toArray, List.set_cons_zero, List.set_cons_succ]
                refine wpAnyH_take (i := 12) (v := ?_) rfl (by kernel_rfl) (by kernel_rfl) (by kernel_rfl) (fun _ _ _ h => h) (Or.inl ⟨by rfl, ?_⟩) (by assumption) ?_
                rotate_left
                · (intro wS hSw; have c0 := hSw.1 0 _ rfl; have c1 := hSw.1 1 _ rfl; have c2 := hSw.1 2 _ rfl; have c3 := hSw.1 3 _ rfl; have c4 := hSw.1 4 _ rfl; have c5 := hSw.1 5 _ rfl; have c6 := hSw.1 6 _ rfl; have c7 := hSw.1 7 _ rfl; have c8 := hSw.1 8 _ rfl; have c9 := hSw.1 9 _ rfl; have c10 := hSw.1 10 _ rfl; have c11 := hSw.1 11 _ rfl; have c12 := hSw.1 12 _ rfl; have c13 := hSw.1 13 _ rfl; have c14 := hSw.1 14 _ rfl; have c15 := hSw.1 15 _ rfl; have c16 := hSw.1 16 _ rfl; have c17 := hSw.1 17 _ rfl; have c18 := hSw.1 18 _ rfl; have c19 := hSw.1 19 _ rfl; have c20 := hSw.1 20 _ rfl; have c21 := hSw.1 21 _ rfl; have zc := hSw.2.2; go_simp; try with_reducible rfl)
                change wpAnyH _ _ _ _ _ _ _ (Act.put _ (some 70) _) _
                simp only [Act.put, List.setIfInBounds_toArray, List.set_cons_zero, List.set_cons_succ]
                refine wpAnyH_ready (rs := [13]) (by kernel_rfl) (by simp) ?_
                refine AllReadyH.cons rfl (fun K hK => ?_) AllReadyH.nil
                go_simp
                obtain ⟨p7, hp7⟩ : ∃ p7, p7 = v1.heap.size := ⟨_, rfl⟩
                have BW' : Hid (Below wr.heap.size wr (v1.alloc (.cells #[.int .i64 0, .int .i64 0, .int .i64 0, .int .i64 0, .int .i64 0, .int .i64 0, .int .i64 0, .int .i64 0] 23))) := BW.out.alloc BW.out.size _
                have N7' : Hid (Cs (v1.alloc (.cells #[.int .i64 0, .int .i64 0, .int .i64 0, .int .i64 0, .int .i64 0, .int .i64 0, .int .i64 0, .int .i64 0] 23)) p7 (spL nought) ∧ wr.heap.size ≤ p7) := by rw [hp7]; exact ⟨Cs.new _ _ _ _ rfl, BW.out.size⟩
                clear BW
                have BW := BW'
                clear BW'
                have N7 := N7'
                clear N7'
                refine hK.out _ _ ?_ (fun hHeld => ?_)
                · exact Cs.later BW.out q4
                clear hK K
                rw [← hp7]
                clear hp7
                generalize v1.alloc (.cells #[.int .i64 0, .int .i64 0, .int .i64 0, .int .i64 0, .int .i64 0, .int .i64 0, .int .i64 0, .int .i64 0] 23) = wA2 at *
                refine wpAnyH_ready (rs := [14]) (by kernel_rfl) (by simp) ?_
                refine AllReadyH.cons rfl (fun K hK => ?_) AllReadyH.nil
                have c0 := N7.out.1.1 0 _ rfl
                have c1 := N7.out.1.1 1 _ rfl
                have c2 := N7.out.1.1 2 _ rfl
                have c3 := N7.out.1.1 3 _ rfl
                have c4 := N7.out.1.1 4 _ rfl
                have c5 := N7.out.1.1 5 _ rfl
                have c6 := N7.out.1.1 6 _ rfl
                have c7 := N7.out.1.1 7 _ rfl
                have f0 := N7.out.1.2.1 0 (by show 0 < 8; omega)
                have f1 := N7.out.1.2.1 1 (by show 1 < 8; omega)
                have f2 := N7.out.1.2.1 2 (by show 2 < 8; omega)
                have f3 := N7.out.1.2.1 3 (by show 3 < 8; omega)
                have f4 := N7.out.1.2.1 4 (by show 4 < 8; omega)
                have f5 := N7.out.1.2.1 5 (by show 5 < 8; omega)
                have f6 := N7.out.1.2.1 6 (by show 6 < 8; omega)
                have f7 := N7.out.1.2.1 7 (by show 7 < 8; omega)
                have z7 := N7.out.1.2.2
                have BW' : Hid (Below wr.heap.size wr ((((((((wA2.setCell ⟨p7, 0, none⟩ (.int .i64 (fo 0))).setCell ⟨p7, 1, none⟩ (.int .i64 (fo 1))).setCell ⟨p7, 2, none⟩ (.int .i64 (fo 2))).setCell ⟨p7, 3, none⟩ (.int .i64 (fo 3))).setCell ⟨p7, 4, none⟩ (.int .i64 (fo 4))).setCell ⟨p7, 5, none⟩ (.int .i64 (fo 5))).setCell ⟨p7, 6, none⟩ (.int .i64 (fo 6))).setCell ⟨p7, 7, none⟩ (.int .i64 (fo 7)))) := below_store8 fo BW.out N7.out.2
                have N7' : Hid (Cs ((((((((wA2.setCell ⟨p7, 0, none⟩ (.int .i64 (fo 0))).setCell ⟨p7, 1, none⟩ (.int .i64 (fo 1))).setCell ⟨p7, 2, none⟩ (.int .i64 (fo 2))).setCell ⟨p7, 3, none⟩ (.int .i64 (fo 3))).setCell ⟨p7, 4, none⟩ (.int .i64 (fo 4))).setCell ⟨p7, 5, none⟩ (.int .i64 (fo 5))).setCell ⟨p7, 6, none⟩ (.int .i64 (fo 6))).setCell ⟨p7, 7, none⟩ (.int .i64 (fo 7))) p7 (spL fo) ∧ wr.heap.size ≤ p7) := ⟨cs_store8 (g := fo) N7.out.1, N7.out.2⟩
                clear N7 BW
                have BW := BW'
                have N7 := N7'
                clear BW' N7'
                go_wp2_with (fail)
                refine hK.out _ _ ?_ (fun hHeld => ?_)
                · exact Cs.later BW.out q4
                clear hK K z7 c0 f0 c1 f1 c2 f2 c3 f3 c4 f4 c5 f5 c6 f6 c7 f7
                generalize ((((((((wA2.setCell ⟨p7, 0, none⟩ (.int .i64 (fo 0))).setCell ⟨p7, 1, none⟩ (.int .i64 (fo 1))).setCell ⟨p7, 2, none⟩ (.int .i64 (fo 2))).setCell ⟨p7, 3, none⟩ (.int .i64 (fo 3))).setCell ⟨p7, 4, none⟩ (.int .i64 (fo 4))).setCell ⟨p7, 5, none⟩ (.int .i64 (fo 5))).setCell ⟨p7, 6, none⟩ (.int .i64 (fo 6))).setCell ⟨p7, 7, none⟩ (.int .i64 (fo 7))) = wS at *
                refine wpAnyH_take (i := 15) (v := ?_) rfl (by kernel_rfl) (by kernel_rfl) (by kernel_rfl) (fun _ _ _ h => h) (Or.inl ⟨by rfl, ?_⟩) (by assumption) ?_
                rotate_left
                · (intro wS hSw; have c0 := hSw.1 0 _ rfl; have c1 := hSw.1 1 _ rfl; have c2 := hSw.1 2 _ rfl; have c3 := hSw.1 3 _ rfl; have c4 := hSw.1 4 _ rfl; have c5 := hSw.1 5 _ rfl; have c6 := hSw.1 6 _ rfl; have c7 := hSw.1 7 _ rfl; have c8 := hSw.1 8 _ rfl; have c9 := hSw.1 9 _ rfl; have c10 := hSw.1 10 _ rfl; have c11 := hSw.1 11 _ rfl; have c12 := hSw.1 12 _ rfl; have c13 := hSw.1 13 _ rfl; have c14 := hSw.1 14 _ rfl; have c15 := hSw.1 15 _ rfl; have c16 := hSw.1 16 _ rfl; have c17 := hSw.1 17 _ rfl; have c18 := hSw.1 18 _ rfl; have c19 := hSw.1 19 _ rfl; have c20 := hSw.1 20 _ rfl; have c21 := hSw.1 21 _ rfl; have zc := hSw.2.2; go_simp; try with_reducible rfl)
                change wpAnyH _ _ _ _ _ _ _ (Act.put _ (some 8) _) _
                simp only [Act.put, List.setIfInBounds_toArray, List.set_cons_zero, List.set_cons_succ]
                refine wpAnyH_done (by kernel_rfl) ?_ _
                refine NoPanic.normal ?_
                (try go_wp2)
                go_meet
                case rel => exact ⟨_, rfl, rfl, N7.out.1, BW.out⟩
              ·
                go_simp
                obtain ⟨p7, hp7⟩ : ∃ p7, p7 = wd0.heap.size := ⟨_, rfl⟩
                have BW' : Hid (Below wr.heap.size wr (wd0.alloc (.cells #[.int .i64 0, .int .i64 0, .int .i64 0, .int .i64 0, .int .i64 0, .int .i64 0, .int .i64 0, .int .i64 0] 23))) := BW.out.alloc BW.out.size _
                have N7' : Hid (Cs (wd0.alloc (.cells #[.int .i64 0, .int .i64 0, .int .i64 0, .int .i64 0, .int .i64 0, .int .i64 0, .int .i64 0, .int .i64 0] 23)) p7 (spL nought) ∧ wr.heap.size ≤ p7) := by rw [hp7]; exact ⟨Cs.new _ _ _ _ rfl, BW.out.size⟩
                clear BW
                have BW := BW'
                clear BW'
                have N7 := N7'
                clear N7'
                refine hK.out _ _ ?_ (fun hHeld => ?_)
                · exact Cs.later BW.out q4
                clear hK K
                rw [← hp7]
                clear hp7
                generalize wd0.alloc (.cells #[.int .i64 0, .int .i64 0, .int .i64 0, .int .i64 0, .int .i64 0, .int .i64 0, .int .i64 0, .int .i64 0] 23) = wA4 at *
                refine wpAnyH_ready (rs := [9]) (by kernel_rfl) (by simp) ?_
                refine AllReadyH.cons rfl (fun K hK => ?_) AllReadyH.nil
                go_simp
                refine (OF.out _).mono ?_
                rintro e v5 ⟨rfl, hv5⟩
                have BW' : Hid (Below wr.heap.size wr v5) := BW.out.trans (hv5.mono BW.out.size)
                have N7' : Hid (Cs v5 p7 (spL nought) ∧ wr.heap.size ≤ p7) := ⟨Cs.later hv5 N7.out.1, N7.out.2⟩
                clear hv5 BW N7
                have BW := BW'
                clear BW'
                have N7 := N7'
                clear N7'
                (try go_wp2_with (fail))
                refine hK.out _ _ ?_ (fun hHeld => ?_)
                · exact Cs.later BW.out q4
                clear hK K
                refine wpAnyH_take (i := 10) (v := ?_) rfl (by kernel_rfl) (by kernel_rfl) (by kernel_rfl) (fun _ _ _ h => h) (Or.inl ⟨by rfl, ?_⟩) (by assumption) ?_
                rotate_left
                · (intro wS hSw; have c0 := hSw.1 0 _ rfl; have c1 := hSw.1 1 _ rfl; have c2 := hSw.1 2 _ rfl; have c3 := hSw.1 3 _ rfl; have c4 := hSw.1 4 _ rfl; have c5 := hSw.1 5 _ rfl; have c6 := hSw.1 6 _ rfl; have c7 := hSw.1 7 _ rfl; have c8 := hSw.1 8 _ rfl; have c9 := hSw.1 9 _ rfl; have c10 := hSw.1 10 _ rfl; have c11 := hSw.1 11 _ rfl; have c12 := hSw.1 12 _ rfl; have c13 := hSw.1 13 _ rfl; have c14 := hSw.1 14 _ rfl; have c15 := hSw.1 15 _ rfl; have c16 := hSw.1 16 _ rfl; have c17 := hSw.1 17 _ rfl; have c18 := hSw.1 18 _ rfl; have c19 := hSw.1 19 _ rfl; have c20 := hSw.1 20 _ rfl; have c21 := hSw.1 21 _ rfl; have zc := hSw.2.2; go_simp; try with_reducible rfl)
                change wpAnyH _ _ _ _ _ _ _ (Act.put _ (some 58) _) _
                simp only [Act.put, List.setIfInBounds_toArray, List.set_cons_zero, List.set_cons_succ]
                refine wpAnyH_take (i := 11) (v := ?_) rfl (by kernel_rfl) (by kernel_rfl) (by kernel_rfl) (fun _ _ _ h => h) (Or.inl ⟨by rfl, ?_⟩) (by assumption) ?_
                rotate_left
                · (intro wS hSw; have c0 := hSw.1 0 _ rfl; have c1 := hSw.1 1 _ rfl; have c2 := hSw.1 2 _ rfl; have c3 := hSw.1 3 _ rfl; have c4 := hSw.1 4 _ rfl; have c5 := hSw.1 5 _ rfl; have c6 := hSw.1 6 _ rfl; have c7 := hSw.1 7 _ rfl; have c8 := hSw.1 8 _ rfl; have c9 := hSw.1 9 _ rfl; have c10 := hSw.1 10 _ rfl; have c11 := hSw.1 11 _ rfl; have c12 := hSw.1 12 _ rfl; have c13 := hSw.1 13 _ rfl; have c14 := hSw.1 14 _ rfl; have c15 := hSw.1 15 _ rfl; have c16 := hSw.1 16 _ rfl; have c17 := hSw.1 17 _ rfl; have c18 := hSw.1 18 _ rfl; have c19 := hSw.1 19 _ rfl; have c20 := hSw.1 20 _ rfl; have c21 := hSw.1 21 _ rfl; have zc := hSw.2.2; go_simp; try with_reducible rfl)
                change wpAnyH _ _ _ _ _ _ _ (Act.put _ (some 69) _) _
                simp only [Act.put, List.setIfInBounds_toArray, List.set_cons_zero, List.set_cons_succ]
                refine wpAnyH_take (i := 12) (v := ?_) rfl (by kernel_rfl) (by kernel_rfl) (by kernel_rfl) (fun _ _ _ h => h) (Or.inl ⟨by rfl, ?_⟩) (by assumption) ?_
                rotate_left
                · (intro wS hSw; have c0 := hSw.1 0 _ rfl; have c1 := hSw.1 1 _ rfl; have c2 := hSw.1 2 _ rfl; have c3 := hSw.1 3 _ rfl; have c4 := hSw.1 4 _ rfl; have c5 := hSw.1 5 _ rfl; have c6 := hSw.1 6 _ rfl; have c7 := hSw.1 7 _ rfl; have c8 := hSw.1 8 _ rfl; have c9 := hSw.1 9 _ rfl; have c10 := hSw.1 10 _ rfl; have c11 := hSw.1 11 _ rfl; have c12 := hSw.1 12 _ rfl; have c13 := hSw.1 13 _ rfl; have c14 := hSw.1 14 _ rfl; have c15 := hSw.1 15 _ rfl; have c16 := hSw.1 16 _ rfl; have c17 := hSw.1 17 _ rfl; have c18 := hSw.1 18 _ rfl; have c19 := hSw.1 19 _ rfl; have c20 := hSw.1 20 _ rfl; have c21 := hSw.1 21 _ rfl; have zc := hSw.2.2; go_simp; try with_reducible rfl)
                change wpAnyH _ _ _ _ _ _ _ (Act.put _ (some 70) _) _
                simp only [Act.put, List.setIfInBounds_toArray, List.set_cons_zero, List.set_cons_succ]
                refine wpAnyH_ready (rs := [14]) (by kernel_rfl) (by simp) ?_
                refine AllReadyH.cons rfl (fun K hK => ?_) AllReadyH.nil
                have c0 := N7.out.1.1 0 _ rfl
                have c1 := N7.out.1.1 1 _ rfl
                have c2 := N7.out.1.1 2 _ rfl
                have c3 := N7.out.1.1 3 _ rfl
                have c4 := N7.out.1.1 4 _ rfl
                have c5 := N7.out.1.1 5 _ rfl
                have c6 := N7.out.1.1 6 _ rfl
                have c7 := N7.out.1.1 7 _ rfl
                have f0 := N7.out.1.2.1 0 (by show 0 < 8; omega)
                have f1 := N7.out.1.2.1 1 (by show 1 < 8; omega)
                have f2 := N7.out.1.2.1 2 (by show 2 < 8; omega)
                have f3 := N7.out.1.2.1 3 (by show 3 < 8; omega)
                have f4 := N7.out.1.2.1 4 (by show 4 < 8; omega)
                have f5 := N7.out.1.2.1 5 (by show 5 < 8; omega)
                have f6 := N7.out.1.2.1 6 (by show 6 < 8; omega)
                have f7 := N7.out.1.2.1 7 (by show 7 < 8; omega)
                have z7 := N7.out.1.2.2
                have BW' : Hid (Below wr.heap.size wr ((((((((v5.setCell ⟨p7, 0, none⟩ (.int .i64 (fo 0))).setCell ⟨p7, 1, none⟩ (.int .i64 (fo 1))).setCell ⟨p7, 2, none⟩ (.int .i64 (fo 2))).setCell ⟨p7, 3, none⟩ (.int .i64 (fo 3))).setCell ⟨p7, 4, none⟩ (.int .i64 (fo 4))).setCell ⟨p7, 5, none⟩ (.int .i64 (fo 5))).setCell ⟨p7, 6, none⟩ (.int .i64 (fo 6))).setCell ⟨p7, 7, none⟩ (.int .i64 (fo 7)))) := below_store8 fo BW.out N7.out.2
                have N7' : Hid (Cs ((((((((v5.setCell ⟨p7, 0, none⟩ (.int .i64 (fo 0))).setCell ⟨p7, 1, none⟩ (.int .i64 (fo 1))).setCell ⟨p7, 2, none⟩ (.int .i64 (fo 2))).setCell ⟨p7, 3, none⟩ (.int .i64 (fo 3))).setCell ⟨p7, 4, none⟩ (.int .i64 (fo 4))).setCell ⟨p7, 5, none⟩ (.int .i64 (fo 5))).setCell ⟨p7, 6, none⟩ (.int .i64 (fo 6))).setCell ⟨p7, 7, none⟩ (.int .i64 (fo 7))) p7 (spL fo) ∧ wr.heap.size ≤ p7) := ⟨cs_store8 (g := fo) N7.out.1, N7.out.2⟩
                clear N7 BW
                have BW := BW'
                have N7 := N7'
                clear BW' N7'
                go_wp2_with (fail)
                refine hK.out _ _ ?_ (fun hHeld => ?_)
                · exact Cs.later BW.out q4
                clear hK K z7 c0 f0 c1 f1 c2 f2 c3 f3 c4 f4 c5 f5 c6 f6 c7 f7
                generalize ((((((((v5.setCell ⟨p7, 0, none⟩ (.int .i64 (fo 0))).setCell ⟨p7, 1, none⟩ (.int .i64 (fo 1))).setCell ⟨p7, 2, none⟩ (.int .i64 (fo 2))).setCell ⟨p7, 3, none⟩ (.int .i64 (fo 3))).setCell ⟨p7, 4, none⟩ (.int .i64 (fo 4))).setCell ⟨p7, 5, none⟩ (.int .i64 (fo 5))).setCell ⟨p7, 6, none⟩ (.int .i64 (fo 6))).setCell ⟨p7, 7, none⟩ (.int .i64 (fo 7))) = wS at *
                refine wpAnyH_take (i := 15) (v := ?_) rfl (by kernel_rfl) (by kernel_rfl) (by kernel_rfl) (fun _ _ _ h => h) (Or.inl ⟨by rfl, ?_⟩) (by assumption) ?_
                rotate_left
                · (intro wS hSw; have c0 := hSw.1 0 _ rfl; have c1 := hSw.1 1 _ rfl; have c2 := hSw.1 2 _ rfl; have c3 := hSw.1 3 _ rfl; have c4 := hSw.1 4 _ rfl; have c5 := hSw.1 5 _ rfl; have c6 := hSw.1 6 _ rfl; have c7 := hSw.1 7 _ rfl; have c8 := hSw.1 8 _ rfl; have c9 := hSw.1 9 _ rfl; have c10 := hSw.1 10 _ rfl; have c11 := hSw.1 11 _ rfl; have c12 := hSw.1 12 _ rfl; have c13 := hSw.1 13 _ rfl; have c14 := hSw.1 14 _ rfl; have c15 := hSw.1 15 _ rfl; have c16 := hSw.1 16 _ rfl; have c17 := hSw.1 17 _ rfl; have c18 := hSw.1 18 _ rfl; have c19 := hSw.1 19 _ rfl; have c20 := hSw.1 20 _ rfl; have c21 := hSw.1 21 _ rfl; have zc := hSw.2.2; go_simp; try with_reducible rfl)
                change wpAnyH _ _ _ _ _ _ _ (Act.put _ (some 8) _) _
                simp only [Act.put, List.setIfInBounds_toArray, List.set_cons_zero, List.set_cons_succ]
                refine wpAnyH_done (by kernel_rfl) ?_ _
                refine NoPanic.normal ?_
                (try go_wp2)
                go_meet
                case rel => exact ⟨_, rfl, rfl, N7.out.1, BW.out⟩
            case rest =>
              obtain ⟨p7, rfl, rfl, q7, hB⟩ := hcut
              replace q4 := Cs.later hB q4
              replace HB := HB.trans (hB.mono HB.size)
              clear hB OF
              have c0 := q7.1 0 _ rfl
              have c1 := q7.1 1 _ rfl
              have c2 := q7.1 2 _ rfl
              have c3 := q7.1 3 _ rfl
              have c4 := q7.1 4 _ rfl
              have c5 := q7.1 5 _ rfl
              have c6 := q7.1 6 _ rfl
              have c7 := q7.1 7 _ rfl
              have zz := q7.2.2
              go_wp2
              clear c0 c1 c2 c3 c4 c5 c6 c7 zz
              have q6 := q4
              have HB6 := HB
              go_loopw [9, 72] (fun n f wr => ∃ i : Nat, f = .int .i64 i ∧ i ≤ 8 ∧ n = .int .i64 (sumT fo i) ∧ Cs wr b1 [.int .i64 (F 0 0), .int .i64 (F 0 1), .int .i64 (F 0 2), .int .i64 (F 0 3), .int .i64 (F 0 4), .int .i64 (F 0 5), .int .i64 (F 0 6), .int .i64 (F 0 7), .int .i64 (F 1 0), .int .i64 (F 1 1), .int .i64 (F 1 2), .int .i64 (F 1 3), .int .i64 (F 1 4), .int .i64 (F 1 5), .int .i64 (F 1 6), .int .i64 (F 1 7), .int .i64 nodes, .int .i64 held, .int .i64 mask, .int .i64 (K 0), .int .i64 (K 1), .int .i64 most] ∧ Below w.heap.size w wr) (fun _ f _ => 8 - (intOf f).toNat)
              case atStart => exact ⟨0, rfl, by omega, rfl, q6, HB6⟩
              case round =>
                clear q6 HB6 q4 HB q7
                obtain ⟨i, rfl, il, rfl, q4, HB⟩ := hrel
                have KB := HKB.out.1
                by_cases ci : i < 8
                · have j0 : (0 : Int) ≤ (i : Int) := by omega
                  have j1 : (i : Int) < 8 := by omega
                  have x1 := ix8 fo ci
                  have cx : ‹World›.cell? ⟨b1, 8 + i, none⟩ = some (.int .i64 (F 1 i)) := q4.1 (8 + i) _ (case_at1 F ci)
                  have zc := q4.2.2
                  obtain ⟨o1, o2, o3⟩ := HOI.out.1 i ci
                  have T0 := HOT.out.1 i (by omega)
                  have T1 := HOT.out.1 (i + 1) (by omega)
                  have ST : Hid (sumT fo (i + 1) = sumT fo i + fo i) := rfl
                  have B3 : (bits .and .i64 ((m : Int) / 2 ^ i) 1 == 0) = !tb m i := bit_no ⟨m, M8.out.1⟩ ⟨i, ci⟩
                  obtain ⟨N, hN⟩ : ∃ N, N = sumT fo i := ⟨_, rfl⟩
                  obtain ⟨x, hx⟩ : ∃ x, x = fo i := ⟨_, rfl⟩
                  obtain ⟨v, hv⟩ : ∃ v, v = F 1 i := ⟨_, rfl⟩
                  rw [ST.out] at T1
                  rw [← hN] at T0 T1 ST ⊢
                  rw [← hx] at o1 o2 o3 T1 ST x1
                  rw [← hv] at cx o2
                  have b2 : -9223372036854775808 ≤ N + x := by omega
                  have b3 : N + x ≤ 9223372036854775807 := by omega
                  clear T0 T1 hN hx hv KB
                  by_cases x0 : 0 < x
                  · have tt : tb m i = true := by
                      cases e : tb m i with
                      | true => rfl
                      | false => have := o3 e; omega
                    rw [tt] at B3
                    clear o3 tt
                    go_wp2
                    go_roundw
                    case rel => exact ⟨i + 1, by go_num, by omega, by rw [ST.out], q4, HB⟩
                    case measure => simp [intOf]; omega
                  · obtain rfl : x = 0 := by omega
                    clear o3 B3 x0
                    have ST2 : Hid (sumT fo (i + 1) = N) := by show sumT fo (i + 1) = N; rw [ST.out]; omega
                    go_wp2
                    go_roundw
                    case rel => exact ⟨i + 1, by go_num, by omega, by rw [ST2.out], q4, HB⟩
                    case measure => simp [intOf]; omega
                · obtain rfl : i = 8 := by omega
                  rw [show ((8 : Nat) : Int) = 8 from rfl]
                  rw [HOS.out.1]
                  have ck := q4.1 20 _ rfl
                  have zc := q4.2.2
                  go_wp2
                  go_roundw
                  case rel => exact ⟨2, rfl, by omega, q4, HB⟩
                  case measure => simp [intOf]
          · go_wp2
            go_ret
            exact ⟨rfl, HB⟩

end Go.Proofs.Ytkjaiahdkolmdaa.Mk
