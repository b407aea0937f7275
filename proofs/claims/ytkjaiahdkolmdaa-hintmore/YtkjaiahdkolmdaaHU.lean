/-
  The law HintMore at this program: where there is a hint there is one with more that is free, of no more nodes. Conditions: the numbers fit the machine.
-/
import Derived.Test.YtkjaiahdkolmdaaHT
import Derived.Test.YtkjaiahdkolmdaaHP
namespace Go.Proofs.Ytkjaiahdkolmdaa.Mk
open Go.RowKit

/-- More is free on so many of the sixteen places. -/
def moreP (F : Nat → Nat → Int) (t : Nat) : Nat → Nat → Int := fun k i => if 8 * k + i < t then moreF F k i else F k i
theorem moreP_at (F : Nat → Nat → Int) {t k i : Nat} (h : t ≤ 8 * k + i) : moreP F t k i = F k i := if_neg (by omega)
theorem frL_ext {F G : Nat → Nat → Int} (h : ∀ k i, k < 2 → i < 8 → F k i = G k i) : frL F = frL G := by
  unfold frL
  rw [h 0 0 (by omega) (by omega), h 0 1 (by omega) (by omega), h 0 2 (by omega) (by omega), h 0 3 (by omega) (by omega), h 0 4 (by omega) (by omega), h 0 5 (by omega) (by omega), h 0 6 (by omega) (by omega), h 0 7 (by omega) (by omega),
    h 1 0 (by omega) (by omega), h 1 1 (by omega) (by omega), h 1 2 (by omega) (by omega), h 1 3 (by omega) (by omega), h 1 4 (by omega) (by omega), h 1 5 (by omega) (by omega), h 1 6 (by omega) (by omega), h 1 7 (by omega) (by omega)]
theorem frL_set0 (F : Nat → Nat → Int) (v : Int) {i : Nat} (h : i < 8) : (frL F).set i (.int .i64 v) = frL (fun k j => if k = 0 ∧ j = i then v else F k j) := by
  rcases (show i = 0 ∨ i = 1 ∨ i = 2 ∨ i = 3 ∨ i = 4 ∨ i = 5 ∨ i = 6 ∨ i = 7 by omega) with rfl | rfl | rfl | rfl | rfl | rfl | rfl | rfl <;> rfl
theorem frL_set1 (F : Nat → Nat → Int) (v : Int) {i : Nat} (h : i < 8) : (frL F).set (8 + i) (.int .i64 v) = frL (fun k j => if k = 1 ∧ j = i then v else F k j) := by
  rcases (show i = 0 ∨ i = 1 ∨ i = 2 ∨ i = 3 ∨ i = 4 ∨ i = 5 ∨ i = 6 ∨ i = 7 by omega) with rfl | rfl | rfl | rfl | rfl | rfl | rfl | rfl <;> rfl
theorem moreP_step (F : Nat → Nat → Int) {t a i : Nat} (ha : a < 2) (hi : i < 8) (ht : t = 8 * a + i) : frL (fun k j => if k = a ∧ j = i then moreF F a i else moreP F t k j) = frL (moreP F (t + 1)) := by
  refine frL_ext fun k j hk hj => ?_
  unfold moreP
  by_cases e : k = a ∧ j = i
  · obtain ⟨rfl, rfl⟩ := e
    rw [if_pos ⟨rfl, rfl⟩, if_pos (by omega)]
  · rw [if_neg e]
    by_cases l : 8 * k + j < t
    · rw [if_pos l, if_pos (by omega)]
    · rw [if_neg l, if_neg (by omega)]
theorem moreP_set0 (F : Nat → Nat → Int) (tl : List Value) {i : Nat} (h : i < 8) : (frL (moreP F (8 * 0 + i)) ++ tl).set i (.int .i64 (moreF F 0 i)) = frL (moreP F (8 * 0 + (i + 1))) ++ tl := by
  rw [List.set_append_left _ _ (by show i < 16; omega), frL_set0 _ _ h, moreP_step F (by omega) h rfl]
  rfl
theorem moreP_set1 (F : Nat → Nat → Int) (tl : List Value) {i : Nat} (h : i < 8) : (frL (moreP F (8 * 1 + i)) ++ tl).set (8 + i) (.int .i64 (moreF F 1 i)) = frL (moreP F (8 * 1 + (i + 1))) ++ tl := by
  rw [List.set_append_left _ _ (by show 8 + i < 16; omega), frL_set1 _ _ h, moreP_step F (by omega) h rfl]
  rfl
theorem moreP_self0 (F : Nat → Nat → Int) (tl : List Value) {i : Nat} (h : i < 8) : frL (moreP F (8 * 0 + i)) ++ tl = (frL (moreP F (8 * 0 + i)) ++ tl).set i (.int .i64 (moreP F (8 * 0 + i) 0 i)) := by
  have e := case_at0 (vs := tl) (moreP F (8 * 0 + i)) h
  obtain ⟨e1, e2⟩ := List.getElem?_eq_some_iff.1 e
  rw [← e2, List.set_getElem_self]
theorem moreP_self1 (F : Nat → Nat → Int) (tl : List Value) {i : Nat} (h : i < 8) : frL (moreP F (8 * 1 + i)) ++ tl = (frL (moreP F (8 * 1 + i)) ++ tl).set (8 + i) (.int .i64 (moreP F (8 * 1 + i) 1 i)) := by
  have e := case_at1 (vs := tl) (moreP F (8 * 1 + i)) h
  obtain ⟨e1, e2⟩ := List.getElem?_eq_some_iff.1 e
  rw [← e2, List.set_getElem_self]
theorem moreP_zero (F : Nat → Nat → Int) : frL (moreP F 0) = frL F := rfl
theorem moreP_all (F : Nat → Nat → Int) : frL (moreP F 16) = frL (moreF F) := rfl

set_option maxHeartbeats 4000000 in
set_option maxRecDepth 100000 in
theorem more_is (F : Nat → Nat → Int) (hF : ∀ k i, (-9223372036854775808 ≤ F k i ∧ F k i ≤ 9223372036854775807)) (nodes held mask : Int) (K : Nat → Int) (most : Int) (w : World) :
    Calls Try.prog 5 #[.agg #[.int .i64 (F 0 0), .int .i64 (F 0 1), .int .i64 (F 0 2), .int .i64 (F 0 3), .int .i64 (F 0 4), .int .i64 (F 0 5), .int .i64 (F 0 6), .int .i64 (F 0 7), .int .i64 (F 1 0), .int .i64 (F 1 1), .int .i64 (F 1 2), .int .i64 (F 1 3), .int .i64 (F 1 4), .int .i64 (F 1 5), .int .i64 (F 1 6), .int .i64 (F 1 7), .int .i64 nodes, .int .i64 held, .int .i64 mask, .int .i64 (K 0), .int .i64 (K 1), .int .i64 most]] w fun e w' => e = .returned (.bool true) ∧ Below w.heap.size w w' := by
  have FB : Hid (∀ k i, -9223372036854775808 ≤ F k i ∧ F k i ≤ 9223372036854775807) := hF
  have HC0 : Hid (∀ w, Calls Try.prog 7 #[frV F, .int .i64 nodes, ndV K] w fun e w' => e = .returned (.tuple #[.int .i64 (headI (comes (rightH F K nodes 0) F K nodes 0)), .bool (anyL (comes (rightH F K nodes 0) F K nodes 0))]) ∧ Below w.heap.size w w') := hint_is F K nodes
  have HM0 : Hid (∀ w, Calls Try.prog 7 #[frV (moreF F), .int .i64 nodes, ndV K] w fun e w' => e = .returned (.tuple #[.int .i64 (headI (comes (rightH (moreF F) K nodes 0) (moreF F) K nodes 0)), .bool (anyL (comes (rightH (moreF F) K nodes 0) (moreF F) K nodes 0))]) ∧ Below w.heap.size w w') := hint_is (moreF F) K nodes
  have LS : Hid (∀ m rest, comes (rightH F K nodes 0) F K nodes 0 = m :: rest → m < 256 ∧ ∃ m' rest', comes (rightH (moreF F) K nodes 0) (moreF F) K nodes 0 = m' :: rest' ∧ m' < 256 ∧ cnt m' ≤ cnt m) := fun m rest h => hint_more h
  have OF0 : Hid (∀ (x : Nat) (w : World), x < 256 → Calls Try.prog 13 #[.int .i64 x] w fun e w' => e = .returned (setV x) ∧ Below w.heap.size w w') := fun x w h => by
    have := rof_v x w
    rwa [low_of h] at this
  have NL0 : Hid (∀ (x : Nat) (w : World), Calls Try.prog 17 #[setV x] w fun e w' => ∃ a cap, e = .returned (.slice a (cnt x) cap) ∧ Below w.heap.size w w') := fun x w => rlen_is x w
  clear hF
  obtain ⟨L, hL⟩ : ∃ L, L = comes (rightH F K nodes 0) F K nodes 0 := ⟨_, rfl⟩
  rw [← hL] at HC0 LS
  clear hL
  obtain ⟨L', hL'⟩ : ∃ L, L = comes (rightH (moreF F) K nodes 0) (moreF F) K nodes 0 := ⟨_, rfl⟩
  rw [← hL'] at HM0 LS
  clear hL'
  have q0 : Cs (w.alloc (.cells #[.int .i64 (F 0 0), .int .i64 (F 0 1), .int .i64 (F 0 2), .int .i64 (F 0 3), .int .i64 (F 0 4), .int .i64 (F 0 5), .int .i64 (F 0 6), .int .i64 (F 0 7), .int .i64 (F 1 0), .int .i64 (F 1 1), .int .i64 (F 1 2), .int .i64 (F 1 3), .int .i64 (F 1 4), .int .i64 (F 1 5), .int .i64 (F 1 6), .int .i64 (F 1 7), .int .i64 nodes, .int .i64 held, .int .i64 mask, .int .i64 (K 0), .int .i64 (K 1), .int .i64 most] 27)) w.heap.size [.int .i64 (F 0 0), .int .i64 (F 0 1), .int .i64 (F 0 2), .int .i64 (F 0 3), .int .i64 (F 0 4), .int .i64 (F 0 5), .int .i64 (F 0 6), .int .i64 (F 0 7), .int .i64 (F 1 0), .int .i64 (F 1 1), .int .i64 (F 1 2), .int .i64 (F 1 3), .int .i64 (F 1 4), .int .i64 (F 1 5), .int .i64 (F 1 6), .int .i64 (F 1 7), .int .i64 nodes, .int .i64 held, .int .i64 mask, .int .i64 (K 0), .int .i64 (K 1), .int .i64 most] := Cs.new _ _ _ _ rfl
  have g0 : Below w.heap.size w (w.alloc (.cells #[.int .i64 (F 0 0), .int .i64 (F 0 1), .int .i64 (F 0 2), .int .i64 (F 0 3), .int .i64 (F 0 4), .int .i64 (F 0 5), .int .i64 (F 0 6), .int .i64 (F 0 7), .int .i64 (F 1 0), .int .i64 (F 1 1), .int .i64 (F 1 2), .int .i64 (F 1 3), .int .i64 (F 1 4), .int .i64 (F 1 5), .int .i64 (F 1 6), .int .i64 (F 1 7), .int .i64 nodes, .int .i64 held, .int .i64 mask, .int .i64 (K 0), .int .i64 (K 1), .int .i64 most] 27)) := by go_grown
  go_enter Try.func5, Try.ntmps5
  go_wp2_with (fail)
  obtain ⟨b1, hb1⟩ : ∃ b1, b1 = w.heap.size := ⟨_, rfl⟩
  have B1 : Hid (w.heap.size ≤ b1) := Nat.le_of_eq hb1.symm
  have e1 : Value.pointer (some ⟨w.heap.size, 0, none⟩) = .pointer (some ⟨b1, 0, none⟩) := by rw [hb1]
  have q0' : Cs (w.alloc (.cells #[.int .i64 (F 0 0), .int .i64 (F 0 1), .int .i64 (F 0 2), .int .i64 (F 0 3), .int .i64 (F 0 4), .int .i64 (F 0 5), .int .i64 (F 0 6), .int .i64 (F 0 7), .int .i64 (F 1 0), .int .i64 (F 1 1), .int .i64 (F 1 2), .int .i64 (F 1 3), .int .i64 (F 1 4), .int .i64 (F 1 5), .int .i64 (F 1 6), .int .i64 (F 1 7), .int .i64 nodes, .int .i64 held, .int .i64 mask, .int .i64 (K 0), .int .i64 (K 1), .int .i64 most] 27)) b1 [.int .i64 (F 0 0), .int .i64 (F 0 1), .int .i64 (F 0 2), .int .i64 (F 0 3), .int .i64 (F 0 4), .int .i64 (F 0 5), .int .i64 (F 0 6), .int .i64 (F 0 7), .int .i64 (F 1 0), .int .i64 (F 1 1), .int .i64 (F 1 2), .int .i64 (F 1 3), .int .i64 (F 1 4), .int .i64 (F 1 5), .int .i64 (F 1 6), .int .i64 (F 1 7), .int .i64 nodes, .int .i64 held, .int .i64 mask, .int .i64 (K 0), .int .i64 (K 1), .int .i64 most] := by rw [hb1]; exact q0
  rw [e1]
  clear hb1 e1 q0
  refine (first_is _).mono ?_
  generalize w.alloc (.cells #[.int .i64 (F 0 0), .int .i64 (F 0 1), .int .i64 (F 0 2), .int .i64 (F 0 3), .int .i64 (F 0 4), .int .i64 (F 0 5), .int .i64 (F 0 6), .int .i64 (F 0 7), .int .i64 (F 1 0), .int .i64 (F 1 1), .int .i64 (F 1 2), .int .i64 (F 1 3), .int .i64 (F 1 4), .int .i64 (F 1 5), .int .i64 (F 1 6), .int .i64 (F 1 7), .int .i64 nodes, .int .i64 held, .int .i64 mask, .int .i64 (K 0), .int .i64 (K 1), .int .i64 most] 27) = W0 at *
  rintro e w1 ⟨rfl, hb⟩
  have q1 := Cs.later hb q0'
  have g1 := g0.trans (hb.mono g0.size)
  clear q0' g0 hb
  have c16 := q1.1 16 _ rfl
  have c19 := q1.1 19 _ rfl
  have c20 := q1.1 20 _ rfl
  have zc := q1.2.2
  go_wp2_with (first | (refine ld16 (F := F) (case_free q1) rfl _ rfl rfl ?_) | fail)
  refine (HC0.out _).mono ?_
  rintro e w2 ⟨rfl, hb⟩
  have q2 := Cs.later hb q1
  have g2 := g1.trans (hb.mono g1.size)
  clear HC0 q1 g1 hb c16 c19 c20 zc
  cases L with
  | nil =>
    clear LS HM0 OF0 NL0
    have a1 : headI [] = 0 := rfl
    have a2 : anyL [] = false := rfl
    rw [a1, a2]
    go_wp2
    go_ret
    exact ⟨rfl, g2⟩
  | cons m rest =>
    obtain ⟨m8, m', rest', rfl, m8', mle⟩ := LS.out m rest rfl
    have a1 : headI (m :: rest) = (m : Int) := rfl
    have a2 : anyL (m :: rest) = true := rfl
    have a3 : headI (m' :: rest') = (m' : Int) := rfl
    have a4 : anyL (m' :: rest') = true := rfl
    rw [a1, a2]
    rw [a3, a4] at HM0
    clear LS a1 a2 a3 a4
    have A1 : Hid (∀ w, Calls Try.prog 13 #[.int .i64 m] w fun e w' => e = .returned (setV m) ∧ Below w.heap.size w w') := fun w => OF0.out m w m8
    have A2 : Hid (∀ w, Calls Try.prog 13 #[.int .i64 m'] w fun e w' => e = .returned (setV m') ∧ Below w.heap.size w w') := fun w => OF0.out m' w m8'
    have N1 : Hid (∀ w, Calls Try.prog 17 #[setV m] w fun e w' => ∃ a cap, e = .returned (.slice a (cnt m) cap) ∧ Below w.heap.size w w') := NL0.out m
    have N2 : Hid (∀ w, Calls Try.prog 17 #[setV m'] w fun e w' => ∃ a cap, e = .returned (.slice a (cnt m') cap) ∧ Below w.heap.size w w') := NL0.out m'
    have ML : Hid (cnt m' ≤ cnt m ∧ True) := ⟨mle, trivial⟩
    clear OF0 NL0 m8 m8' mle
    obtain ⟨TL, hTL⟩ : ∃ TL, TL = ([.int .i64 nodes, .int .i64 held, .int .i64 mask, .int .i64 (K 0), .int .i64 (K 1), .int .i64 most] : List Value) := ⟨_, rfl⟩
    have HL : Hid (∀ G : Nat → Nat → Int, (frL G ++ TL).length = 22) := fun G => by rw [hTL]; rfl
    have HTL : Hid (TL = [.int .i64 nodes, .int .i64 held, .int .i64 mask, .int .i64 (K 0), .int .i64 (K 1), .int .i64 most]) := hTL
    have q3 : Cs w2 b1 (frL (moreP F 0) ++ TL) := by rw [hTL, moreP_zero]; exact q2
    clear hTL q2
    go_wp2
    go_loopw [25] (fun f wr => ∃ j : Nat, f = .int .i64 j ∧ j ≤ 2 ∧ Cs wr b1 (frL (moreP F (8 * j)) ++ TL) ∧ Below w.heap.size w wr) (fun f _ => 2 - (intOf f).toNat)
    case atStart => exact ⟨0, rfl, by omega, q3, g2⟩
    case round =>
      clear q3 g2
      obtain ⟨j, rfl, jl, q4, HB⟩ := hrel
      rcases (show j = 0 ∨ j = 1 ∨ j = 2 by omega) with rfl | rfl | rfl
      · rw [show ((0 : Nat) : Int) = 0 from rfl]
        have q6 := q4
        have HB6 := HB
        clear q4 HB jl
        go_wp2
        go_loopw [28] (fun f wr => ∃ i : Nat, f = .int .i64 i ∧ i ≤ 8 ∧ Cs wr b1 (frL (moreP F (8 * 0 + i)) ++ TL) ∧ Below w.heap.size w wr) (fun f _ => 8 - (intOf f).toNat)
        case atStart => exact ⟨0, rfl, by omega, q6, HB6⟩
        case round =>
          clear q6 HB6
          obtain ⟨i, rfl, il, q4, HB⟩ := hrel
          by_cases ci : i < 8
          · have j0 : (0 : Int) ≤ (i : Int) := by omega
            have j1 : (i : Int) < 8 := by omega
            have cx := q4.1 i _ (case_at0 _ ci)
            rw [moreP_at F (show 8 * 0 + i ≤ 8 * 0 + i by omega)] at cx
            have fx := q4.2.1 i (by rw [HL.out]; omega)
            have zc := q4.2.2
            have MS : Hid (∀ v, v = moreF F 0 i → (frL (moreP F (8 * 0 + i)) ++ TL).set i (.int .i64 v) = frL (moreP F (8 * 0 + (i + 1))) ++ TL) := fun v hv => by rw [hv]; exact moreP_set0 F TL ci
            have MN : Hid (moreF F 0 i = F 0 i → frL (moreP F (8 * 0 + i)) ++ TL = frL (moreP F (8 * 0 + (i + 1))) ++ TL) := fun hv => by rw [← moreP_set0 F TL ci, hv, ← moreP_at F (show 8 * 0 + i ≤ 8 * 0 + i by omega)]; exact moreP_self0 F TL ci
            have MF : Hid (moreF F 0 i = if F 0 i < 1073741824 then F 0 i + 1 else F 0 i) := rfl
            obtain ⟨v, hv⟩ : ∃ v, v = F 0 i := ⟨_, rfl⟩
            rw [← hv] at cx MN MF
            have WV : Hid (-9223372036854775808 ≤ v) := by rw [hv]; exact (FB.out 0 i).1
            clear hv
            by_cases lt : v < 1073741824
            · have E : moreF F 0 i = v + 1 := by rw [MF.out, if_pos lt]
              have Q : Hid (Cs (wr.setCell ⟨b1, i, none⟩ (.int .i64 (v + 1))) b1 (frL (moreP F (8 * 0 + (i + 1))) ++ TL)) := by
                show Cs _ _ _
                rw [← MS.out (v + 1) E.symm]
                exact q4.set i _ (by rw [HL.out]; omega)
              have QB : Hid (Below w.heap.size w (wr.setCell ⟨b1, i, none⟩ (.int .i64 (v + 1)))) := HB.setCell (p := ⟨b1, i, none⟩) B1.out _
              have b2 : -9223372036854775808 ≤ v + 1 := by have := WV.out; omega
              have b3 : v + 1 ≤ 9223372036854775807 := by omega
              have WR : Hid (IntKind.i64.wrap (v + 1) = v + 1) := IntWalk.i64_in _ (by omega)
              clear q4 HB MS MN MF E
              go_upto_region 13 with (fail)
              go_region
              all_goals
                go_wp2
                go_roundw
                case rel => exact ⟨i + 1, by go_num, by omega, Q.out, Below.drew QB.out⟩
                case measure => simp [intOf]; omega
            · have E : moreF F 0 i = v := by rw [MF.out, if_neg lt]
              have Q : Hid (frL (moreP F (8 * 0 + i)) ++ TL = frL (moreP F (8 * 0 + (i + 1))) ++ TL) := MN.out E
              clear MS MN MF E
              go_wp2
              go_roundw
              case rel => exact ⟨i + 1, by go_num, by omega, by rw [← Q.out]; exact q4, HB⟩
              case measure => simp [intOf]; omega
          · obtain rfl : i = 8 := by omega
            rw [show ((8 : Nat) : Int) = 8 from rfl]
            go_wp2
            go_roundw
            case rel => exact ⟨1, rfl, by omega, q4, HB⟩
            case measure => simp [intOf]
      · rw [show ((1 : Nat) : Int) = 1 from rfl]
        have q6 := q4
        have HB6 := HB
        clear q4 HB jl
        go_wp2
        go_loopw [28] (fun f wr => ∃ i : Nat, f = .int .i64 i ∧ i ≤ 8 ∧ Cs wr b1 (frL (moreP F (8 * 1 + i)) ++ TL) ∧ Below w.heap.size w wr) (fun f _ => 8 - (intOf f).toNat)
        case atStart => exact ⟨0, rfl, by omega, q6, HB6⟩
        case round =>
          clear q6 HB6
          obtain ⟨i, rfl, il, q4, HB⟩ := hrel
          by_cases ci : i < 8
          · have j0 : (0 : Int) ≤ (i : Int) := by omega
            have j1 : (i : Int) < 8 := by omega
            have cx := q4.1 (8 + i) _ (case_at1 _ ci)
            rw [moreP_at F (show 8 * 1 + i ≤ 8 * 1 + i by omega)] at cx
            have fx := q4.2.1 (8 + i) (by rw [HL.out]; omega)
            have zc := q4.2.2
            have MS : Hid (∀ v, v = moreF F 1 i → (frL (moreP F (8 * 1 + i)) ++ TL).set (8 + i) (.int .i64 v) = frL (moreP F (8 * 1 + (i + 1))) ++ TL) := fun v hv => by rw [hv]; exact moreP_set1 F TL ci
            have MN : Hid (moreF F 1 i = F 1 i → frL (moreP F (8 * 1 + i)) ++ TL = frL (moreP F (8 * 1 + (i + 1))) ++ TL) := fun hv => by rw [← moreP_set1 F TL ci, hv, ← moreP_at F (show 8 * 1 + i ≤ 8 * 1 + i by omega)]; exact moreP_self1 F TL ci
            have MF : Hid (moreF F 1 i = if F 1 i < 1073741824 then F 1 i + 1 else F 1 i) := rfl
            obtain ⟨v, hv⟩ : ∃ v, v = F 1 i := ⟨_, rfl⟩
            rw [← hv] at cx MN MF
            have WV : Hid (-9223372036854775808 ≤ v) := by rw [hv]; exact (FB.out 1 i).1
            clear hv
            by_cases lt : v < 1073741824
            · have E : moreF F 1 i = v + 1 := by rw [MF.out, if_pos lt]
              have Q : Hid (Cs (wr.setCell ⟨b1, 8 + i, none⟩ (.int .i64 (v + 1))) b1 (frL (moreP F (8 * 1 + (i + 1))) ++ TL)) := by
                show Cs _ _ _
                rw [← MS.out (v + 1) E.symm]
                exact q4.set (8 + i) _ (by rw [HL.out]; omega)
              have QB : Hid (Below w.heap.size w (wr.setCell ⟨b1, 8 + i, none⟩ (.int .i64 (v + 1)))) := HB.setCell (p := ⟨b1, 8 + i, none⟩) B1.out _
              have b2 : -9223372036854775808 ≤ v + 1 := by have := WV.out; omega
              have b3 : v + 1 ≤ 9223372036854775807 := by omega
              have WR : Hid (IntKind.i64.wrap (v + 1) = v + 1) := IntWalk.i64_in _ (by omega)
              clear q4 HB MS MN MF E
              go_upto_region 13 with (fail)
              go_region
              all_goals
                go_wp2
                go_roundw
                case rel => exact ⟨i + 1, by go_num, by omega, Q.out, Below.drew QB.out⟩
                case measure => simp [intOf]; omega
            · have E : moreF F 1 i = v := by rw [MF.out, if_neg lt]
              have Q : Hid (frL (moreP F (8 * 1 + i)) ++ TL = frL (moreP F (8 * 1 + (i + 1))) ++ TL) := MN.out E
              clear MS MN MF E
              go_wp2
              go_roundw
              case rel => exact ⟨i + 1, by go_num, by omega, by rw [← Q.out]; exact q4, HB⟩
              case measure => simp [intOf]; omega
          · obtain rfl : i = 8 := by omega
            rw [show ((8 : Nat) : Int) = 8 from rfl]
            go_wp2
            go_roundw
            case rel => exact ⟨2, rfl, by omega, q4, HB⟩
            case measure => simp [intOf]
      · have qq : Cs wr b1 (frL (moreF F) ++ TL) := q4
        rw [HTL.out] at qq
        clear q4
        have c16 := qq.1 16 _ rfl
        have c19 := qq.1 19 _ rfl
        have c20 := qq.1 20 _ rfl
        have zc := qq.2.2
        go_wp2_with (first | (refine ld16 (F := moreF F) (case_free qq) rfl _ rfl rfl ?_) | fail)
        refine (HM0.out _).mono ?_
        rintro e w5 ⟨rfl, hb⟩
        have HB5 := HB.trans (hb.mono HB.size)
        clear HM0 HB hb qq c16 c19 c20 zc
        go_wp2_with (fail)
        refine (A2.out _).mono ?_
        rintro e w6 ⟨rfl, hb⟩
        have HB6 := HB5.trans (hb.mono HB5.size)
        clear A2 HB5 hb
        go_wp2_with (fail)
        refine (N2.out _).mono ?_
        rintro e w7 ⟨a7, k7, rfl, hb⟩
        have HB7 := HB6.trans (hb.mono HB6.size)
        clear N2 HB6 hb
        go_wp2_with (fail)
        refine (A1.out _).mono ?_
        rintro e w8 ⟨rfl, hb⟩
        have HB8 := HB7.trans (hb.mono HB7.size)
        clear A1 HB7 hb
        go_wp2_with (fail)
        refine (N1.out _).mono ?_
        rintro e w9 ⟨a9, k9, rfl, hb⟩
        have HB9 := HB8.trans (hb.mono HB8.size)
        clear N1 HB8 hb
        have le : (cnt m' : Int) ≤ (cnt m : Int) := by have := ML.out.1; omega
        go_wp2
        go_ret
        exact ⟨rfl, HB9⟩

end Go.Proofs.Ytkjaiahdkolmdaa.Mk
