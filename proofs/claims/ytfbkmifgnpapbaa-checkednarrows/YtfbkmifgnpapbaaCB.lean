/-
  The contract of checked.Sum at this program, and of the statements' own function 'first': it answers true. Conditions: the list's numbers are numbers of 64 bits.
-/
import Derived.Test.YtfbkmifgnpapbaaCA
import Derived.OwnWalk
import Derived.WalkSmall
import Derived.PlainAid
namespace Go.Proofs.Ytfbkmifgnpapbaa
open Go.RowKit

/-- All added to s, from the first one on; none: a sum on the way doesn't fit. -/
def sumv : Int → List Int → Option Int
  | s, [] => some s
  | s, n :: r => if In64 (s + n) then sumv (s + n) r else none

/-- A slice reads as a row of numbers. -/
def RdI (W : World) (v : Value) (zs : List Int) : Prop := ∃ (a : Option Addr) (cap : Nat), v = .slice a zs.length cap ∧ zs.length ≤ cap ∧ cap ≤ maxLen ∧
  ∀ (j : Nat) (d : Int), zs[j]? = some d → ∃ b off : Nat, a = some ⟨b, off, none⟩ ∧ W.cell? ⟨b, off + j, none⟩ = some (.int .i64 d)

set_option maxHeartbeats 1000000 in
set_option maxRecDepth 100000 in
theorem csum_any {v : Value} {zs : List Int} (w : World) (h : RdI w v zs) (hd : ∀ d ∈ zs, In64 d) :
    Calls Try.prog 18 #[v] w fun e w' => e = .returned (.tuple #[.int .i64 ((sumv 0 zs).getD 0), .bool (sumv 0 zs).isSome]) ∧ w' = w := by
  obtain ⟨R, hR⟩ : ∃ R, R = sumv 0 zs := ⟨_, rfl⟩
  have HR : Hid (sumv 0 (zs.drop 0) = R) := by unfold Hid; rw [hR]; simp
  rw [← hR]
  clear hR
  obtain ⟨a, cap, rfl, h1, h2, h3⟩ := h
  have H3 : Hid (∀ (j : Nat) (d : Int), zs[j]? = some d → ∃ b off : Nat, a = some ⟨b, off, none⟩ ∧ w.cell? ⟨b, off + j, none⟩ = some (.int .i64 d)) := h3
  have HD : Hid (∀ d ∈ zs, In64 d) := hd
  clear h3 hd
  have zl : zs.length ≤ maxLen := by omega
  unfold maxLen at zl
  go_enter Try.func18, Try.ntmps18
  go_wp2
  go_loopw [4, 11] (fun p f wr => ∃ (j : Nat) (s : Int), f = .int .i64 j ∧ j ≤ zs.length ∧ p = .int .i64 s ∧ Hid (In64 s) ∧ Hid (sumv s (zs.drop j) = R) ∧ wr = w) (fun _ f _ => zs.length - (intOf f).toNat)
  case atStart => exact ⟨0, 0, rfl, by omega, rfl, by unfold Hid In64; omega, HR, rfl⟩
  case round =>
    obtain ⟨j, s, rfl, jl, rfl, HS, HO, rfl⟩ := hrel
    by_cases cj : j < zs.length
    · obtain ⟨d, hdj⟩ : ∃ d, zs[j]? = some d := ⟨zs[j], List.getElem?_eq_getElem cj⟩
      obtain ⟨b, off, rfl, cell⟩ := H3.out j d hdj
      have d9 : Hid (In64 d) := HD.out d (List.mem_of_getElem? hdj)
      have E := HO.out
      rw [List.drop_eq_getElem_cons cj, show zs[j] = d from (List.getElem?_eq_some_iff.1 hdj).2, sumv] at E
      have HE : Hid ((if In64 (s + d) then sumv (s + d) (zs.drop (j + 1)) else none) = R) := E
      have j0 : (0 : Int) ≤ (j : Int) := by omega
      have j1 : (j : Int) < (zs.length : Int) := by omega
      clear E HO hdj
      go_wp2_with (fail)
      refine (cadd_any s d _ HS.out d9.out).mono ?_
      rintro e w' ⟨rfl, rfl⟩
      by_cases hf : In64 (s + d)
      · obtain ⟨e1, e2⟩ := fit_yes hf
        rw [e1, e2]
        have HF : Hid (In64 (s + d)) := hf
        have HE' : Hid (sumv (s + d) (zs.drop (j + 1)) = R) := by have := HE.out; rwa [if_pos hf] at this
        clear e1 e2 hf HE
        go_wp2
        go_roundw
        case rel => exact ⟨j + 1, s + d, by go_num, by omega, rfl, HF, HE', trivial⟩
        case measure => simp [intOf]; omega
      · obtain ⟨e1, e2⟩ := fit_no hf
        rw [e1, e2]
        have HE' : R = none := by have := HE.out; rw [if_neg hf] at this; exact this.symm
        subst HE'
        clear e1 e2 hf HE
        go_wp2
        go_ret2
        exact ⟨rfl, rfl⟩
    · obtain rfl : j = zs.length := by omega
      have E := HO.out
      rw [List.drop_length, sumv] at E
      subst E
      clear HO
      go_wp2
      go_ret2
      exact ⟨rfl, rfl⟩

theorem first_up : (if (4 : Int) < 1 then 0 else fitv (upv 5 4)) = 8 ∧ (if (4 : Int) < 1 then false else fitb (upv 5 4)) = true := by decide
theorem first_sum : (sumv 0 [1, 2, 3]).getD 0 = 6 ∧ (sumv 0 [1, 2, 3]).isSome = true := by decide

set_option maxHeartbeats 2000000 in
theorem cfirst_any (w : World) :
    Calls Try.prog 7 #[] w fun e w' => e = .returned (.bool true) ∧ Below w.heap.size w w' := by
  go_enter Try.func7, Try.ntmps7
  go_wp2_with (fail)
  refine (cadd_any 4611686018427387904 4611686018427387904 _ (by decide) (by decide)).mono ?_
  rw [show fitv (4611686018427387904 + 4611686018427387904) = 0 by decide, show fitb (4611686018427387904 + 4611686018427387904) = false by decide]
  rintro e w' ⟨rfl, rfl⟩
  go_wp2_with (fail)
  refine (cmul_any (-4611686018427387904) 2 _ (by decide) (by decide)).mono ?_
  rw [show fitv (-4611686018427387904 * 2) = -9223372036854775808 by decide, show fitb (-4611686018427387904 * 2) = true by decide]
  rintro e w' ⟨rfl, rfl⟩
  go_wp2_with (fail)
  refine (cup_any 5 4 _ (by decide) (by decide)).mono ?_
  rw [first_up.1, first_up.2]
  rintro e w' ⟨rfl, rfl⟩
  go_wp2_with (fail)
  refine (byte_any 256 _ (by decide)).mono ?_
  rw [show narv 0 255 256 = 0 by decide, show narb 0 255 256 = false by decide]
  rintro e w' ⟨rfl, rfl⟩
  go_wp2_with (fail)
  refine (csum_any (zs := [1, 2, 3]) _ ⟨_, 3, rfl, by simp, by unfold maxLen; omega, ?h1⟩ (by decide)).mono ?_
  case h1 =>
    intro j d hj
    refine ⟨_, _, rfl, ?_⟩
    match j, hj with
    | 0, hj => simp at hj; subst hj; simp
    | 1, hj => simp at hj; subst hj; simp
    | 2, hj => simp at hj; subst hj; simp
  rw [first_sum.1, first_sum.2]
  rintro e w1 ⟨rfl, rfl⟩
  go_wp2_with (fail)
  refine (zig_any (-1) _ (by decide)).mono ?_
  rw [show ((Lib.zigzag (-1) : Nat) : Int) = 1 by decide]
  rintro e w1 ⟨rfl, rfl⟩
  go_wp2_with (fail)
  refine (zag_any 1 _ (by decide) (by decide)).mono ?_
  rw [show zag 1 = -1 by decide]
  rintro e w1 ⟨rfl, rfl⟩
  go_wp2_with (fail)
  refine (held_any 9 1 5 _).mono ?_
  rw [show heldv 9 1 5 = 5 by decide]
  rintro e w1 ⟨rfl, rfl⟩
  go_wp2
  go_ret
  refine ⟨rfl, ?_⟩
  go_grown

end Go.Proofs.Ytfbkmifgnpapbaa
