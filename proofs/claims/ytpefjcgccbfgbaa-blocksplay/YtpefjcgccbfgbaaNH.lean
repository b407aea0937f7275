/-
  Which owners and spreads are right at this program (rightOwner, rightSpread). Conditions: owners' texts within the reach.
-/
import Derived.Test.YtpefjcgccbfgbaaNG
import Derived.Test.YtpefjcgccbfgbaaBN
namespace Go.Proofs.Ytpefjcgccbfgbaa.Bk
open Go.RowKit

abbrev nmB (s : ByteArray) : Bool := Sp.nameB s
/-- Is an owner right? -/
def okO (p c : ByteArray) (k : Int) : Bool := nmB p && (nmB c && decide (0 ≤ k ∧ k ≤ 1))

set_option maxHeartbeats 2000000 in
theorem rightOwner_is (p c : ByteArray) (k : Int) (hp : p.size ≤ maxLen) (hc : c.size ≤ maxLen) (w : World) :
    Calls Try.prog 32 #[ownV p c k] w fun e w' => e = .returned (.bool (okO p c k)) ∧ Below w.heap.size w w' := by
  obtain ⟨R, hR⟩ : ∃ R, R = okO p c k := ⟨_, rfl⟩
  rw [← hR]
  obtain ⟨x, hx⟩ : ∃ x, x = nmB p := ⟨_, rfl⟩
  obtain ⟨y, hy⟩ : ∃ y, y = nmB c := ⟨_, rfl⟩
  obtain ⟨z, hz⟩ : ∃ z, z = decide (0 ≤ k ∧ k ≤ 1) := ⟨_, rfl⟩
  have HR : Hid (R = (x && (y && z))) := by rw [hR, okO, hx, hy, hz]; rfl
  have C1 : Hid (∀ w1, Calls Try.prog 42 #[.string p] w1 fun e w' => e = .returned (.bool x) ∧ Below w1.heap.size w1 w') := fun w1 => by rw [hx]; exact (Sp.name_is p hp w1).mono fun _ _ h => ⟨h.1, h.2 ▸ Below.refl _ _⟩
  have C2 : Hid (∀ w1, Calls Try.prog 42 #[.string c] w1 fun e w' => e = .returned (.bool y) ∧ Below w1.heap.size w1 w') := fun w1 => by rw [hy]; exact (Sp.name_is c hc w1).mono fun _ _ h => ⟨h.1, h.2 ▸ Below.refl _ _⟩
  have C3 : Hid (∀ w1, Calls Try.prog 30 #[.int .i64 k] w1 fun e w' => e = .returned (.bool z) ∧ Below w1.heap.size w1 w') := fun w1 => by rw [hz]; exact rightKind_is k w1
  clear hR hx hy hz
  go_enter Try.func32, Try.ntmps32
  go_wp2_with (fail)
  refine (C1.out _).mono ?_
  rintro e w1 ⟨rfl, hw1⟩
  have q1 : Cs w1 w.heap.size [.string p, .string c, .int .i64 k] := Cs.later hw1 (Cs.new _ _ _ _ rfl)
  have HB : Below w.heap.size w w1 := Below.trans (by go_grown) (hw1.mono (by simp))
  have o1 := q1.1 1 _ rfl
  clear hw1
  cases x with
  | false =>
    have X : R = false := by rw [HR.out]; rfl
    subst X
    clear HR C1 C2 C3
    go_wp2
    go_ret
    exact ⟨rfl, HB⟩
  | true =>
    go_wp2_with (fail)
    refine (C2.out _).mono ?_
    rintro e w2 ⟨rfl, hw2⟩
    have q2 := Cs.later hw2 q1
    have HB2 := HB.trans (hw2.mono HB.size)
    have o2 := q2.1 2 _ rfl
    clear hw2 q1 HB
    cases y with
    | false =>
      have X : R = false := by rw [HR.out]; rfl
      subst X
      clear HR C1 C2 C3
      go_wp2
      go_ret
      exact ⟨rfl, HB2⟩
    | true =>
      go_wp2_with (fail)
      refine (C3.out _).mono ?_
      rintro e w3 ⟨rfl, hw3⟩
      have X : R = z := by rw [HR.out]; rfl
      subst X
      clear HR C1 C2 C3
      go_wp2
      go_ret
      exact ⟨rfl, HB2.trans (hw3.mono HB2.size)⟩

/-- Is a number of a spread right: at this node, from this node on? -/
def okAt (n : Nat) (s : Nat → Int) (i : Nat) : Bool := decide (0 ≤ s i ∧ s i ≤ 1073741824 ∧ (n ≤ i → s i = 0))
def all8f (f : Nat → Bool) : Nat → Bool
  | 0 => f 0 && (f 1 && (f 2 && (f 3 && (f 4 && (f 5 && (f 6 && (f 7 && true)))))))
  | 1 => f 1 && (f 2 && (f 3 && (f 4 && (f 5 && (f 6 && (f 7 && true))))))
  | 2 => f 2 && (f 3 && (f 4 && (f 5 && (f 6 && (f 7 && true)))))
  | 3 => f 3 && (f 4 && (f 5 && (f 6 && (f 7 && true))))
  | 4 => f 4 && (f 5 && (f 6 && (f 7 && true)))
  | 5 => f 5 && (f 6 && (f 7 && true))
  | 6 => f 6 && (f 7 && true)
  | 7 => f 7 && true
  | _ => true
theorem all8f_at (f : Nat → Bool) {j : Nat} (h : j < 8) : all8f f j = (f j && all8f f (j + 1)) := by
  rcases (show j = 0 ∨ j = 1 ∨ j = 2 ∨ j = 3 ∨ j = 4 ∨ j = 5 ∨ j = 6 ∨ j = 7 by omega) with rfl | rfl | rfl | rfl | rfl | rfl | rfl | rfl <;> rfl
theorem all8f_iff (f : Nat → Bool) : all8f f 0 = true ↔ ∀ i, i < 8 → f i = true := by
  simp only [all8f, Bool.and_eq_true, Bool.and_true]
  constructor
  · rintro ⟨h0, h1, h2, h3, h4, h5, h6, h7⟩ i hi
    rcases (show i = 0 ∨ i = 1 ∨ i = 2 ∨ i = 3 ∨ i = 4 ∨ i = 5 ∨ i = 6 ∨ i = 7 by omega) with rfl | rfl | rfl | rfl | rfl | rfl | rfl | rfl <;> assumption
  · intro h
    exact ⟨h 0 (by omega), h 1 (by omega), h 2 (by omega), h 3 (by omega), h 4 (by omega), h 5 (by omega), h 6 (by omega), h 7 (by omega)⟩
theorem all8f_ext {f g : Nat → Bool} (h : ∀ i, i < 8 → f i = g i) : all8f f 0 = all8f g 0 := by
  simp only [all8f, h 0 (by omega), h 1 (by omega), h 2 (by omega), h 3 (by omega), h 4 (by omega), h 5 (by omega), h 6 (by omega), h 7 (by omega)]
/-- Is a spread right over so many zones? -/
def okS (n : Nat) (s : Nat → Int) : Bool := all8f (okAt n s) 0

set_option maxHeartbeats 4000000 in
set_option maxRecDepth 100000 in
theorem rightSpread_is {b m : Nat} {zs : List Zn} {ls : List Rw} (s : Nat → Int) (w : World) (h : Tb w b m zs ls) :
    Calls Try.prog 33 #[tbV b, spV s] w fun e w' => e = .returned (.bool (okS zs.length s)) ∧ Below w.heap.size w w' := by
  obtain ⟨R, hR⟩ : ∃ R, R = okS zs.length s := ⟨_, rfl⟩
  rw [← hR]
  have HR : Hid (all8f (okAt zs.length s) 0 = R) := hR.symm
  clear hR
  have ZS : Hid (∀ w1, Below w.heap.size w w1 → Calls Try.prog 11 #[tbV b] w1 fun e w' => e = .returned (.int .i64 zs.length) ∧ Below w1.heap.size w1 w') := fun w1 hb => zones_is w1 (Tb.later hb h)
  have zl := (fits_len h.fit).2
  clear h
  go_enter Try.func33, Try.ntmps33
  go_wp2
  have HB0 : Below w.heap.size w (w.alloc (.cells #[.int .i64 (s 0), .int .i64 (s 1), .int .i64 (s 2), .int .i64 (s 3), .int .i64 (s 4), .int .i64 (s 5), .int .i64 (s 6), .int .i64 (s 7)] 47)) := by go_grown
  generalize w.alloc (.cells #[.int .i64 (s 0), .int .i64 (s 1), .int .i64 (s 2), .int .i64 (s 3), .int .i64 (s 4), .int .i64 (s 5), .int .i64 (s 6), .int .i64 (s 7)] 47) = W0 at *
  go_loopw [8] (fun f wr => ∃ j : Nat, f = .int .i64 j ∧ j ≤ 8 ∧ Hid (all8f (okAt zs.length s) j = R) ∧ Below w.heap.size w wr) (fun f _ => 8 - (intOf f).toNat)
  case atStart => exact ⟨0, rfl, by omega, HR, HB0⟩
  case round =>
    clear HR HB0
    obtain ⟨j, rfl, jl, HO, HB⟩ := hrel
    by_cases cj : j < 8
    · have E := HO.out
      rw [all8f_at _ cj] at E
      have j0 : (0 : Int) ≤ (j : Int) := by omega
      have j1 : (j : Int) < 8 := by omega
      have x1 := ix8 s cj
      obtain ⟨v, hv⟩ : ∃ v, v = s j := ⟨_, rfl⟩
      have WAY : ((0 ≤ v ∧ v ≤ 1073741824 ∧ (zs.length ≤ j → v = 0)) ∧ Hid (all8f (okAt zs.length s) (j + 1) = R)) ∨ (R = false ∧ (v < 0 ∨ (0 ≤ v ∧ 1073741824 < v) ∨ (0 < v ∧ v ≤ 1073741824 ∧ zs.length ≤ j))) := by
        rw [hv]
        cases h : okAt zs.length s j with
        | true =>
          rw [h, Bool.true_and] at E
          exact .inl ⟨of_decide_eq_true h, E⟩
        | false =>
          rw [h, Bool.false_and] at E
          have := of_decide_eq_false h
          exact .inr ⟨E.symm, by omega⟩
      rw [← hv] at x1
      clear E HO hv
      rcases WAY with ⟨⟨y1, y2, y3⟩, X⟩ | ⟨rfl, y1 | ⟨y1, y2⟩ | ⟨y1, y2, y3⟩⟩
      · by_cases v0 : 0 < v
        · have lt1 : (j : Int) < (zs.length : Int) := by
            have : ¬ zs.length ≤ j := fun h => by have := y3 h; omega
            omega
          clear y3
          go_wp2_with (fail)
          refine (ZS.out _ HB).mono ?_
          rintro e w1 ⟨rfl, hw1⟩
          have HB1 := HB.trans (hw1.mono HB.size)
          clear ZS hw1
          go_wp2
          go_roundw
          case rel => exact ⟨j + 1, by go_num, by omega, X, HB1⟩
          case measure => simp [intOf]; omega
        · obtain rfl : v = 0 := by omega
          clear y3 ZS
          go_wp2
          go_roundw
          case rel => exact ⟨j + 1, by go_num, by omega, X, HB⟩
          case measure => simp [intOf]; omega
      · clear ZS
        go_wp2
        go_ret
        exact ⟨rfl, HB⟩
      · clear ZS
        go_wp2
        go_ret
        exact ⟨rfl, HB⟩
      · have lt1 : (zs.length : Int) ≤ (j : Int) := by omega
        have y0 : 0 ≤ v := by omega
        go_wp2_with (fail)
        refine (ZS.out _ HB).mono ?_
        rintro e w1 ⟨rfl, hw1⟩
        have HB1 := HB.trans (hw1.mono HB.size)
        clear ZS hw1
        go_wp2
        go_ret
        exact ⟨rfl, HB1⟩
    · obtain rfl : j = 8 := by omega
      have X : R = true := by rw [← HO.out]; rfl
      subst X
      clear HO ZS
      go_wp2
      go_ret
      exact ⟨rfl, HB⟩

end Go.Proofs.Ytpefjcgccbfgbaa.Bk
