/-
  The texts of numbers with a sign at this program: the library's, package knobs' and the document's. Conditions: the numbers are ints; where it is said, the tables of the program lie as its text lays them.
-/
import Derived.Test.YtaeejemknmjglaaDoorRC
import Derived.Test.YtaeejemknmjglaaDoorRT
import Derived.Test.YtaeejemknmjglaaDoorSh
import Derived.Lib.ItoaLen
namespace Go.Proofs.YtaeejemknmjglaaDoor.Sp
open Go.RowKit

theorem below_grow (w : World) (q : Nat) (os : Array Obj) : Below w.heap.size w (Sort.grow (w.drewN q) os) :=
  ⟨rfl, rfl, rfl, by simp [Sort.grow], fun i hi => by
    show ((w.drewN q).heap ++ os)[i]? = _
    rw [Array.getElem?_append_left (by show i < w.heap.size; omega)]
    rfl⟩
/-- A number's text: max in the place of Unlimited. -/
def numL (n : Int) : List UInt8 := if n = 4611686018427387904 then [109, 97, 120] else Lib.itoa n
abbrev In64 (n : Int) : Prop := -9223372036854775808 ≤ n ∧ n ≤ 9223372036854775807
theorem numL_len {n : Int} (h : In64 n) : (numL n).length ≤ 21 := by
  unfold numL
  split
  · simp
  · exact Lib.itoa_length_le n h.1 h.2

set_option maxHeartbeats 1000000 in
theorem word_is (n : Int) (h : In64 n) (w : World) (hL : LaidK w) :
    Calls Tryd.prog 38 #[.int .i64 n] w fun e w' => e = .returned (.string ⟨(numL n).toArray⟩) ∧ Below w.heap.size w w' := by
  obtain ⟨R, hR⟩ : ∃ R, R = (⟨(numL n).toArray⟩ : ByteArray) := ⟨_, rfl⟩
  rw [← hR]
  have HR : Hid (R = ⟨(numL n).toArray⟩) := hR
  clear hR
  by_cases k : n = 4611686018427387904
  · subst k
    go_enter Tryd.func38, Tryd.ntmps38
    go_wp2
    go_ret
    exact ⟨by rw [HR.out]; rfl, by go_grown⟩
  · have k0 : (n == 4611686018427387904) = false := by simp [k]
    have X : Hid (R = ⟨(Lib.itoa n).toArray⟩) := by unfold Hid; rw [HR.out, numL, if_neg k]
    have HL : Hid (LaidK w) := hL
    have HI : Hid (In64 n) := h
    clear HR k hL h
    go_enter Tryd.func38, Tryd.ntmps38
    go_wp2_with (fail)
    refine (Tryd.strconv_Itoa n HI.out.1 HI.out.2 _ HL.out.2.2.2.2.2).mono ?_
    rintro e w1 ⟨rfl, q, os, rfl⟩
    have HB : Below w.heap.size w (Sort.grow (w.drewN q) os) := below_grow w q os
    rw [← X.out]
    generalize Sort.grow (w.drewN q) os = w1 at *
    go_wp2
    go_ret
    exact ⟨rfl, HB⟩

theorem one_dv : (.agg #[.int .u64 1, .int .u64 0, .int .u64 0, .int .u64 0, .int .u64 0, .int .u64 0, .int .u64 0, .int .u64 0, .int .u64 0, .int .u64 0, .int .u64 0, .int .u64 0, .int .u64 0, .int .u64 0, .int .u64 0, .int .u64 0, .int .u64 0, .int .u64 0, .int .u64 0, .int .u64 0] : Value) = dv 1 := by
  have : dl (wd 1) = [.int .u64 1, .int .u64 0, .int .u64 0, .int .u64 0, .int .u64 0, .int .u64 0, .int .u64 0, .int .u64 0, .int .u64 0, .int .u64 0, .int .u64 0, .int .u64 0, .int .u64 0, .int .u64 0, .int .u64 0, .int .u64 0, .int .u64 0, .int .u64 0, .int .u64 0, .int .u64 0] := rfl
  unfold dv
  rw [this]

set_option maxHeartbeats 1000000 in
set_option maxRecDepth 100000 in
theorem rsigned_is (n : Int) (h : In64 n) (w : World) :
    Calls Tryd.prog 40 #[.int .i64 n] w fun e w' => e = .returned (.string ⟨(Lib.itoa n).toArray⟩) ∧ Below w.heap.size w w' := by
  obtain ⟨R, hR⟩ : ∃ R, R = (⟨(Lib.itoa n).toArray⟩ : ByteArray) := ⟨_, rfl⟩
  rw [← hR]
  have HR : Hid (R = ⟨(Lib.itoa n).toArray⟩) := hR
  clear hR
  by_cases k : n < 0
  · obtain ⟨m, hm, rfl⟩ : ∃ m : Nat, m < 9223372036854775808 ∧ n = -(m : Int) - 1 := ⟨(-n - 1).toNat, by omega, by omega⟩
    have X : Hid (R = ⟨(45 :: Lib.decDigits (m + 1)).toArray⟩) := by
      unfold Hid
      rw [HR.out, Lib.itoa, if_pos (by omega), show (-(m : Int) - 1).natAbs = m + 1 by omega]
    clear HR h
    go_enter Tryd.func40, Tryd.ntmps40
    go_wp2_with (fail)
    refine (rof_dv 0 (m : Int) _ (by omega) (by omega) (by omega) (by omega)).mono ?_
    rintro e w1 ⟨rfl, hw1⟩
    rw [show (0 : Int) * 18446744073709551616 + (m : Int) = (m : Int) by omega]
    obtain ⟨D, hD⟩ : ∃ D, D = dv (m : Int) := ⟨_, rfl⟩
    rw [← hD]
    have C : Hid (∀ w, Calls Tryd.prog 56 #[D, dv 1] w fun x w' => x = .returned (dv ((m : Int) + 1)) ∧ Below w.heap.size w w') := fun w => by
      rw [hD]
      exact plus_dv (m : Int) 1 w (by omega) (by omega) (by rw [pow20]; omega)
    clear hD
    go_wp2_with (fail)
    rw [one_dv]
    refine (C.out _).mono ?_
    rintro e w2 ⟨rfl, hw2⟩
    have HB2 : Below w.heap.size w w2 := hw1.trans (hw2.mono hw1.size)
    clear C hw1 hw2
    obtain ⟨E, hE⟩ : ∃ E, E = dv ((m : Int) + 1) := ⟨_, rfl⟩
    rw [← hE]
    have C : Hid (∀ w, Calls Tryd.prog 57 #[E] w fun x w' => x = .returned (.tuple #[.agg #[.int .u64 0, .int .u64 ((m + 1 : Nat) : Int)], .bool (wt ((m : Int) + 1))]) ∧ Below w.heap.size w w') := fun w => by
      rw [hE]
      have := wide_dv ((m : Int) + 1) w (by omega) (by rw [pow20]; omega)
      rw [show wh ((m : Int) + 1) = 0 by unfold wh; rw [if_pos (by omega)]; omega, show wl ((m : Int) + 1) = ((m + 1 : Nat) : Int) by unfold wl; rw [if_pos (by omega)]; omega] at this
      exact this
    clear hE
    go_wp2_with (fail)
    refine (C.out _).mono ?_
    rintro e w3 ⟨rfl, hw3⟩
    have HB3 : Below w.heap.size w w3 := HB2.trans (hw3.mono HB2.size)
    clear C hw3 HB2
    generalize wt ((m : Int) + 1) = b
    obtain ⟨q, hq⟩ : ∃ q : Int, q = ((m + 1 : Nat) : Int) := ⟨_, rfl⟩
    rw [← hq]
    have C : Hid (∀ w, Calls Tryd.prog 58 #[.agg #[.int .u64 0, .int .u64 q]] w fun e w' => e = .returned (.string ⟨(Lib.decDigits (m + 1)).toArray⟩) ∧ Below w.heap.size w w') := fun w => by
      rw [hq]
      exact rtext_low (m + 1) (by omega) w
    have L : (Lib.decDigits (m + 1)).length ≤ 21 := by
      have := Lib.itoa_length_le (-(m : Int) - 1) (by omega) (by omega)
      rw [Lib.itoa, if_pos (by omega), show (-(m : Int) - 1).natAbs = m + 1 by omega, List.length_cons] at this
      omega
    have Y : Hid (R = ⟨#[45]⟩ ++ ⟨(Lib.decDigits (m + 1)).toArray⟩) := by
      unfold Hid
      rw [X.out]
      refine ByteArray.ext ?_
      rw [ByteArray.data_append]
      simp
    clear hq X k
    have sz : ¬ 9223372036854775807 < (⟨#[45]⟩ : ByteArray).size + (⟨(Lib.decDigits (m + 1)).toArray⟩ : ByteArray).size := by
      rw [show (⟨#[45]⟩ : ByteArray).size = 1 from rfl, show (⟨(Lib.decDigits (m + 1)).toArray⟩ : ByteArray).size = (Lib.decDigits (m + 1)).length by simp [ByteArray.size]]
      omega
    have hs := HB3.size
    go_wp2_with (fail)
    refine (C.out _).mono ?_
    rintro e w4 ⟨rfl, hw4⟩
    have HB4 : Below w.heap.size w w4 := Below.trans (show Below w.heap.size w _ by go_grown) (hw4.mono (by simp; omega))
    clear C hw4 HB3 hs
    generalize (⟨(Lib.decDigits (m + 1)).toArray⟩ : ByteArray) = T at *
    go_wp2
    go_ret
    exact ⟨by rw [Y.out]; rfl, HB4⟩
  · obtain ⟨m, hm, rfl⟩ : ∃ m : Nat, m < 9223372036854775808 ∧ n = (m : Int) := ⟨n.toNat, by omega, by omega⟩
    have X : Hid (R = ⟨(Lib.decDigits m).toArray⟩) := by
      unfold Hid
      rw [HR.out, Lib.itoa, if_neg (by omega), show (m : Int).toNat = m by omega]
    clear HR h
    go_enter Tryd.func40, Tryd.ntmps40
    go_wp2_with (fail)
    refine (rtext_low m (by omega) _).mono ?_
    rintro e w1 ⟨rfl, hw1⟩
    rw [← X.out]
    go_wp2
    go_ret
    exact ⟨rfl, hw1⟩

end Go.Proofs.YtaeejemknmjglaaDoor.Sp
