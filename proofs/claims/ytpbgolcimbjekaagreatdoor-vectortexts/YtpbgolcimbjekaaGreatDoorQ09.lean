/-
  Contracts of package amount's functions that read a text: digits, where a number ends, its two parts, at this program. Conditions: a text's length fits the machine.
-/
import Derived.Test.YtpbgolcimbjekaaGreatDoorQ07
import Derived.Test.YtpbgolcimbjekaaGreatDoorQ08
namespace Go.Proofs.YtpbgolcimbjekaaGreatDoor
open Go.RowKit

set_option maxHeartbeats 1000000 in
theorem isDigit_any (c : UInt8) (w : World) :
    Calls Tryz.prog 74 #[.int .u8 (c.toNat : Int)] w fun e w' => e = .returned (.bool (isD c)) ∧ w = w' := by
  have b8 : c.toNat < 256 := c.toNat_lt
  by_cases h0 : 48 ≤ c.toNat
  · rw [show isD c = decide ((c.toNat : Int) ≤ 57) by unfold isD; rw [decide_eq_decide]; omega]
    go_enter Tryz.func74, Tryz.ntmps74
    go_wp2
    go_ret
    exact ⟨rfl, rfl⟩
  · rw [show isD c = false by unfold isD; simp [h0]]
    go_enter Tryz.func74, Tryz.ntmps74
    go_wp2
    go_ret
    exact ⟨rfl, rfl⟩

theorem nend_stop {c : UInt8} {r : List UInt8} {p : Bool} (h : (c.toNat = 46 ∧ p = true) ∨ (c.toNat ≠ 46 ∧ isD c = false)) : nend p (c :: r) = 0 := by rw [nend, if_pos h]
theorem nend_on {c : UInt8} {r : List UInt8} {p : Bool} (h : ¬ ((c.toNat = 46 ∧ p = true) ∨ (c.toNat ≠ 46 ∧ isD c = false))) : nend p (c :: r) = nend (p || decide (c.toNat = 46)) r + 1 := by rw [nend, if_neg h]

set_option maxHeartbeats 2000000 in
theorem numberEnd_is (s : ByteArray) (hm : s.size ≤ maxLen) (w : World) :
    Calls Tryz.prog 51 #[.string s] w fun e w' => e = .returned (.int .i64 ((nend false s.data.toList : Nat) : Int)) ∧ w = w' := by
  obtain ⟨R, hR⟩ : ∃ R, R = nend false s.data.toList := ⟨_, rfl⟩
  rw [← hR]
  have HR : Hid (nend false s.data.toList = R) := hR.symm
  clear hR
  unfold maxLen at hm
  go_enter Tryz.func51, Tryz.ntmps51
  go_wp2
  go_loopw [3, 8] (fun p f wr => ∃ (j : Nat) (b : Bool), p = .bool b ∧ f = .int .i64 j ∧ j ≤ s.size ∧ Hid (j + nend b (s.data.toList.drop j) = R) ∧ w = wr) (fun _ f _ => s.size - (intOf f).toNat)
  case atStart => exact ⟨0, false, rfl, rfl, by omega, by unfold Hid; simpa using HR.out, rfl⟩
  case round =>
    obtain ⟨j, b, rfl, rfl, jl, HJ, rfl⟩ := hrel
    by_cases c : j < s.size
    · have b8 : s[j].toNat < 256 := s[j].toNat_lt
      have E := HJ.out
      rw [drop_at s j c] at E
      clear HJ
      by_cases d : s[j].toNat = 46
      · have db : (((s[j].toNat : Nat) : Int) == 46) = true := by simp [d]
        cases b
        · rw [nend_on (by simp [d]), show (false || decide (s[j].toNat = 46)) = true by simp [d]] at E
          have E' : Hid (j + 1 + nend true (s.data.toList.drop (j + 1)) = R) := by unfold Hid; omega
          clear E d
          go_wp2
          go_roundw
          case rel => exact ⟨j + 1, true, rfl, by go_num, by omega, E', trivial⟩
          case measure => simp [intOf]; omega
        · rw [nend_stop (Or.inl ⟨d, rfl⟩)] at E
          obtain rfl : R = j := by omega
          clear E d
          go_wp2
          go_ret
          exact ⟨rfl, rfl⟩
      · have db : (((s[j].toNat : Nat) : Int) == 46) = false := by simp; omega
        have ID : Hid (∀ w, Calls Tryz.prog 74 #[.int .u8 (s[j].toNat : Int)] w fun e w' => e = .returned (.bool (isD s[j])) ∧ w = w') := fun w => isDigit_any s[j] w
        cases hx : isD s[j]
        · rw [nend_stop (Or.inr ⟨d, hx⟩)] at E
          obtain rfl : R = j := by omega
          rw [hx] at ID
          clear E d hx
          cases b
          · go_wp2_with (fail)
            refine (ID.out _).mono ?_
            rintro e w1 ⟨rfl, rfl⟩
            go_wp2
            go_ret
            exact ⟨rfl, rfl⟩
          · go_wp2_with (fail)
            refine (ID.out _).mono ?_
            rintro e w1 ⟨rfl, rfl⟩
            go_wp2
            go_ret
            exact ⟨rfl, rfl⟩
        · rw [nend_on (by simp [d, hx]), show (b || decide (s[j].toNat = 46)) = b by simp [d]] at E
          have E' : Hid (j + 1 + nend b (s.data.toList.drop (j + 1)) = R) := by unfold Hid; omega
          rw [hx] at ID
          clear E d hx
          cases b
          · go_wp2_with (fail)
            refine (ID.out _).mono ?_
            rintro e w1 ⟨rfl, rfl⟩
            go_wp2
            go_roundw
            case rel => exact ⟨j + 1, false, rfl, by go_num, by omega, E', trivial⟩
            case measure => simp [intOf]; omega
          · go_wp2_with (fail)
            refine (ID.out _).mono ?_
            rintro e w1 ⟨rfl, rfl⟩
            go_wp2
            go_roundw
            case rel => exact ⟨j + 1, true, rfl, by go_num, by omega, E', trivial⟩
            case measure => simp [intOf]; omega
    · have E := HJ.out
      rw [drop_end s j (by omega), nend] at E
      clear HJ
      have jm : j = s.size := by omega
      subst jm
      obtain rfl : R = s.size := by omega
      clear E
      go_wp2
      go_ret
      exact ⟨rfl, rfl⟩

/-! ### Two parts -/
theorem cut_none : ∀ (l : List UInt8), Lib.indexByte l 46 = -1 → cutDot l = (l, [])
  | [], _ => rfl
  | c :: r, h => by
    rw [Lib.indexByte] at h
    rw [cutDot]
    by_cases e : c = 46
    · simp [e] at h
    · rw [if_neg e]
      have e' : (c == 46) = false := by simpa using e
      rw [e'] at h
      by_cases k : Lib.indexByte r 46 = -1
      · rw [cut_none r k]
      · have g := Lib.indexByte_ge r 46
        simp [k] at h
        omega
theorem cut_some : ∀ (l : List UInt8) (i : Nat), Lib.indexByte l 46 = (i : Int) → cutDot l = (l.take i, l.drop (i + 1)) ∧ i < l.length
  | [], i, h => by simp [Lib.indexByte] at h
  | c :: r, i, h => by
    rw [Lib.indexByte] at h
    rw [cutDot]
    by_cases e : c = 46
    · simp [e] at h
      obtain rfl : i = 0 := by omega
      simp [e]
    · rw [if_neg e]
      have e' : (c == 46) = false := by simpa using e
      rw [e'] at h
      by_cases k : Lib.indexByte r 46 = -1
      · simp [k] at h
      · simp [k] at h
        have g := Lib.indexByte_ge r 46
        obtain ⟨j, rfl⟩ : ∃ j, i = j + 1 := ⟨i - 1, by omega⟩
        obtain ⟨h1, h2⟩ := cut_some r j (by omega)
        rw [h1]
        simp; omega

set_option maxHeartbeats 2000000 in
theorem cutl_is (s : ByteArray) (hm : s.size ≤ maxLen) (w : World) :
    Calls Tryz.prog 34 #[.string s, .string ⟨#[46]⟩] w fun e w' => ∃ (a b : ByteArray) (f : Bool), e = .returned (.tuple #[.string a, .string b, .bool f]) ∧ a.data.toList = (cutDot s.data.toList).1 ∧ b.data.toList = (cutDot s.data.toList).2 ∧ Below w.heap.size w w' := by
  unfold maxLen at hm
  by_cases h : Lib.indexByte s.data.toList 46 = -1
  · rw [cut_none _ h]
    have IX : Hid (∀ w, Calls Tryz.prog 50 #[.string s, .string ⟨#[46]⟩] w fun e w' => e = .returned (.int .i64 (-1)) ∧ w' = w) := fun w => by rw [← h]; exact Tryz.stringslite_Index_one s 46 w
    clear h
    go_enter Tryz.func34, Tryz.ntmps34
    go_wp2_with (fail)
    refine (IX.out _).mono ?_
    rintro e w1 ⟨rfl, rfl⟩
    go_wp2
    go_ret3
    exact ⟨_, _, _, rfl, rfl, rfl, by go_grown⟩
  · have g := Lib.indexByte_ge s.data.toList 46
    obtain ⟨i, hi⟩ : ∃ i : Nat, Lib.indexByte s.data.toList 46 = (i : Int) := ⟨(Lib.indexByte s.data.toList 46).toNat, by omega⟩
    obtain ⟨h1, h2⟩ := cut_some _ i hi
    rw [h1]
    have IX : Hid (∀ w, Calls Tryz.prog 50 #[.string s, .string ⟨#[46]⟩] w fun e w' => e = .returned (.int .i64 (i : Int)) ∧ w' = w) := fun w => by rw [← hi]; exact Tryz.stringslite_Index_one s 46 w
    have is : i < s.size := by simpa using h2
    clear h g hi h1 h2
    have c1 : (0 : Int) ≤ (i : Int) := by omega
    have c2 : (i : Int) ≤ (s.size : Int) := by omega
    have c3 : (0 : Int) ≤ (i : Int) + 1 := by omega
    have c4 : (i : Int) + 1 ≤ (s.size : Int) := by omega
    go_enter Tryz.func34, Tryz.ntmps34
    go_wp2_with (fail)
    refine (IX.out _).mono ?_
    rintro e w1 ⟨rfl, rfl⟩
    go_wp2
    go_region
    go_wp2
    go_ret3
    refine ⟨_, _, _, rfl, ?_, ?_, by go_grown⟩
    · simp
    · simp
      exact List.take_of_length_le (by simp)

set_option maxHeartbeats 2000000 in
theorem cut_is (s : ByteArray) (hm : s.size ≤ maxLen) (w : World) :
    Calls Tryz.prog 19 #[.string s, .string ⟨#[46]⟩] w fun e w' => ∃ (a b : ByteArray) (f : Bool), e = .returned (.tuple #[.string a, .string b, .bool f]) ∧ a.data.toList = (cutDot s.data.toList).1 ∧ b.data.toList = (cutDot s.data.toList).2 ∧ Below w.heap.size w w' := by
  go_enter Tryz.func19, Tryz.ntmps19
  go_wp2_with (fail)
  refine (cutl_is s hm _).mono ?_
  rintro e w1 ⟨a, b, f, rfl, ha, hb, hw1⟩
  have A : Hid _ := ha
  have B : Hid _ := hb
  clear ha hb
  go_wp2
  go_ret3
  exact ⟨_, _, _, rfl, A.out, B.out, hw1⟩

end Go.Proofs.YtpbgolcimbjekaaGreatDoor
