/-
  Contracts of what package vector reads texts with: a text cut at a letter, a resource by its name, a resource's number; at this program. Conditions: where it is said, the tables of the program lie as its text lays them; a text's length fits the machine.
-/
import Derived.Test.YtpbgolcimbjekaaGreatDoorKB
import Derived.Test.YtpbgolcimbjekaaGreatDoorVP
namespace Go.Proofs.YtpbgolcimbjekaaGreatDoor
open Go.RowKit

/-- What is ahead of the first such letter, and what is behind it, if there is one. -/
def cutAt (d : UInt8) : List UInt8 → List UInt8 × Option (List UInt8)
  | [] => ([], none)
  | c :: r => if c = d then ([], some r) else (c :: (cutAt d r).1, (cutAt d r).2)
theorem cutAt_none (d : UInt8) : ∀ (l : List UInt8), Lib.indexByte l d = -1 → cutAt d l = (l, none)
  | [], _ => rfl
  | c :: r, h => by
    rw [Lib.indexByte] at h
    rw [cutAt]
    by_cases e : c = d
    · simp [e] at h
    · rw [if_neg e]
      have e' : (c == d) = false := by simpa using e
      rw [e'] at h
      by_cases k : Lib.indexByte r d = -1
      · rw [cutAt_none d r k]
      · have g := Lib.indexByte_ge r d
        simp [k] at h
        omega
theorem cutAt_some (d : UInt8) : ∀ (l : List UInt8) (i : Nat), Lib.indexByte l d = (i : Int) → cutAt d l = (l.take i, some (l.drop (i + 1))) ∧ i < l.length
  | [], i, h => by simp [Lib.indexByte] at h
  | c :: r, i, h => by
    rw [Lib.indexByte] at h
    rw [cutAt]
    by_cases e : c = d
    · simp [e] at h
      obtain rfl : i = 0 := by omega
      simp [e]
    · rw [if_neg e]
      have e' : (c == d) = false := by simpa using e
      rw [e'] at h
      by_cases k : Lib.indexByte r d = -1
      · simp [k] at h
      · simp [k] at h
        have g := Lib.indexByte_ge r d
        obtain ⟨j, rfl⟩ : ∃ j, i = j + 1 := ⟨i - 1, by omega⟩
        obtain ⟨h1, h2⟩ := cutAt_some d r j (by omega)
        rw [h1]
        simp; omega
/-- Both parts, and whether there was such a letter. -/
def Cutd (d : UInt8) (l : List UInt8) (a b : ByteArray) (f : Bool) : Prop := a.data.toList = (cutAt d l).1 ∧ a.size ≤ l.length ∧ ((f = true ∧ (cutAt d l).2 = some b.data.toList ∧ b.size < l.length) ∨ (f = false ∧ (cutAt d l).2 = none ∧ b.size = 0))
theorem ba_len (s : ByteArray) : s.data.toList.length = s.size := by rw [Array.length_toList]; rfl

set_option maxHeartbeats 2000000 in
theorem cutl_44 (s : ByteArray) (hm : s.size ≤ maxLen) (w : World) :
    Calls Tryz.prog 34 #[.string s, .string ⟨#[44]⟩] w fun e w' => ∃ (a b : ByteArray) (f : Bool), e = .returned (.tuple #[.string a, .string b, .bool f]) ∧ Cutd 44 s.data.toList a b f ∧ Below w.heap.size w w' := by
  unfold maxLen at hm
  by_cases h : Lib.indexByte s.data.toList 44 = -1
  · have C := cutAt_none 44 _ h
    have C' : Hid (cutAt 44 s.data.toList = (s.data.toList, none)) := C
    have IX : Hid (∀ w, Calls Tryz.prog 50 #[.string s, .string ⟨#[44]⟩] w fun e w' => e = .returned (.int .i64 (-1)) ∧ w' = w) := fun w => by rw [← h]; exact Tryz.stringslite_Index_one s 44 w
    clear h C
    go_enter Tryz.func34, Tryz.ntmps34
    go_wp2_with (fail)
    refine (IX.out _).mono ?_
    rintro e w1 ⟨rfl, rfl⟩
    go_wp2
    go_ret3
    exact ⟨_, _, _, rfl, ⟨by rw [C'.out], by rw [ba_len]; exact Nat.le_refl _, Or.inr ⟨rfl, by rw [C'.out], rfl⟩⟩, by go_grown⟩
  · have g := Lib.indexByte_ge s.data.toList 44
    obtain ⟨i, hi⟩ : ∃ i : Nat, Lib.indexByte s.data.toList 44 = (i : Int) := ⟨(Lib.indexByte s.data.toList 44).toNat, by omega⟩
    obtain ⟨h1, h2⟩ := cutAt_some 44 _ i hi
    have C' : Hid (cutAt 44 s.data.toList = (s.data.toList.take i, some (s.data.toList.drop (i + 1)))) := h1
    have IX : Hid (∀ w, Calls Tryz.prog 50 #[.string s, .string ⟨#[44]⟩] w fun e w' => e = .returned (.int .i64 (i : Int)) ∧ w' = w) := fun w => by rw [← hi]; exact Tryz.stringslite_Index_one s 44 w
    have is : i < s.size := by simpa using h2
    clear h g hi h1 h2
    have c1 : (0 : Int) ≤ (i : Int) := by omega
    have c2 : (i : Int) ≤ (s.size : Int) := by omega
    have c3 : (0 : Int) ≤ (i : Int) + 1 := by omega
    have c4 : (i : Int) + 1 ≤ (s.size : Int) := by omega
    go_enter Tryz.func34, Tryz.ntmps34
    go_wp2_with (fail)
    refine (IX.out _).mono ?_
    rintro e w1 ⟨rfl, rfl⟩
    go_wp2
    go_region
    go_wp2
    go_ret3
    refine ⟨_, _, _, rfl, ⟨?_, ?_, Or.inl ⟨rfl, ?_, ?_⟩⟩, by go_grown⟩
    · rw [C'.out]; simp
    · rw [ba_len]; simp; omega
    · rw [C'.out]; simp
      exact (List.take_of_length_le (by simp)).symm
    · rw [ba_len]; simp; omega

set_option maxHeartbeats 2000000 in
theorem cut_44 (s : ByteArray) (hm : s.size ≤ maxLen) (w : World) :
    Calls Tryz.prog 19 #[.string s, .string ⟨#[44]⟩] w fun e w' => ∃ (a b : ByteArray) (f : Bool), e = .returned (.tuple #[.string a, .string b, .bool f]) ∧ Cutd 44 s.data.toList a b f ∧ Below w.heap.size w w' := by
  go_enter Tryz.func19, Tryz.ntmps19
  go_wp2_with (fail)
  refine (cutl_44 s hm _).mono ?_
  rintro e w1 ⟨a, b, f, rfl, ha, hw1⟩
  have A : Hid _ := ha
  clear ha
  go_wp2
  go_ret3
  exact ⟨_, _, _, rfl, A.out, hw1⟩

set_option maxHeartbeats 2000000 in
theorem cutl_61 (s : ByteArray) (hm : s.size ≤ maxLen) (w : World) :
    Calls Tryz.prog 34 #[.string s, .string ⟨#[61]⟩] w fun e w' => ∃ (a b : ByteArray) (f : Bool), e = .returned (.tuple #[.string a, .string b, .bool f]) ∧ Cutd 61 s.data.toList a b f ∧ Below w.heap.size w w' := by
  unfold maxLen at hm
  by_cases h : Lib.indexByte s.data.toList 61 = -1
  · have C := cutAt_none 61 _ h
    have C' : Hid (cutAt 61 s.data.toList = (s.data.toList, none)) := C
    have IX : Hid (∀ w, Calls Tryz.prog 50 #[.string s, .string ⟨#[61]⟩] w fun e w' => e = .returned (.int .i64 (-1)) ∧ w' = w) := fun w => by rw [← h]; exact Tryz.stringslite_Index_one s 61 w
    clear h C
    go_enter Tryz.func34, Tryz.ntmps34
    go_wp2_with (fail)
    refine (IX.out _).mono ?_
    rintro e w1 ⟨rfl, rfl⟩
    go_wp2
    go_ret3
    exact ⟨_, _, _, rfl, ⟨by rw [C'.out], by rw [ba_len]; exact Nat.le_refl _, Or.inr ⟨rfl, by rw [C'.out], rfl⟩⟩, by go_grown⟩
  · have g := Lib.indexByte_ge s.data.toList 61
    obtain ⟨i, hi⟩ : ∃ i : Nat, Lib.indexByte s.data.toList 61 = (i : Int) := ⟨(Lib.indexByte s.data.toList 61).toNat, by omega⟩
    obtain ⟨h1, h2⟩ := cutAt_some 61 _ i hi
    have C' : Hid (cutAt 61 s.data.toList = (s.data.toList.take i, some (s.data.toList.drop (i + 1)))) := h1
    have IX : Hid (∀ w, Calls Tryz.prog 50 #[.string s, .string ⟨#[61]⟩] w fun e w' => e = .returned (.int .i64 (i : Int)) ∧ w' = w) := fun w => by rw [← hi]; exact Tryz.stringslite_Index_one s 61 w
    have is : i < s.size := by simpa using h2
    clear h g hi h1 h2
    have c1 : (0 : Int) ≤ (i : Int) := by omega
    have c2 : (i : Int) ≤ (s.size : Int) := by omega
    have c3 : (0 : Int) ≤ (i : Int) + 1 := by omega
    have c4 : (i : Int) + 1 ≤ (s.size : Int) := by omega
    go_enter Tryz.func34, Tryz.ntmps34
    go_wp2_with (fail)
    refine (IX.out _).mono ?_
    rintro e w1 ⟨rfl, rfl⟩
    go_wp2
    go_region
    go_wp2
    go_ret3
    refine ⟨_, _, _, rfl, ⟨?_, ?_, Or.inl ⟨rfl, ?_, ?_⟩⟩, by go_grown⟩
    · rw [C'.out]; simp
    · rw [ba_len]; simp; omega
    · rw [C'.out]; simp
      exact (List.take_of_length_le (by simp)).symm
    · rw [ba_len]; simp; omega

set_option maxHeartbeats 2000000 in
theorem cut_61 (s : ByteArray) (hm : s.size ≤ maxLen) (w : World) :
    Calls Tryz.prog 19 #[.string s, .string ⟨#[61]⟩] w fun e w' => ∃ (a b : ByteArray) (f : Bool), e = .returned (.tuple #[.string a, .string b, .bool f]) ∧ Cutd 61 s.data.toList a b f ∧ Below w.heap.size w w' := by
  go_enter Tryz.func19, Tryz.ntmps19
  go_wp2_with (fail)
  refine (cutl_61 s hm _).mono ?_
  rintro e w1 ⟨a, b, f, rfl, ha, hw1⟩
  have A : Hid _ := ha
  clear ha
  go_wp2
  go_ret3
  exact ⟨_, _, _, rfl, A.out, hw1⟩

/-! ### A resource by its name -/
def cpuL : List UInt8 := [99, 112, 117]
def memL : List UInt8 := [109, 101, 109, 111, 114, 121]
def hugL : List UInt8 := [104, 117, 103, 101, 112, 97, 103, 101, 115]
theorem beq_dec (l m : List UInt8) : (l == m) = decide (l = m) := by
  by_cases h : l = m
  · rw [decide_eq_true h, h]; simp
  · rw [decide_eq_false h]; simpa using h
def resL (l : List UInt8) : Option Nat := if l = cpuL then some 0 else if l = memL then some 1 else if l = hugL then some 2 else none
def resV (o : Option Nat) : Value := .tuple #[.int .i64 ((o.getD 0 : Nat) : Int), .bool o.isSome]
theorem name_ix0 (w : World) : (Instr.index 56 (.agg #[.string ⟨#[99, 112, 117]⟩, .string ⟨#[109, 101, 109, 111, 114, 121]⟩, .string ⟨#[104, 117, 103, 101, 112, 97, 103, 101, 115]⟩]) (.int .i64 0)).run Tryz.prog w = .ok (.string ⟨#[99, 112, 117]⟩) w := by kernel_rfl
theorem name_ix1 (w : World) : (Instr.index 56 (.agg #[.string ⟨#[99, 112, 117]⟩, .string ⟨#[109, 101, 109, 111, 114, 121]⟩, .string ⟨#[104, 117, 103, 101, 112, 97, 103, 101, 115]⟩]) (.int .i64 1)).run Tryz.prog w = .ok (.string ⟨#[109, 101, 109, 111, 114, 121]⟩) w := by kernel_rfl
theorem name_ix2 (w : World) : (Instr.index 56 (.agg #[.string ⟨#[99, 112, 117]⟩, .string ⟨#[109, 101, 109, 111, 114, 121]⟩, .string ⟨#[104, 117, 103, 101, 112, 97, 103, 101, 115]⟩]) (.int .i64 2)).run Tryz.prog w = .ok (.string ⟨#[104, 117, 103, 101, 112, 97, 103, 101, 115]⟩) w := by kernel_rfl
theorem cpu_eq (s : ByteArray) : (s.toList == [99, 112, 117]) = decide (s.data.toList = cpuL) := by
  rw [ByteArray.toList_eq]; exact beq_dec _ cpuL
theorem mem_eq (s : ByteArray) : (s.toList == [109, 101, 109, 111, 114, 121]) = decide (s.data.toList = memL) := by
  rw [ByteArray.toList_eq]; exact beq_dec _ memL
theorem hug_eq (s : ByteArray) : (s.toList == [104, 117, 103, 101, 112, 97, 103, 101, 115]) = decide (s.data.toList = hugL) := by
  rw [ByteArray.toList_eq]; exact beq_dec _ hugL

set_option maxHeartbeats 2000000 in
set_option maxRecDepth 100000 in
theorem resource_is (s : ByteArray) (w : World) (hL : LaidV w) :
    Calls Tryz.prog 20 #[.string s] w fun e w' => e = .returned (resV (resL s.data.toList)) ∧ w = w' := by
  obtain ⟨R, hR⟩ : ∃ R, R = resL s.data.toList := ⟨_, rfl⟩
  rw [← hR]
  have HR : Hid (R = resL s.data.toList) := hR
  clear hR
  obtain ⟨b0, b1, b2, bz⟩ := hL.names
  clear hL
  go_enter Tryz.func20, Tryz.ntmps20
  go_wp2
  clear b0 b1 b2
  go_loopw [7] (fun p wr => ∃ j : Nat, p = .int .i64 j ∧ j ≤ 3 ∧ Hid ((0 < j → s.data.toList ≠ cpuL) ∧ (1 < j → s.data.toList ≠ memL) ∧ (2 < j → s.data.toList ≠ hugL)) ∧ w = wr) (fun p _ => 3 - (intOf p).toNat)
  case atStart => exact ⟨0, rfl, by omega, ⟨by omega, by omega, by omega⟩, rfl⟩
  case round =>
    obtain ⟨j, rfl, jl, HJ, rfl⟩ := hrel
    match j, jl with
    | 0, _ =>
      have ix : ∀ w : World, (Instr.index 56 (.agg #[.string ⟨#[99, 112, 117]⟩, .string ⟨#[109, 101, 109, 111, 114, 121]⟩, .string ⟨#[104, 117, 103, 101, 112, 97, 103, 101, 115]⟩]) (.int .i64 0)).run Tryz.prog w = .ok (.string ⟨#[99, 112, 117]⟩) w := name_ix0
      by_cases d : s.data.toList = cpuL
      · have hq : (s.toList == [99, 112, 117]) = true := by rw [cpu_eq]; exact decide_eq_true d
        have X : Hid (resL s.data.toList = some 0) := by unfold Hid; unfold resL; rw [if_pos d]
        clear d HJ
        go_wp2
        go_ret2
        exact ⟨by rw [HR.out, X.out]; rfl, rfl⟩
      · have hq : (s.toList == [99, 112, 117]) = false := by rw [cpu_eq]; exact decide_eq_false d
        have HJ' : Hid ((0 < 1 → s.data.toList ≠ cpuL) ∧ (1 < 1 → s.data.toList ≠ memL) ∧ (2 < 1 → s.data.toList ≠ hugL)) := ⟨fun _ => d, by omega, by omega⟩
        clear d HJ
        go_wp2
        go_roundw
        case rel => exact ⟨1, by go_num, by omega, HJ', trivial⟩
        case measure => simp [intOf]
    | 1, _ =>
      have ix : ∀ w : World, (Instr.index 56 (.agg #[.string ⟨#[99, 112, 117]⟩, .string ⟨#[109, 101, 109, 111, 114, 121]⟩, .string ⟨#[104, 117, 103, 101, 112, 97, 103, 101, 115]⟩]) (.int .i64 1)).run Tryz.prog w = .ok (.string ⟨#[109, 101, 109, 111, 114, 121]⟩) w := name_ix1
      by_cases d : s.data.toList = memL
      · have hq : (s.toList == [109, 101, 109, 111, 114, 121]) = true := by rw [mem_eq]; exact decide_eq_true d
        have X : Hid (resL s.data.toList = some 1) := by unfold Hid; unfold resL; rw [if_neg (HJ.out.1 (by omega))]; rw [if_pos d]
        clear d HJ
        go_wp2
        go_ret2
        exact ⟨by rw [HR.out, X.out]; rfl, rfl⟩
      · have hq : (s.toList == [109, 101, 109, 111, 114, 121]) = false := by rw [mem_eq]; exact decide_eq_false d
        have HJ' : Hid ((0 < 2 → s.data.toList ≠ cpuL) ∧ (1 < 2 → s.data.toList ≠ memL) ∧ (2 < 2 → s.data.toList ≠ hugL)) := ⟨fun _ => HJ.out.1 (by omega), fun _ => d, by omega⟩
        clear d HJ
        go_wp2
        go_roundw
        case rel => exact ⟨2, by go_num, by omega, HJ', trivial⟩
        case measure => simp [intOf]
    | 2, _ =>
      have ix : ∀ w : World, (Instr.index 56 (.agg #[.string ⟨#[99, 112, 117]⟩, .string ⟨#[109, 101, 109, 111, 114, 121]⟩, .string ⟨#[104, 117, 103, 101, 112, 97, 103, 101, 115]⟩]) (.int .i64 2)).run Tryz.prog w = .ok (.string ⟨#[104, 117, 103, 101, 112, 97, 103, 101, 115]⟩) w := name_ix2
      by_cases d : s.data.toList = hugL
      · have hq : (s.toList == [104, 117, 103, 101, 112, 97, 103, 101, 115]) = true := by rw [hug_eq]; exact decide_eq_true d
        have X : Hid (resL s.data.toList = some 2) := by unfold Hid; unfold resL; rw [if_neg (HJ.out.1 (by omega))]; rw [if_neg (HJ.out.2.1 (by omega))]; rw [if_pos d]
        clear d HJ
        go_wp2
        go_ret2
        exact ⟨by rw [HR.out, X.out]; rfl, rfl⟩
      · have hq : (s.toList == [104, 117, 103, 101, 112, 97, 103, 101, 115]) = false := by rw [hug_eq]; exact decide_eq_false d
        have HJ' : Hid ((0 < 3 → s.data.toList ≠ cpuL) ∧ (1 < 3 → s.data.toList ≠ memL) ∧ (2 < 3 → s.data.toList ≠ hugL)) := ⟨fun _ => HJ.out.1 (by omega), fun _ => HJ.out.2.1 (by omega), fun _ => d⟩
        clear d HJ
        go_wp2
        go_roundw
        case rel => exact ⟨3, by go_num, by omega, HJ', trivial⟩
        case measure => simp [intOf]
    | 3, _ =>
      have X : Hid (resL s.data.toList = none) := by unfold Hid resL; rw [if_neg (HJ.out.1 (by omega)), if_neg (HJ.out.2.1 (by omega)), if_neg (HJ.out.2.2 (by omega))]
      clear HJ
      go_wp2
      go_ret2
      exact ⟨by rw [HR.out, X.out]; rfl, rfl⟩

end Go.Proofs.YtpbgolcimbjekaaGreatDoor
