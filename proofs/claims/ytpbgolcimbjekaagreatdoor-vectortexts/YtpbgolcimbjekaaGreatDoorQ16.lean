/-
  What the statements of layer 2 ask ahead of everything else ('first') is answered true, at this program. Conditions: the two tables of suffixes lie as the program's text lays them.
-/
import Derived.Test.YtpbgolcimbjekaaGreatDoorQ15
namespace Go.Proofs.YtpbgolcimbjekaaGreatDoor
open Go.RowKit

theorem parse_lit {l : List UInt8} {v : Nat} {g : Int} (e : parseL l = (v, g)) (hv : v < 18446744073709551616) (hl : l.length ≤ 100) (w : World) (hL : LaidW w) :
    Calls Tryz.prog 35 #[.string ⟨l.toArray⟩] w fun e w' => e = .returned (.tuple #[.agg #[.int .u64 0, .int .u64 (v : Int)], .int .i64 g]) ∧ Below w.heap.size w w' := by
  refine (parse_amount ⟨l.toArray⟩ (by unfold maxLen; simp [ByteArray.size]; omega) w hL).mono ?_
  rintro e' w' ⟨⟨h, k, g', rfl, hg, i⟩, hw⟩
  simp only at hg i
  rw [e] at hg i
  subst hg
  obtain ⟨rfl, rfl⟩ := i.det (Is.small rfl hv)
  exact ⟨rfl, hw⟩
theorem units_lit {v n : Nat} (e : up v 1000000000 = n) (hv : v < 18446744073709551616) (hn : n ≤ 1152921504606846976) (w : World) :
    Calls Tryz.prog 57 #[.agg #[.int .u64 0, .int .u64 (v : Int)]] w fun e w' => e = .returned (.tuple #[.int .i64 (n : Int), .int .i64 0]) ∧ Below w.heap.size w w' := by
  refine (units_is (Is.small (a := v) rfl hv) w).mono ?_
  rintro e' w' ⟨⟨m, g, rfl, f⟩, hw⟩
  rw [e] at f
  rcases f with ⟨_, rfl, rfl⟩ | ⟨f, _⟩
  · exact ⟨rfl, hw⟩
  · omega
theorem milli_lit {v n : Nat} (e : up v 1000000 = n) (hv : v < 18446744073709551616) (hn : n ≤ 1152921504606846976) (w : World) :
    Calls Tryz.prog 56 #[.agg #[.int .u64 0, .int .u64 (v : Int)]] w fun e w' => e = .returned (.tuple #[.int .i64 (n : Int), .int .i64 0]) ∧ Below w.heap.size w w' := by
  refine (milli_is (Is.small (a := v) rfl hv) w).mono ?_
  rintro e' w' ⟨⟨m, g, rfl, f⟩, hw⟩
  rw [e] at f
  rcases f with ⟨_, rfl, rfl⟩ | ⟨f, _⟩
  · exact ⟨rfl, hw⟩
  · omega
theorem ba_eq {t : ByteArray} {l : List UInt8} (h : t.data.toList = l) : t = ⟨l.toArray⟩ := by
  cases t with | mk d => simp at h; subst h; simp
theorem text_lit {v : Nat} {l : List UInt8} (e : textL v = l) (hv : v < 18446744073709551616) (w : World) (hL : LaidW w) :
    Calls Tryz.prog 39 #[.agg #[.int .u64 0, .int .u64 (v : Int)]] w fun e w' => e = .returned (.string ⟨l.toArray⟩) ∧ Below w.heap.size w w' := by
  refine (text_amount (Is.small (a := v) rfl hv) w hL).mono ?_
  rintro e' w' ⟨⟨t, rfl, ht⟩, hw⟩
  rw [e] at ht
  obtain rfl := ba_eq ht
  exact ⟨rfl, hw⟩
theorem binary_lit {v : Nat} {l : List UInt8} (e : binL v = l) (hv : v < 18446744073709551616) (w : World) (hL : LaidW w) :
    Calls Tryz.prog 41 #[.agg #[.int .u64 0, .int .u64 (v : Int)]] w fun e w' => e = .returned (.string ⟨l.toArray⟩) ∧ Below w.heap.size w w' := by
  refine (binary_amount (Is.small (a := v) rfl hv) w hL).mono ?_
  rintro e' w' ⟨⟨t, rfl, ht⟩, hw⟩
  rw [e] at ht
  obtain rfl := ba_eq ht
  exact ⟨rfl, hw⟩
theorem one_lit (w : World) : Calls Tryz.prog 40 #[.int .i64 1] w fun e w' => e = .returned (.tuple #[.agg #[.int .u64 0, .int .u64 1000000000], .int .i64 0]) ∧ Below w.heap.size w w' := by
  refine (ofUnits_any 1 w).mono ?_
  rintro e' w' ⟨⟨h, l, g, rfl, f⟩, hw⟩
  rcases f with ⟨f, _⟩ | ⟨f, _⟩ | ⟨_, _, f, rfl⟩
  · omega
  · omega
  · obtain ⟨rfl, rfl⟩ := f.det (Is.small (u := 1000000000) (a := 1000000000) rfl (by omega))
    exact ⟨rfl, hw⟩

theorem first_p1 (w : World) (hL : LaidW w) : Calls Tryz.prog 35 #[.string ⟨#[49, 46, 53, 71, 105]⟩] w fun e w' => e = .returned (.tuple #[.agg #[.int .u64 0, .int .u64 1610612736000000000], .int .i64 0]) ∧ Below w.heap.size w w' := parse_lit parse_one (by omega) (by decide) w hL
theorem first_p2 (w : World) (hL : LaidW w) : Calls Tryz.prog 35 #[.string ⟨#[49, 48, 48, 109]⟩] w fun e w' => e = .returned (.tuple #[.agg #[.int .u64 0, .int .u64 100000000], .int .i64 0]) ∧ Below w.heap.size w w' := parse_lit parse_two (by omega) (by decide) w hL
theorem first_p3 (w : World) (hL : LaidW w) : Calls Tryz.prog 35 #[.string ⟨#[49, 101, 51]⟩] w fun e w' => e = .returned (.tuple #[.agg #[.int .u64 0, .int .u64 1000000000000], .int .i64 0]) ∧ Below w.heap.size w w' := parse_lit parse_three (by omega) (by decide) w hL
theorem first_p4 (w : World) (hL : LaidW w) : Calls Tryz.prog 35 #[.string ⟨#[49, 120]⟩] w fun e w' => e = .returned (.tuple #[.agg #[.int .u64 0, .int .u64 0], .int .i64 11]) ∧ Below w.heap.size w w' := parse_lit parse_four (by omega) (by decide) w hL
theorem first_u (w : World) : Calls Tryz.prog 57 #[.agg #[.int .u64 0, .int .u64 1610612736000000000]] w fun e w' => e = .returned (.tuple #[.int .i64 1610612736, .int .i64 0]) ∧ Below w.heap.size w w' := units_lit (v := 1610612736000000000) (n := 1610612736) (by decide +kernel) (by omega) (by omega) w
theorem first_m (w : World) : Calls Tryz.prog 56 #[.agg #[.int .u64 0, .int .u64 100000000]] w fun e w' => e = .returned (.tuple #[.int .i64 100, .int .i64 0]) ∧ Below w.heap.size w w' := milli_lit (v := 100000000) (n := 100) (by decide +kernel) (by omega) (by omega) w
theorem first_b (w : World) (hL : LaidW w) : Calls Tryz.prog 41 #[.agg #[.int .u64 0, .int .u64 1610612736000000000]] w fun e w' => e = .returned (.string ⟨#[49, 53, 51, 54, 77, 105]⟩) ∧ Below w.heap.size w w' := binary_lit bin_one (by omega) w hL
theorem first_t (w : World) (hL : LaidW w) : Calls Tryz.prog 39 #[.agg #[.int .u64 0, .int .u64 1000000000000]] w fun e w' => e = .returned (.string ⟨#[49, 107]⟩) ∧ Below w.heap.size w w' := text_lit text_three (by omega) w hL
theorem first_z (w : World) (hL : LaidW w) : Calls Tryz.prog 39 #[.agg #[.int .u64 0, .int .u64 0]] w fun e w' => e = .returned (.string ⟨#[48]⟩) ∧ Below w.heap.size w w' := text_lit text_none (by omega) w hL

end Go.Proofs.YtpbgolcimbjekaaGreatDoor
