/-
  Contracts of package wide's withDigit and Parse at this program. Conditions: all words lie below 2^64; a byte is from 0 to 255.
-/
import Derived.Test.YtahmgbaonldlfaaG
import Derived.Deep.RegionWith
namespace Go.Proofs.Ytahmgbaonldlfaa
open Go.RowKit

set_option maxHeartbeats 1000000 in
theorem digit_no (ah al c : Int) (w : World) (c0 : 0 ≤ c) (c1 : c ≤ 255) (hc : ¬ (48 ≤ c ∧ c ≤ 57)) :
    Calls Try.prog 31 #[.agg #[.int .u64 ah, .int .u64 al], .int .u8 c] w fun e w' =>
      e = .returned (.tuple #[.agg #[.int .u64 0, .int .u64 0], .bool false]) ∧ Below w.heap.size w w' := by
  by_cases h : c < 48
  all_goals
    go_enter Try.func31, Try.ntmps31
    go_wp2
    go_returns
    exact ⟨rfl, by go_grown⟩

theorem dig_wrap (c : Int) (c0 : 48 ≤ c) (c1 : c ≤ 57) : IntKind.u64.wrap (IntKind.u8.wrap (c - 48)) = c - 48 := by
  simp only [IntKind.wrap_u64, IntKind.wrap_u8]; omega

set_option maxHeartbeats 1000000 in
theorem digit_yes (ah al c : Int) (w : World) (a0 : 0 ≤ al) (a1 : al < 18446744073709551616) (a2 : 0 ≤ ah) (a3 : ah < 18446744073709551616) (c0 : 48 ≤ c) (c1 : c ≤ 57) :
    Calls Try.prog 31 #[.agg #[.int .u64 ah, .int .u64 al], .int .u8 c] w fun e w' =>
      ∃ (h l : Int) (b : Bool), e = .returned (.tuple #[.agg #[.int .u64 h, .int .u64 l], .bool b]) ∧ Wok h l ∧ Fits h l b ((ah * 18446744073709551616 + al) * 10 + (c - 48)) ∧ Below w.heap.size w w' := by
  go_enter Try.func31, Try.ntmps31
  go_wp2_with (fail)
  refine (times_any ah al 10 _ a0 a1 a2 a3 (by omega) (by omega)).mono ?_
  rintro e w1 ⟨h1, l1, b1, rfl, ⟨k0, k1, k2, k3⟩, f1, hw1⟩
  have HBw1 : Below w.heap.size w w1 := Below.trans (by go_grown) (hw1.mono (by first | omega | (simp; done) | (simp; omega)))
  obtain ⟨hcw1, hfw1⟩ := bcell hw1
  have hsw1 := hw1.size
  (try simp at hsw1)
  clear hw1
  have hz1 : w.heap.size + 1 < w1.heap.size := by omega
  have hy1 : w.heap.size < w1.heap.size := by omega
  rcases f1 with ⟨rfl, f1⟩ | ⟨rfl, rfl, rfl, f1⟩
  · have F1 : Hid _ := f1
    clear f1
    go_wp2_with (fail)
    go_region_with (first
      | (go_at_call 17; refine (of_any _ _).mono ?_; rintro e w2 ⟨rfl, hw2⟩; have HBw2 : Below w.heap.size w w2 := Below.trans (by go_grown) (hw2.mono (by first | omega | (simp; done) | (simp; omega))); obtain ⟨hcw2, hfw2⟩ := bcell hw2; have hsw2 := hw2.size; (try simp at hsw2); clear hw2; have hz2 : w.heap.size + 1 < w2.heap.size := by omega)
      | (go_at_call 20; refine (add_any _ _ _ _ _ k2 k3 k0 k1 (by rw [dig_wrap c c0 c1]; omega) (by rw [dig_wrap c c0 c1]; omega) (by omega) (by omega)).mono ?_; rintro e w3 ⟨h3, l3, b3, rfl, m3, f3, hw3⟩; have HBw3 : Below w.heap.size w w3 := Below.trans (by go_grown) (hw3.mono (by first | omega | (simp; done) | (simp; omega))); obtain ⟨hcw3, hfw3⟩ := bcell hw3; have hsw3 := hw3.size; (try simp at hsw3); clear hw3; have hz3 : w.heap.size + 1 < w3.heap.size := by omega))
    all_goals
      go_wp2
      refine bodyPost_ret (v := .tuple #[.agg #[.int .u64 h3, .int .u64 l3], .bool b3]) (by simp [results, Try.results31, go_sem, hcw1, hcw2, hcw3, hz1, hz2, hy1]) rfl ⟨_, _, _, rfl, m3, ?_, by go_grown⟩
      rw [dig_wrap c c0 c1] at f3
      exact (show (ah * 18446744073709551616 + al) * 10 + (c - 48) = h1 * 18446744073709551616 + l1 + (0 * 18446744073709551616 + (c - 48)) by have := F1.out; omega) ▸ f3
  · have F1 : Hid _ := f1
    clear f1
    go_wp2
    refine bodyPost_ret (v := .tuple #[.agg #[.int .u64 0, .int .u64 0], .bool false]) (by simp [results, Try.results31, go_sem, hcw1, hz1]) rfl ⟨_, _, _, rfl, ⟨by omega, by omega, by omega, by omega⟩, Or.inr ⟨rfl, rfl, rfl, by have := F1.out; omega⟩, ?_⟩
    go_grown

end Go.Proofs.Ytahmgbaonldlfaa
