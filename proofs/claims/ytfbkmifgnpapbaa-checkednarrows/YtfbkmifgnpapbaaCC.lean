/-
  The walk of the statement CheckedBack at this program. Conditions: the arguments are numbers of 64 bits, with and without a sign.
-/
import Derived.Test.YtfbkmifgnpapbaaCB
namespace Go.Proofs.Ytfbkmifgnpapbaa
open Go.RowKit

theorem upv_back {n u : Int} (hu : 1 ≤ u) : 0 ≤ upv n u - n ∧ upv n u - n < u ∧ (upv n u).tmod u = 0 := by
  unfold upv
  have hk0 := Int.emod_nonneg (-n) (show u ≠ 0 by omega)
  have hk1 := Int.emod_lt_of_pos (-n) (show 0 < u by omega)
  refine ⟨by omega, by omega, ?_⟩
  apply Int.tmod_eq_zero_of_dvd
  refine ⟨-((-n) / u), ?_⟩
  have e := Int.mul_ediv_add_emod (-n) u
  rw [Int.mul_neg]
  omega

theorem zag_zig {n : Int} : zag ((Lib.zigzag n : Nat) : Int) = n := by
  unfold zag Lib.zigzag
  split <;> split <;> omega
theorem zag_in {u : Int} (h0 : 0 ≤ u) (h1 : u < 18446744073709551616) : In64 (zag u) := by
  unfold zag In64
  split <;> omega
theorem zig_zag {u : Int} (h0 : 0 ≤ u) : ((Lib.zigzag (zag u) : Nat) : Int) = u := by
  unfold zag Lib.zigzag
  split <;> split <;> omega
theorem zig_bd {n : Int} (h : In64 n) : 0 ≤ ((Lib.zigzag n : Nat) : Int) ∧ ((Lib.zigzag n : Nat) : Int) < 18446744073709551616 := by
  have := Lib.zigzag_lt h.1 h.2
  omega

set_option maxHeartbeats 2000000 in
theorem cback_any (a b u : Int) (w : World) (ha : In64 a) (hb : In64 b) (u0 : 0 ≤ u) (u1 : u < 18446744073709551616) :
    Calls Try.prog 6 #[.int .i64 a, .int .i64 b, .int .u64 u] w fun e w' => e = .returned (.bool true) ∧ Below w.heap.size w w' := by
  have HA : Hid (In64 a) := ha
  have HB : Hid (In64 b) := hb
  unfold In64 at ha hb
  go_enter Try.func6, Try.ntmps6
  go_wp2_with (fail)
  refine (cfirst_any _).mono ?_
  rintro e w1 ⟨rfl, hw1⟩
  go_wp2_with (fail)
  refine (cadd_any a b _ HA.out HB.out).mono ?_
  by_cases hf : In64 (a + b)
  · obtain ⟨e1, e2⟩ := fit_yes hf
    rw [e1, e2]
    clear e1 e2
    rintro e w' ⟨rfl, rfl⟩
    obtain ⟨S, hS⟩ : ∃ S, S = a + b := ⟨_, rfl⟩
    have HS : Hid (S = a + b) := hS
    rw [← hS] at hf ⊢
    have HF : Hid (In64 S) := hf
    clear hS hf
    go_wp2_with (fail)
    refine (csub_any S b _ HF.out HB.out).mono ?_
    rw [show S - b = a by have := HS.out; omega, (fit_yes HA.out).1, (fit_yes HA.out).2]
    rintro e w' ⟨rfl, rfl⟩
    clear HS HF
    go_wp2_with (fail)
    refine (cup_any a b _ HA.out HB.out).mono ?_
    by_cases hu : b < 1
    · rw [if_pos hu, if_pos hu]
      rintro e w' ⟨rfl, rfl⟩
      go_wp2_with (fail)
      refine (zig_any a _ HA.out).mono ?_
      rintro e w' ⟨rfl, rfl⟩
      go_wp2_with (fail)
      refine (zag_any _ _ (zig_bd HA.out).1 (zig_bd HA.out).2).mono ?_
      rw [zag_zig]
      rintro e w' ⟨rfl, rfl⟩
      go_wp2_with (fail)
      refine (zag_any u _ u0 u1).mono ?_
      rintro e w' ⟨rfl, rfl⟩
      go_wp2_with (fail)
      refine (zig_any (zag u) _ (zag_in u0 u1)).mono ?_
      rw [zig_zag u0]
      rintro e w' ⟨rfl, rfl⟩
      go_wp2
      go_ret
      exact ⟨rfl, hw1⟩
    · rw [if_neg hu, if_neg hu]
      by_cases hf : In64 (upv a b)
      · obtain ⟨e1, e2⟩ := fit_yes hf
        rw [e1, e2]
        clear e1 e2
        rintro e w' ⟨rfl, rfl⟩
        obtain ⟨g1, g2, g3⟩ := upv_back (n := a) (u := b) (by omega)
        have G3 : Hid ((upv a b).tmod b = 0) := g3
        have hd : In64 (upv a b - a) := by unfold In64; omega
        obtain ⟨D, hD⟩ : ∃ D, D = upv a b - a := ⟨_, rfl⟩
        rw [← hD] at g1 g2 hd
        have HF : Hid (In64 (upv a b)) := hf
        have HD : Hid (In64 D) := hd
        have HDe : Hid (D = upv a b - a) := hD
        obtain ⟨U, hU⟩ : ∃ U, U = upv a b := ⟨_, rfl⟩
        rw [← hU] at HF HDe G3 ⊢
        clear g3 hd hD hU hf
        have hF := HF.out
        unfold In64 at hF
        go_wp2_with (fail)
        refine (csub_any U a _ HF.out HA.out).mono ?_
        rw [← HDe.out, (fit_yes HD.out).1, (fit_yes HD.out).2]
        rintro e w' ⟨rfl, rfl⟩
        have g3 := G3.out
        go_wp2_with (fail)
        refine (zig_any a _ HA.out).mono ?_
        rintro e w' ⟨rfl, rfl⟩
        go_wp2_with (fail)
        refine (zag_any _ _ (zig_bd HA.out).1 (zig_bd HA.out).2).mono ?_
        rw [zag_zig]
        rintro e w' ⟨rfl, rfl⟩
        go_wp2_with (fail)
        refine (zag_any u _ u0 u1).mono ?_
        rintro e w' ⟨rfl, rfl⟩
        go_wp2_with (fail)
        refine (zig_any (zag u) _ (zag_in u0 u1)).mono ?_
        rw [zig_zag u0]
        rintro e w' ⟨rfl, rfl⟩
        go_wp2
        go_ret
        exact ⟨rfl, hw1⟩
      · obtain ⟨e1, e2⟩ := fit_no hf
        rw [e1, e2]
        clear e1 e2 hf
        rintro e w' ⟨rfl, rfl⟩
        go_wp2_with (fail)
        refine (zig_any a _ HA.out).mono ?_
        rintro e w' ⟨rfl, rfl⟩
        go_wp2_with (fail)
        refine (zag_any _ _ (zig_bd HA.out).1 (zig_bd HA.out).2).mono ?_
        rw [zag_zig]
        rintro e w' ⟨rfl, rfl⟩
        go_wp2_with (fail)
        refine (zag_any u _ u0 u1).mono ?_
        rintro e w' ⟨rfl, rfl⟩
        go_wp2_with (fail)
        refine (zig_any (zag u) _ (zag_in u0 u1)).mono ?_
        rw [zig_zag u0]
        rintro e w' ⟨rfl, rfl⟩
        go_wp2
        go_ret
        exact ⟨rfl, hw1⟩

  · obtain ⟨e1, e2⟩ := fit_no hf
    rw [e1, e2]
    clear e1 e2 hf
    rintro e w' ⟨rfl, rfl⟩
    go_wp2_with (fail)
    refine (cup_any a b _ HA.out HB.out).mono ?_
    by_cases hu : b < 1
    · rw [if_pos hu, if_pos hu]
      rintro e w' ⟨rfl, rfl⟩
      go_wp2_with (fail)
      refine (zig_any a _ HA.out).mono ?_
      rintro e w' ⟨rfl, rfl⟩
      go_wp2_with (fail)
      refine (zag_any _ _ (zig_bd HA.out).1 (zig_bd HA.out).2).mono ?_
      rw [zag_zig]
      rintro e w' ⟨rfl, rfl⟩
      go_wp2_with (fail)
      refine (zag_any u _ u0 u1).mono ?_
      rintro e w' ⟨rfl, rfl⟩
      go_wp2_with (fail)
      refine (zig_any (zag u) _ (zag_in u0 u1)).mono ?_
      rw [zig_zag u0]
      rintro e w' ⟨rfl, rfl⟩
      go_wp2
      go_ret
      exact ⟨rfl, hw1⟩
    · rw [if_neg hu, if_neg hu]
      by_cases hf : In64 (upv a b)
      · obtain ⟨e1, e2⟩ := fit_yes hf
        rw [e1, e2]
        clear e1 e2
        rintro e w' ⟨rfl, rfl⟩
        obtain ⟨g1, g2, g3⟩ := upv_back (n := a) (u := b) (by omega)
        have G3 : Hid ((upv a b).tmod b = 0) := g3
        have hd : In64 (upv a b - a) := by unfold In64; omega
        obtain ⟨D, hD⟩ : ∃ D, D = upv a b - a := ⟨_, rfl⟩
        rw [← hD] at g1 g2 hd
        have HF : Hid (In64 (upv a b)) := hf
        have HD : Hid (In64 D) := hd
        have HDe : Hid (D = upv a b - a) := hD
        obtain ⟨U, hU⟩ : ∃ U, U = upv a b := ⟨_, rfl⟩
        rw [← hU] at HF HDe G3 ⊢
        clear g3 hd hD hU hf
        have hF := HF.out
        unfold In64 at hF
        go_wp2_with (fail)
        refine (csub_any U a _ HF.out HA.out).mono ?_
        rw [← HDe.out, (fit_yes HD.out).1, (fit_yes HD.out).2]
        rintro e w' ⟨rfl, rfl⟩
        have g3 := G3.out
        go_wp2_with (fail)
        refine (zig_any a _ HA.out).mono ?_
        rintro e w' ⟨rfl, rfl⟩
        go_wp2_with (fail)
        refine (zag_any _ _ (zig_bd HA.out).1 (zig_bd HA.out).2).mono ?_
        rw [zag_zig]
        rintro e w' ⟨rfl, rfl⟩
        go_wp2_with (fail)
        refine (zag_any u _ u0 u1).mono ?_
        rintro e w' ⟨rfl, rfl⟩
        go_wp2_with (fail)
        refine (zig_any (zag u) _ (zag_in u0 u1)).mono ?_
        rw [zig_zag u0]
        rintro e w' ⟨rfl, rfl⟩
        go_wp2
        go_ret
        exact ⟨rfl, hw1⟩
      · obtain ⟨e1, e2⟩ := fit_no hf
        rw [e1, e2]
        clear e1 e2 hf
        rintro e w' ⟨rfl, rfl⟩
        go_wp2_with (fail)
        refine (zig_any a _ HA.out).mono ?_
        rintro e w' ⟨rfl, rfl⟩
        go_wp2_with (fail)
        refine (zag_any _ _ (zig_bd HA.out).1 (zig_bd HA.out).2).mono ?_
        rw [zag_zig]
        rintro e w' ⟨rfl, rfl⟩
        go_wp2_with (fail)
        refine (zag_any u _ u0 u1).mono ?_
        rintro e w' ⟨rfl, rfl⟩
        go_wp2_with (fail)
        refine (zig_any (zag u) _ (zag_in u0 u1)).mono ?_
        rw [zig_zag u0]
        rintro e w' ⟨rfl, rfl⟩
        go_wp2
        go_ret
        exact ⟨rfl, hw1⟩

end Go.Proofs.Ytfbkmifgnpapbaa
