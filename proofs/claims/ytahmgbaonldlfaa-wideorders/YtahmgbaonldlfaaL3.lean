/-
  The walks of the statement WideOrders, case by case (how the two numbers lie, and whether the first is 0): each returns true. Conditions: the contracts of the functions that it calls, as hypotheses.
-/
import Derived.Test.YtahmgbaonldlfaaL0
import Derived.Deep.RegionHeld3
namespace Go.Proofs.Ytahmgbaonldlfaa
open Go.RowKit

set_option maxHeartbeats 4000000 in
theorem orders_MH (ah al bl n k kb : Int) (w : World) (Low : Int → Int → Prop) (k0 : 0 < k) (k128 : k ≤ 128) (hl : al < bl) (hz : ¬ ah = 0)
    (H1 : Ret 15 #[.agg #[.int .u64 ah, .int .u64 al], .agg #[.int .u64 ah, .int .u64 bl]] (.int .i64 (-1)))
    (H2 : ∀ w, Calls Try.prog 25 #[.agg #[.int .u64 ah, .int .u64 al], .agg #[.int .u64 ah, .int .u64 bl]] w fun e w' => ∃ h l : Int, e = .returned (.tuple #[.agg #[.int .u64 h, .int .u64 l], .bool false]) ∧ Below w.heap.size w w')
    (H3 : Ret 16 #[.agg #[.int .u64 ah, .int .u64 al]] (.int .i64 k))
    (H4 : Ret 15 #[.agg #[.int .u64 ah, .int .u64 bl], .agg #[.int .u64 ah, .int .u64 al]] (.int .i64 (1)))
    (H5 : Ret 30 #[.agg #[.int .u64 ah, .int .u64 al], .int .i64 k] (.agg #[.int .u64 0, .int .u64 0]))
    (H6 : Ret 30 #[.agg #[.int .u64 ah, .int .u64 al], .int .i64 (k - 1)] (.agg #[.int .u64 0, .int .u64 1]))
    (H7 : ∀ w, Calls Try.prog 30 #[.agg #[.int .u64 ah, .int .u64 al], .int .i64 (IntKind.i64.wrap n)] w fun e w' => ∃ h l : Int, e = .returned (.agg #[.int .u64 h, .int .u64 l]) ∧ Low h l ∧ Below w.heap.size w w')
    (H8 : ∀ (h l : Int) (w : World), Low h l → Calls Try.prog 15 #[.agg #[.int .u64 h, .int .u64 l], .agg #[.int .u64 ah, .int .u64 al]] w fun e w' => ∃ c : Int, e = .returned (.int .i64 c) ∧ c ≤ 0 ∧ Below w.heap.size w w')
    (H9 : Ret 16 #[.agg #[.int .u64 ah, .int .u64 bl]] (.int .i64 kb)) :
    Calls Try.prog 7 #[.agg #[.int .u64 ah, .int .u64 al], .agg #[.int .u64 ah, .int .u64 bl], .int .u8 n] w fun e w' => e = .returned (.bool true) ∧ Below w.heap.size w w' := by
  have G2 : Hid _ := H2
  have G7 : Hid _ := H7
  have G8 : Hid _ := H8
  clear H2 H7 H8
  go_enter Try.func7, Try.ntmps7
  go_wp2_with (fail)
  refine (first_any _).mono ?_
  rintro e w1 ⟨rfl, hw1⟩
  have A10 := cell_later hw1 (a := ⟨w.heap.size, 0, none⟩) (v := .int .u64 ah) (by simp)
  have A11 := cell_later hw1 (a := ⟨w.heap.size, 1, none⟩) (v := .int .u64 al) (by simp)
  have B10 := cell_later hw1 (a := ⟨w.heap.size + 1, 0, none⟩) (v := .int .u64 ah) (by simp)
  have B11 := cell_later hw1 (a := ⟨w.heap.size + 1, 1, none⟩) (v := .int .u64 bl) (by simp)
  obtain ⟨HB1, -, -, s1⟩ := aft hw1 (B := w.heap.size) (W0 := w) (by go_grown) (by first | omega | (simp; omega))
  clear hw1
  (try simp at s1)
  go_wp2_with (fail)
  refine (H1 _).mono ?_
  rintro e w2 ⟨rfl, hw2⟩
  have A20 := cell_later hw2 A10
  have A21 := cell_later hw2 A11
  have B20 := cell_later hw2 B10
  have B21 := cell_later hw2 B11
  obtain ⟨HB2, -, -, s2⟩ := aft hw2 (B := w.heap.size) (W0 := w) (by go_grown) (by first | omega | (simp; omega))
  clear hw2
  (try simp at s2)
  go_wp2_with (fail)
  refine (G2.out _).mono ?_
  rintro e w3 ⟨h3, l3, rfl, hw3⟩
  have A30 := cell_later hw3 A20
  have A31 := cell_later hw3 A21
  have B30 := cell_later hw3 B20
  have B31 := cell_later hw3 B21
  obtain ⟨HB3, -, -, s3⟩ := aft hw3 (B := w.heap.size) (W0 := w) (by go_grown) (by first | omega | (simp; omega))
  clear hw3
  (try simp at s3)
  have t1 : w.heap.size < w3.heap.size := by omega
  have t2 : w.heap.size + 1 < w3.heap.size := by omega
  go_wp2_with (fail)
  refine (H3 _).mono ?_
  rintro e w4 ⟨rfl, hw4⟩
  have A40 := cell_later hw4 (a := ⟨w.heap.size, 0, none⟩) (v := .int .u64 ah) (by simp [go_sem, t1, A30])
  have A41 := cell_later hw4 (a := ⟨w.heap.size, 1, none⟩) (v := .int .u64 al) (by simp [go_sem, t1, A31])
  have B40 := cell_later hw4 (a := ⟨w.heap.size + 1, 0, none⟩) (v := .int .u64 ah) (by simp [go_sem, t2, B30])
  have B41 := cell_later hw4 (a := ⟨w.heap.size + 1, 1, none⟩) (v := .int .u64 bl) (by simp [go_sem, t2, B31])
  obtain ⟨HB4, -, -, s4⟩ := aft hw4 (B := w.heap.size) (W0 := w) (by go_grown) (by first | omega | (simp; omega))
  clear hw4
  (try simp at s4)
  go_wp2_with (fail)
  refine (H4 _).mono ?_
  rintro e w5 ⟨rfl, hw5⟩
  have A50 := cell_later hw5 A40
  have A51 := cell_later hw5 A41
  have B50 := cell_later hw5 B40
  have B51 := cell_later hw5 B41
  obtain ⟨HB5, -, -, s5⟩ := aft hw5 (B := w.heap.size) (W0 := w) (by go_grown) (by first | omega | (simp; omega))
  clear hw5
  (try simp at s5)
  go_wp2_with (fail)
  refine (H5 _).mono ?_
  rintro e w6 ⟨rfl, hw6⟩
  have A60 := cell_later hw6 A50
  have A61 := cell_later hw6 A51
  have B60 := cell_later hw6 B50
  have B61 := cell_later hw6 B51
  obtain ⟨HB6, -, -, s6⟩ := aft hw6 (B := w.heap.size) (W0 := w) (by go_grown) (by first | omega | (simp; omega))
  clear hw6
  (try simp at s6)
  have hg : 0 < k := k0
  go_wp2_with (fail)
  refine (H6 _).mono ?_
  rintro e w7 ⟨rfl, hw7⟩
  have A70 := cell_later hw7 A60
  have A71 := cell_later hw7 A61
  have B70 := cell_later hw7 B60
  have B71 := cell_later hw7 B61
  obtain ⟨HB7, -, -, s7⟩ := aft hw7 (B := w.heap.size) (W0 := w) (by go_grown) (by first | omega | (simp; omega))
  clear hw7
  (try simp at s7)
  go_wp2_with (fail)
  refine (of_any _ _).mono ?_
  rintro e w8 ⟨rfl, hw8⟩
  have A80 := cell_later hw8 A70
  have A81 := cell_later hw8 A71
  have B80 := cell_later hw8 B70
  have B81 := cell_later hw8 B71
  obtain ⟨HB8, -, -, s8⟩ := aft hw8 (B := w.heap.size) (W0 := w) (by go_grown) (by first | omega | (simp; omega))
  clear hw8
  (try simp at s8)
  have u1 : w.heap.size < w8.heap.size := by omega
  have u2 : w.heap.size + 1 < w8.heap.size := by omega
  have hk0 : (k == 0) = false := by simp; omega
  by_cases hle : kb ≤ k
  all_goals
    try have hld : decide (kb ≤ k) = true := by simpa using hle
    try have hld : decide (kb ≤ k) = false := by simpa using hle
    clear A10 A11 B10 B11 A20 A21 B20 B21 A30 A31 B30 B31 A40 A41 B40 B41 A50 A51 B50 B51 A60 A61 B60 B61 A70 A71 B70 B71
    clear HB1 HB2 HB3 HB4 HB5 HB6 HB7
    go_wp2_with (fail)
    refine wp_region_noPanic ?_
    refine wp_region_held_drew (S := (fun w' => w'.cell? ⟨w.heap.size, 0, none⟩ = some (.int .u64 ah) ∧ w'.cell? ⟨w.heap.size, 1, none⟩ = some (.int .u64 al) ∧ w'.cell? ⟨w.heap.size + 1, 0, none⟩ = some (.int .u64 ah) ∧ w'.cell? ⟨w.heap.size + 1, 1, none⟩ = some (.int .u64 bl))) (by kernel_rfl) ?_ (fun hHeld => ?_)
    · exact ⟨A80, A81, B80, B81⟩
    refine wpAnyH_take (i := 0) (v := ?_) rfl (by kernel_rfl) (by kernel_rfl) (by kernel_rfl) (fun _ _ _ h => h) (Or.inl ⟨by rfl, ?_⟩) (by assumption) ?_
    rotate_left
    · (intro wS hSw; (try dsimp only at hSw); go_simp; try with_reducible rfl)
    change wpAnyH _ _ _ _ _ _ _ (Act.put _ (some 61) _) _
    simp only [Act.put, List.setIfInBounds_toArray, List.set_cons_zero, List.set_cons_succ]
    refine wpAnyH_take (i := 1) (v := ?_) rfl (by kernel_rfl) (by kernel_rfl) (by kernel_rfl) (fun _ _ _ h => h) (Or.inl ⟨by rfl, ?_⟩) (by assumption) ?_
    rotate_left
    · (intro wS hSw; (try dsimp only at hSw); go_simp; try with_reducible rfl)
    change wpAnyH _ _ _ _ _ _ _ (Act.put _ (some 62) _) _
    simp only [Act.put, List.setIfInBounds_toArray, List.set_cons_zero, List.set_cons_succ]
    refine wpAnyH_take (i := 2) (v := ?_) rfl (by kernel_rfl) (by kernel_rfl) (by kernel_rfl) (fun _ _ _ h => h) (Or.inl ⟨by rfl, ?_⟩) (by assumption) ?_
    rotate_left
    · (intro wS hSw; (try dsimp only at hSw); go_simp; try with_reducible rfl)
    change wpAnyH _ _ _ _ _ _ _ (Act.put _ (some 63) _) _
    simp only [Act.put, List.setIfInBounds_toArray, List.set_cons_zero, List.set_cons_succ]
    refine wpAnyH_take (i := 4) (v := ?_) rfl (by kernel_rfl) (by kernel_rfl) (by kernel_rfl) (fun _ _ _ h => h) (Or.inl ⟨by rfl, ?_⟩) (by assumption) ?_
    rotate_left
    · (intro wS hSw; (try dsimp only at hSw); go_simp; try with_reducible rfl)
    change wpAnyH _ _ _ _ _ _ _ (Act.put _ (some 65) _) _
    simp only [Act.put, List.setIfInBounds_toArray, List.set_cons_zero, List.set_cons_succ]
    refine wpAnyH_ready (rs := [3]) (by kernel_rfl) (by simp) ?_
    refine AllReadyH.cons rfl (fun K hK => ?_) AllReadyH.nil
    go_simp
    refine (G7.out _).mono ?_
    rintro e w9 ⟨h9, l9, rfl, lo9, hw9⟩
    have A90 := cell_later hw9 (a := ⟨w.heap.size, 0, none⟩) (v := .int .u64 ah) A80
    have A91 := cell_later hw9 (a := ⟨w.heap.size, 1, none⟩) (v := .int .u64 al) A81
    have B90 := cell_later hw9 (a := ⟨w.heap.size + 1, 0, none⟩) (v := .int .u64 ah) B80
    have B91 := cell_later hw9 (a := ⟨w.heap.size + 1, 1, none⟩) (v := .int .u64 bl) B81
    obtain ⟨HB9, -, -, s9⟩ := aft hw9 (B := w.heap.size) (W0 := w) (by go_grown) (by have := HB8.size; first | omega | (simp; omega))
    clear hw9
    (try go_wp2_with (fail))
    refine hK.out _ _ ?_ (fun hHeld => ?_)
    · exact ⟨A90, A91, B90, B91⟩
    clear hK K
    refine wpAnyH_ready (rs := [5]) (by kernel_rfl) (by simp) ?_
    refine AllReadyH.cons rfl (fun K hK => ?_) AllReadyH.nil
    go_simp
    refine (G8.out _ _ _ lo9).mono ?_
    rintro e w10 ⟨c10, rfl, hc, hw10⟩
    have hcb : decide (c10 ≤ 0) = true := by simpa using hc
    have A100 := cell_later hw10 (a := ⟨w.heap.size, 0, none⟩) (v := .int .u64 ah) A90
    have A101 := cell_later hw10 (a := ⟨w.heap.size, 1, none⟩) (v := .int .u64 al) A91
    have B100 := cell_later hw10 (a := ⟨w.heap.size + 1, 0, none⟩) (v := .int .u64 ah) B90
    have B101 := cell_later hw10 (a := ⟨w.heap.size + 1, 1, none⟩) (v := .int .u64 bl) B91
    obtain ⟨HB10, -, -, s10⟩ := aft hw10 (B := w.heap.size) (W0 := w) (by go_grown) (by have := HB9.size; first | omega | (simp; omega))
    clear hw10
    (try go_wp2_with (fail))
    refine hK.out _ _ ?_ (fun hHeld => ?_)
    · exact ⟨A100, A101, B100, B101⟩
    clear hK K
    refine wpAnyH_take (i := 6) (v := ?_) rfl (by kernel_rfl) (by kernel_rfl) (by kernel_rfl) (fun _ _ _ h => h) (Or.inl ⟨by rfl, ?_⟩) (by assumption) ?_
    rotate_left
    · (intro wS hSw; (try dsimp only at hSw); go_simp; try with_reducible rfl)
    change wpAnyH _ _ _ _ _ _ _ (Act.put _ (some 67) _) _
    simp only [Act.put, List.setIfInBounds_toArray, List.set_cons_zero, List.set_cons_succ]
    refine wpAnyH_take (i := 7) (v := ?_) rfl (by kernel_rfl) (by kernel_rfl) (by kernel_rfl) (fun _ _ _ h => h) (Or.inl ⟨by rfl, ?_⟩) (by assumption) ?_
    rotate_left
    · (intro wS hSw; (try dsimp only at hSw); go_simp; try with_reducible rfl)
    change wpAnyH _ _ _ _ _ _ _ (Act.put _ (some 68) _) _
    simp only [Act.put, List.setIfInBounds_toArray, List.set_cons_zero, List.set_cons_succ]
    refine wpAnyH_take (i := 8) (v := ?_) rfl (by kernel_rfl) (by kernel_rfl) (by kernel_rfl) (fun _ _ _ h => h) (Or.inl ⟨by rfl, ?_⟩) (by assumption) ?_
    rotate_left
    · (intro wS hSw; (try dsimp only at hSw); go_simp; try with_reducible rfl)
    change wpAnyH _ _ _ _ _ _ _ (Act.put _ (some 69) _) _
    simp only [Act.put, List.setIfInBounds_toArray, List.set_cons_zero, List.set_cons_succ]
    refine wpAnyH_take (i := 9) (v := ?_) rfl (by kernel_rfl) (by kernel_rfl) (by kernel_rfl) (fun _ _ _ h => h) (Or.inl ⟨by rfl, ?_⟩) (by assumption) ?_
    rotate_left
    · (intro wS hSw; (try dsimp only at hSw); go_simp; try with_reducible rfl)
    change wpAnyH _ _ _ _ _ _ _ (Act.put _ (some 70) _) _
    simp only [Act.put, List.setIfInBounds_toArray, List.set_cons_zero, List.set_cons_succ]
    refine wpAnyH_take (i := 10) (v := ?_) rfl (by kernel_rfl) (by kernel_rfl) (by kernel_rfl) (fun _ _ _ h => h) (Or.inl ⟨by rfl, ?_⟩) (by assumption) ?_
    rotate_left
    · (intro wS hSw; (try dsimp only at hSw); go_simp; try with_reducible rfl)
    change wpAnyH _ _ _ _ _ _ _ (Act.put _ (some 71) _) _
    simp only [Act.put, List.setIfInBounds_toArray, List.set_cons_zero, List.set_cons_succ]
    refine wpAnyH_take (i := 11) (v := ?_) rfl (by kernel_rfl) (by kernel_rfl) (by kernel_rfl) (fun _ _ _ h => h) (Or.inl ⟨by rfl, ?_⟩) (by assumption) ?_
    rotate_left
    · (intro wS hSw; (try dsimp only at hSw); go_simp; try with_reducible rfl)
    change wpAnyH _ _ _ _ _ _ _ (Act.put _ (some 72) _) _
    simp only [Act.put, List.setIfInBounds_toArray, List.set_cons_zero, List.set_cons_succ]
    refine wpAnyH_take (i := 12) (v := ?_) rfl (by kernel_rfl) (by kernel_rfl) (by kernel_rfl) (fun _ _ _ h => h) (Or.inl ⟨by rfl, ?_⟩) (by assumption) ?_
    rotate_left
    · (intro wS hSw; (try dsimp only at hSw); go_simp; try with_reducible rfl)
    change wpAnyH _ _ _ _ _ _ _ (Act.put _ (some 73) _) _
    simp only [Act.put, List.setIfInBounds_toArray, List.set_cons_zero, List.set_cons_succ]
    refine wpAnyH_take (i := 13) (v := ?_) rfl (by kernel_rfl) (by kernel_rfl) (by kernel_rfl) (fun _ _ _ h => h) (Or.inl ⟨by rfl, ?_⟩) (by assumption) ?_
    rotate_left
    · (intro wS hSw; (try dsimp only at hSw); go_simp; try with_reducible rfl)
    change wpAnyH _ _ _ _ _ _ _ (Act.put _ (some 74) _) _
    simp only [Act.put, List.setIfInBounds_toArray, List.set_cons_zero, List.set_cons_succ]
    refine wpAnyH_take (i := 14) (v := ?_) rfl (by kernel_rfl) (by kernel_rfl) (by kernel_rfl) (fun _ _ _ h => h) (Or.inl ⟨by rfl, ?_⟩) (by assumption) ?_
    rotate_left
    · (intro wS hSw; (try dsimp only at hSw); go_simp; try with_reducible rfl)
    change wpAnyH _ _ _ _ _ _ _ (Act.put _ (some 75) _) _
    simp only [Act.put, List.setIfInBounds_toArray, List.set_cons_zero, List.set_cons_succ]
    refine wpAnyH_take (i := 15) (v := ?_) rfl (by kernel_rfl) (by kernel_rfl) (by kernel_rfl) (fun _ _ _ h => h) (Or.inl ⟨by rfl, ?_⟩) (by assumption) ?_
    rotate_left
    · (intro wS hSw; (try dsimp only at hSw); go_simp; try with_reducible rfl)
    change wpAnyH _ _ _ _ _ _ _ (Act.put _ (some 76) _) _
    simp only [Act.put, List.setIfInBounds_toArray, List.set_cons_zero, List.set_cons_succ]
    refine wpAnyH_take (i := 16) (v := ?_) rfl (by kernel_rfl) (by kernel_rfl) (by kernel_rfl) (fun _ _ _ h => h) (Or.inl ⟨by rfl, ?_⟩) (by assumption) ?_
    rotate_left
    · (intro wS hSw; (try dsimp only at hSw); go_simp; try with_reducible rfl)
    change wpAnyH _ _ _ _ _ _ _ (Act.put _ (some 77) _) _
    simp only [Act.put, List.setIfInBounds_toArray, List.set_cons_zero, List.set_cons_succ]
    refine wpAnyH_take (i := 18) (v := ?_) rfl (by kernel_rfl) (by kernel_rfl) (by kernel_rfl) (fun _ _ _ h => h) (Or.inl ⟨by rfl, ?_⟩) (by assumption) ?_
    rotate_left
    · (intro wS hSw; (try dsimp only at hSw); go_simp; try with_reducible rfl)
    change wpAnyH _ _ _ _ _ _ _ (Act.put _ (some 79) _) _
    simp only [Act.put, List.setIfInBounds_toArray, List.set_cons_zero, List.set_cons_succ]
    refine wpAnyH_ready (rs := [17]) (by kernel_rfl) (by simp) ?_
    refine AllReadyH.cons rfl (fun K hK => ?_) AllReadyH.nil
    go_simp
    refine (H9 _).mono ?_
    rintro e w11 ⟨rfl, hw11⟩
    have A110 := cell_later hw11 (a := ⟨w.heap.size, 0, none⟩) (v := .int .u64 ah) A100
    have A111 := cell_later hw11 (a := ⟨w.heap.size, 1, none⟩) (v := .int .u64 al) A101
    have B110 := cell_later hw11 (a := ⟨w.heap.size + 1, 0, none⟩) (v := .int .u64 ah) B100
    have B111 := cell_later hw11 (a := ⟨w.heap.size + 1, 1, none⟩) (v := .int .u64 bl) B101
    obtain ⟨HB11, -, -, s11⟩ := aft hw11 (B := w.heap.size) (W0 := w) (by go_grown) (by have := HB10.size; first | omega | (simp; omega))
    clear hw11
    (try go_wp2_with (fail))
    refine hK.out _ _ ?_ (fun hHeld => ?_)
    · exact ⟨A110, A111, B110, B111⟩
    clear hK K
    refine wpAnyH_take (i := 19) (v := ?_) rfl (by kernel_rfl) (by kernel_rfl) (by kernel_rfl) (fun _ _ _ h => h) (Or.inl ⟨by rfl, ?_⟩) (by assumption) ?_
    rotate_left
    · (intro wS hSw; (try dsimp only at hSw); go_simp; try with_reducible rfl)
    change wpAnyH _ _ _ _ _ _ _ (Act.put _ (some 80) _) _
    simp only [Act.put, List.setIfInBounds_toArray, List.set_cons_zero, List.set_cons_succ]
    refine wpAnyH_take (i := 20) (v := ?_) rfl (by kernel_rfl) (by kernel_rfl) (by kernel_rfl) (fun _ _ _ h => h) (Or.inl ⟨by rfl, ?_⟩) (by assumption) ?_
    rotate_left
    · (intro wS hSw; (try dsimp only at hSw); go_simp; try with_reducible rfl)
    change wpAnyH _ _ _ _ _ _ _ (Act.put _ (some 81) _) _
    simp only [Act.put, List.setIfInBounds_toArray, List.set_cons_zero, List.set_cons_succ]
    first
      | (skip
         refine wpAnyH_take (i := 21) (v := undef) rfl (by kernel_rfl) (by kernel_rfl) (by kernel_rfl) (fun _ _ _ h => h) (Or.inr ⟨by rfl, rfl⟩) (by assumption) ?_
         change wpAnyH _ _ _ _ _ _ _ (Act.put _ (some 82) _) _
         simp only [Act.put, List.setIfInBounds_toArray, List.set_cons_zero, List.set_cons_succ]
         refine wpAnyH_take (i := 22) (v := undef) rfl (by kernel_rfl) (by kernel_rfl) (by kernel_rfl) (fun _ _ _ h => h) (Or.inr ⟨by rfl, rfl⟩) (by assumption) ?_
         change wpAnyH _ _ _ _ _ _ _ (Act.put _ (some 83) _) _
         simp only [Act.put, List.setIfInBounds_toArray, List.set_cons_zero, List.set_cons_succ]
        )
      | (skip
         refine wpAnyH_take (i := 21) (v := ?_) rfl (by kernel_rfl) (by kernel_rfl) (by kernel_rfl) (fun _ _ _ h => h) (Or.inl ⟨by rfl, ?_⟩) (by assumption) ?_
         rotate_left
         · (intro wS hSw; (try dsimp only at hSw); go_simp; try with_reducible rfl)
         change wpAnyH _ _ _ _ _ _ _ (Act.put _ (some 82) _) _
         simp only [Act.put, List.setIfInBounds_toArray, List.set_cons_zero, List.set_cons_succ]
         refine wpAnyH_take (i := 22) (v := ?_) rfl (by kernel_rfl) (by kernel_rfl) (by kernel_rfl) (fun _ _ _ h => h) (Or.inl ⟨by rfl, ?_⟩) (by assumption) ?_
         rotate_left
         · (intro wS hSw; (try dsimp only at hSw); go_simp; try with_reducible rfl)
         change wpAnyH _ _ _ _ _ _ _ (Act.put _ (some 83) _) _
         simp only [Act.put, List.setIfInBounds_toArray, List.set_cons_zero, List.set_cons_succ]
        )
    refine wpAnyH_take (i := 23) (v := ?_) rfl (by kernel_rfl) (by kernel_rfl) (by kernel_rfl) (fun _ _ _ h => h) (Or.inl ⟨by rfl, ?_⟩) (by assumption) ?_
    rotate_left
    · (intro wS hSw; (try dsimp only at hSw); go_simp; try with_reducible rfl)
    change wpAnyH _ _ _ _ _ _ _ (Act.put _ (some 84) _) _
    simp only [Act.put, List.setIfInBounds_toArray, List.set_cons_zero, List.set_cons_succ]
    refine wpAnyH_take (i := 24) (v := ?_) rfl (by kernel_rfl) (by kernel_rfl) (by kernel_rfl) (fun _ _ _ h => h) (Or.inl ⟨by rfl, ?_⟩) (by assumption) ?_
    rotate_left
    · (intro wS hSw; (try dsimp only at hSw); go_simp; try with_reducible rfl)
    change wpAnyH _ _ _ _ _ _ _ (Act.put _ (some 85) _) _
    simp only [Act.put, List.setIfInBounds_toArray, List.set_cons_zero, List.set_cons_succ]
    refine wpAnyH_take (i := 25) (v := ?_) rfl (by kernel_rfl) (by kernel_rfl) (by kernel_rfl) (fun _ _ _ h => h) (Or.inl ⟨by rfl, ?_⟩) (by assumption) ?_
    rotate_left
    · (intro wS hSw; (try dsimp only at hSw); go_simp; try with_reducible rfl)
    change wpAnyH _ _ _ _ _ _ _ (Act.put _ (some 6) _) _
    simp only [Act.put, List.setIfInBounds_toArray, List.set_cons_zero, List.set_cons_succ]
    refine wpAnyH_done (by kernel_rfl) ?_ _
    refine NoPanic.normal ?_
    go_wp2
    go_ret
    exact ⟨rfl, by go_grown⟩

set_option maxHeartbeats 4000000 in
theorem orders_GH (ah al bh bl n k kb : Int) (w : World) (Low : Int → Int → Prop) (k0 : 0 < k) (k128 : k ≤ 128) (kle : kb ≤ k) (hz : ¬ ah = 0) (hl : bh < ah)
    (H1 : Ret 15 #[.agg #[.int .u64 ah, .int .u64 al], .agg #[.int .u64 bh, .int .u64 bl]] (.int .i64 (1)))
    (H2 : ∀ w, Calls Try.prog 25 #[.agg #[.int .u64 ah, .int .u64 al], .agg #[.int .u64 bh, .int .u64 bl]] w fun e w' => ∃ h l : Int, e = .returned (.tuple #[.agg #[.int .u64 h, .int .u64 l], .bool true]) ∧ Below w.heap.size w w')
    (H3 : Ret 16 #[.agg #[.int .u64 ah, .int .u64 al]] (.int .i64 k))
    (H4 : Ret 15 #[.agg #[.int .u64 bh, .int .u64 bl], .agg #[.int .u64 ah, .int .u64 al]] (.int .i64 (-1)))
    (H5 : Ret 30 #[.agg #[.int .u64 ah, .int .u64 al], .int .i64 k] (.agg #[.int .u64 0, .int .u64 0]))
    (H6 : Ret 30 #[.agg #[.int .u64 ah, .int .u64 al], .int .i64 (k - 1)] (.agg #[.int .u64 0, .int .u64 1]))
    (H7 : ∀ w, Calls Try.prog 30 #[.agg #[.int .u64 ah, .int .u64 al], .int .i64 (IntKind.i64.wrap n)] w fun e w' => ∃ h l : Int, e = .returned (.agg #[.int .u64 h, .int .u64 l]) ∧ Low h l ∧ Below w.heap.size w w')
    (H8 : ∀ (h l : Int) (w : World), Low h l → Calls Try.prog 15 #[.agg #[.int .u64 h, .int .u64 l], .agg #[.int .u64 ah, .int .u64 al]] w fun e w' => ∃ c : Int, e = .returned (.int .i64 c) ∧ c ≤ 0 ∧ Below w.heap.size w w')
    (H9 : Ret 16 #[.agg #[.int .u64 bh, .int .u64 bl]] (.int .i64 kb)) :
    Calls Try.prog 7 #[.agg #[.int .u64 ah, .int .u64 al], .agg #[.int .u64 bh, .int .u64 bl], .int .u8 n] w fun e w' => e = .returned (.bool true) ∧ Below w.heap.size w w' := by
  have G2 : Hid _ := H2
  have G7 : Hid _ := H7
  have G8 : Hid _ := H8
  clear H2 H7 H8
  go_enter Try.func7, Try.ntmps7
  go_wp2_with (fail)
  refine (first_any _).mono ?_
  rintro e w1 ⟨rfl, hw1⟩
  have A10 := cell_later hw1 (a := ⟨w.heap.size, 0, none⟩) (v := .int .u64 ah) (by simp)
  have A11 := cell_later hw1 (a := ⟨w.heap.size, 1, none⟩) (v := .int .u64 al) (by simp)
  have B10 := cell_later hw1 (a := ⟨w.heap.size + 1, 0, none⟩) (v := .int .u64 bh) (by simp)
  have B11 := cell_later hw1 (a := ⟨w.heap.size + 1, 1, none⟩) (v := .int .u64 bl) (by simp)
  obtain ⟨HB1, -, -, s1⟩ := aft hw1 (B := w.heap.size) (W0 := w) (by go_grown) (by first | omega | (simp; omega))
  clear hw1
  (try simp at s1)
  go_wp2_with (fail)
  refine (H1 _).mono ?_
  rintro e w2 ⟨rfl, hw2⟩
  have A20 := cell_later hw2 A10
  have A21 := cell_later hw2 A11
  have B20 := cell_later hw2 B10
  have B21 := cell_later hw2 B11
  obtain ⟨HB2, -, -, s2⟩ := aft hw2 (B := w.heap.size) (W0 := w) (by go_grown) (by first | omega | (simp; omega))
  clear hw2
  (try simp at s2)
  go_wp2_with (fail)
  refine (G2.out _).mono ?_
  rintro e w3 ⟨h3, l3, rfl, hw3⟩
  have A30 := cell_later hw3 A20
  have A31 := cell_later hw3 A21
  have B30 := cell_later hw3 B20
  have B31 := cell_later hw3 B21
  obtain ⟨HB3, -, -, s3⟩ := aft hw3 (B := w.heap.size) (W0 := w) (by go_grown) (by first | omega | (simp; omega))
  clear hw3
  (try simp at s3)
  have t1 : w.heap.size < w3.heap.size := by omega
  have t2 : w.heap.size + 1 < w3.heap.size := by omega
  go_wp2_with (fail)
  refine (H3 _).mono ?_
  rintro e w4 ⟨rfl, hw4⟩
  have A40 := cell_later hw4 (a := ⟨w.heap.size, 0, none⟩) (v := .int .u64 ah) (by simp [go_sem, t1, A30])
  have A41 := cell_later hw4 (a := ⟨w.heap.size, 1, none⟩) (v := .int .u64 al) (by simp [go_sem, t1, A31])
  have B40 := cell_later hw4 (a := ⟨w.heap.size + 1, 0, none⟩) (v := .int .u64 bh) (by simp [go_sem, t2, B30])
  have B41 := cell_later hw4 (a := ⟨w.heap.size + 1, 1, none⟩) (v := .int .u64 bl) (by simp [go_sem, t2, B31])
  obtain ⟨HB4, -, -, s4⟩ := aft hw4 (B := w.heap.size) (W0 := w) (by go_grown) (by first | omega | (simp; omega))
  clear hw4
  (try simp at s4)
  go_wp2_with (fail)
  refine (H4 _).mono ?_
  rintro e w5 ⟨rfl, hw5⟩
  have A50 := cell_later hw5 A40
  have A51 := cell_later hw5 A41
  have B50 := cell_later hw5 B40
  have B51 := cell_later hw5 B41
  obtain ⟨HB5, -, -, s5⟩ := aft hw5 (B := w.heap.size) (W0 := w) (by go_grown) (by first | omega | (simp; omega))
  clear hw5
  (try simp at s5)
  go_wp2_with (fail)
  refine (H5 _).mono ?_
  rintro e w6 ⟨rfl, hw6⟩
  have A60 := cell_later hw6 A50
  have A61 := cell_later hw6 A51
  have B60 := cell_later hw6 B50
  have B61 := cell_later hw6 B51
  obtain ⟨HB6, -, -, s6⟩ := aft hw6 (B := w.heap.size) (W0 := w) (by go_grown) (by first | omega | (simp; omega))
  clear hw6
  (try simp at s6)
  have hg : 0 < k := k0
  go_wp2_with (fail)
  refine (H6 _).mono ?_
  rintro e w7 ⟨rfl, hw7⟩
  have A70 := cell_later hw7 A60
  have A71 := cell_later hw7 A61
  have B70 := cell_later hw7 B60
  have B71 := cell_later hw7 B61
  obtain ⟨HB7, -, -, s7⟩ := aft hw7 (B := w.heap.size) (W0 := w) (by go_grown) (by first | omega | (simp; omega))
  clear hw7
  (try simp at s7)
  go_wp2_with (fail)
  refine (of_any _ _).mono ?_
  rintro e w8 ⟨rfl, hw8⟩
  have A80 := cell_later hw8 A70
  have A81 := cell_later hw8 A71
  have B80 := cell_later hw8 B70
  have B81 := cell_later hw8 B71
  obtain ⟨HB8, -, -, s8⟩ := aft hw8 (B := w.heap.size) (W0 := w) (by go_grown) (by first | omega | (simp; omega))
  clear hw8
  (try simp at s8)
  have u1 : w.heap.size < w8.heap.size := by omega
  have u2 : w.heap.size + 1 < w8.heap.size := by omega
  have hk0 : (k == 0) = false := by simp; omega
  have hle : kb ≤ k := by omega
  have hld : decide (kb ≤ k) = true := by simpa using hle
  clear A10 A11 B10 B11 A20 A21 B20 B21 A30 A31 B30 B31 A40 A41 B40 B41 A50 A51 B50 B51 A60 A61 B60 B61 A70 A71 B70 B71
  clear HB1 HB2 HB3 HB4 HB5 HB6 HB7
  go_wp2_with (fail)
  refine wp_region_noPanic ?_
  refine wp_region_held_drew (S := (fun w' => w'.cell? ⟨w.heap.size, 0, none⟩ = some (.int .u64 ah) ∧ w'.cell? ⟨w.heap.size, 1, none⟩ = some (.int .u64 al) ∧ w'.cell? ⟨w.heap.size + 1, 0, none⟩ = some (.int .u64 bh) ∧ w'.cell? ⟨w.heap.size + 1, 1, none⟩ = some (.int .u64 bl))) (by kernel_rfl) ?_ (fun hHeld => ?_)
  · exact ⟨A80, A81, B80, B81⟩
  refine wpAnyH_take (i := 0) (v := ?_) rfl (by kernel_rfl) (by kernel_rfl) (by kernel_rfl) (fun _ _ _ h => h) (Or.inl ⟨by rfl, ?_⟩) (by assumption) ?_
  rotate_left
  · (intro wS hSw; (try dsimp only at hSw); go_simp; try with_reducible rfl)
  change wpAnyH _ _ _ _ _ _ _ (Act.put _ (some 61) _) _
  simp only [Act.put, List.setIfInBounds_toArray, List.set_cons_zero, List.set_cons_succ]
  refine wpAnyH_take (i := 1) (v := ?_) rfl (by kernel_rfl) (by kernel_rfl) (by kernel_rfl) (fun _ _ _ h => h) (Or.inl ⟨by rfl, ?_⟩) (by assumption) ?_
  rotate_left
  · (intro wS hSw; (try dsimp only at hSw); go_simp; try with_reducible rfl)
  change wpAnyH _ _ _ _ _ _ _ (Act.put _ (some 62) _) _
  simp only [Act.put, List.setIfInBounds_toArray, List.set_cons_zero, List.set_cons_succ]
  refine wpAnyH_take (i := 2) (v := ?_) rfl (by kernel_rfl) (by kernel_rfl) (by kernel_rfl) (fun _ _ _ h => h) (Or.inl ⟨by rfl, ?_⟩) (by assumption) ?_
  rotate_left
  · (intro wS hSw; (try dsimp only at hSw); go_simp; try with_reducible rfl)
  change wpAnyH _ _ _ _ _ _ _ (Act.put _ (some 63) _) _
  simp only [Act.put, List.setIfInBounds_toArray, List.set_cons_zero, List.set_cons_succ]
  refine wpAnyH_take (i := 4) (v := ?_) rfl (by kernel_rfl) (by kernel_rfl) (by kernel_rfl) (fun _ _ _ h => h) (Or.inl ⟨by rfl, ?_⟩) (by assumption) ?_
  rotate_left
  · (intro wS hSw; (try dsimp only at hSw); go_simp; try with_reducible rfl)
  change wpAnyH _ _ _ _ _ _ _ (Act.put _ (some 65) _) _
  simp only [Act.put, List.setIfInBounds_toArray, List.set_cons_zero, List.set_cons_succ]
  refine wpAnyH_ready (rs := [3]) (by kernel_rfl) (by simp) ?_
  refine AllReadyH.cons rfl (fun K hK => ?_) AllReadyH.nil
  go_simp
  refine (G7.out _).mono ?_
  rintro e w9 ⟨h9, l9, rfl, lo9, hw9⟩
  have A90 := cell_later hw9 (a := ⟨w.heap.size, 0, none⟩) (v := .int .u64 ah) A80
  have A91 := cell_later hw9 (a := ⟨w.heap.size, 1, none⟩) (v := .int .u64 al) A81
  have B90 := cell_later hw9 (a := ⟨w.heap.size + 1, 0, none⟩) (v := .int .u64 bh) B80
  have B91 := cell_later hw9 (a := ⟨w.heap.size + 1, 1, none⟩) (v := .int .u64 bl) B81
  obtain ⟨HB9, -, -, s9⟩ := aft hw9 (B := w.heap.size) (W0 := w) (by go_grown) (by have := HB8.size; first | omega | (simp; omega))
  clear hw9
  (try go_wp2_with (fail))
  refine hK.out _ _ ?_ (fun hHeld => ?_)
  · exact ⟨A90, A91, B90, B91⟩
  clear hK K
  refine wpAnyH_ready (rs := [5]) (by kernel_rfl) (by simp) ?_
  refine AllReadyH.cons rfl (fun K hK => ?_) AllReadyH.nil
  go_simp
  refine (G8.out _ _ _ lo9).mono ?_
  rintro e w10 ⟨c10, rfl, hc, hw10⟩
  have hcb : decide (c10 ≤ 0) = true := by simpa using hc
  have A100 := cell_later hw10 (a := ⟨w.heap.size, 0, none⟩) (v := .int .u64 ah) A90
  have A101 := cell_later hw10 (a := ⟨w.heap.size, 1, none⟩) (v := .int .u64 al) A91
  have B100 := cell_later hw10 (a := ⟨w.heap.size + 1, 0, none⟩) (v := .int .u64 bh) B90
  have B101 := cell_later hw10 (a := ⟨w.heap.size + 1, 1, none⟩) (v := .int .u64 bl) B91
  obtain ⟨HB10, -, -, s10⟩ := aft hw10 (B := w.heap.size) (W0 := w) (by go_grown) (by have := HB9.size; first | omega | (simp; omega))
  clear hw10
  (try go_wp2_with (fail))
  refine hK.out _ _ ?_ (fun hHeld => ?_)
  · exact ⟨A100, A101, B100, B101⟩
  clear hK K
  refine wpAnyH_take (i := 6) (v := ?_) rfl (by kernel_rfl) (by kernel_rfl) (by kernel_rfl) (fun _ _ _ h => h) (Or.inl ⟨by rfl, ?_⟩) (by assumption) ?_
  rotate_left
  · (intro wS hSw; (try dsimp only at hSw); go_simp; try with_reducible rfl)
  change wpAnyH _ _ _ _ _ _ _ (Act.put _ (some 67) _) _
  simp only [Act.put, List.setIfInBounds_toArray, List.set_cons_zero, List.set_cons_succ]
  refine wpAnyH_take (i := 7) (v := ?_) rfl (by kernel_rfl) (by kernel_rfl) (by kernel_rfl) (fun _ _ _ h => h) (Or.inl ⟨by rfl, ?_⟩) (by assumption) ?_
  rotate_left
  · (intro wS hSw; (try dsimp only at hSw); go_simp; try with_reducible rfl)
  change wpAnyH _ _ _ _ _ _ _ (Act.put _ (some 68) _) _
  simp only [Act.put, List.setIfInBounds_toArray, List.set_cons_zero, List.set_cons_succ]
  refine wpAnyH_take (i := 8) (v := ?_) rfl (by kernel_rfl) (by kernel_rfl) (by kernel_rfl) (fun _ _ _ h => h) (Or.inl ⟨by rfl, ?_⟩) (by assumption) ?_
  rotate_left
  · (intro wS hSw; (try dsimp only at hSw); go_simp; try with_reducible rfl)
  change wpAnyH _ _ _ _ _ _ _ (Act.put _ (some 69) _) _
  simp only [Act.put, List.setIfInBounds_toArray, List.set_cons_zero, List.set_cons_succ]
  refine wpAnyH_take (i := 9) (v := ?_) rfl (by kernel_rfl) (by kernel_rfl) (by kernel_rfl) (fun _ _ _ h => h) (Or.inl ⟨by rfl, ?_⟩) (by assumption) ?_
  rotate_left
  · (intro wS hSw; (try dsimp only at hSw); go_simp; try with_reducible rfl)
  change wpAnyH _ _ _ _ _ _ _ (Act.put _ (some 70) _) _
  simp only [Act.put, List.setIfInBounds_toArray, List.set_cons_zero, List.set_cons_succ]
  refine wpAnyH_take (i := 10) (v := ?_) rfl (by kernel_rfl) (by kernel_rfl) (by kernel_rfl) (fun _ _ _ h => h) (Or.inl ⟨by rfl, ?_⟩) (by assumption) ?_
  rotate_left
  · (intro wS hSw; (try dsimp only at hSw); go_simp; try with_reducible rfl)
  change wpAnyH _ _ _ _ _ _ _ (Act.put _ (some 71) _) _
  simp only [Act.put, List.setIfInBounds_toArray, List.set_cons_zero, List.set_cons_succ]
  refine wpAnyH_take (i := 11) (v := ?_) rfl (by kernel_rfl) (by kernel_rfl) (by kernel_rfl) (fun _ _ _ h => h) (Or.inl ⟨by rfl, ?_⟩) (by assumption) ?_
  rotate_left
  · (intro wS hSw; (try dsimp only at hSw); go_simp; try with_reducible rfl)
  change wpAnyH _ _ _ _ _ _ _ (Act.put _ (some 72) _) _
  simp only [Act.put, List.setIfInBounds_toArray, List.set_cons_zero, List.set_cons_succ]
  refine wpAnyH_take (i := 12) (v := ?_) rfl (by kernel_rfl) (by kernel_rfl) (by kernel_rfl) (fun _ _ _ h => h) (Or.inl ⟨by rfl, ?_⟩) (by assumption) ?_
  rotate_left
  · (intro wS hSw; (try dsimp only at hSw); go_simp; try with_reducible rfl)
  change wpAnyH _ _ _ _ _ _ _ (Act.put _ (some 73) _) _
  simp only [Act.put, List.setIfInBounds_toArray, List.set_cons_zero, List.set_cons_succ]
  refine wpAnyH_take (i := 13) (v := ?_) rfl (by kernel_rfl) (by kernel_rfl) (by kernel_rfl) (fun _ _ _ h => h) (Or.inl ⟨by rfl, ?_⟩) (by assumption) ?_
  rotate_left
  · (intro wS hSw; (try dsimp only at hSw); go_simp; try with_reducible rfl)
  change wpAnyH _ _ _ _ _ _ _ (Act.put _ (some 74) _) _
  simp only [Act.put, List.setIfInBounds_toArray, List.set_cons_zero, List.set_cons_succ]
  refine wpAnyH_take (i := 14) (v := ?_) rfl (by kernel_rfl) (by kernel_rfl) (by kernel_rfl) (fun _ _ _ h => h) (Or.inl ⟨by rfl, ?_⟩) (by assumption) ?_
  rotate_left
  · (intro wS hSw; (try dsimp only at hSw); go_simp; try with_reducible rfl)
  change wpAnyH _ _ _ _ _ _ _ (Act.put _ (some 75) _) _
  simp only [Act.put, List.setIfInBounds_toArray, List.set_cons_zero, List.set_cons_succ]
  refine wpAnyH_take (i := 15) (v := ?_) rfl (by kernel_rfl) (by kernel_rfl) (by kernel_rfl) (fun _ _ _ h => h) (Or.inl ⟨by rfl, ?_⟩) (by assumption) ?_
  rotate_left
  · (intro wS hSw; (try dsimp only at hSw); go_simp; try with_reducible rfl)
  change wpAnyH _ _ _ _ _ _ _ (Act.put _ (some 76) _) _
  simp only [Act.put, List.setIfInBounds_toArray, List.set_cons_zero, List.set_cons_succ]
  refine wpAnyH_take (i := 16) (v := ?_) rfl (by kernel_rfl) (by kernel_rfl) (by kernel_rfl) (fun _ _ _ h => h) (Or.inl ⟨by rfl, ?_⟩) (by assumption) ?_
  rotate_left
  · (intro wS hSw; (try dsimp only at hSw); go_simp; try with_reducible rfl)
  change wpAnyH _ _ _ _ _ _ _ (Act.put _ (some 77) _) _
  simp only [Act.put, List.setIfInBounds_toArray, List.set_cons_zero, List.set_cons_succ]
  refine wpAnyH_take (i := 18) (v := ?_) rfl (by kernel_rfl) (by kernel_rfl) (by kernel_rfl) (fun _ _ _ h => h) (Or.inl ⟨by rfl, ?_⟩) (by assumption) ?_
  rotate_left
  · (intro wS hSw; (try dsimp only at hSw); go_simp; try with_reducible rfl)
  change wpAnyH _ _ _ _ _ _ _ (Act.put _ (some 79) _) _
  simp only [Act.put, List.setIfInBounds_toArray, List.set_cons_zero, List.set_cons_succ]
  refine wpAnyH_ready (rs := [17]) (by kernel_rfl) (by simp) ?_
  refine AllReadyH.cons rfl (fun K hK => ?_) AllReadyH.nil
  go_simp
  refine (H9 _).mono ?_
  rintro e w11 ⟨rfl, hw11⟩
  have A110 := cell_later hw11 (a := ⟨w.heap.size, 0, none⟩) (v := .int .u64 ah) A100
  have A111 := cell_later hw11 (a := ⟨w.heap.size, 1, none⟩) (v := .int .u64 al) A101
  have B110 := cell_later hw11 (a := ⟨w.heap.size + 1, 0, none⟩) (v := .int .u64 bh) B100
  have B111 := cell_later hw11 (a := ⟨w.heap.size + 1, 1, none⟩) (v := .int .u64 bl) B101
  obtain ⟨HB11, -, -, s11⟩ := aft hw11 (B := w.heap.size) (W0 := w) (by go_grown) (by have := HB10.size; first | omega | (simp; omega))
  clear hw11
  (try go_wp2_with (fail))
  refine hK.out _ _ ?_ (fun hHeld => ?_)
  · exact ⟨A110, A111, B110, B111⟩
  clear hK K
  refine wpAnyH_take (i := 19) (v := ?_) rfl (by kernel_rfl) (by kernel_rfl) (by kernel_rfl) (fun _ _ _ h => h) (Or.inl ⟨by rfl, ?_⟩) (by assumption) ?_
  rotate_left
  · (intro wS hSw; (try dsimp only at hSw); go_simp; try with_reducible rfl)
  change wpAnyH _ _ _ _ _ _ _ (Act.put _ (some 80) _) _
  simp only [Act.put, List.setIfInBounds_toArray, List.set_cons_zero, List.set_cons_succ]
  refine wpAnyH_take (i := 20) (v := ?_) rfl (by kernel_rfl) (by kernel_rfl) (by kernel_rfl) (fun _ _ _ h => h) (Or.inl ⟨by rfl, ?_⟩) (by assumption) ?_
  rotate_left
  · (intro wS hSw; (try dsimp only at hSw); go_simp; try with_reducible rfl)
  change wpAnyH _ _ _ _ _ _ _ (Act.put _ (some 81) _) _
  simp only [Act.put, List.setIfInBounds_toArray, List.set_cons_zero, List.set_cons_succ]
  refine wpAnyH_take (i := 21) (v := undef) rfl (by kernel_rfl) (by kernel_rfl) (by kernel_rfl) (fun _ _ _ h => h) (Or.inr ⟨by rfl, rfl⟩) (by assumption) ?_
  change wpAnyH _ _ _ _ _ _ _ (Act.put _ (some 82) _) _
  simp only [Act.put, List.setIfInBounds_toArray, List.set_cons_zero, List.set_cons_succ]
  refine wpAnyH_take (i := 22) (v := undef) rfl (by kernel_rfl) (by kernel_rfl) (by kernel_rfl) (fun _ _ _ h => h) (Or.inr ⟨by rfl, rfl⟩) (by assumption) ?_
  change wpAnyH _ _ _ _ _ _ _ (Act.put _ (some 83) _) _
  simp only [Act.put, List.setIfInBounds_toArray, List.set_cons_zero, List.set_cons_succ]
  refine wpAnyH_take (i := 23) (v := ?_) rfl (by kernel_rfl) (by kernel_rfl) (by kernel_rfl) (fun _ _ _ h => h) (Or.inl ⟨by rfl, ?_⟩) (by assumption) ?_
  rotate_left
  · (intro wS hSw; (try dsimp only at hSw); go_simp; try with_reducible rfl)
  change wpAnyH _ _ _ _ _ _ _ (Act.put _ (some 84) _) _
  simp only [Act.put, List.setIfInBounds_toArray, List.set_cons_zero, List.set_cons_succ]
  refine wpAnyH_take (i := 24) (v := ?_) rfl (by kernel_rfl) (by kernel_rfl) (by kernel_rfl) (fun _ _ _ h => h) (Or.inl ⟨by rfl, ?_⟩) (by assumption) ?_
  rotate_left
  · (intro wS hSw; (try dsimp only at hSw); go_simp; try with_reducible rfl)
  change wpAnyH _ _ _ _ _ _ _ (Act.put _ (some 85) _) _
  simp only [Act.put, List.setIfInBounds_toArray, List.set_cons_zero, List.set_cons_succ]
  refine wpAnyH_take (i := 25) (v := ?_) rfl (by kernel_rfl) (by kernel_rfl) (by kernel_rfl) (fun _ _ _ h => h) (Or.inl ⟨by rfl, ?_⟩) (by assumption) ?_
  rotate_left
  · (intro wS hSw; (try dsimp only at hSw); go_simp; try with_reducible rfl)
  change wpAnyH _ _ _ _ _ _ _ (Act.put _ (some 6) _) _
  simp only [Act.put, List.setIfInBounds_toArray, List.set_cons_zero, List.set_cons_succ]
  refine wpAnyH_done (by kernel_rfl) ?_ _
  refine NoPanic.normal ?_
  go_wp2
  go_ret
  exact ⟨rfl, by go_grown⟩

set_option maxHeartbeats 4000000 in
theorem orders_HM (al bl n k kb : Int) (w : World) (Low : Int → Int → Prop) (k0 : 0 < k) (k128 : k ≤ 128) (kle : kb ≤ k) (hl : bl < al) (hz : ¬ al = 0)
    (H1 : Ret 15 #[.agg #[.int .u64 0, .int .u64 al], .agg #[.int .u64 0, .int .u64 bl]] (.int .i64 (1)))
    (H2 : ∀ w, Calls Try.prog 25 #[.agg #[.int .u64 0, .int .u64 al], .agg #[.int .u64 0, .int .u64 bl]] w fun e w' => ∃ h l : Int, e = .returned (.tuple #[.agg #[.int .u64 h, .int .u64 l], .bool true]) ∧ Below w.heap.size w w')
    (H3 : Ret 16 #[.agg #[.int .u64 0, .int .u64 al]] (.int .i64 k))
    (H4 : Ret 15 #[.agg #[.int .u64 0, .int .u64 bl], .agg #[.int .u64 0, .int .u64 al]] (.int .i64 (-1)))
    (H5 : Ret 30 #[.agg #[.int .u64 0, .int .u64 al], .int .i64 k] (.agg #[.int .u64 0, .int .u64 0]))
    (H6 : Ret 30 #[.agg #[.int .u64 0, .int .u64 al], .int .i64 (k - 1)] (.agg #[.int .u64 0, .int .u64 1]))
    (H7 : ∀ w, Calls Try.prog 30 #[.agg #[.int .u64 0, .int .u64 al], .int .i64 (IntKind.i64.wrap n)] w fun e w' => ∃ h l : Int, e = .returned (.agg #[.int .u64 h, .int .u64 l]) ∧ Low h l ∧ Below w.heap.size w w')
    (H8 : ∀ (h l : Int) (w : World), Low h l → Calls Try.prog 15 #[.agg #[.int .u64 h, .int .u64 l], .agg #[.int .u64 0, .int .u64 al]] w fun e w' => ∃ c : Int, e = .returned (.int .i64 c) ∧ c ≤ 0 ∧ Below w.heap.size w w')
    (H9 : Ret 16 #[.agg #[.int .u64 0, .int .u64 bl]] (.int .i64 kb)) :
    Calls Try.prog 7 #[.agg #[.int .u64 0, .int .u64 al], .agg #[.int .u64 0, .int .u64 bl], .int .u8 n] w fun e w' => e = .returned (.bool true) ∧ Below w.heap.size w w' := by
  have G2 : Hid _ := H2
  have G7 : Hid _ := H7
  have G8 : Hid _ := H8
  clear H2 H7 H8
  go_enter Try.func7, Try.ntmps7
  go_wp2_with (fail)
  refine (first_any _).mono ?_
  rintro e w1 ⟨rfl, hw1⟩
  have A10 := cell_later hw1 (a := ⟨w.heap.size, 0, none⟩) (v := .int .u64 0) (by simp)
  have A11 := cell_later hw1 (a := ⟨w.heap.size, 1, none⟩) (v := .int .u64 al) (by simp)
  have B10 := cell_later hw1 (a := ⟨w.heap.size + 1, 0, none⟩) (v := .int .u64 0) (by simp)
  have B11 := cell_later hw1 (a := ⟨w.heap.size + 1, 1, none⟩) (v := .int .u64 bl) (by simp)
  obtain ⟨HB1, -, -, s1⟩ := aft hw1 (B := w.heap.size) (W0 := w) (by go_grown) (by first | omega | (simp; omega))
  clear hw1
  (try simp at s1)
  go_wp2_with (fail)
  refine (H1 _).mono ?_
  rintro e w2 ⟨rfl, hw2⟩
  have A20 := cell_later hw2 A10
  have A21 := cell_later hw2 A11
  have B20 := cell_later hw2 B10
  have B21 := cell_later hw2 B11
  obtain ⟨HB2, -, -, s2⟩ := aft hw2 (B := w.heap.size) (W0 := w) (by go_grown) (by first | omega | (simp; omega))
  clear hw2
  (try simp at s2)
  go_wp2_with (fail)
  refine (G2.out _).mono ?_
  rintro e w3 ⟨h3, l3, rfl, hw3⟩
  have A30 := cell_later hw3 A20
  have A31 := cell_later hw3 A21
  have B30 := cell_later hw3 B20
  have B31 := cell_later hw3 B21
  obtain ⟨HB3, -, -, s3⟩ := aft hw3 (B := w.heap.size) (W0 := w) (by go_grown) (by first | omega | (simp; omega))
  clear hw3
  (try simp at s3)
  have t1 : w.heap.size < w3.heap.size := by omega
  have t2 : w.heap.size + 1 < w3.heap.size := by omega
  go_wp2_with (fail)
  refine (H3 _).mono ?_
  rintro e w4 ⟨rfl, hw4⟩
  have A40 := cell_later hw4 (a := ⟨w.heap.size, 0, none⟩) (v := .int .u64 0) (by simp [go_sem, t1, A30])
  have A41 := cell_later hw4 (a := ⟨w.heap.size, 1, none⟩) (v := .int .u64 al) (by simp [go_sem, t1, A31])
  have B40 := cell_later hw4 (a := ⟨w.heap.size + 1, 0, none⟩) (v := .int .u64 0) (by simp [go_sem, t2, B30])
  have B41 := cell_later hw4 (a := ⟨w.heap.size + 1, 1, none⟩) (v := .int .u64 bl) (by simp [go_sem, t2, B31])
  obtain ⟨HB4, -, -, s4⟩ := aft hw4 (B := w.heap.size) (W0 := w) (by go_grown) (by first | omega | (simp; omega))
  clear hw4
  (try simp at s4)
  go_wp2_with (fail)
  refine (H4 _).mono ?_
  rintro e w5 ⟨rfl, hw5⟩
  have A50 := cell_later hw5 A40
  have A51 := cell_later hw5 A41
  have B50 := cell_later hw5 B40
  have B51 := cell_later hw5 B41
  obtain ⟨HB5, -, -, s5⟩ := aft hw5 (B := w.heap.size) (W0 := w) (by go_grown) (by first | omega | (simp; omega))
  clear hw5
  (try simp at s5)
  go_wp2_with (fail)
  refine (H5 _).mono ?_
  rintro e w6 ⟨rfl, hw6⟩
  have A60 := cell_later hw6 A50
  have A61 := cell_later hw6 A51
  have B60 := cell_later hw6 B50
  have B61 := cell_later hw6 B51
  obtain ⟨HB6, -, -, s6⟩ := aft hw6 (B := w.heap.size) (W0 := w) (by go_grown) (by first | omega | (simp; omega))
  clear hw6
  (try simp at s6)
  have hg : 0 < k := k0
  go_wp2_with (fail)
  refine (H6 _).mono ?_
  rintro e w7 ⟨rfl, hw7⟩
  have A70 := cell_later hw7 A60
  have A71 := cell_later hw7 A61
  have B70 := cell_later hw7 B60
  have B71 := cell_later hw7 B61
  obtain ⟨HB7, -, -, s7⟩ := aft hw7 (B := w.heap.size) (W0 := w) (by go_grown) (by first | omega | (simp; omega))
  clear hw7
  (try simp at s7)
  go_wp2_with (fail)
  refine (of_any _ _).mono ?_
  rintro e w8 ⟨rfl, hw8⟩
  have A80 := cell_later hw8 A70
  have A81 := cell_later hw8 A71
  have B80 := cell_later hw8 B70
  have B81 := cell_later hw8 B71
  obtain ⟨HB8, -, -, s8⟩ := aft hw8 (B := w.heap.size) (W0 := w) (by go_grown) (by first | omega | (simp; omega))
  clear hw8
  (try simp at s8)
  have u1 : w.heap.size < w8.heap.size := by omega
  have u2 : w.heap.size + 1 < w8.heap.size := by omega
  have hk0 : (k == 0) = false := by simp; omega
  have hle : kb ≤ k := by omega
  have hld : decide (kb ≤ k) = true := by simpa using hle
  clear A10 A11 B10 B11 A20 A21 B20 B21 A30 A31 B30 B31 A40 A41 B40 B41 A50 A51 B50 B51 A60 A61 B60 B61 A70 A71 B70 B71
  clear HB1 HB2 HB3 HB4 HB5 HB6 HB7
  go_wp2_with (fail)
  refine wp_region_noPanic ?_
  refine wp_region_held_drew (S := (fun w' => w'.cell? ⟨w.heap.size, 0, none⟩ = some (.int .u64 0) ∧ w'.cell? ⟨w.heap.size, 1, none⟩ = some (.int .u64 al) ∧ w'.cell? ⟨w.heap.size + 1, 0, none⟩ = some (.int .u64 0) ∧ w'.cell? ⟨w.heap.size + 1, 1, none⟩ = some (.int .u64 bl))) (by kernel_rfl) ?_ (fun hHeld => ?_)
  · exact ⟨A80, A81, B80, B81⟩
  refine wpAnyH_take (i := 0) (v := ?_) rfl (by kernel_rfl) (by kernel_rfl) (by kernel_rfl) (fun _ _ _ h => h) (Or.inl ⟨by rfl, ?_⟩) (by assumption) ?_
  rotate_left
  · (intro wS hSw; (try dsimp only at hSw); go_simp; try with_reducible rfl)
  change wpAnyH _ _ _ _ _ _ _ (Act.put _ (some 61) _) _
  simp only [Act.put, List.setIfInBounds_toArray, List.set_cons_zero, List.set_cons_succ]
  refine wpAnyH_take (i := 1) (v := ?_) rfl (by kernel_rfl) (by kernel_rfl) (by kernel_rfl) (fun _ _ _ h => h) (Or.inl ⟨by rfl, ?_⟩) (by assumption) ?_
  rotate_left
  · (intro wS hSw; (try dsimp only at hSw); go_simp; try with_reducible rfl)
  change wpAnyH _ _ _ _ _ _ _ (Act.put _ (some 62) _) _
  simp only [Act.put, List.setIfInBounds_toArray, List.set_cons_zero, List.set_cons_succ]
  refine wpAnyH_take (i := 2) (v := ?_) rfl (by kernel_rfl) (by kernel_rfl) (by kernel_rfl) (fun _ _ _ h => h) (Or.inl ⟨by rfl, ?_⟩) (by assumption) ?_
  rotate_left
  · (intro wS hSw; (try dsimp only at hSw); go_simp; try with_reducible rfl)
  change wpAnyH _ _ _ _ _ _ _ (Act.put _ (some 63) _) _
  simp only [Act.put, List.setIfInBounds_toArray, List.set_cons_zero, List.set_cons_succ]
  refine wpAnyH_take (i := 4) (v := ?_) rfl (by kernel_rfl) (by kernel_rfl) (by kernel_rfl) (fun _ _ _ h => h) (Or.inl ⟨by rfl, ?_⟩) (by assumption) ?_
  rotate_left
  · (intro wS hSw; (try dsimp only at hSw); go_simp; try with_reducible rfl)
  change wpAnyH _ _ _ _ _ _ _ (Act.put _ (some 65) _) _
  simp only [Act.put, List.setIfInBounds_toArray, List.set_cons_zero, List.set_cons_succ]
  refine wpAnyH_ready (rs := [3]) (by kernel_rfl) (by simp) ?_
  refine AllReadyH.cons rfl (fun K hK => ?_) AllReadyH.nil
  go_simp
  refine (G7.out _).mono ?_
  rintro e w9 ⟨h9, l9, rfl, lo9, hw9⟩
  have A90 := cell_later hw9 (a := ⟨w.heap.size, 0, none⟩) (v := .int .u64 0) A80
  have A91 := cell_later hw9 (a := ⟨w.heap.size, 1, none⟩) (v := .int .u64 al) A81
  have B90 := cell_later hw9 (a := ⟨w.heap.size + 1, 0, none⟩) (v := .int .u64 0) B80
  have B91 := cell_later hw9 (a := ⟨w.heap.size + 1, 1, none⟩) (v := .int .u64 bl) B81
  obtain ⟨HB9, -, -, s9⟩ := aft hw9 (B := w.heap.size) (W0 := w) (by go_grown) (by have := HB8.size; first | omega | (simp; omega))
  clear hw9
  (try go_wp2_with (fail))
  refine hK.out _ _ ?_ (fun hHeld => ?_)
  · exact ⟨A90, A91, B90, B91⟩
  clear hK K
  refine wpAnyH_ready (rs := [5]) (by kernel_rfl) (by simp) ?_
  refine AllReadyH.cons rfl (fun K hK => ?_) AllReadyH.nil
  go_simp
  refine (G8.out _ _ _ lo9).mono ?_
  rintro e w10 ⟨c10, rfl, hc, hw10⟩
  have hcb : decide (c10 ≤ 0) = true := by simpa using hc
  have A100 := cell_later hw10 (a := ⟨w.heap.size, 0, none⟩) (v := .int .u64 0) A90
  have A101 := cell_later hw10 (a := ⟨w.heap.size, 1, none⟩) (v := .int .u64 al) A91
  have B100 := cell_later hw10 (a := ⟨w.heap.size + 1, 0, none⟩) (v := .int .u64 0) B90
  have B101 := cell_later hw10 (a := ⟨w.heap.size + 1, 1, none⟩) (v := .int .u64 bl) B91
  obtain ⟨HB10, -, -, s10⟩ := aft hw10 (B := w.heap.size) (W0 := w) (by go_grown) (by have := HB9.size; first | omega | (simp; omega))
  clear hw10
  (try go_wp2_with (fail))
  refine hK.out _ _ ?_ (fun hHeld => ?_)
  · exact ⟨A100, A101, B100, B101⟩
  clear hK K
  refine wpAnyH_take (i := 6) (v := ?_) rfl (by kernel_rfl) (by kernel_rfl) (by kernel_rfl) (fun _ _ _ h => h) (Or.inl ⟨by rfl, ?_⟩) (by assumption) ?_
  rotate_left
  · (intro wS hSw; (try dsimp only at hSw); go_simp; try with_reducible rfl)
  change wpAnyH _ _ _ _ _ _ _ (Act.put _ (some 67) _) _
  simp only [Act.put, List.setIfInBounds_toArray, List.set_cons_zero, List.set_cons_succ]
  refine wpAnyH_take (i := 7) (v := ?_) rfl (by kernel_rfl) (by kernel_rfl) (by kernel_rfl) (fun _ _ _ h => h) (Or.inl ⟨by rfl, ?_⟩) (by assumption) ?_
  rotate_left
  · (intro wS hSw; (try dsimp only at hSw); go_simp; try with_reducible rfl)
  change wpAnyH _ _ _ _ _ _ _ (Act.put _ (some 68) _) _
  simp only [Act.put, List.setIfInBounds_toArray, List.set_cons_zero, List.set_cons_succ]
  refine wpAnyH_take (i := 8) (v := ?_) rfl (by kernel_rfl) (by kernel_rfl) (by kernel_rfl) (fun _ _ _ h => h) (Or.inl ⟨by rfl, ?_⟩) (by assumption) ?_
  rotate_left
  · (intro wS hSw; (try dsimp only at hSw); go_simp; try with_reducible rfl)
  change wpAnyH _ _ _ _ _ _ _ (Act.put _ (some 69) _) _
  simp only [Act.put, List.setIfInBounds_toArray, List.set_cons_zero, List.set_cons_succ]
  refine wpAnyH_take (i := 9) (v := ?_) rfl (by kernel_rfl) (by kernel_rfl) (by kernel_rfl) (fun _ _ _ h => h) (Or.inl ⟨by rfl, ?_⟩) (by assumption) ?_
  rotate_left
  · (intro wS hSw; (try dsimp only at hSw); go_simp; try with_reducible rfl)
  change wpAnyH _ _ _ _ _ _ _ (Act.put _ (some 70) _) _
  simp only [Act.put, List.setIfInBounds_toArray, List.set_cons_zero, List.set_cons_succ]
  refine wpAnyH_take (i := 10) (v := ?_) rfl (by kernel_rfl) (by kernel_rfl) (by kernel_rfl) (fun _ _ _ h => h) (Or.inl ⟨by rfl, ?_⟩) (by assumption) ?_
  rotate_left
  · (intro wS hSw; (try dsimp only at hSw); go_simp; try with_reducible rfl)
  change wpAnyH _ _ _ _ _ _ _ (Act.put _ (some 71) _) _
  simp only [Act.put, List.setIfInBounds_toArray, List.set_cons_zero, List.set_cons_succ]
  refine wpAnyH_take (i := 11) (v := ?_) rfl (by kernel_rfl) (by kernel_rfl) (by kernel_rfl) (fun _ _ _ h => h) (Or.inl ⟨by rfl, ?_⟩) (by assumption) ?_
  rotate_left
  · (intro wS hSw; (try dsimp only at hSw); go_simp; try with_reducible rfl)
  change wpAnyH _ _ _ _ _ _ _ (Act.put _ (some 72) _) _
  simp only [Act.put, List.setIfInBounds_toArray, List.set_cons_zero, List.set_cons_succ]
  refine wpAnyH_take (i := 12) (v := ?_) rfl (by kernel_rfl) (by kernel_rfl) (by kernel_rfl) (fun _ _ _ h => h) (Or.inl ⟨by rfl, ?_⟩) (by assumption) ?_
  rotate_left
  · (intro wS hSw; (try dsimp only at hSw); go_simp; try with_reducible rfl)
  change wpAnyH _ _ _ _ _ _ _ (Act.put _ (some 73) _) _
  simp only [Act.put, List.setIfInBounds_toArray, List.set_cons_zero, List.set_cons_succ]
  refine wpAnyH_take (i := 13) (v := ?_) rfl (by kernel_rfl) (by kernel_rfl) (by kernel_rfl) (fun _ _ _ h => h) (Or.inl ⟨by rfl, ?_⟩) (by assumption) ?_
  rotate_left
  · (intro wS hSw; (try dsimp only at hSw); go_simp; try with_reducible rfl)
  change wpAnyH _ _ _ _ _ _ _ (Act.put _ (some 74) _) _
  simp only [Act.put, List.setIfInBounds_toArray, List.set_cons_zero, List.set_cons_succ]
  refine wpAnyH_take (i := 14) (v := ?_) rfl (by kernel_rfl) (by kernel_rfl) (by kernel_rfl) (fun _ _ _ h => h) (Or.inl ⟨by rfl, ?_⟩) (by assumption) ?_
  rotate_left
  · (intro wS hSw; (try dsimp only at hSw); go_simp; try with_reducible rfl)
  change wpAnyH _ _ _ _ _ _ _ (Act.put _ (some 75) _) _
  simp only [Act.put, List.setIfInBounds_toArray, List.set_cons_zero, List.set_cons_succ]
  refine wpAnyH_take (i := 15) (v := ?_) rfl (by kernel_rfl) (by kernel_rfl) (by kernel_rfl) (fun _ _ _ h => h) (Or.inl ⟨by rfl, ?_⟩) (by assumption) ?_
  rotate_left
  · (intro wS hSw; (try dsimp only at hSw); go_simp; try with_reducible rfl)
  change wpAnyH _ _ _ _ _ _ _ (Act.put _ (some 76) _) _
  simp only [Act.put, List.setIfInBounds_toArray, List.set_cons_zero, List.set_cons_succ]
  refine wpAnyH_take (i := 16) (v := ?_) rfl (by kernel_rfl) (by kernel_rfl) (by kernel_rfl) (fun _ _ _ h => h) (Or.inl ⟨by rfl, ?_⟩) (by assumption) ?_
  rotate_left
  · (intro wS hSw; (try dsimp only at hSw); go_simp; try with_reducible rfl)
  change wpAnyH _ _ _ _ _ _ _ (Act.put _ (some 77) _) _
  simp only [Act.put, List.setIfInBounds_toArray, List.set_cons_zero, List.set_cons_succ]
  refine wpAnyH_take (i := 18) (v := ?_) rfl (by kernel_rfl) (by kernel_rfl) (by kernel_rfl) (fun _ _ _ h => h) (Or.inl ⟨by rfl, ?_⟩) (by assumption) ?_
  rotate_left
  · (intro wS hSw; (try dsimp only at hSw); go_simp; try with_reducible rfl)
  change wpAnyH _ _ _ _ _ _ _ (Act.put _ (some 79) _) _
  simp only [Act.put, List.setIfInBounds_toArray, List.set_cons_zero, List.set_cons_succ]
  refine wpAnyH_ready (rs := [17]) (by kernel_rfl) (by simp) ?_
  refine AllReadyH.cons rfl (fun K hK => ?_) AllReadyH.nil
  go_simp
  refine (H9 _).mono ?_
  rintro e w11 ⟨rfl, hw11⟩
  have A110 := cell_later hw11 (a := ⟨w.heap.size, 0, none⟩) (v := .int .u64 0) A100
  have A111 := cell_later hw11 (a := ⟨w.heap.size, 1, none⟩) (v := .int .u64 al) A101
  have B110 := cell_later hw11 (a := ⟨w.heap.size + 1, 0, none⟩) (v := .int .u64 0) B100
  have B111 := cell_later hw11 (a := ⟨w.heap.size + 1, 1, none⟩) (v := .int .u64 bl) B101
  obtain ⟨HB11, -, -, s11⟩ := aft hw11 (B := w.heap.size) (W0 := w) (by go_grown) (by have := HB10.size; first | omega | (simp; omega))
  clear hw11
  (try go_wp2_with (fail))
  refine hK.out _ _ ?_ (fun hHeld => ?_)
  · exact ⟨A110, A111, B110, B111⟩
  clear hK K
  refine wpAnyH_take (i := 19) (v := ?_) rfl (by kernel_rfl) (by kernel_rfl) (by kernel_rfl) (fun _ _ _ h => h) (Or.inl ⟨by rfl, ?_⟩) (by assumption) ?_
  rotate_left
  · (intro wS hSw; (try dsimp only at hSw); go_simp; try with_reducible rfl)
  change wpAnyH _ _ _ _ _ _ _ (Act.put _ (some 80) _) _
  simp only [Act.put, List.setIfInBounds_toArray, List.set_cons_zero, List.set_cons_succ]
  refine wpAnyH_take (i := 20) (v := ?_) rfl (by kernel_rfl) (by kernel_rfl) (by kernel_rfl) (fun _ _ _ h => h) (Or.inl ⟨by rfl, ?_⟩) (by assumption) ?_
  rotate_left
  · (intro wS hSw; (try dsimp only at hSw); go_simp; try with_reducible rfl)
  change wpAnyH _ _ _ _ _ _ _ (Act.put _ (some 81) _) _
  simp only [Act.put, List.setIfInBounds_toArray, List.set_cons_zero, List.set_cons_succ]
  refine wpAnyH_take (i := 21) (v := undef) rfl (by kernel_rfl) (by kernel_rfl) (by kernel_rfl) (fun _ _ _ h => h) (Or.inr ⟨by rfl, rfl⟩) (by assumption) ?_
  change wpAnyH _ _ _ _ _ _ _ (Act.put _ (some 82) _) _
  simp only [Act.put, List.setIfInBounds_toArray, List.set_cons_zero, List.set_cons_succ]
  refine wpAnyH_take (i := 22) (v := undef) rfl (by kernel_rfl) (by kernel_rfl) (by kernel_rfl) (fun _ _ _ h => h) (Or.inr ⟨by rfl, rfl⟩) (by assumption) ?_
  change wpAnyH _ _ _ _ _ _ _ (Act.put _ (some 83) _) _
  simp only [Act.put, List.setIfInBounds_toArray, List.set_cons_zero, List.set_cons_succ]
  refine wpAnyH_take (i := 23) (v := ?_) rfl (by kernel_rfl) (by kernel_rfl) (by kernel_rfl) (fun _ _ _ h => h) (Or.inl ⟨by rfl, ?_⟩) (by assumption) ?_
  rotate_left
  · (intro wS hSw; (try dsimp only at hSw); go_simp; try with_reducible rfl)
  change wpAnyH _ _ _ _ _ _ _ (Act.put _ (some 84) _) _
  simp only [Act.put, List.setIfInBounds_toArray, List.set_cons_zero, List.set_cons_succ]
  refine wpAnyH_take (i := 24) (v := ?_) rfl (by kernel_rfl) (by kernel_rfl) (by kernel_rfl) (fun _ _ _ h => h) (Or.inl ⟨by rfl, ?_⟩) (by assumption) ?_
  rotate_left
  · (intro wS hSw; (try dsimp only at hSw); go_simp; try with_reducible rfl)
  change wpAnyH _ _ _ _ _ _ _ (Act.put _ (some 85) _) _
  simp only [Act.put, List.setIfInBounds_toArray, List.set_cons_zero, List.set_cons_succ]
  refine wpAnyH_take (i := 25) (v := ?_) rfl (by kernel_rfl) (by kernel_rfl) (by kernel_rfl) (fun _ _ _ h => h) (Or.inl ⟨by rfl, ?_⟩) (by assumption) ?_
  rotate_left
  · (intro wS hSw; (try dsimp only at hSw); go_simp; try with_reducible rfl)
  change wpAnyH _ _ _ _ _ _ _ (Act.put _ (some 6) _) _
  simp only [Act.put, List.setIfInBounds_toArray, List.set_cons_zero, List.set_cons_succ]
  refine wpAnyH_done (by kernel_rfl) ?_ _
  refine NoPanic.normal ?_
  go_wp2
  go_ret
  exact ⟨rfl, by go_grown⟩

set_option maxHeartbeats 4000000 in
theorem orders_HH (ah al bl n k kb : Int) (w : World) (Low : Int → Int → Prop) (k0 : 0 < k) (k128 : k ≤ 128) (kle : kb ≤ k) (hl : bl < al) (hz : ¬ ah = 0)
    (H1 : Ret 15 #[.agg #[.int .u64 ah, .int .u64 al], .agg #[.int .u64 ah, .int .u64 bl]] (.int .i64 (1)))
    (H2 : ∀ w, Calls Try.prog 25 #[.agg #[.int .u64 ah, .int .u64 al], .agg #[.int .u64 ah, .int .u64 bl]] w fun e w' => ∃ h l : Int, e = .returned (.tuple #[.agg #[.int .u64 h, .int .u64 l], .bool true]) ∧ Below w.heap.size w w')
    (H3 : Ret 16 #[.agg #[.int .u64 ah, .int .u64 al]] (.int .i64 k))
    (H4 : Ret 15 #[.agg #[.int .u64 ah, .int .u64 bl], .agg #[.int .u64 ah, .int .u64 al]] (.int .i64 (-1)))
    (H5 : Ret 30 #[.agg #[.int .u64 ah, .int .u64 al], .int .i64 k] (.agg #[.int .u64 0, .int .u64 0]))
    (H6 : Ret 30 #[.agg #[.int .u64 ah, .int .u64 al], .int .i64 (k - 1)] (.agg #[.int .u64 0, .int .u64 1]))
    (H7 : ∀ w, Calls Try.prog 30 #[.agg #[.int .u64 ah, .int .u64 al], .int .i64 (IntKind.i64.wrap n)] w fun e w' => ∃ h l : Int, e = .returned (.agg #[.int .u64 h, .int .u64 l]) ∧ Low h l ∧ Below w.heap.size w w')
    (H8 : ∀ (h l : Int) (w : World), Low h l → Calls Try.prog 15 #[.agg #[.int .u64 h, .int .u64 l], .agg #[.int .u64 ah, .int .u64 al]] w fun e w' => ∃ c : Int, e = .returned (.int .i64 c) ∧ c ≤ 0 ∧ Below w.heap.size w w')
    (H9 : Ret 16 #[.agg #[.int .u64 ah, .int .u64 bl]] (.int .i64 kb)) :
    Calls Try.prog 7 #[.agg #[.int .u64 ah, .int .u64 al], .agg #[.int .u64 ah, .int .u64 bl], .int .u8 n] w fun e w' => e = .returned (.bool true) ∧ Below w.heap.size w w' := by
  have G2 : Hid _ := H2
  have G7 : Hid _ := H7
  have G8 : Hid _ := H8
  clear H2 H7 H8
  go_enter Try.func7, Try.ntmps7
  go_wp2_with (fail)
  refine (first_any _).mono ?_
  rintro e w1 ⟨rfl, hw1⟩
  have A10 := cell_later hw1 (a := ⟨w.heap.size, 0, none⟩) (v := .int .u64 ah) (by simp)
  have A11 := cell_later hw1 (a := ⟨w.heap.size, 1, none⟩) (v := .int .u64 al) (by simp)
  have B10 := cell_later hw1 (a := ⟨w.heap.size + 1, 0, none⟩) (v := .int .u64 ah) (by simp)
  have B11 := cell_later hw1 (a := ⟨w.heap.size + 1, 1, none⟩) (v := .int .u64 bl) (by simp)
  obtain ⟨HB1, -, -, s1⟩ := aft hw1 (B := w.heap.size) (W0 := w) (by go_grown) (by first | omega | (simp; omega))
  clear hw1
  (try simp at s1)
  go_wp2_with (fail)
  refine (H1 _).mono ?_
  rintro e w2 ⟨rfl, hw2⟩
  have A20 := cell_later hw2 A10
  have A21 := cell_later hw2 A11
  have B20 := cell_later hw2 B10
  have B21 := cell_later hw2 B11
  obtain ⟨HB2, -, -, s2⟩ := aft hw2 (B := w.heap.size) (W0 := w) (by go_grown) (by first | omega | (simp; omega))
  clear hw2
  (try simp at s2)
  go_wp2_with (fail)
  refine (G2.out _).mono ?_
  rintro e w3 ⟨h3, l3, rfl, hw3⟩
  have A30 := cell_later hw3 A20
  have A31 := cell_later hw3 A21
  have B30 := cell_later hw3 B20
  have B31 := cell_later hw3 B21
  obtain ⟨HB3, -, -, s3⟩ := aft hw3 (B := w.heap.size) (W0 := w) (by go_grown) (by first | omega | (simp; omega))
  clear hw3
  (try simp at s3)
  have t1 : w.heap.size < w3.heap.size := by omega
  have t2 : w.heap.size + 1 < w3.heap.size := by omega
  go_wp2_with (fail)
  refine (H3 _).mono ?_
  rintro e w4 ⟨rfl, hw4⟩
  have A40 := cell_later hw4 (a := ⟨w.heap.size, 0, none⟩) (v := .int .u64 ah) (by simp [go_sem, t1, A30])
  have A41 := cell_later hw4 (a := ⟨w.heap.size, 1, none⟩) (v := .int .u64 al) (by simp [go_sem, t1, A31])
  have B40 := cell_later hw4 (a := ⟨w.heap.size + 1, 0, none⟩) (v := .int .u64 ah) (by simp [go_sem, t2, B30])
  have B41 := cell_later hw4 (a := ⟨w.heap.size + 1, 1, none⟩) (v := .int .u64 bl) (by simp [go_sem, t2, B31])
  obtain ⟨HB4, -, -, s4⟩ := aft hw4 (B := w.heap.size) (W0 := w) (by go_grown) (by first | omega | (simp; omega))
  clear hw4
  (try simp at s4)
  go_wp2_with (fail)
  refine (H4 _).mono ?_
  rintro e w5 ⟨rfl, hw5⟩
  have A50 := cell_later hw5 A40
  have A51 := cell_later hw5 A41
  have B50 := cell_later hw5 B40
  have B51 := cell_later hw5 B41
  obtain ⟨HB5, -, -, s5⟩ := aft hw5 (B := w.heap.size) (W0 := w) (by go_grown) (by first | omega | (simp; omega))
  clear hw5
  (try simp at s5)
  go_wp2_with (fail)
  refine (H5 _).mono ?_
  rintro e w6 ⟨rfl, hw6⟩
  have A60 := cell_later hw6 A50
  have A61 := cell_later hw6 A51
  have B60 := cell_later hw6 B50
  have B61 := cell_later hw6 B51
  obtain ⟨HB6, -, -, s6⟩ := aft hw6 (B := w.heap.size) (W0 := w) (by go_grown) (by first | omega | (simp; omega))
  clear hw6
  (try simp at s6)
  have hg : 0 < k := k0
  go_wp2_with (fail)
  refine (H6 _).mono ?_
  rintro e w7 ⟨rfl, hw7⟩
  have A70 := cell_later hw7 A60
  have A71 := cell_later hw7 A61
  have B70 := cell_later hw7 B60
  have B71 := cell_later hw7 B61
  obtain ⟨HB7, -, -, s7⟩ := aft hw7 (B := w.heap.size) (W0 := w) (by go_grown) (by first | omega | (simp; omega))
  clear hw7
  (try simp at s7)
  go_wp2_with (fail)
  refine (of_any _ _).mono ?_
  rintro e w8 ⟨rfl, hw8⟩
  have A80 := cell_later hw8 A70
  have A81 := cell_later hw8 A71
  have B80 := cell_later hw8 B70
  have B81 := cell_later hw8 B71
  obtain ⟨HB8, -, -, s8⟩ := aft hw8 (B := w.heap.size) (W0 := w) (by go_grown) (by first | omega | (simp; omega))
  clear hw8
  (try simp at s8)
  have u1 : w.heap.size < w8.heap.size := by omega
  have u2 : w.heap.size + 1 < w8.heap.size := by omega
  have hk0 : (k == 0) = false := by simp; omega
  have hle : kb ≤ k := by omega
  have hld : decide (kb ≤ k) = true := by simpa using hle
  clear A10 A11 B10 B11 A20 A21 B20 B21 A30 A31 B30 B31 A40 A41 B40 B41 A50 A51 B50 B51 A60 A61 B60 B61 A70 A71 B70 B71
  clear HB1 HB2 HB3 HB4 HB5 HB6 HB7
  go_wp2_with (fail)
  refine wp_region_noPanic ?_
  refine wp_region_held_drew (S := (fun w' => w'.cell? ⟨w.heap.size, 0, none⟩ = some (.int .u64 ah) ∧ w'.cell? ⟨w.heap.size, 1, none⟩ = some (.int .u64 al) ∧ w'.cell? ⟨w.heap.size + 1, 0, none⟩ = some (.int .u64 ah) ∧ w'.cell? ⟨w.heap.size + 1, 1, none⟩ = some (.int .u64 bl))) (by kernel_rfl) ?_ (fun hHeld => ?_)
  · exact ⟨A80, A81, B80, B81⟩
  refine wpAnyH_take (i := 0) (v := ?_) rfl (by kernel_rfl) (by kernel_rfl) (by kernel_rfl) (fun _ _ _ h => h) (Or.inl ⟨by rfl, ?_⟩) (by assumption) ?_
  rotate_left
  · (intro wS hSw; (try dsimp only at hSw); go_simp; try with_reducible rfl)
  change wpAnyH _ _ _ _ _ _ _ (Act.put _ (some 61) _) _
  simp only [Act.put, List.setIfInBounds_toArray, List.set_cons_zero, List.set_cons_succ]
  refine wpAnyH_take (i := 1) (v := ?_) rfl (by kernel_rfl) (by kernel_rfl) (by kernel_rfl) (fun _ _ _ h => h) (Or.inl ⟨by rfl, ?_⟩) (by assumption) ?_
  rotate_left
  · (intro wS hSw; (try dsimp only at hSw); go_simp; try with_reducible rfl)
  change wpAnyH _ _ _ _ _ _ _ (Act.put _ (some 62) _) _
  simp only [Act.put, List.setIfInBounds_toArray, List.set_cons_zero, List.set_cons_succ]
  refine wpAnyH_take (i := 2) (v := ?_) rfl (by kernel_rfl) (by kernel_rfl) (by kernel_rfl) (fun _ _ _ h => h) (Or.inl ⟨by rfl, ?_⟩) (by assumption) ?_
  rotate_left
  · (intro wS hSw; (try dsimp only at hSw); go_simp; try with_reducible rfl)
  change wpAnyH _ _ _ _ _ _ _ (Act.put _ (some 63) _) _
  simp only [Act.put, List.setIfInBounds_toArray, List.set_cons_zero, List.set_cons_succ]
  refine wpAnyH_take (i := 4) (v := ?_) rfl (by kernel_rfl) (by kernel_rfl) (by kernel_rfl) (fun _ _ _ h => h) (Or.inl ⟨by rfl, ?_⟩) (by assumption) ?_
  rotate_left
  · (intro wS hSw; (try dsimp only at hSw); go_simp; try with_reducible rfl)
  change wpAnyH _ _ _ _ _ _ _ (Act.put _ (some 65) _) _
  simp only [Act.put, List.setIfInBounds_toArray, List.set_cons_zero, List.set_cons_succ]
  refine wpAnyH_ready (rs := [3]) (by kernel_rfl) (by simp) ?_
  refine AllReadyH.cons rfl (fun K hK => ?_) AllReadyH.nil
  go_simp
  refine (G7.out _).mono ?_
  rintro e w9 ⟨h9, l9, rfl, lo9, hw9⟩
  have A90 := cell_later hw9 (a := ⟨w.heap.size, 0, none⟩) (v := .int .u64 ah) A80
  have A91 := cell_later hw9 (a := ⟨w.heap.size, 1, none⟩) (v := .int .u64 al) A81
  have B90 := cell_later hw9 (a := ⟨w.heap.size + 1, 0, none⟩) (v := .int .u64 ah) B80
  have B91 := cell_later hw9 (a := ⟨w.heap.size + 1, 1, none⟩) (v := .int .u64 bl) B81
  obtain ⟨HB9, -, -, s9⟩ := aft hw9 (B := w.heap.size) (W0 := w) (by go_grown) (by have := HB8.size; first | omega | (simp; omega))
  clear hw9
  (try go_wp2_with (fail))
  refine hK.out _ _ ?_ (fun hHeld => ?_)
  · exact ⟨A90, A91, B90, B91⟩
  clear hK K
  refine wpAnyH_ready (rs := [5]) (by kernel_rfl) (by simp) ?_
  refine AllReadyH.cons rfl (fun K hK => ?_) AllReadyH.nil
  go_simp
  refine (G8.out _ _ _ lo9).mono ?_
  rintro e w10 ⟨c10, rfl, hc, hw10⟩
  have hcb : decide (c10 ≤ 0) = true := by simpa using hc
  have A100 := cell_later hw10 (a := ⟨w.heap.size, 0, none⟩) (v := .int .u64 ah) A90
  have A101 := cell_later hw10 (a := ⟨w.heap.size, 1, none⟩) (v := .int .u64 al) A91
  have B100 := cell_later hw10 (a := ⟨w.heap.size + 1, 0, none⟩) (v := .int .u64 ah) B90
  have B101 := cell_later hw10 (a := ⟨w.heap.size + 1, 1, none⟩) (v := .int .u64 bl) B91
  obtain ⟨HB10, -, -, s10⟩ := aft hw10 (B := w.heap.size) (W0 := w) (by go_grown) (by have := HB9.size; first | omega | (simp; omega))
  clear hw10
  (try go_wp2_with (fail))
  refine hK.out _ _ ?_ (fun hHeld => ?_)
  · exact ⟨A100, A101, B100, B101⟩
  clear hK K
  refine wpAnyH_take (i := 6) (v := ?_) rfl (by kernel_rfl) (by kernel_rfl) (by kernel_rfl) (fun _ _ _ h => h) (Or.inl ⟨by rfl, ?_⟩) (by assumption) ?_
  rotate_left
  · (intro wS hSw; (try dsimp only at hSw); go_simp; try with_reducible rfl)
  change wpAnyH _ _ _ _ _ _ _ (Act.put _ (some 67) _) _
  simp only [Act.put, List.setIfInBounds_toArray, List.set_cons_zero, List.set_cons_succ]
  refine wpAnyH_take (i := 7) (v := ?_) rfl (by kernel_rfl) (by kernel_rfl) (by kernel_rfl) (fun _ _ _ h => h) (Or.inl ⟨by rfl, ?_⟩) (by assumption) ?_
  rotate_left
  · (intro wS hSw; (try dsimp only at hSw); go_simp; try with_reducible rfl)
  change wpAnyH _ _ _ _ _ _ _ (Act.put _ (some 68) _) _
  simp only [Act.put, List.setIfInBounds_toArray, List.set_cons_zero, List.set_cons_succ]
  refine wpAnyH_take (i := 8) (v := ?_) rfl (by kernel_rfl) (by kernel_rfl) (by kernel_rfl) (fun _ _ _ h => h) (Or.inl ⟨by rfl, ?_⟩) (by assumption) ?_
  rotate_left
  · (intro wS hSw; (try dsimp only at hSw); go_simp; try with_reducible rfl)
  change wpAnyH _ _ _ _ _ _ _ (Act.put _ (some 69) _) _
  simp only [Act.put, List.setIfInBounds_toArray, List.set_cons_zero, List.set_cons_succ]
  refine wpAnyH_take (i := 9) (v := ?_) rfl (by kernel_rfl) (by kernel_rfl) (by kernel_rfl) (fun _ _ _ h => h) (Or.inl ⟨by rfl, ?_⟩) (by assumption) ?_
  rotate_left
  · (intro wS hSw; (try dsimp only at hSw); go_simp; try with_reducible rfl)
  change wpAnyH _ _ _ _ _ _ _ (Act.put _ (some 70) _) _
  simp only [Act.put, List.setIfInBounds_toArray, List.set_cons_zero, List.set_cons_succ]
  refine wpAnyH_take (i := 10) (v := ?_) rfl (by kernel_rfl) (by kernel_rfl) (by kernel_rfl) (fun _ _ _ h => h) (Or.inl ⟨by rfl, ?_⟩) (by assumption) ?_
  rotate_left
  · (intro wS hSw; (try dsimp only at hSw); go_simp; try with_reducible rfl)
  change wpAnyH _ _ _ _ _ _ _ (Act.put _ (some 71) _) _
  simp only [Act.put, List.setIfInBounds_toArray, List.set_cons_zero, List.set_cons_succ]
  refine wpAnyH_take (i := 11) (v := ?_) rfl (by kernel_rfl) (by kernel_rfl) (by kernel_rfl) (fun _ _ _ h => h) (Or.inl ⟨by rfl, ?_⟩) (by assumption) ?_
  rotate_left
  · (intro wS hSw; (try dsimp only at hSw); go_simp; try with_reducible rfl)
  change wpAnyH _ _ _ _ _ _ _ (Act.put _ (some 72) _) _
  simp only [Act.put, List.setIfInBounds_toArray, List.set_cons_zero, List.set_cons_succ]
  refine wpAnyH_take (i := 12) (v := ?_) rfl (by kernel_rfl) (by kernel_rfl) (by kernel_rfl) (fun _ _ _ h => h) (Or.inl ⟨by rfl, ?_⟩) (by assumption) ?_
  rotate_left
  · (intro wS hSw; (try dsimp only at hSw); go_simp; try with_reducible rfl)
  change wpAnyH _ _ _ _ _ _ _ (Act.put _ (some 73) _) _
  simp only [Act.put, List.setIfInBounds_toArray, List.set_cons_zero, List.set_cons_succ]
  refine wpAnyH_take (i := 13) (v := ?_) rfl (by kernel_rfl) (by kernel_rfl) (by kernel_rfl) (fun _ _ _ h => h) (Or.inl ⟨by rfl, ?_⟩) (by assumption) ?_
  rotate_left
  · (intro wS hSw; (try dsimp only at hSw); go_simp; try with_reducible rfl)
  change wpAnyH _ _ _ _ _ _ _ (Act.put _ (some 74) _) _
  simp only [Act.put, List.setIfInBounds_toArray, List.set_cons_zero, List.set_cons_succ]
  refine wpAnyH_take (i := 14) (v := ?_) rfl (by kernel_rfl) (by kernel_rfl) (by kernel_rfl) (fun _ _ _ h => h) (Or.inl ⟨by rfl, ?_⟩) (by assumption) ?_
  rotate_left
  · (intro wS hSw; (try dsimp only at hSw); go_simp; try with_reducible rfl)
  change wpAnyH _ _ _ _ _ _ _ (Act.put _ (some 75) _) _
  simp only [Act.put, List.setIfInBounds_toArray, List.set_cons_zero, List.set_cons_succ]
  refine wpAnyH_take (i := 15) (v := ?_) rfl (by kernel_rfl) (by kernel_rfl) (by kernel_rfl) (fun _ _ _ h => h) (Or.inl ⟨by rfl, ?_⟩) (by assumption) ?_
  rotate_left
  · (intro wS hSw; (try dsimp only at hSw); go_simp; try with_reducible rfl)
  change wpAnyH _ _ _ _ _ _ _ (Act.put _ (some 76) _) _
  simp only [Act.put, List.setIfInBounds_toArray, List.set_cons_zero, List.set_cons_succ]
  refine wpAnyH_take (i := 16) (v := ?_) rfl (by kernel_rfl) (by kernel_rfl) (by kernel_rfl) (fun _ _ _ h => h) (Or.inl ⟨by rfl, ?_⟩) (by assumption) ?_
  rotate_left
  · (intro wS hSw; (try dsimp only at hSw); go_simp; try with_reducible rfl)
  change wpAnyH _ _ _ _ _ _ _ (Act.put _ (some 77) _) _
  simp only [Act.put, List.setIfInBounds_toArray, List.set_cons_zero, List.set_cons_succ]
  refine wpAnyH_take (i := 18) (v := ?_) rfl (by kernel_rfl) (by kernel_rfl) (by kernel_rfl) (fun _ _ _ h => h) (Or.inl ⟨by rfl, ?_⟩) (by assumption) ?_
  rotate_left
  · (intro wS hSw; (try dsimp only at hSw); go_simp; try with_reducible rfl)
  change wpAnyH _ _ _ _ _ _ _ (Act.put _ (some 79) _) _
  simp only [Act.put, List.setIfInBounds_toArray, List.set_cons_zero, List.set_cons_succ]
  refine wpAnyH_ready (rs := [17]) (by kernel_rfl) (by simp) ?_
  refine AllReadyH.cons rfl (fun K hK => ?_) AllReadyH.nil
  go_simp
  refine (H9 _).mono ?_
  rintro e w11 ⟨rfl, hw11⟩
  have A110 := cell_later hw11 (a := ⟨w.heap.size, 0, none⟩) (v := .int .u64 ah) A100
  have A111 := cell_later hw11 (a := ⟨w.heap.size, 1, none⟩) (v := .int .u64 al) A101
  have B110 := cell_later hw11 (a := ⟨w.heap.size + 1, 0, none⟩) (v := .int .u64 ah) B100
  have B111 := cell_later hw11 (a := ⟨w.heap.size + 1, 1, none⟩) (v := .int .u64 bl) B101
  obtain ⟨HB11, -, -, s11⟩ := aft hw11 (B := w.heap.size) (W0 := w) (by go_grown) (by have := HB10.size; first | omega | (simp; omega))
  clear hw11
  (try go_wp2_with (fail))
  refine hK.out _ _ ?_ (fun hHeld => ?_)
  · exact ⟨A110, A111, B110, B111⟩
  clear hK K
  refine wpAnyH_take (i := 19) (v := ?_) rfl (by kernel_rfl) (by kernel_rfl) (by kernel_rfl) (fun _ _ _ h => h) (Or.inl ⟨by rfl, ?_⟩) (by assumption) ?_
  rotate_left
  · (intro wS hSw; (try dsimp only at hSw); go_simp; try with_reducible rfl)
  change wpAnyH _ _ _ _ _ _ _ (Act.put _ (some 80) _) _
  simp only [Act.put, List.setIfInBounds_toArray, List.set_cons_zero, List.set_cons_succ]
  refine wpAnyH_take (i := 20) (v := ?_) rfl (by kernel_rfl) (by kernel_rfl) (by kernel_rfl) (fun _ _ _ h => h) (Or.inl ⟨by rfl, ?_⟩) (by assumption) ?_
  rotate_left
  · (intro wS hSw; (try dsimp only at hSw); go_simp; try with_reducible rfl)
  change wpAnyH _ _ _ _ _ _ _ (Act.put _ (some 81) _) _
  simp only [Act.put, List.setIfInBounds_toArray, List.set_cons_zero, List.set_cons_succ]
  refine wpAnyH_take (i := 21) (v := undef) rfl (by kernel_rfl) (by kernel_rfl) (by kernel_rfl) (fun _ _ _ h => h) (Or.inr ⟨by rfl, rfl⟩) (by assumption) ?_
  change wpAnyH _ _ _ _ _ _ _ (Act.put _ (some 82) _) _
  simp only [Act.put, List.setIfInBounds_toArray, List.set_cons_zero, List.set_cons_succ]
  refine wpAnyH_take (i := 22) (v := undef) rfl (by kernel_rfl) (by kernel_rfl) (by kernel_rfl) (fun _ _ _ h => h) (Or.inr ⟨by rfl, rfl⟩) (by assumption) ?_
  change wpAnyH _ _ _ _ _ _ _ (Act.put _ (some 83) _) _
  simp only [Act.put, List.setIfInBounds_toArray, List.set_cons_zero, List.set_cons_succ]
  refine wpAnyH_take (i := 23) (v := ?_) rfl (by kernel_rfl) (by kernel_rfl) (by kernel_rfl) (fun _ _ _ h => h) (Or.inl ⟨by rfl, ?_⟩) (by assumption) ?_
  rotate_left
  · (intro wS hSw; (try dsimp only at hSw); go_simp; try with_reducible rfl)
  change wpAnyH _ _ _ _ _ _ _ (Act.put _ (some 84) _) _
  simp only [Act.put, List.setIfInBounds_toArray, List.set_cons_zero, List.set_cons_succ]
  refine wpAnyH_take (i := 24) (v := ?_) rfl (by kernel_rfl) (by kernel_rfl) (by kernel_rfl) (fun _ _ _ h => h) (Or.inl ⟨by rfl, ?_⟩) (by assumption) ?_
  rotate_left
  · (intro wS hSw; (try dsimp only at hSw); go_simp; try with_reducible rfl)
  change wpAnyH _ _ _ _ _ _ _ (Act.put _ (some 85) _) _
  simp only [Act.put, List.setIfInBounds_toArray, List.set_cons_zero, List.set_cons_succ]
  refine wpAnyH_take (i := 25) (v := ?_) rfl (by kernel_rfl) (by kernel_rfl) (by kernel_rfl) (fun _ _ _ h => h) (Or.inl ⟨by rfl, ?_⟩) (by assumption) ?_
  rotate_left
  · (intro wS hSw; (try dsimp only at hSw); go_simp; try with_reducible rfl)
  change wpAnyH _ _ _ _ _ _ _ (Act.put _ (some 6) _) _
  simp only [Act.put, List.setIfInBounds_toArray, List.set_cons_zero, List.set_cons_succ]
  refine wpAnyH_done (by kernel_rfl) ?_ _
  refine NoPanic.normal ?_
  go_wp2
  go_ret
  exact ⟨rfl, by go_grown⟩

end Go.Proofs.Ytahmgbaonldlfaa
