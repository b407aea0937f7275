/-
  The contract of the statements' own function 'first' at this program: it answers true. Conditions: none.
-/
import Derived.Test.YtahmgbaonldlfaaI
import Derived.Test.YtahmgbaonldlfaaJ
namespace Go.Proofs.Ytahmgbaonldlfaa
open Go.RowKit

theorem first_len (n : Nat) (h1 : 1 ≤ n) (h2 : n ≤ 39) (h3 : n ≠ 1 → (1844674407370955161 : Int) / 10 ^ (n - 1) ≠ 0) (h4 : (1844674407370955161 : Int) / 10 ^ n = 0) : n = 19 := by
  have all : ∀ k : Fin 40, 1 ≤ k.val → (k.val ≠ 1 → (1844674407370955161 : Int) / 10 ^ (k.val - 1) ≠ 0) → (1844674407370955161 : Int) / 10 ^ k.val = 0 → k.val = 19 := by decide +kernel
  exact all ⟨n, by omega⟩ h1 h3 h4
theorem first_text : tx 1844674407370955161 19 = ⟨#[49, 56, 52, 52, 54, 55, 52, 52, 48, 55, 51, 55, 48, 57, 53, 53, 49, 54, 49]⟩ := by decide +kernel

theorem first_short : (⟨#[49, 56, 52, 52, 54, 55, 52, 52, 48, 55, 51, 55, 48, 57, 53, 53, 49, 54, 49, 54]⟩ : ByteArray).size ≤ maxLen := by
  unfold maxLen; decide
theorem first_dval : dval (⟨#[49, 56, 52, 52, 54, 55, 52, 52, 48, 55, 51, 55, 48, 57, 53, 53, 49, 54, 49, 54]⟩ : ByteArray).data.toList = 18446744073709551616 := by decide +kernel
theorem first_good : good ⟨#[49, 56, 52, 52, 54, 55, 52, 52, 48, 55, 51, 55, 48, 57, 53, 53, 49, 54, 49, 54]⟩ := by
  refine ⟨?_, by decide, fun _ => by decide⟩
  unfold digs
  decide

theorem first_bits : bitLen ((9223372036854775808 : Int) * 18446744073709551616 + 0).toNat = 128 := by
  have h := bitLen_high 9223372036854775808 0 (by omega) (by omega) (by omega)
  have e : bitLen (9223372036854775808 : Int).toNat = 64 := by decide +kernel
  rw [e] at h
  omega

set_option maxHeartbeats 2000000 in
theorem first_any (w : World) :
    Calls Try.prog 8 #[] w fun e w' => e = .returned (.bool true) ∧ Below w.heap.size w w' := by
  go_enter Try.func8, Try.ntmps8
  go_wp2_with (fail)
  refine (of_any _ _).mono ?_
  rintro e w1 ⟨rfl, hw1⟩
  go_wp2_with (fail)
  refine (left_any 0 1 64 _ (by omega) (by omega) (by omega) (by omega) (by omega) (by omega)).mono ?_
  rintro e w2 ⟨h, l, b, rfl, ⟨k0, k1, k2, k3⟩, f, hw2⟩
  have HB2 : Below w.heap.size w w2 := hw1.trans (hw2.mono hw1.size)
  clear hw1 hw2
  obtain ⟨rfl, rfl, rfl⟩ : b = true ∧ h = 1 ∧ l = 0 := by
    rcases f with ⟨rfl, f⟩ | ⟨rfl, rfl, rfl, f⟩
    · simp at f; exact ⟨rfl, by omega, by omega⟩
    · simp at f
  clear k0 k1 k2 k3 f
  have s2 := HB2.size
  go_wp2_with (fail)
  refine (times_any 1 0 9223372036854775808 _ (by omega) (by omega) (by omega) (by omega) (by omega) (by omega)).mono ?_
  rintro e w3 ⟨h, l, b, rfl, ⟨k0, k1, k2, k3⟩, f, hw3⟩
  obtain ⟨rfl, rfl, rfl⟩ : b = true ∧ h = 9223372036854775808 ∧ l = 0 := by
    rcases f with ⟨rfl, f⟩ | ⟨rfl, rfl, rfl, f⟩
    · exact ⟨rfl, by omega, by omega⟩
    · omega
  clear k0 k1 k2 k3 f
  have A30 := cell_later hw3 (a := ⟨w2.heap.size, 0, none⟩) (v := .int .u64 1) (by simp)
  have A31 := cell_later hw3 (a := ⟨w2.heap.size, 1, none⟩) (v := .int .u64 0) (by simp)
  obtain ⟨HB3, _, _, s3⟩ := aft hw3 (B := w.heap.size) (W0 := w) (by go_grown) (by first | omega | (simp; omega))
  clear hw3
  (try simp at s3)
  have t23 : w2.heap.size < w3.heap.size := by omega
  go_wp2_with (fail)
  refine (by_any 1 0 10 _ (by omega) (by omega) (by omega) (by omega) (by omega) (by omega)).mono ?_
  rintro e w4 ⟨h, l, r, rfl, ⟨k0, k1, k2, k3⟩, f, g, hw4⟩
  obtain ⟨rfl, rfl, rfl⟩ : r = 6 ∧ h = 0 ∧ l = 1844674407370955161 := ⟨by omega, by omega, by omega⟩
  clear k0 k1 k2 k3 f g
  have A40 := cell_later hw4 (a := ⟨w2.heap.size, 0, none⟩) (v := .int .u64 1) (by simp [go_sem, t23, A30])
  have A41 := cell_later hw4 (a := ⟨w2.heap.size, 1, none⟩) (v := .int .u64 0) (by simp [go_sem, t23, A31])
  have B40 := cell_later hw4 (a := ⟨w3.heap.size, 0, none⟩) (v := .int .u64 9223372036854775808) (by simp)
  have B41 := cell_later hw4 (a := ⟨w3.heap.size, 1, none⟩) (v := .int .u64 0) (by simp)
  obtain ⟨HB4, _, _, s4⟩ := aft hw4 (B := w.heap.size) (W0 := w) (by go_grown) (by first | omega | (simp; omega))
  clear hw4
  (try simp at s4)
  have t24 : w2.heap.size < w4.heap.size := by omega
  have t34 : w3.heap.size < w4.heap.size := by omega
  go_wp2_with (fail)
  refine (add_any 9223372036854775808 0 9223372036854775808 0 _ (by omega) (by omega) (by omega) (by omega) (by omega) (by omega) (by omega) (by omega)).mono ?_
  rintro e w5 ⟨h, l, b, rfl, ⟨k0, k1, k2, k3⟩, f, hw5⟩
  obtain ⟨rfl, rfl, rfl⟩ : b = false ∧ h = 0 ∧ l = 0 := by
    rcases f with ⟨rfl, f⟩ | ⟨rfl, rfl, rfl, f⟩
    · omega
    · exact ⟨rfl, rfl, rfl⟩
  clear k0 k1 k2 k3 f
  have A50 := cell_later hw5 (a := ⟨w2.heap.size, 0, none⟩) (v := .int .u64 1) (by simp [go_sem, t24, A40])
  have A51 := cell_later hw5 (a := ⟨w2.heap.size, 1, none⟩) (v := .int .u64 0) (by simp [go_sem, t24, A41])
  have B50 := cell_later hw5 (a := ⟨w3.heap.size, 0, none⟩) (v := .int .u64 9223372036854775808) (by simp [go_sem, t34, B40])
  have B51 := cell_later hw5 (a := ⟨w3.heap.size, 1, none⟩) (v := .int .u64 0) (by simp [go_sem, t34, B41])
  have Q50 := cell_later hw5 (a := ⟨w4.heap.size, 0, none⟩) (v := .int .u64 0) (by simp)
  have Q51 := cell_later hw5 (a := ⟨w4.heap.size, 1, none⟩) (v := .int .u64 1844674407370955161) (by simp)
  obtain ⟨HB5, _, _, s5⟩ := aft hw5 (B := w.heap.size) (W0 := w) (by go_grown) (by first | omega | (simp; omega))
  clear hw5
  (try simp at s5)
  have t25 : w2.heap.size < w5.heap.size := by omega
  have t35 : w3.heap.size < w5.heap.size := by omega
  have t45 : w4.heap.size < w5.heap.size := by omega
  go_wp2_with (fail)
  refine (parse_any _ _ first_short).mono ?_
  rintro e w6 ⟨h, l, b, rfl, ⟨k0, k1, k2, k3⟩, f, hw6⟩
  obtain ⟨rfl, rfl, rfl⟩ : b = true ∧ h = 1 ∧ l = 0 := by
    rcases f with ⟨rfl, _, f⟩ | ⟨rfl, rfl, rfl, f⟩
    · rw [first_dval] at f; exact ⟨rfl, by omega, by omega⟩
    · exact absurd ⟨first_good, by rw [first_dval]; omega⟩ f
  clear k0 k1 k2 k3 f
  have A60 := cell_later hw6 (a := ⟨w2.heap.size, 0, none⟩) (v := .int .u64 1) (by simp [go_sem, t25, A50])
  have A61 := cell_later hw6 (a := ⟨w2.heap.size, 1, none⟩) (v := .int .u64 0) (by simp [go_sem, t25, A51])
  have B60 := cell_later hw6 (a := ⟨w3.heap.size, 0, none⟩) (v := .int .u64 9223372036854775808) (by simp [go_sem, t35, B50])
  have B61 := cell_later hw6 (a := ⟨w3.heap.size, 1, none⟩) (v := .int .u64 0) (by simp [go_sem, t35, B51])
  have Q60 := cell_later hw6 (a := ⟨w4.heap.size, 0, none⟩) (v := .int .u64 0) (by simp [go_sem, t45, Q50])
  have Q61 := cell_later hw6 (a := ⟨w4.heap.size, 1, none⟩) (v := .int .u64 1844674407370955161) (by simp [go_sem, t45, Q51])
  have C60 := cell_later hw6 (a := ⟨w5.heap.size, 0, none⟩) (v := .int .u64 0) (by simp)
  have C61 := cell_later hw6 (a := ⟨w5.heap.size, 1, none⟩) (v := .int .u64 0) (by simp)
  obtain ⟨HB6, _, _, s6⟩ := aft hw6 (B := w.heap.size) (W0 := w) (by go_grown) (by first | omega | (simp; omega))
  clear hw6
  (try simp at s6)
  have t26 : w2.heap.size < w6.heap.size := by omega
  have t36 : w3.heap.size < w6.heap.size := by omega
  have t46 : w4.heap.size < w6.heap.size := by omega
  have t56 : w5.heap.size < w6.heap.size := by omega
  go_wp2_with (fail)
  refine (text_any 0 1844674407370955161 _ (by omega) (by omega) (by omega) (by omega)).mono ?_
  rintro e w7 ⟨n, rfl, n1, n2, n3, n4, hw7⟩
  simp only [Int.zero_mul, Int.zero_add] at n3 n4
  obtain rfl := first_len n n1 n2 n3 n4
  clear n1 n2 n3 n4
  rw [show (0 : Int) * 18446744073709551616 + 1844674407370955161 = 1844674407370955161 from rfl, first_text]
  have A70 := cell_later hw7 (a := ⟨w2.heap.size, 0, none⟩) (v := .int .u64 1) (by simp [go_sem, t26, A60])
  have A71 := cell_later hw7 (a := ⟨w2.heap.size, 1, none⟩) (v := .int .u64 0) (by simp [go_sem, t26, A61])
  have B70 := cell_later hw7 (a := ⟨w3.heap.size, 0, none⟩) (v := .int .u64 9223372036854775808) (by simp [go_sem, t36, B60])
  have B71 := cell_later hw7 (a := ⟨w3.heap.size, 1, none⟩) (v := .int .u64 0) (by simp [go_sem, t36, B61])
  have C70 := cell_later hw7 (a := ⟨w5.heap.size, 0, none⟩) (v := .int .u64 0) (by simp [go_sem, t56, C60])
  have C71 := cell_later hw7 (a := ⟨w5.heap.size, 1, none⟩) (v := .int .u64 0) (by simp [go_sem, t56, C61])
  have P70 := cell_later hw7 (a := ⟨w6.heap.size, 0, none⟩) (v := .int .u64 1) (by simp)
  have P71 := cell_later hw7 (a := ⟨w6.heap.size, 1, none⟩) (v := .int .u64 0) (by simp)
  obtain ⟨HB7, _, _, s7⟩ := aft hw7 (B := w.heap.size) (W0 := w) (by go_grown) (by first | omega | (simp; omega))
  clear hw7
  (try simp at s7)
  go_wp2_with (fail)
  refine (bits_any 9223372036854775808 0 _ (by omega) (by omega) (by omega) (by omega)).mono ?_
  rintro e w8 ⟨rfl, hw8⟩
  rw [first_bits]
  have A80 := cell_later hw8 (a := ⟨w2.heap.size, 0, none⟩) (v := .int .u64 1) (by exact A70)
  have A81 := cell_later hw8 (a := ⟨w2.heap.size, 1, none⟩) (v := .int .u64 0) (by exact A71)
  have B80 := cell_later hw8 (a := ⟨w3.heap.size, 0, none⟩) (v := .int .u64 9223372036854775808) (by exact B70)
  have B81 := cell_later hw8 (a := ⟨w3.heap.size, 1, none⟩) (v := .int .u64 0) (by exact B71)
  obtain ⟨HB8, _, _, s8⟩ := aft hw8 (B := w.heap.size) (W0 := w) (by go_grown) (by first | omega | (simp; omega))
  clear hw8
  (try simp at s8)
  go_wp2_with (fail)
  refine (compare_any 1 0 9223372036854775808 0 _ (by omega) (by omega) (by omega) (by omega)).mono ?_
  rintro e w9 ⟨rfl, hw9⟩
  rw [show cmp (1 * 18446744073709551616 + 0) (9223372036854775808 * 18446744073709551616 + 0) = -1 from by unfold cmp; rw [if_neg (by omega), if_pos (by omega)]]
  obtain ⟨HB9, _, _, s9⟩ := aft hw9 (B := w.heap.size) (W0 := w) (by go_grown) (by first | omega | (simp; omega))
  clear hw9
  (try simp at s9)
  go_wp2
  go_ret
  exact ⟨rfl, HB9⟩

end Go.Proofs.Ytahmgbaonldlfaa
