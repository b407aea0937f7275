/-
  Contracts of the document's own answers for layer 1 (numbers as twenty digits of sixteen bits) at this program: Minus, Wide. Conditions: digits lie below 2^16.
-/
import Derived.Test.YtaeejemknmjglaaDoorU
import Derived.Deep.RegionHeld3
namespace Go.Proofs.YtaeejemknmjglaaDoor
open Go.RowKit

set_option maxHeartbeats 4000000 in
set_option maxRecDepth 100000 in
theorem rwide_any (d : Nat → Int) (w : World) (hd : Digs d) :
    Calls Tryd.prog 57 #[.agg (dl d).toArray] w fun x w' => ∃ (h l : Int) (b : Bool), x = .returned (.tuple #[.agg #[.int .u64 h, .int .u64 l], .bool b]) ∧ Wok h l ∧ Fits h l b (sv d 20) ∧ Below w.heap.size w w' := by
  go_enter Tryd.func57, Tryd.ntmps57
  go_wp2
  go_loopw [5] (fun s5 wr => ∃ (k : Nat) (i x y : Int), k ≤ 4 ∧ i = 3 - (k : Int) ∧ s5 = .int .i64 i ∧ Hid (x = tp d 4 k) ∧ Hid (y = tp d 0 k) ∧ 0 ≤ x ∧ x < 65536 ^ k ∧ 0 ≤ y ∧ y < 65536 ^ k ∧
      wr.cell? ⟨w.heap.size + 1 + 1, 0, none⟩ = some (.int .u64 x) ∧ wr.cell? ⟨w.heap.size + 1 + 1, 1, none⟩ = some (.int .u64 y) ∧ wr.frozen? ⟨w.heap.size + 1 + 1, 0, none⟩ = false ∧ wr.frozen? ⟨w.heap.size + 1 + 1, 1, none⟩ = false ∧
      wr.cell? ⟨w.heap.size + 1, 0, none⟩ = some (.int .u64 0) ∧ wr.cell? ⟨w.heap.size + 1, 1, none⟩ = some (.int .u64 0) ∧ wr.frozen? ⟨w.heap.size + 1, 0, none⟩ = false ∧ wr.frozen? ⟨w.heap.size + 1, 1, none⟩ = false ∧
      Tab wr w.heap.size d ∧ w.heap.size + 3 ≤ wr.heap.size ∧ Below w.heap.size w wr) (fun s5 _ => (intOf s5 + 1).toNat)
  case atStart =>
    refine ⟨0, 3, 0, 0, by omega, by omega, rfl, rfl, rfl, by omega, by simp, by omega, by simp, by simp [go_sem], by simp [go_sem], by simp [go_sem], by simp [go_sem], by simp [go_sem], by simp [go_sem], by simp [go_sem], by simp [go_sem], ?_, by simp, by go_grown⟩
    exact ((Tab.new w d _).alloc _ (by simp)).alloc _ (by simp; omega)
  case round =>
    obtain ⟨k, i, x, y, hk, hi, rfl, HX, HY, x0, x1, y0, y1, c0, c1, f0, f1, r0, r1, t0, t1, HD, hsz, HB⟩ := hrel
    by_cases hlt : k < 4
    · obtain ⟨m, hm⟩ : ∃ m : Nat, m + k = 3 := ⟨3 - k, by omega⟩
      obtain rfl : i = (m : Int) := by omega
      have p48 : (65536 : Int) ^ k ≤ 65536 ^ 3 := by
        have a : (65536 : Nat) ^ k ≤ 65536 ^ 3 := Nat.pow_le_pow_right (by omega) (by omega)
        have b : ∀ k : Nat, (65536 : Int) ^ k = ((65536 ^ k : Nat) : Int) := fun k => by simp
        rw [b, b]; omega
      have e0 := hd m
      have e4 := hd (4 + m)
      have cm := (HD m (by omega)).1
      have c4 := (HD (4 + m) (by omega)).1
      have m0 : (0 : Int) ≤ (m : Int) := by omega
      have m1 : (m : Int) < 20 := by omega
      have m4 : (4 : Int) + (m : Int) < 20 := by omega
      have yb : y < 281474976710656 := by omega
      have xb : x < 281474976710656 := by omega
      have hiH : Hid ((m : Int) = 3 - (k : Int)) := hi
      have Y1 : Hid (y < 65536 ^ k) := y1
      have X1 : Hid (x < 65536 ^ k) := x1
      clear hi p48 y1 x1
      go_wp2_with (fail)
      go_region
      go_wp2_with (fail)
      go_region
      go_wp2
      go_roundw
      case rel =>
        go_light
        have ex : x * 65536 + d (4 + m) = tp d 4 (k + 1) := by simp only [tp]; rw [← HX.out, show 4 + 3 - k = 4 + m by omega]
        have ey : y * 65536 + d m = tp d 0 (k + 1) := by simp only [tp]; rw [← HY.out, show 0 + 3 - k = m by omega]
        have bx := tp_bd d 4 hd (k + 1)
        have bY := tp_bd d 0 hd (k + 1)
        rw [ex, ey]
        exact ⟨k + 1, (m : Int) - 1, _, _, by omega, by omega, rfl, rfl, rfl, bx.1, bx.2, bY.1, bY.2, by simp [go_sem, c0], by simp [go_sem, c1], by simp [go_sem, f0], by simp [go_sem, f1], by simp [go_sem, r0], by simp [go_sem, r1], by simp [go_sem, t0], by simp [go_sem, t1],
          (((HD.other _ _ (by simp; omega)).other _ _ (by simp; omega)).drew).drew, by simp; omega, (((HB.setCell (by simp; omega) _).setCell (by simp; omega) _).drew).drew⟩
      case measure => simp [intOf]
    · obtain rfl : k = 4 := by omega
      obtain rfl : i = -1 := by omega
      have x2 : x < 18446744073709551616 := by simpa using x1
      have y2 : y < 18446744073709551616 := by simpa using y1
      have E8 : Hid (sv d 8 = x * 18446744073709551616 + y) := by unfold Hid; rw [HX.out, HY.out]; exact sv_eight d
      clear x1 y1 HX HY hi
      go_wp2
      go_loop [6] (fun s6 => ∃ j : Nat, 8 ≤ j ∧ j ≤ 20 ∧ s6 = .int .i64 j ∧ Hid (∀ i, 8 ≤ i → i < j → d i = 0)) (fun s6 => 20 - (intOf s6).toNat)
      case atStart => exact ⟨8, by omega, by omega, rfl, fun i h1 h2 => by omega⟩
      case round =>
        obtain ⟨j, j8, j20, rfl, HZ⟩ := hrel
        by_cases hj : j < 20
        · have cj := (HD j hj).1
          have dj := hd j
          have m0 : (0 : Int) ≤ (j : Int) := by omega
          have m1 : (j : Int) < 20 := by omega
          by_cases hz : d j = 0
          · have hzb : (d j == 0) = true := by simp [hz]
            have HZ2 : Hid (∀ i, 8 ≤ i → i < j + 1 → d i = 0) := fun i h1 h2 => by
              by_cases e : i = j
              · rw [e]; exact hz
              · exact HZ.out i h1 (by omega)
            rw [hz] at cj
            clear hz hzb
            go_wp2
            go_round
            case rel => exact ⟨j + 1, by omega, by omega, by go_num, HZ2⟩
            case measure => simp [intOf]; omega
          · have hzb : (d j == 0) = false := by simp [hz]
            have big : Hid (340282366920938463463374607431768211456 ≤ sv d 20) := sv_big d hd 20 j j8 hj hz
            clear hz
            go_wp2
            refine bodyPost_ret (v := .tuple #[.agg #[.int .u64 0, .int .u64 0], .bool false]) (by simp [results, Tryd.results57, go_sem, r0, r1]) rfl ⟨_, _, Or.inl ⟨rfl, ⟨by omega, by omega, by omega, by omega⟩, Or.inr ⟨rfl, rfl, rfl, big.out⟩, ?_⟩⟩
            go_grown
        · obtain rfl : j = 20 := by omega
          have E20 : Hid (x * 18446744073709551616 + y = sv d 20) := by unfold Hid; rw [sv_zero_up d 20 HZ.out (by omega)]; exact E8.out.symm
          clear HZ HD
          go_wp2
          refine bodyPost_ret (v := .tuple #[.agg #[.int .u64 x, .int .u64 y], .bool true]) (by simp [results, Tryd.results57, go_sem, r0, r1]) rfl ⟨_, _, Or.inr ⟨rfl, ⟨x0, x2, y0, y2⟩, Or.inl ⟨rfl, E20.out⟩, ?_⟩⟩
          go_grown

end Go.Proofs.YtaeejemknmjglaaDoor
