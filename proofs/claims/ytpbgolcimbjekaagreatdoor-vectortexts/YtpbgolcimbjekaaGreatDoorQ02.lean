/-
  The contract of math/bits.Div64 at this program: where the high word lies below the divisor, the quotient and the rest of two words by one. Conditions: 0 <= hi < y, all below 2^64.
  Plain facts on numbers of two words: sums, differences, products, shifts. No condition but those that each fact names; no program is spoken of.
-/
import Derived.Test.YtpbgolcimbjekaaGreatDoorQ01
import Derived.Deep.QuietTactic
import Derived.BigQuiet
import Derived.Shelf.Spec.BitsCarry
namespace Go.Proofs.YtpbgolcimbjekaaGreatDoor
open Go.RowKit

set_option maxHeartbeats 1000000 in
theorem div64_short (lo y : Int) (w : World) (y0 : 0 < y) (y1 : y < 18446744073709551616) (l0 : 0 ≤ lo) (l1 : lo < 18446744073709551616) :
    Calls Tryz.prog 85 #[.int .u64 0, .int .u64 lo, .int .u64 y] w fun e w' => e = .returned (.tuple #[.int .u64 (lo / y), .int .u64 (lo % y)]) ∧ ∃ n, w' = w.drewN n := by
  have e0 : ¬ y = 0 := by omega
  go_enter Tryz.func85, Tryz.ntmps85
  go_wp2
  go_quiet (fail)
  go_wp2
  go_ret2
  exact ⟨rfl, _, rfl⟩

theorem rem_wrap (U x : Int) (h0 : 0 ≤ U - x) (h1 : U - x < 18446744073709551616) (_U0 : 0 ≤ U) (_U1 : U < 18446744073709551616) : IntKind.u64.wrap (U - IntKind.u64.wrap x) = U - x := by
  rw [IntKind.wrap_u64, IntKind.wrap_u64]; omega

theorem rem_wrap2 (U d x R : Int) (h : U * 4294967296 + d - x = R) (h0 : 0 ≤ R) (h1 : R < 18446744073709551616) :
    IntKind.u64.wrap (IntKind.u64.wrap (IntKind.u64.wrap (U * 4294967296) + d) - IntKind.u64.wrap x) = R := by
  simp only [IntKind.wrap_u64]; omega

set_option maxHeartbeats 2000000 in
theorem div64_walk (hi lo y : Int) (w : World) (y1 : y < 18446744073709551616) (_l0 : 0 ≤ lo) (_l1 : lo < 18446744073709551616) (h0 : 0 < hi) (h1 : hi < y)
    (Y Yh Yl U L Lh Ll Q1 R1 Q0 R0 : Int) (EY : IntKind.u64.wrap (y * 2 ^ (64 - bitLen y.toNat)) = Y) (Y0 : 9223372036854775808 ≤ Y) (Y1 : Y < 18446744073709551616)
    (EYh : Y / 4294967296 = Yh) (EYl : bits BinOp.and IntKind.u64 Y 4294967295 = Yl) (HY : Hid (Y = Yh * 4294967296 + Yl)) (Yh0 : 2147483648 ≤ Yh) (Yh1 : Yh < 4294967296) (Yl0 : 0 ≤ Yl) (Yl1 : Yl < 4294967296)
    (EU : bits BinOp.or IntKind.u64 (IntKind.u64.wrap (hi * 2 ^ (64 - bitLen y.toNat))) (lo / 2 ^ (64 - (64 - bitLen y.toNat))) = U) (U0 : 0 ≤ U) (U1 : U < Y)
    (EL : IntKind.u64.wrap (lo * 2 ^ (64 - bitLen y.toNat)) = L) (_L0 : 0 ≤ L) (_L1 : L < 18446744073709551616)
    (ELh : L / 4294967296 = Lh) (ELl : bits BinOp.and IntKind.u64 L 4294967295 = Ll) (Lh0 : 0 ≤ Lh) (Lh1 : Lh < 4294967296) (Ll0 : 0 ≤ Ll) (Ll1 : Ll < 4294967296)
    (A0 : 0 ≤ Q1) (A1 : Q1 < 4294967296) (B0 : 0 ≤ R1) (B1 : R1 < Y) (A2 : Q1 * Y ≤ U * 4294967296 + Lh) (A3 : U * 4294967296 + Lh < (Q1 + 1) * Y) (A4 : Hid (U * 4294967296 + Lh - Q1 * Y = R1))
    (C0 : 0 ≤ Q0) (C1 : Q0 < 4294967296) (D0 : 0 ≤ R0) (D1 : R0 < Y) (C2 : Q0 * Y ≤ R1 * 4294967296 + Ll) (C3 : R1 * 4294967296 + Ll < (Q0 + 1) * Y) (C4 : Hid (R1 * 4294967296 + Ll - Q0 * Y = R0)) :
    Calls Tryz.prog 85 #[.int .u64 hi, .int .u64 lo, .int .u64 y] w fun e w' => e = .returned (.tuple #[.int .u64 (Q1 * 4294967296 + Q0), .int .u64 (R0 / 2 ^ (64 - bitLen y.toNat))]) ∧ w' = w := by
  have e0 : ¬ y = 0 := by omega
  have hb : bitLen y.toNat ≤ 64 := bitLen_le64 y.toNat (by omega)
  have fst := kd_first U Lh Y Yh Yl Q1 HY.out Yl0 (by omega) Lh1 A0 A2
  have top := kd_top U Y Yh Yl HY.out Yl1 Yh0 U1
  obtain ⟨rs1, rs2, rs3⟩ := kd_rest U Yh (by omega)
  have ER1 : IntKind.u64.wrap (IntKind.u64.wrap (IntKind.u64.wrap (U * 4294967296) + Lh) - IntKind.u64.wrap (Q1 * Y)) = R1 := rem_wrap2 _ _ _ _ A4.out B0 (by omega)
  have ER0 : IntKind.u64.wrap (IntKind.u64.wrap (IntKind.u64.wrap (R1 * 4294967296) + Ll) - IntKind.u64.wrap (Q0 * Y)) = R0 := rem_wrap2 _ _ _ _ C4.out D0 (by omega)
  have RS : Hid (U / Yh * Yh + (U - U / Yh * Yh) = U) := rs1
  clear rs1
  go_enter Tryz.func85, Tryz.ntmps85
  go_wp2_with (go_at_call 98; refine (lead_any _ _ (by omega) (by omega)).mono ?_; rintro e w' ⟨rfl, rfl⟩)
  go_loop [15, 16] (fun q r => ∃ a b : Int, q = .int .u64 a ∧ r = .int .u64 b ∧ Q1 ≤ a ∧ a ≤ 4294967297 ∧ 0 ≤ b ∧ b < 4294967296 ∧ a * Yh + b = U) (fun q _ => (intOf q).toNat)
  case atStart => exact ⟨_, _, rfl, rfl, fst, top, by rw [rem_wrap U _ rs2 (by omega) U0 (by omega)]; omega, by rw [rem_wrap U _ rs2 (by omega) U0 (by omega)]; omega, by rw [rem_wrap U _ rs2 (by omega) U0 (by omega)]; exact RS.out⟩
  case round =>
    obtain ⟨a, b, rfl, rfl, i1, i2, i3, i4, i5⟩ := hrel
    have I5 : Hid (a * Yh + b = U) := i5
    clear i5
    by_cases c : (4294967296 ≤ a ∨ 4294967296 * b + Lh < a * Yl) ∧ b + Yh < 4294967296
    · obtain ⟨c, c3⟩ := c
      have more : Q1 + 1 ≤ a := by
        rcases c with c | c
        · omega
        · exact kd_more U Lh Y Yh Yl Q1 a b HY.out (by omega) A2 I5.out c
      have E : Hid ((a - 1) * Yh + (b + Yh) = U) := by unfold Hid; rw [Int.sub_mul]; have := I5.out; omega
      by_cases c1 : 4294967296 ≤ a
      · clear c
        go_wp2
        go_round
        case rel => exact ⟨a - 1, b + Yh, rfl, rfl, by omega, by omega, by omega, by omega, E.out⟩
        case measure => simp [intOf]; omega
      · have p1 := kd_prod a Yl (by omega) (by omega) Yl0 Yl1
        have c2 : 4294967296 * b + Lh < a * Yl := by omega
        clear c
        go_wp2
        go_round
        case rel => exact ⟨a - 1, b + Yh, rfl, rfl, by omega, by omega, by omega, by omega, E.out⟩
        case measure => simp [intOf]; omega
    · have hx : (4294967296 ≤ a ∧ 4294967296 ≤ b + Yh ∧ a - 1 = Q1) ∨ (¬ 4294967296 ≤ a ∧ 4294967296 * b + Lh < a * Yl ∧ 4294967296 ≤ b + Yh ∧ a - 1 = Q1) ∨ (¬ 4294967296 ≤ a ∧ ¬ 4294967296 * b + Lh < a * Yl ∧ a = Q1) := by
        have E : (a - 1) * Yh + (b + Yh) = U := by rw [Int.sub_mul]; have := I5.out; omega
        have lowE : 4294967296 ≤ b + Yh → Q1 ≤ a - 1 → a - 1 = Q1 := fun h3 h4 => kd_end U Lh Y Yh Yl Q1 (a - 1) (b + Yh) HY.out (by omega) A3 E (kd_low _ _ _ _ (by omega) Yl0 Yl1 h3 Lh0) h4
        by_cases c1 : 4294967296 ≤ a
        · exact Or.inl ⟨c1, by omega, lowE (by omega) (by omega)⟩
        · by_cases c2 : 4294967296 * b + Lh < a * Yl
          · have more := kd_more U Lh Y Yh Yl Q1 a b HY.out (by omega) A2 I5.out c2
            exact Or.inr (Or.inl ⟨c1, c2, by omega, lowE (by omega) (by omega)⟩)
          · exact Or.inr (Or.inr ⟨c1, c2, kd_end U Lh Y Yh Yl Q1 a b HY.out (by omega) A3 I5.out (by omega) i1⟩)
      clear c
      have fst0 := kd_first R1 Ll Y Yh Yl Q0 HY.out Yl0 (by omega) Ll1 C0 C2
      have top0 := kd_top R1 Y Yh Yl HY.out Yl1 Yh0 B1
      obtain ⟨rs1, rt2, rt3⟩ := kd_rest R1 Yh (by omega)
      have RT : Hid (R1 / Yh * Yh + (R1 - R1 / Yh * Yh) = R1) := rs1
      clear rs1
      rcases hx with ⟨c1, c3, hq⟩ | ⟨c1, c2, c3, hq⟩ | ⟨c1, c2, rfl⟩
      all_goals
        try have p1 := kd_prod a Yl (by omega) (by omega) Yl0 Yl1
        clear i1 i2 I5
        go_wp2
        go_loop [18, 16] (fun q r => ∃ a b : Int, q = .int .u64 a ∧ r = .int .u64 b ∧ Q0 ≤ a ∧ a ≤ 4294967297 ∧ 0 ≤ b ∧ b < 4294967296 ∧ a * Yh + b = R1) (fun q _ => (intOf q).toNat)
        case atStart => exact ⟨_, _, rfl, rfl, fst0, top0, by rw [rem_wrap R1 _ rt2 (by omega) B0 (by omega)]; omega, by rw [rem_wrap R1 _ rt2 (by omega) B0 (by omega)]; omega, by rw [rem_wrap R1 _ rt2 (by omega) B0 (by omega)]; exact RT.out⟩
        case round =>
          obtain ⟨c, d, rfl, rfl, i1, i2, i3', i4', i5⟩ := hrel
          have I5 : Hid (c * Yh + d = R1) := i5
          clear i5
          by_cases k : (4294967296 ≤ c ∨ 4294967296 * d + Ll < c * Yl) ∧ d + Yh < 4294967296
          · obtain ⟨k, k3⟩ := k
            have more : Q0 + 1 ≤ c := by
              rcases k with k | k
              · omega
              · exact kd_more R1 Ll Y Yh Yl Q0 c d HY.out (by omega) C2 I5.out k
            have E : Hid ((c - 1) * Yh + (d + Yh) = R1) := by unfold Hid; rw [Int.sub_mul]; have := I5.out; omega
            by_cases k1 : 4294967296 ≤ c
            · clear k
              go_wp2
              go_round
              case rel => exact ⟨c - 1, d + Yh, rfl, rfl, by omega, by omega, by omega, by omega, E.out⟩
              case measure => simp [intOf]; omega
            · have p2 := kd_prod c Yl (by omega) (by omega) Yl0 Yl1
              have k2 : 4294967296 * d + Ll < c * Yl := by omega
              clear k
              go_wp2
              go_round
              case rel => exact ⟨c - 1, d + Yh, rfl, rfl, by omega, by omega, by omega, by omega, E.out⟩
              case measure => simp [intOf]; omega
          · have hx : (4294967296 ≤ c ∧ 4294967296 ≤ d + Yh ∧ c - 1 = Q0) ∨ (¬ 4294967296 ≤ c ∧ 4294967296 * d + Ll < c * Yl ∧ 4294967296 ≤ d + Yh ∧ c - 1 = Q0) ∨ (¬ 4294967296 ≤ c ∧ ¬ 4294967296 * d + Ll < c * Yl ∧ c = Q0) := by
              have E : (c - 1) * Yh + (d + Yh) = R1 := by rw [Int.sub_mul]; have := I5.out; omega
              have lowE : 4294967296 ≤ d + Yh → Q0 ≤ c - 1 → c - 1 = Q0 := fun h3 h4 => kd_end R1 Ll Y Yh Yl Q0 (c - 1) (d + Yh) HY.out (by omega) C3 E (kd_low _ _ _ _ (by omega) Yl0 Yl1 h3 Ll0) h4
              by_cases k1 : 4294967296 ≤ c
              · exact Or.inl ⟨k1, by omega, lowE (by omega) (by omega)⟩
              · by_cases k2 : 4294967296 * d + Ll < c * Yl
                · have more := kd_more R1 Ll Y Yh Yl Q0 c d HY.out (by omega) C2 I5.out k2
                  exact Or.inr (Or.inl ⟨k1, k2, by omega, lowE (by omega) (by omega)⟩)
                · exact Or.inr (Or.inr ⟨k1, k2, kd_end R1 Ll Y Yh Yl Q0 c d HY.out (by omega) C3 I5.out (by omega) i1⟩)
            clear k
            rcases hx with ⟨k1, k3, hc⟩ | ⟨k1, k2, k3, hc⟩ | ⟨k1, k2, rfl⟩
            all_goals
              try have p2 := kd_prod c Yl (by omega) (by omega) Yl0 Yl1
              clear i1 i2 I5
              go_wp2
              go_ret2
              exact ⟨rfl, rfl⟩

theorem shr_nat (lo : Int) (l0 : 0 ≤ lo) (k : Nat) : lo / 2 ^ k = ((lo.toNat / 2 ^ k : Nat) : Int) := by
  obtain ⟨n, rfl⟩ := Int.eq_ofNat_of_zero_le l0
  simp

/-- Div64: where the high word lies below the divisor: the quotient and the rest; nothing but what is drawn turns. -/
theorem div64_any (hi lo y : Int) (w : World) (y1 : y < 18446744073709551616) (l0 : 0 ≤ lo) (l1 : lo < 18446744073709551616) (h0 : 0 ≤ hi) (h1 : hi < y) :
    Calls Tryz.prog 85 #[.int .u64 hi, .int .u64 lo, .int .u64 y] w fun e w' => e = .returned (.tuple #[.int .u64 ((hi * 18446744073709551616 + lo) / y), .int .u64 ((hi * 18446744073709551616 + lo) % y)]) ∧ ∃ n, w' = w.drewN n := by
  by_cases hz : hi = 0
  · subst hz
    have := div64_short lo y w (by omega) y1 l0 l1
    simpa using this
  · obtain ⟨h, rfl⟩ := Int.eq_ofNat_of_zero_le h0
    obtain ⟨l, rfl⟩ := Int.eq_ofNat_of_zero_le l0
    obtain ⟨u, rfl⟩ := Int.eq_ofNat_of_zero_le (show 0 ≤ y by omega)
    have nm := norm_nat u (by omega) (by omega)
    have hb := bitLen_le64 u (by omega)
    have hl : h * 2 ^ (64 - bitLen u) < 18446744073709551616 := by
      have : h * 2 ^ (64 - bitLen u) ≤ u * 2 ^ (64 - bitLen u) := Nat.mul_le_mul_right _ (by omega)
      omega
    obtain ⟨up1, up2⟩ := up_nat h l (64 - bitLen u) (by omega) (by omega) hl
    have hp : (0 : Int) < ((2 ^ (64 - bitLen u) : Nat) : Int) := by have := Nat.two_pow_pos (64 - bitLen u); omega
    have hp2 : ((2 : Int) ^ (64 - bitLen u)) = ((2 ^ (64 - bitLen u) : Nat) : Int) := by simp
    generalize hY : u * 2 ^ (64 - bitLen u) = Y at *
    generalize hU : h * 2 ^ (64 - bitLen u) + l / 2 ^ (64 - (64 - bitLen u)) = U at *
    generalize hL : l * 2 ^ (64 - bitLen u) % 18446744073709551616 = L at *
    have hL1 : L < 18446744073709551616 := by rw [← hL]; exact Nat.mod_lt _ (by omega)
    have hU1 : U < Y := by
      have a : (h * 18446744073709551616 + l) * 2 ^ (64 - bitLen u) < (u * 18446744073709551616) * 2 ^ (64 - bitLen u) := Nat.mul_lt_mul_of_pos_right (by omega) (Nat.two_pow_pos _)
      rw [Nat.mul_right_comm, hY] at a
      omega
    obtain ⟨Q1, R1, A0, A1, B0, B1, A2, A3, A4⟩ := kd_quot U (L / 4294967296 : Nat) Y (by omega) (by omega) (by omega) (by omega) (by omega)
    obtain ⟨Q0, R0, C0, C1, D0, D1, C2, C3, C4⟩ := kd_quot R1 (L % 4294967296 : Nat) Y (by omega) (by omega) (by omega) (by omega) (by omega)
    obtain ⟨w1, w2⟩ := kd_whole ((h * 18446744073709551616 + l : Nat) : Int) u ((2 ^ (64 - bitLen u) : Nat) : Int) Y U L (L / 4294967296 : Nat) (L % 4294967296 : Nat) Q1 R1 Q0 R0 hp (by omega)
      (by rw [← hY]; simp) (by rw [← Int.natCast_mul, up2]; simp) (by omega) A4 C4 D0 D1
    have wk := div64_walk h l u w (by omega) (by omega) (by omega) (by omega) (by omega) Y (Y / 4294967296 : Nat) (Y % 4294967296 : Nat) U L (L / 4294967296 : Nat) (L % 4294967296 : Nat) Q1 R1 Q0 R0
      (by rw [Int.toNat_natCast, hp2, ← Int.natCast_mul, hY]; exact Mul64.wrapN _ (by omega)) (by omega) (by omega)
      (by omega) (Mul64.maskN _ (by omega)) (show _ = _ by omega) (by omega) (by omega) (by omega) (by omega)
      (by rw [Int.toNat_natCast, hp2, ← Int.natCast_mul, Mul64.wrapM, shr_nat _ (by omega), Int.toNat_natCast, bits_or_u64_nat _ _ (Nat.mod_lt _ (by omega)) (by have := Nat.div_le_self l (2 ^ (64 - (64 - bitLen u))); omega), up1]) (by omega) (by omega)
      (by rw [Int.toNat_natCast, hp2, ← Int.natCast_mul, Mul64.wrapM, hL]) (by omega) (by omega)
      (by omega) (Mul64.maskN _ (by omega)) (by omega) (by omega) (by omega) (by omega)
      A0 A1 B0 B1 A2 A3 A4 C0 C1 D0 D1 C2 C3 C4
    refine wk.mono ?_
    rintro e w' ⟨rfl, rfl⟩
    refine ⟨?_, 0, rfl⟩
    have e1 : ((h : Int) * 18446744073709551616 + l) = ((h * 18446744073709551616 + l : Nat) : Int) := by simp
    rw [e1, w1, w2, Int.toNat_natCast, hp2]

end Go.Proofs.YtpbgolcimbjekaaGreatDoor

namespace Go.Proofs.YtpbgolcimbjekaaGreatDoor

/-- The two words of a number. -/
def Wok (h l : Int) : Prop := 0 ≤ h ∧ h < 18446744073709551616 ∧ 0 ≤ l ∧ l < 18446744073709551616

theorem bitLen_le128 (x : Nat) (h : x < 340282366920938463463374607431768211456) : bitLen x ≤ 128 := by
  unfold bitLen
  split
  · omega
  · rename_i h0
    have := (Nat.log2_lt h0).2 (show x < 2 ^ 128 from h)
    omega

theorem bitLen_high (h l : Int) (h0 : 0 < h) (l0 : 0 ≤ l) (l1 : l < 18446744073709551616) : 64 + (bitLen h.toNat : Int) = (bitLen (h * 18446744073709551616 + l).toNat : Int) := by
  have e : (h * 18446744073709551616 + l).toNat / 2 ^ 64 = h.toNat := by omega
  have := bitLen_shift (h * 18446744073709551616 + l).toNat 64 (by omega)
  rw [e] at this
  omega

theorem right_low (ah al n : Int) (a0 : 0 ≤ al) (a1 : al < 18446744073709551616) (b0 : 0 ≤ ah) (b1 : ah < 18446744073709551616) (n0 : 0 ≤ n) (n1 : n < 64) :
    Wok (ah / 2 ^ n.toNat) (bits BinOp.or IntKind.u64 (al / 2 ^ n.toNat) (IntKind.u64.wrap (ah * 2 ^ (64 - n).toNat))) ∧
    ah / 2 ^ n.toNat * 18446744073709551616 + bits BinOp.or IntKind.u64 (al / 2 ^ n.toNat) (IntKind.u64.wrap (ah * 2 ^ (64 - n).toNat)) = (ah * 18446744073709551616 + al) / 2 ^ n.toNat := by
  obtain ⟨h, rfl⟩ := Int.eq_ofNat_of_zero_le b0
  obtain ⟨l, rfl⟩ := Int.eq_ofNat_of_zero_le a0
  obtain ⟨k, rfl⟩ := Int.eq_ofNat_of_zero_le n0
  have e1 : ((64 : Int) - k).toNat = 64 - k := by omega
  rw [e1, Int.toNat_natCast]
  have p : ∀ j : Nat, ((2 : Int) ^ j) = ((2 ^ j : Nat) : Int) := fun j => by simp
  rw [p, p, ← Int.natCast_ediv, ← Int.natCast_ediv, ← Int.natCast_mul, show IntKind.u64.wrap (((h * 2 ^ (64 - k) : Nat)) : Int) = ((h * 2 ^ (64 - k) % 18446744073709551616 : Nat) : Int) from by rw [IntKind.wrap_u64]; omega]
  obtain ⟨c1, c2⟩ := right_nat h l k (by omega) (by omega) (by omega)
  have hd := Nat.div_le_self l (2 ^ k)
  have hh := Nat.div_le_self h (2 ^ k)
  rw [bits_or_u64_nat _ _ (by omega) (Nat.mod_lt _ (by omega))]
  refine ⟨⟨by omega, by omega, by omega, by omega⟩, ?_⟩
  rw [show ((h : Int) * 18446744073709551616 + (l : Int)) = ((h * 18446744073709551616 + l : Nat) : Int) by simp, ← Int.natCast_ediv, ← c2]
  simp

theorem right_high (ah al n : Int) (a0 : 0 ≤ al) (a1 : al < 18446744073709551616) (b0 : 0 ≤ ah) (b1 : ah < 18446744073709551616) (n1 : 64 ≤ n) :
    Wok 0 (ah / 2 ^ min (n - 64).toNat 64) ∧ 0 * 18446744073709551616 + ah / 2 ^ min (n - 64).toNat 64 = (ah * 18446744073709551616 + al) / 2 ^ n.toNat := by
  obtain ⟨h, rfl⟩ := Int.eq_ofNat_of_zero_le b0
  obtain ⟨l, rfl⟩ := Int.eq_ofNat_of_zero_le a0
  have p : ∀ j : Nat, ((2 : Int) ^ j) = ((2 ^ j : Nat) : Int) := fun j => by simp
  obtain ⟨k, rfl⟩ := Int.eq_ofNat_of_zero_le (show 0 ≤ n by omega)
  obtain ⟨j, rfl⟩ : ∃ j, k = 64 + j := ⟨k - 64, by omega⟩
  rw [show (((64 + j : Nat) : Int) - 64).toNat = j by omega, Int.toNat_natCast, p, p, ← Int.natCast_ediv]
  have hh := Nat.div_le_self h (2 ^ min j 64)
  refine ⟨⟨by omega, by omega, Int.natCast_nonneg _, by omega⟩, ?_⟩
  rw [show ((h : Int) * 18446744073709551616 + (l : Int)) = ((h * 18446744073709551616 + l : Nat) : Int) by simp, ← Int.natCast_ediv, Nat.pow_add, ← Nat.div_div_eq_div_mul, show (h * 18446744073709551616 + l) / 2 ^ 64 = h by omega]
  by_cases hj : j ≤ 64
  · rw [Nat.min_eq_left hj]; omega
  · rw [Nat.min_eq_right (by omega), Nat.div_eq_of_lt (by omega), Nat.div_eq_of_lt]
    · simp
    · have : 2 ^ 64 ≤ 2 ^ j := Nat.pow_le_pow_right (by omega) (by omega)
      omega

theorem left_fits (V : Int) (n : Int) (hV : 0 < V) (n0 : 0 ≤ n) : ((bitLen V.toNat : Int) ≤ 128 - n ↔ V * 2 ^ n.toNat < 340282366920938463463374607431768211456) := by
  obtain ⟨v, rfl⟩ := Int.eq_ofNat_of_zero_le (show 0 ≤ V by omega)
  obtain ⟨k, rfl⟩ := Int.eq_ofNat_of_zero_le n0
  rw [Int.toNat_natCast, Int.toNat_natCast]
  have p : ((2 : Int) ^ k) = ((2 ^ k : Nat) : Int) := by simp
  rw [p, ← Int.natCast_mul]
  obtain ⟨h1, h2⟩ := bitLen_spec v
  have h3 := h2 (by omega)
  have h5 : 0 < bitLen v := by unfold bitLen; split <;> omega
  have hq : 0 < 2 ^ k := Nat.two_pow_pos _
  constructor
  · intro h
    have a1 : v * 2 ^ k < 2 ^ bitLen v * 2 ^ k := Nat.mul_lt_mul_of_pos_right h1 hq
    rw [← Nat.pow_add] at a1
    have a2 : 2 ^ (bitLen v + k) ≤ 2 ^ 128 := Nat.pow_le_pow_right (by omega) (by omega)
    omega
  · intro h
    refine Decidable.byContradiction fun hn => ?_
    have a1 : 2 ^ (bitLen v - 1) * 2 ^ k ≤ v * 2 ^ k := Nat.mul_le_mul_right _ h3
    rw [← Nat.pow_add] at a1
    have a2 : 2 ^ 128 ≤ 2 ^ (bitLen v - 1 + k) := Nat.pow_le_pow_right (by omega) (by omega)
    omega

theorem left_low (ah al n : Int) (a0 : 0 ≤ al) (a1 : al < 18446744073709551616) (b0 : 0 ≤ ah) (n0 : 0 ≤ n) (n1 : n < 64)
    (hf : (ah * 18446744073709551616 + al) * 2 ^ n.toNat < 340282366920938463463374607431768211456) :
    Wok (bits BinOp.or IntKind.u64 (IntKind.u64.wrap (ah * 2 ^ n.toNat)) (al / 2 ^ (64 - n).toNat)) (IntKind.u64.wrap (al * 2 ^ n.toNat)) ∧
    bits BinOp.or IntKind.u64 (IntKind.u64.wrap (ah * 2 ^ n.toNat)) (al / 2 ^ (64 - n).toNat) * 18446744073709551616 + IntKind.u64.wrap (al * 2 ^ n.toNat) = (ah * 18446744073709551616 + al) * 2 ^ n.toNat := by
  obtain ⟨h, rfl⟩ := Int.eq_ofNat_of_zero_le b0
  obtain ⟨l, rfl⟩ := Int.eq_ofNat_of_zero_le a0
  obtain ⟨k, rfl⟩ := Int.eq_ofNat_of_zero_le n0
  have e1 : ((64 : Int) - k).toNat = 64 - k := by omega
  rw [Int.toNat_natCast] at hf ⊢
  rw [e1]
  have p : ∀ j : Nat, ((2 : Int) ^ j) = ((2 ^ j : Nat) : Int) := fun j => by simp
  rw [show ((h : Int) * 18446744073709551616 + (l : Int)) = ((h * 18446744073709551616 + l : Nat) : Int) by simp] at hf ⊢
  rw [p, ← Int.natCast_mul] at hf
  have hw : ∀ a : Nat, IntKind.u64.wrap (a : Int) = ((a % 18446744073709551616 : Nat) : Int) := fun a => by rw [IntKind.wrap_u64]; omega
  rw [p, p, ← Int.natCast_ediv, ← Int.natCast_mul, ← Int.natCast_mul, ← Int.natCast_mul, hw, hw]
  have hh : h * 2 ^ k < 18446744073709551616 := by
    have : h * 2 ^ k * 18446744073709551616 ≤ (h * 18446744073709551616 + l) * 2 ^ k := by
      rw [Nat.mul_right_comm]; exact Nat.mul_le_mul_right _ (by omega)
    omega
  obtain ⟨c1, c2⟩ := up_nat h l k (by omega) (by omega) hh
  have hd := Nat.div_le_self l (2 ^ (64 - k))
  rw [bits_or_u64_nat _ _ (Nat.mod_lt _ (by omega)) (by omega), c1, c2]
  have hm : l * 2 ^ k % 18446744073709551616 < 18446744073709551616 := Nat.mod_lt _ (by omega)
  have hs : h * 2 ^ k + l / 2 ^ (64 - k) < 18446744073709551616 := by rw [c2] at hf; omega
  refine ⟨⟨by omega, by omega, by omega, by omega⟩, by simp⟩

theorem left_high (ah al n : Int) (a0 : 0 ≤ al) (b0 : 0 ≤ ah) (n1 : 64 ≤ n)
    (hf : (ah * 18446744073709551616 + al) * 2 ^ n.toNat < 340282366920938463463374607431768211456) :
    ah = 0 ∧ Wok (IntKind.u64.wrap (al * 2 ^ (n - 64).toNat)) 0 ∧ IntKind.u64.wrap (al * 2 ^ (n - 64).toNat) * 18446744073709551616 + 0 = (ah * 18446744073709551616 + al) * 2 ^ n.toNat := by
  obtain ⟨h, rfl⟩ := Int.eq_ofNat_of_zero_le b0
  obtain ⟨l, rfl⟩ := Int.eq_ofNat_of_zero_le a0
  have p : ∀ j : Nat, ((2 : Int) ^ j) = ((2 ^ j : Nat) : Int) := fun j => by simp
  obtain ⟨k, rfl⟩ := Int.eq_ofNat_of_zero_le (show 0 ≤ n by omega)
  obtain ⟨j, rfl⟩ : ∃ j, k = 64 + j := ⟨k - 64, by omega⟩
  rw [show (((64 + j : Nat) : Int) - 64).toNat = j by omega]
  rw [Int.toNat_natCast] at hf ⊢
  rw [show ((h : Int) * 18446744073709551616 + (l : Int)) = ((h * 18446744073709551616 + l : Nat) : Int) by simp] at hf ⊢
  simp only [p, ← Int.natCast_mul, Nat.pow_add] at hf ⊢
  have hq : 0 < 2 ^ j := Nat.two_pow_pos _
  have e : (h * 18446744073709551616 + l) * (2 ^ 64 * 2 ^ j) = (h * 2 ^ j * 18446744073709551616 + l * 2 ^ j) * 18446744073709551616 := by
    rw [show (2 : Nat) ^ 64 = 18446744073709551616 from rfl]; grind
  rw [e] at hf ⊢
  have hz : h = 0 := by
    have : h ≤ h * 2 ^ j := Nat.le_mul_of_pos_right _ hq
    omega
  subst hz
  rw [IntKind.wrap_u64]
  refine ⟨rfl, ⟨by omega, by omega, by omega, by omega⟩, by omega⟩

theorem add64_carry (x y c : Int) (hx : 0 ≤ x) (x1 : x < 18446744073709551616) (hy : 0 ≤ y) (y1 : y < 18446744073709551616) (hc0 : 0 ≤ c) (hc : c ≤ 1) :
    ∃ s k : Int, 0 ≤ s ∧ s < 18446744073709551616 ∧ 0 ≤ k ∧ k ≤ 1 ∧ s + k * 18446744073709551616 = x + y + c ∧ s = (x + y + c) % 18446744073709551616 ∧ k = (x + y + c) / 18446744073709551616 :=
  ⟨(x + y + c) % 18446744073709551616, (x + y + c) / 18446744073709551616, by omega, by omega, by omega, by omega, by omega, rfl, rfl⟩

theorem times_two (ah al u hi lo : Int) (p : Int) (hp : p = al * u / 18446744073709551616) (hlo : lo = al * u % 18446744073709551616) (hhi : hi = ah * u) :
    (ah * 18446744073709551616 + al) * u = (hi + p) * 18446744073709551616 + lo := by
  rw [Int.add_mul, Int.mul_right_comm, ← hhi]
  omega

end Go.Proofs.YtpbgolcimbjekaaGreatDoor
