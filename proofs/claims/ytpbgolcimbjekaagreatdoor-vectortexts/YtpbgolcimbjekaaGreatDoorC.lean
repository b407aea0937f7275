/-
  The contract of math/bits.Div64 at this program: where the high word lies below the divisor, the quotient and the rest of two words by one. Conditions: 0 <= hi < y, all below 2^64.
-/
import Derived.Test.YtpbgolcimbjekaaGreatDoorB
import Derived.Test.YtpbgolcimbjekaaGreatDoorD
import Derived.Deep.QuietTactic
import Derived.BigQuiet
namespace Go.Proofs.YtpbgolcimbjekaaGreatDoor
open Go.RowKit

set_option maxHeartbeats 1000000 in
theorem div64_short (lo y : Int) (w : World) (y0 : 0 < y) (y1 : y < 18446744073709551616) (l0 : 0 ≤ lo) (l1 : lo < 18446744073709551616) :
    Calls Tryz.prog 85 #[.int .u64 0, .int .u64 lo, .int .u64 y] w fun e w' => e = .returned (.tuple #[.int .u64 (lo / y), .int .u64 (lo % y)]) ∧ ∃ n, w' = w.drewN n := by
  have e0 : ¬ y = 0 := by omega
  go_enter Tryz.func85, Tryz.ntmps85
  go_wp2
  go_quiet (fail)
  go_wp2
  go_ret2
  exact ⟨rfl, _, rfl⟩

theorem rem_wrap (U x : Int) (h0 : 0 ≤ U - x) (h1 : U - x < 18446744073709551616) (_U0 : 0 ≤ U) (_U1 : U < 18446744073709551616) : IntKind.u64.wrap (U - IntKind.u64.wrap x) = U - x := by
  rw [IntKind.wrap_u64, IntKind.wrap_u64]; omega

theorem rem_wrap2 (U d x R : Int) (h : U * 4294967296 + d - x = R) (h0 : 0 ≤ R) (h1 : R < 18446744073709551616) :
    IntKind.u64.wrap (IntKind.u64.wrap (IntKind.u64.wrap (U * 4294967296) + d) - IntKind.u64.wrap x) = R := by
  simp only [IntKind.wrap_u64]; omega

set_option maxHeartbeats 2000000 in
theorem div64_walk (hi lo y : Int) (w : World) (y1 : y < 18446744073709551616) (_l0 : 0 ≤ lo) (_l1 : lo < 18446744073709551616) (h0 : 0 < hi) (h1 : hi < y)
    (Y Yh Yl U L Lh Ll Q1 R1 Q0 R0 : Int) (EY : IntKind.u64.wrap (y * 2 ^ (64 - bitLen y.toNat)) = Y) (Y0 : 9223372036854775808 ≤ Y) (Y1 : Y < 18446744073709551616)
    (EYh : Y / 4294967296 = Yh) (EYl : bits BinOp.and IntKind.u64 Y 4294967295 = Yl) (HY : Hid (Y = Yh * 4294967296 + Yl)) (Yh0 : 2147483648 ≤ Yh) (Yh1 : Yh < 4294967296) (Yl0 : 0 ≤ Yl) (Yl1 : Yl < 4294967296)
    (EU : bits BinOp.or IntKind.u64 (IntKind.u64.wrap (hi * 2 ^ (64 - bitLen y.toNat))) (lo / 2 ^ (64 - (64 - bitLen y.toNat))) = U) (U0 : 0 ≤ U) (U1 : U < Y)
    (EL : IntKind.u64.wrap (lo * 2 ^ (64 - bitLen y.toNat)) = L) (_L0 : 0 ≤ L) (_L1 : L < 18446744073709551616)
    (ELh : L / 4294967296 = Lh) (ELl : bits BinOp.and IntKind.u64 L 4294967295 = Ll) (Lh0 : 0 ≤ Lh) (Lh1 : Lh < 4294967296) (Ll0 : 0 ≤ Ll) (Ll1 : Ll < 4294967296)
    (A0 : 0 ≤ Q1) (A1 : Q1 < 4294967296) (B0 : 0 ≤ R1) (B1 : R1 < Y) (A2 : Q1 * Y ≤ U * 4294967296 + Lh) (A3 : U * 4294967296 + Lh < (Q1 + 1) * Y) (A4 : Hid (U * 4294967296 + Lh - Q1 * Y = R1))
    (C0 : 0 ≤ Q0) (C1 : Q0 < 4294967296) (D0 : 0 ≤ R0) (D1 : R0 < Y) (C2 : Q0 * Y ≤ R1 * 4294967296 + Ll) (C3 : R1 * 4294967296 + Ll < (Q0 + 1) * Y) (C4 : Hid (R1 * 4294967296 + Ll - Q0 * Y = R0)) :
    Calls Tryz.prog 85 #[.int .u64 hi, .int .u64 lo, .int .u64 y] w fun e w' => e = .returned (.tuple #[.int .u64 (Q1 * 4294967296 + Q0), .int .u64 (R0 / 2 ^ (64 - bitLen y.toNat))]) ∧ w' = w := by
  have e0 : ¬ y = 0 := by omega
  have hb : bitLen y.toNat ≤ 64 := bitLen_le64 y.toNat (by omega)
  have fst := kd_first U Lh Y Yh Yl Q1 HY.out Yl0 (by omega) Lh1 A0 A2
  have top := kd_top U Y Yh Yl HY.out Yl1 Yh0 U1
  obtain ⟨rs1, rs2, rs3⟩ := kd_rest U Yh (by omega)
  have ER1 : IntKind.u64.wrap (IntKind.u64.wrap (IntKind.u64.wrap (U * 4294967296) + Lh) - IntKind.u64.wrap (Q1 * Y)) = R1 := rem_wrap2 _ _ _ _ A4.out B0 (by omega)
  have ER0 : IntKind.u64.wrap (IntKind.u64.wrap (IntKind.u64.wrap (R1 * 4294967296) + Ll) - IntKind.u64.wrap (Q0 * Y)) = R0 := rem_wrap2 _ _ _ _ C4.out D0 (by omega)
  have RS : Hid (U / Yh * Yh + (U - U / Yh * Yh) = U) := rs1
  clear rs1
  go_enter Tryz.func85, Tryz.ntmps85
  go_wp2_with (go_at_call 98; refine (lead_any _ _ (by omega) (by omega)).mono ?_; rintro e w' ⟨rfl, rfl⟩)
  go_loop [15, 16] (fun q r => ∃ a b : Int, q = .int .u64 a ∧ r = .int .u64 b ∧ Q1 ≤ a ∧ a ≤ 4294967297 ∧ 0 ≤ b ∧ b < 4294967296 ∧ a * Yh + b = U) (fun q _ => (intOf q).toNat)
  case atStart => exact ⟨_, _, rfl, rfl, fst, top, by rw [rem_wrap U _ rs2 (by omega) U0 (by omega)]; omega, by rw [rem_wrap U _ rs2 (by omega) U0 (by omega)]; omega, by rw [rem_wrap U _ rs2 (by omega) U0 (by omega)]; exact RS.out⟩
  case round =>
    obtain ⟨a, b, rfl, rfl, i1, i2, i3, i4, i5⟩ := hrel
    have I5 : Hid (a * Yh + b = U) := i5
    clear i5
    by_cases c : (4294967296 ≤ a ∨ 4294967296 * b + Lh < a * Yl) ∧ b + Yh < 4294967296
    · obtain ⟨c, c3⟩ := c
      have more : Q1 + 1 ≤ a := by
        rcases c with c | c
        · omega
        · exact kd_more U Lh Y Yh Yl Q1 a b HY.out (by omega) A2 I5.out c
      have E : Hid ((a - 1) * Yh + (b + Yh) = U) := by unfold Hid; rw [Int.sub_mul]; have := I5.out; omega
      by_cases c1 : 4294967296 ≤ a
      · clear c
        go_wp2
        go_round
        case rel => exact ⟨a - 1, b + Yh, rfl, rfl, by omega, by omega, by omega, by omega, E.out⟩
        case measure => simp [intOf]; omega
      · have p1 := kd_prod a Yl (by omega) (by omega) Yl0 Yl1
        have c2 : 4294967296 * b + Lh < a * Yl := by omega
        clear c
        go_wp2
        go_round
        case rel => exact ⟨a - 1, b + Yh, rfl, rfl, by omega, by omega, by omega, by omega, E.out⟩
        case measure => simp [intOf]; omega
    · have hx : (4294967296 ≤ a ∧ 4294967296 ≤ b + Yh ∧ a - 1 = Q1) ∨ (¬ 4294967296 ≤ a ∧ 4294967296 * b + Lh < a * Yl ∧ 4294967296 ≤ b + Yh ∧ a - 1 = Q1) ∨ (¬ 4294967296 ≤ a ∧ ¬ 4294967296 * b + Lh < a * Yl ∧ a = Q1) := by
        have E : (a - 1) * Yh + (b + Yh) = U := by rw [Int.sub_mul]; have := I5.out; omega
        have lowE : 4294967296 ≤ b + Yh → Q1 ≤ a - 1 → a - 1 = Q1 := fun h3 h4 => kd_end U Lh Y Yh Yl Q1 (a - 1) (b + Yh) HY.out (by omega) A3 E (kd_low _ _ _ _ (by omega) Yl0 Yl1 h3 Lh0) h4
        by_cases c1 : 4294967296 ≤ a
        · exact Or.inl ⟨c1, by omega, lowE (by omega) (by omega)⟩
        · by_cases c2 : 4294967296 * b + Lh < a * Yl
          · have more := kd_more U Lh Y Yh Yl Q1 a b HY.out (by omega) A2 I5.out c2
            exact Or.inr (Or.inl ⟨c1, c2, by omega, lowE (by omega) (by omega)⟩)
          · exact Or.inr (Or.inr ⟨c1, c2, kd_end U Lh Y Yh Yl Q1 a b HY.out (by omega) A3 I5.out (by omega) i1⟩)
      clear c
      have fst0 := kd_first R1 Ll Y Yh Yl Q0 HY.out Yl0 (by omega) Ll1 C0 C2
      have top0 := kd_top R1 Y Yh Yl HY.out Yl1 Yh0 B1
      obtain ⟨rs1, rt2, rt3⟩ := kd_rest R1 Yh (by omega)
      have RT : Hid (R1 / Yh * Yh + (R1 - R1 / Yh * Yh) = R1) := rs1
      clear rs1
      rcases hx with ⟨c1, c3, hq⟩ | ⟨c1, c2, c3, hq⟩ | ⟨c1, c2, rfl⟩
      all_goals
        try have p1 := kd_prod a Yl (by omega) (by omega) Yl0 Yl1
        clear i1 i2 I5
        go_wp2
        go_loop [18, 16] (fun q r => ∃ a b : Int, q = .int .u64 a ∧ r = .int .u64 b ∧ Q0 ≤ a ∧ a ≤ 4294967297 ∧ 0 ≤ b ∧ b < 4294967296 ∧ a * Yh + b = R1) (fun q _ => (intOf q).toNat)
        case atStart => exact ⟨_, _, rfl, rfl, fst0, top0, by rw [rem_wrap R1 _ rt2 (by omega) B0 (by omega)]; omega, by rw [rem_wrap R1 _ rt2 (by omega) B0 (by omega)]; omega, by rw [rem_wrap R1 _ rt2 (by omega) B0 (by omega)]; exact RT.out⟩
        case round =>
          obtain ⟨c, d, rfl, rfl, i1, i2, i3', i4', i5⟩ := hrel
          have I5 : Hid (c * Yh + d = R1) := i5
          clear i5
          by_cases k : (4294967296 ≤ c ∨ 4294967296 * d + Ll < c * Yl) ∧ d + Yh < 4294967296
          · obtain ⟨k, k3⟩ := k
            have more : Q0 + 1 ≤ c := by
              rcases k with k | k
              · omega
              · exact kd_more R1 Ll Y Yh Yl Q0 c d HY.out (by omega) C2 I5.out k
            have E : Hid ((c - 1) * Yh + (d + Yh) = R1) := by unfold Hid; rw [Int.sub_mul]; have := I5.out; omega
            by_cases k1 : 4294967296 ≤ c
            · clear k
              go_wp2
              go_round
              case rel => exact ⟨c - 1, d + Yh, rfl, rfl, by omega, by omega, by omega, by omega, E.out⟩
              case measure => simp [intOf]; omega
            · have p2 := kd_prod c Yl (by omega) (by omega) Yl0 Yl1
              have k2 : 4294967296 * d + Ll < c * Yl := by omega
              clear k
              go_wp2
              go_round
              case rel => exact ⟨c - 1, d + Yh, rfl, rfl, by omega, by omega, by omega, by omega, E.out⟩
              case measure => simp [intOf]; omega
          · have hx : (4294967296 ≤ c ∧ 4294967296 ≤ d + Yh ∧ c - 1 = Q0) ∨ (¬ 4294967296 ≤ c ∧ 4294967296 * d + Ll < c * Yl ∧ 4294967296 ≤ d + Yh ∧ c - 1 = Q0) ∨ (¬ 4294967296 ≤ c ∧ ¬ 4294967296 * d + Ll < c * Yl ∧ c = Q0) := by
              have E : (c - 1) * Yh + (d + Yh) = R1 := by rw [Int.sub_mul]; have := I5.out; omega
              have lowE : 4294967296 ≤ d + Yh → Q0 ≤ c - 1 → c - 1 = Q0 := fun h3 h4 => kd_end R1 Ll Y Yh Yl Q0 (c - 1) (d + Yh) HY.out (by omega) C3 E (kd_low _ _ _ _ (by omega) Yl0 Yl1 h3 Ll0) h4
              by_cases k1 : 4294967296 ≤ c
              · exact Or.inl ⟨k1, by omega, lowE (by omega) (by omega)⟩
              · by_cases k2 : 4294967296 * d + Ll < c * Yl
                · have more := kd_more R1 Ll Y Yh Yl Q0 c d HY.out (by omega) C2 I5.out k2
                  exact Or.inr (Or.inl ⟨k1, k2, by omega, lowE (by omega) (by omega)⟩)
                · exact Or.inr (Or.inr ⟨k1, k2, kd_end R1 Ll Y Yh Yl Q0 c d HY.out (by omega) C3 I5.out (by omega) i1⟩)
            clear k
            rcases hx with ⟨k1, k3, hc⟩ | ⟨k1, k2, k3, hc⟩ | ⟨k1, k2, rfl⟩
            all_goals
              try have p2 := kd_prod c Yl (by omega) (by omega) Yl0 Yl1
              clear i1 i2 I5
              go_wp2
              go_ret2
              exact ⟨rfl, rfl⟩

theorem shr_nat (lo : Int) (l0 : 0 ≤ lo) (k : Nat) : lo / 2 ^ k = ((lo.toNat / 2 ^ k : Nat) : Int) := by
  obtain ⟨n, rfl⟩ := Int.eq_ofNat_of_zero_le l0
  simp

/-- Div64: where the high word lies below the divisor: the quotient and the rest; nothing but what is drawn turns. -/
theorem div64_any (hi lo y : Int) (w : World) (y1 : y < 18446744073709551616) (l0 : 0 ≤ lo) (l1 : lo < 18446744073709551616) (h0 : 0 ≤ hi) (h1 : hi < y) :
    Calls Tryz.prog 85 #[.int .u64 hi, .int .u64 lo, .int .u64 y] w fun e w' => e = .returned (.tuple #[.int .u64 ((hi * 18446744073709551616 + lo) / y), .int .u64 ((hi * 18446744073709551616 + lo) % y)]) ∧ ∃ n, w' = w.drewN n := by
  by_cases hz : hi = 0
  · subst hz
    have := div64_short lo y w (by omega) y1 l0 l1
    simpa using this
  · obtain ⟨h, rfl⟩ := Int.eq_ofNat_of_zero_le h0
    obtain ⟨l, rfl⟩ := Int.eq_ofNat_of_zero_le l0
    obtain ⟨u, rfl⟩ := Int.eq_ofNat_of_zero_le (show 0 ≤ y by omega)
    have nm := norm_nat u (by omega) (by omega)
    have hb := bitLen_le64 u (by omega)
    have hl : h * 2 ^ (64 - bitLen u) < 18446744073709551616 := by
      have : h * 2 ^ (64 - bitLen u) ≤ u * 2 ^ (64 - bitLen u) := Nat.mul_le_mul_right _ (by omega)
      omega
    obtain ⟨up1, up2⟩ := up_nat h l (64 - bitLen u) (by omega) (by omega) hl
    have hp : (0 : Int) < ((2 ^ (64 - bitLen u) : Nat) : Int) := by have := Nat.two_pow_pos (64 - bitLen u); omega
    have hp2 : ((2 : Int) ^ (64 - bitLen u)) = ((2 ^ (64 - bitLen u) : Nat) : Int) := by simp
    generalize hY : u * 2 ^ (64 - bitLen u) = Y at *
    generalize hU : h * 2 ^ (64 - bitLen u) + l / 2 ^ (64 - (64 - bitLen u)) = U at *
    generalize hL : l * 2 ^ (64 - bitLen u) % 18446744073709551616 = L at *
    have hL1 : L < 18446744073709551616 := by rw [← hL]; exact Nat.mod_lt _ (by omega)
    have hU1 : U < Y := by
      have a : (h * 18446744073709551616 + l) * 2 ^ (64 - bitLen u) < (u * 18446744073709551616) * 2 ^ (64 - bitLen u) := Nat.mul_lt_mul_of_pos_right (by omega) (Nat.two_pow_pos _)
      rw [Nat.mul_right_comm, hY] at a
      omega
    obtain ⟨Q1, R1, A0, A1, B0, B1, A2, A3, A4⟩ := kd_quot U (L / 4294967296 : Nat) Y (by omega) (by omega) (by omega) (by omega) (by omega)
    obtain ⟨Q0, R0, C0, C1, D0, D1, C2, C3, C4⟩ := kd_quot R1 (L % 4294967296 : Nat) Y (by omega) (by omega) (by omega) (by omega) (by omega)
    obtain ⟨w1, w2⟩ := kd_whole ((h * 18446744073709551616 + l : Nat) : Int) u ((2 ^ (64 - bitLen u) : Nat) : Int) Y U L (L / 4294967296 : Nat) (L % 4294967296 : Nat) Q1 R1 Q0 R0 hp (by omega)
      (by rw [← hY]; simp) (by rw [← Int.natCast_mul, up2]; simp) (by omega) A4 C4 D0 D1
    have wk := div64_walk h l u w (by omega) (by omega) (by omega) (by omega) (by omega) Y (Y / 4294967296 : Nat) (Y % 4294967296 : Nat) U L (L / 4294967296 : Nat) (L % 4294967296 : Nat) Q1 R1 Q0 R0
      (by rw [Int.toNat_natCast, hp2, ← Int.natCast_mul, hY]; exact Mul64.wrapN _ (by omega)) (by omega) (by omega)
      (by omega) (Mul64.maskN _ (by omega)) (show _ = _ by omega) (by omega) (by omega) (by omega) (by omega)
      (by rw [Int.toNat_natCast, hp2, ← Int.natCast_mul, Mul64.wrapM, shr_nat _ (by omega), Int.toNat_natCast, bits_or_u64_nat _ _ (Nat.mod_lt _ (by omega)) (by have := Nat.div_le_self l (2 ^ (64 - (64 - bitLen u))); omega), up1]) (by omega) (by omega)
      (by rw [Int.toNat_natCast, hp2, ← Int.natCast_mul, Mul64.wrapM, hL]) (by omega) (by omega)
      (by omega) (Mul64.maskN _ (by omega)) (by omega) (by omega) (by omega) (by omega)
      A0 A1 B0 B1 A2 A3 A4 C0 C1 D0 D1 C2 C3 C4
    refine wk.mono ?_
    rintro e w' ⟨rfl, rfl⟩
    refine ⟨?_, 0, rfl⟩
    have e1 : ((h : Int) * 18446744073709551616 + l) = ((h * 18446744073709551616 + l : Nat) : Int) := by simp
    rw [e1, w1, w2, Int.toNat_natCast, hp2]

end Go.Proofs.YtpbgolcimbjekaaGreatDoor
