/-
  The statement WideOrders of this program: for every two wide numbers a, b and every n it returns true (order, difference and bits go together), and the arguments read as before. No condition.
-/
import Derived.Test.YtahmgbaonldlfaaL1
import Derived.Test.YtahmgbaonldlfaaL2
import Derived.Test.YtahmgbaonldlfaaL3
import Derived.ProofKit
import Derived.Lib.SmallJoins
namespace Go.Proofs.Ytahmgbaonldlfaa
open Go.ChangeShapes Go.WideShapes Go.ChangeAt Go.RowKit Go.Joins

theorem cmp_lt {x y : Int} (h : x < y) : cmp x y = -1 := by unfold cmp; rw [if_neg (by omega), if_pos h]
theorem cmp_eq {x y : Int} (h : x = y) : cmp x y = 0 := by unfold cmp; rw [if_pos h]
theorem cmp_gt {x y : Int} (h : y < x) : cmp x y = 1 := by unfold cmp; rw [if_neg (by omega), if_neg (by omega)]
theorem cmp_le {x y : Int} (h : x ≤ y) : cmp x y ≤ 0 := by
  by_cases e : x = y
  · rw [cmp_eq e]; omega
  · rw [cmp_lt (by omega)]; omega

theorem bitLen_mono {x y : Nat} (h : x ≤ y) : bitLen x ≤ bitLen y := by
  by_cases hx : x = 0
  · subst hx; unfold bitLen; simp
  · have h1 := (bitLen_spec x).2 hx
    have h2 := (bitLen_spec y).1
    have h3 : 2 ^ (bitLen x - 1) < 2 ^ bitLen y := by omega
    have := (Nat.pow_lt_pow_iff_right (by omega : 1 < 2)).1 h3
    omega
theorem bitLen_pos {x : Nat} (h : 0 < x) : 0 < bitLen x := by unfold bitLen; split <;> omega

theorem ret_cmp (ah al bh bl c : Int) (a0 : 0 ≤ al) (a1 : al < 18446744073709551616) (b0 : 0 ≤ bl) (b1 : bl < 18446744073709551616) (hc : cmp (ah * 18446744073709551616 + al) (bh * 18446744073709551616 + bl) = c) :
    Ret 15 #[.agg #[.int .u64 ah, .int .u64 al], .agg #[.int .u64 bh, .int .u64 bl]] (.int .i64 c) := fun w => by
  have := compare_any ah al bh bl w a0 a1 b0 b1
  rwa [hc] at this
theorem sub_yes (ah al bh bl : Int) (a0 : 0 ≤ al) (a1 : al < 18446744073709551616) (a2 : 0 ≤ ah) (a3 : ah < 18446744073709551616) (b0 : 0 ≤ bl) (b1 : bl < 18446744073709551616) (b2 : 0 ≤ bh) (b3 : bh < 18446744073709551616)
    (h : bh * 18446744073709551616 + bl ≤ ah * 18446744073709551616 + al) : ∀ w, Calls Try.prog 25 #[.agg #[.int .u64 ah, .int .u64 al], .agg #[.int .u64 bh, .int .u64 bl]] w fun e w' => ∃ h l : Int, e = .returned (.tuple #[.agg #[.int .u64 h, .int .u64 l], .bool true]) ∧ Below w.heap.size w w' := fun w => by
  refine (sub_any ah al bh bl w a0 a1 a2 a3 b0 b1 b2 b3).mono ?_
  rintro e w' ⟨h, l, b, rfl, ⟨k0, k1, k2, k3⟩, f, hb⟩
  rcases f with ⟨rfl, f⟩ | ⟨rfl, _, _, f⟩
  · exact ⟨_, _, rfl, hb⟩
  · omega
theorem sub_no (ah al bh bl : Int) (a0 : 0 ≤ al) (a1 : al < 18446744073709551616) (a2 : 0 ≤ ah) (a3 : ah < 18446744073709551616) (b0 : 0 ≤ bl) (b1 : bl < 18446744073709551616) (b2 : 0 ≤ bh) (b3 : bh < 18446744073709551616)
    (h : ah * 18446744073709551616 + al < bh * 18446744073709551616 + bl) : ∀ w, Calls Try.prog 25 #[.agg #[.int .u64 ah, .int .u64 al], .agg #[.int .u64 bh, .int .u64 bl]] w fun e w' => ∃ h l : Int, e = .returned (.tuple #[.agg #[.int .u64 h, .int .u64 l], .bool false]) ∧ Below w.heap.size w w' := fun w => by
  refine (sub_any ah al bh bl w a0 a1 a2 a3 b0 b1 b2 b3).mono ?_
  rintro e w' ⟨h, l, b, rfl, ⟨k0, k1, k2, k3⟩, f, hb⟩
  rcases f with ⟨rfl, f⟩ | ⟨rfl, _, _, f⟩
  · omega
  · exact ⟨_, _, rfl, hb⟩
theorem ret_bits (h l k : Int) (h0 : 0 ≤ h) (h1 : h < 18446744073709551616) (l0 : 0 ≤ l) (l1 : l < 18446744073709551616) (hk : (bitLen (h * 18446744073709551616 + l).toNat : Int) = k) :
    Ret 16 #[.agg #[.int .u64 h, .int .u64 l]] (.int .i64 k) := fun w => by
  have := bits_any h l w h0 h1 l0 l1
  rwa [hk] at this
theorem ret_right (ah al n q : Int) (a0 : 0 ≤ al) (a1 : al < 18446744073709551616) (b0 : 0 ≤ ah) (b1 : ah < 18446744073709551616) (n0 : 0 ≤ n) (n1 : n ≤ 9223372036854775807)
    (hq : (ah * 18446744073709551616 + al) / 2 ^ n.toNat = q) (q0 : 0 ≤ q) (q1 : q < 18446744073709551616) :
    Ret 30 #[.agg #[.int .u64 ah, .int .u64 al], .int .i64 n] (.agg #[.int .u64 0, .int .u64 q]) := fun w => by
  refine (right_any ah al n w a0 a1 b0 b1 n0 n1).mono ?_
  rintro e w' ⟨h, l, rfl, ⟨k0, k1, k2, k3⟩, f, hb⟩
  rw [hq] at f
  obtain ⟨rfl, rfl⟩ : h = 0 ∧ l = q := ⟨by omega, by omega⟩
  exact ⟨rfl, hb⟩
theorem down_all (V : Int) (k : Int) (V0 : 0 ≤ V) (hk : (bitLen V.toNat : Int) = k) : V / 2 ^ k.toNat = 0 := by
  obtain ⟨v, rfl⟩ := Int.eq_ofNat_of_zero_le V0
  have e : k.toNat = bitLen v := by rw [Int.toNat_natCast] at hk; omega
  rw [e, show ((2 : Int) ^ bitLen v) = ((2 ^ bitLen v : Nat) : Int) by simp]
  exact Int.ediv_eq_zero_of_lt V0 (by have := (bitLen_spec v).1; omega)
theorem down_one (V : Int) (k : Int) (V0 : 0 < V) (hk : (bitLen V.toNat : Int) = k) : V / 2 ^ (k - 1).toNat = 1 := by
  obtain ⟨v, rfl⟩ := Int.eq_ofNat_of_zero_le (show 0 ≤ V by omega)
  have hp := bitLen_pos (x := v) (by omega)
  have e : (k - 1).toNat = bitLen v - 1 := by rw [Int.toNat_natCast] at hk; omega
  have h1 := (bitLen_spec v).1
  have h2 := (bitLen_spec v).2 (by omega)
  have h3 : 2 ^ bitLen v = 2 ^ (bitLen v - 1) * 2 := by rw [← Nat.pow_succ]; congr 1; omega
  rw [e, show ((2 : Int) ^ (bitLen v - 1)) = ((2 ^ (bitLen v - 1) : Nat) : Int) by simp]
  generalize 2 ^ (bitLen v - 1) = p at *
  rw [← Int.natCast_ediv, Nat.div_eq_of_lt_le (k := 1) (by omega) (by omega)]
  rfl
theorem div_le_pow (V : Int) (n : Nat) (V0 : 0 ≤ V) : V / 2 ^ n ≤ V := by
  obtain ⟨v, rfl⟩ := Int.eq_ofNat_of_zero_le V0
  rw [show ((2 : Int) ^ n) = ((2 ^ n : Nat) : Int) by simp, ← Int.natCast_ediv]
  have := Nat.div_le_self v (2 ^ n)
  omega
def LowOf (V h l : Int) : Prop := Wok h l ∧ h * 18446744073709551616 + l ≤ V
theorem right_lowered (ah al n : Int) (a0 : 0 ≤ al) (a1 : al < 18446744073709551616) (b0 : 0 ≤ ah) (b1 : ah < 18446744073709551616) (n0 : 0 ≤ n) (n1 : n ≤ 255) :
    ∀ w, Calls Try.prog 30 #[.agg #[.int .u64 ah, .int .u64 al], .int .i64 (IntKind.i64.wrap n)] w fun e w' => ∃ h l : Int, e = .returned (.agg #[.int .u64 h, .int .u64 l]) ∧ LowOf (ah * 18446744073709551616 + al) h l ∧ Below w.heap.size w w' := fun w => by
  rw [show IntKind.i64.wrap n = n by rw [IntKind.wrap_i64]; omega]
  refine (right_any ah al n w a0 a1 b0 b1 n0 (by omega)).mono ?_
  rintro e w' ⟨h, l, rfl, m, f, hb⟩
  exact ⟨_, _, rfl, ⟨m, by rw [f]; exact div_le_pow _ _ (by omega)⟩, hb⟩
theorem cmp_lowered (ah al : Int) (a0 : 0 ≤ al) (a1 : al < 18446744073709551616) : ∀ (h l : Int) (w : World), LowOf (ah * 18446744073709551616 + al) h l →
    Calls Try.prog 15 #[.agg #[.int .u64 h, .int .u64 l], .agg #[.int .u64 ah, .int .u64 al]] w fun e w' => ∃ c : Int, e = .returned (.int .i64 c) ∧ c ≤ 0 ∧ Below w.heap.size w w' := fun h l w hl => by
  obtain ⟨⟨m0, m1, m2, m3⟩, f⟩ := hl
  refine (compare_any h l ah al w m2 m3 a0 a1).mono ?_
  rintro e w' ⟨rfl, hb⟩
  exact ⟨_, rfl, cmp_le f, hb⟩

theorem orders_any (ah al bh bl n : Int) (w : World) (a0 : 0 ≤ al) (a1 : al < 18446744073709551616) (a2 : 0 ≤ ah) (a3 : ah < 18446744073709551616) (b0 : 0 ≤ bl) (b1 : bl < 18446744073709551616) (b2 : 0 ≤ bh) (b3 : bh < 18446744073709551616) (n0 : 0 ≤ n) (n1 : n ≤ 255) :
    Calls Try.prog 7 #[.agg #[.int .u64 ah, .int .u64 al], .agg #[.int .u64 bh, .int .u64 bl], .int .u8 n] w fun e w' => e = .returned (.bool true) ∧ Below w.heap.size w w' := by
  by_cases e1 : ah = bh
  · subst e1
    rcases Int.lt_trichotomy al bl with e2 | e2 | e2
    · by_cases z : ah = 0
      · subst z
        by_cases y : al = 0
        · subst y
          -- MZ
          exact orders_MZ bl
            n
            (bitLen ((0 : Int) * 18446744073709551616 + bl).toNat : Int)
            w
            (LowOf ((0 : Int) * 18446744073709551616 + 0))
            (by omega)
            (ret_cmp 0 0 0 bl (-1) (by omega) (by omega) (by omega) (by omega) (cmp_lt (by omega)))
            (sub_no 0 0 0 bl (by omega) (by omega) (by omega) (by omega) (by omega) (by omega) (by omega) (by omega) (by omega))
            (ret_bits 0 0 _ (by omega) (by omega) (by omega) (by omega) (by kernel_rfl))
            (ret_cmp 0 bl 0 0 1 (by omega) (by omega) (by omega) (by omega) (cmp_gt (by omega)))
            (ret_right 0 0 _ 0 (by omega) (by omega) (by omega) (by omega) (by omega) (by omega) (down_all _ _ (by omega) (by kernel_rfl)) (by omega) (by omega))
            (right_lowered 0 0 n (by omega) (by omega) (by omega) (by omega) n0 n1)
            (cmp_lowered 0 0 (by omega) (by omega))
            (ret_bits 0 bl _ (by omega) (by omega) (by omega) (by omega) rfl)
        ·
          -- MM
          have p0 := bitLen_pos (x := ((0 : Int) * 18446744073709551616 + al).toNat) (by omega)
          have p1 := bitLen_le128 ((0 : Int) * 18446744073709551616 + al).toNat (by omega)
          exact orders_MM al
            bl
            n
            (bitLen ((0 : Int) * 18446744073709551616 + al).toNat : Int)
            (bitLen ((0 : Int) * 18446744073709551616 + bl).toNat : Int)
            w
            (LowOf ((0 : Int) * 18446744073709551616 + al))
            (by omega)
            (by omega)
            (by omega)
            (by omega)
            (ret_cmp 0 al 0 bl (-1) (by omega) (by omega) (by omega) (by omega) (cmp_lt (by omega)))
            (sub_no 0 al 0 bl (by omega) (by omega) (by omega) (by omega) (by omega) (by omega) (by omega) (by omega) (by omega))
            (ret_bits 0 al _ (by omega) (by omega) (by omega) (by omega) rfl)
            (ret_cmp 0 bl 0 al 1 (by omega) (by omega) (by omega) (by omega) (cmp_gt (by omega)))
            (ret_right 0 al _ 0 (by omega) (by omega) (by omega) (by omega) (by omega) (by omega) (down_all _ _ (by omega) rfl) (by omega) (by omega))
            (ret_right 0 al _ 1 (by omega) (by omega) (by omega) (by omega) (by omega) (by omega) (down_one _ _ (by omega) rfl) (by omega) (by omega))
            (right_lowered 0 al n (by omega) (by omega) (by omega) (by omega) n0 n1)
            (cmp_lowered 0 al (by omega) (by omega))
            (ret_bits 0 bl _ (by omega) (by omega) (by omega) (by omega) rfl)
      ·
        -- MH
        have p0 := bitLen_pos (x := (ah * 18446744073709551616 + al).toNat) (by omega)
        have p1 := bitLen_le128 (ah * 18446744073709551616 + al).toNat (by omega)
        exact orders_MH ah
          al
          bl
          n
          (bitLen (ah * 18446744073709551616 + al).toNat : Int)
          (bitLen (ah * 18446744073709551616 + bl).toNat : Int)
          w
          (LowOf (ah * 18446744073709551616 + al))
          (by omega)
          (by omega)
          (by omega)
          (by omega)
          (ret_cmp ah al ah bl (-1) (by omega) (by omega) (by omega) (by omega) (cmp_lt (by omega)))
          (sub_no ah al ah bl (by omega) (by omega) (by omega) (by omega) (by omega) (by omega) (by omega) (by omega) (by omega))
          (ret_bits ah al _ (by omega) (by omega) (by omega) (by omega) rfl)
          (ret_cmp ah bl ah al 1 (by omega) (by omega) (by omega) (by omega) (cmp_gt (by omega)))
          (ret_right ah al _ 0 (by omega) (by omega) (by omega) (by omega) (by omega) (by omega) (down_all _ _ (by omega) rfl) (by omega) (by omega))
          (ret_right ah al _ 1 (by omega) (by omega) (by omega) (by omega) (by omega) (by omega) (down_one _ _ (by omega) rfl) (by omega) (by omega))
          (right_lowered ah al n (by omega) (by omega) (by omega) (by omega) n0 n1)
          (cmp_lowered ah al (by omega) (by omega))
          (ret_bits ah bl _ (by omega) (by omega) (by omega) (by omega) rfl)
    · subst e2
      by_cases z : ah = 0
      · subst z
        by_cases y : al = 0
        · subst y
          -- EZ
          have p2 : bitLen ((0 : Int) * 18446744073709551616 + 0).toNat ≤ bitLen ((0 : Int) * 18446744073709551616 + 0).toNat := bitLen_mono (by omega)
          exact orders_EZ n
            (bitLen ((0 : Int) * 18446744073709551616 + 0).toNat : Int)
            w
            (LowOf ((0 : Int) * 18446744073709551616 + 0))
            (by have e : bitLen ((0 : Int) * 18446744073709551616 + 0).toNat = 0 := by kernel_rfl
                omega)
            (ret_cmp 0 0 0 0 0 (by omega) (by omega) (by omega) (by omega) (cmp_eq (by omega)))
            (sub_yes 0 0 0 0 (by omega) (by omega) (by omega) (by omega) (by omega) (by omega) (by omega) (by omega) (by omega))
            (ret_bits 0 0 _ (by omega) (by omega) (by omega) (by omega) (by kernel_rfl))
            (ret_cmp 0 0 0 0 0 (by omega) (by omega) (by omega) (by omega) (cmp_eq (by omega)))
            (ret_right 0 0 _ 0 (by omega) (by omega) (by omega) (by omega) (by omega) (by omega) (down_all _ _ (by omega) (by kernel_rfl)) (by omega) (by omega))
            (right_lowered 0 0 n (by omega) (by omega) (by omega) (by omega) n0 n1)
            (cmp_lowered 0 0 (by omega) (by omega))
            (ret_bits 0 0 _ (by omega) (by omega) (by omega) (by omega) rfl)
        ·
          -- EM
          have p0 := bitLen_pos (x := ((0 : Int) * 18446744073709551616 + al).toNat) (by omega)
          have p1 := bitLen_le128 ((0 : Int) * 18446744073709551616 + al).toNat (by omega)
          have p2 : bitLen ((0 : Int) * 18446744073709551616 + al).toNat ≤ bitLen ((0 : Int) * 18446744073709551616 + al).toNat := bitLen_mono (by omega)
          exact orders_EM al
            n
            (bitLen ((0 : Int) * 18446744073709551616 + al).toNat : Int)
            (bitLen ((0 : Int) * 18446744073709551616 + al).toNat : Int)
            w
            (LowOf ((0 : Int) * 18446744073709551616 + al))
            (by omega)
            (by omega)
            (Int.ofNat_le.2 p2)
            (by omega)
            (ret_cmp 0 al 0 al 0 (by omega) (by omega) (by omega) (by omega) (cmp_eq (by omega)))
            (sub_yes 0 al 0 al (by omega) (by omega) (by omega) (by omega) (by omega) (by omega) (by omega) (by omega) (by omega))
            (ret_bits 0 al _ (by omega) (by omega) (by omega) (by omega) rfl)
            (ret_cmp 0 al 0 al 0 (by omega) (by omega) (by omega) (by omega) (cmp_eq (by omega)))
            (ret_right 0 al _ 0 (by omega) (by omega) (by omega) (by omega) (by omega) (by omega) (down_all _ _ (by omega) rfl) (by omega) (by omega))
            (ret_right 0 al _ 1 (by omega) (by omega) (by omega) (by omega) (by omega) (by omega) (down_one _ _ (by omega) rfl) (by omega) (by omega))
            (right_lowered 0 al n (by omega) (by omega) (by omega) (by omega) n0 n1)
            (cmp_lowered 0 al (by omega) (by omega))
            (ret_bits 0 al _ (by omega) (by omega) (by omega) (by omega) rfl)
      ·
        -- EH
        have p0 := bitLen_pos (x := (ah * 18446744073709551616 + al).toNat) (by omega)
        have p1 := bitLen_le128 (ah * 18446744073709551616 + al).toNat (by omega)
        have p2 : bitLen (ah * 18446744073709551616 + al).toNat ≤ bitLen (ah * 18446744073709551616 + al).toNat := bitLen_mono (by omega)
        exact orders_EH ah
          al
          n
          (bitLen (ah * 18446744073709551616 + al).toNat : Int)
          (bitLen (ah * 18446744073709551616 + al).toNat : Int)
          w
          (LowOf (ah * 18446744073709551616 + al))
          (by omega)
          (by omega)
          (Int.ofNat_le.2 p2)
          (by omega)
          (ret_cmp ah al ah al 0 (by omega) (by omega) (by omega) (by omega) (cmp_eq (by omega)))
          (sub_yes ah al ah al (by omega) (by omega) (by omega) (by omega) (by omega) (by omega) (by omega) (by omega) (by omega))
          (ret_bits ah al _ (by omega) (by omega) (by omega) (by omega) rfl)
          (ret_cmp ah al ah al 0 (by omega) (by omega) (by omega) (by omega) (cmp_eq (by omega)))
          (ret_right ah al _ 0 (by omega) (by omega) (by omega) (by omega) (by omega) (by omega) (down_all _ _ (by omega) rfl) (by omega) (by omega))
          (ret_right ah al _ 1 (by omega) (by omega) (by omega) (by omega) (by omega) (by omega) (down_one _ _ (by omega) rfl) (by omega) (by omega))
          (right_lowered ah al n (by omega) (by omega) (by omega) (by omega) n0 n1)
          (cmp_lowered ah al (by omega) (by omega))
          (ret_bits ah al _ (by omega) (by omega) (by omega) (by omega) rfl)
    · by_cases z : ah = 0
      · subst z
        -- HM
        have p0 := bitLen_pos (x := ((0 : Int) * 18446744073709551616 + al).toNat) (by omega)
        have p1 := bitLen_le128 ((0 : Int) * 18446744073709551616 + al).toNat (by omega)
        have p2 : bitLen ((0 : Int) * 18446744073709551616 + bl).toNat ≤ bitLen ((0 : Int) * 18446744073709551616 + al).toNat := bitLen_mono (by omega)
        exact orders_HM al
          bl
          n
          (bitLen ((0 : Int) * 18446744073709551616 + al).toNat : Int)
          (bitLen ((0 : Int) * 18446744073709551616 + bl).toNat : Int)
          w
          (LowOf ((0 : Int) * 18446744073709551616 + al))
          (by omega)
          (by omega)
          (Int.ofNat_le.2 p2)
          (by omega)
          (by omega)
          (ret_cmp 0 al 0 bl 1 (by omega) (by omega) (by omega) (by omega) (cmp_gt (by omega)))
          (sub_yes 0 al 0 bl (by omega) (by omega) (by omega) (by omega) (by omega) (by omega) (by omega) (by omega) (by omega))
          (ret_bits 0 al _ (by omega) (by omega) (by omega) (by omega) rfl)
          (ret_cmp 0 bl 0 al (-1) (by omega) (by omega) (by omega) (by omega) (cmp_lt (by omega)))
          (ret_right 0 al _ 0 (by omega) (by omega) (by omega) (by omega) (by omega) (by omega) (down_all _ _ (by omega) rfl) (by omega) (by omega))
          (ret_right 0 al _ 1 (by omega) (by omega) (by omega) (by omega) (by omega) (by omega) (down_one _ _ (by omega) rfl) (by omega) (by omega))
          (right_lowered 0 al n (by omega) (by omega) (by omega) (by omega) n0 n1)
          (cmp_lowered 0 al (by omega) (by omega))
          (ret_bits 0 bl _ (by omega) (by omega) (by omega) (by omega) rfl)
      ·
        -- HH
        have p0 := bitLen_pos (x := (ah * 18446744073709551616 + al).toNat) (by omega)
        have p1 := bitLen_le128 (ah * 18446744073709551616 + al).toNat (by omega)
        have p2 : bitLen (ah * 18446744073709551616 + bl).toNat ≤ bitLen (ah * 18446744073709551616 + al).toNat := bitLen_mono (by omega)
        exact orders_HH ah
          al
          bl
          n
          (bitLen (ah * 18446744073709551616 + al).toNat : Int)
          (bitLen (ah * 18446744073709551616 + bl).toNat : Int)
          w
          (LowOf (ah * 18446744073709551616 + al))
          (by omega)
          (by omega)
          (Int.ofNat_le.2 p2)
          (by omega)
          (by omega)
          (ret_cmp ah al ah bl 1 (by omega) (by omega) (by omega) (by omega) (cmp_gt (by omega)))
          (sub_yes ah al ah bl (by omega) (by omega) (by omega) (by omega) (by omega) (by omega) (by omega) (by omega) (by omega))
          (ret_bits ah al _ (by omega) (by omega) (by omega) (by omega) rfl)
          (ret_cmp ah bl ah al (-1) (by omega) (by omega) (by omega) (by omega) (cmp_lt (by omega)))
          (ret_right ah al _ 0 (by omega) (by omega) (by omega) (by omega) (by omega) (by omega) (down_all _ _ (by omega) rfl) (by omega) (by omega))
          (ret_right ah al _ 1 (by omega) (by omega) (by omega) (by omega) (by omega) (by omega) (down_one _ _ (by omega) rfl) (by omega) (by omega))
          (right_lowered ah al n (by omega) (by omega) (by omega) (by omega) n0 n1)
          (cmp_lowered ah al (by omega) (by omega))
          (ret_bits ah bl _ (by omega) (by omega) (by omega) (by omega) rfl)
  · rcases Int.lt_or_gt_of_ne e1 with e2 | e2
    · by_cases z : ah = 0
      · subst z
        by_cases y : al = 0
        · subst y
          -- LZ
          exact orders_LZ bh
            bl
            n
            (bitLen (bh * 18446744073709551616 + bl).toNat : Int)
            w
            (LowOf ((0 : Int) * 18446744073709551616 + 0))
            (by omega)
            (ret_cmp 0 0 bh bl (-1) (by omega) (by omega) (by omega) (by omega) (cmp_lt (by omega)))
            (sub_no 0 0 bh bl (by omega) (by omega) (by omega) (by omega) (by omega) (by omega) (by omega) (by omega) (by omega))
            (ret_bits 0 0 _ (by omega) (by omega) (by omega) (by omega) (by kernel_rfl))
            (ret_cmp bh bl 0 0 1 (by omega) (by omega) (by omega) (by omega) (cmp_gt (by omega)))
            (ret_right 0 0 _ 0 (by omega) (by omega) (by omega) (by omega) (by omega) (by omega) (down_all _ _ (by omega) (by kernel_rfl)) (by omega) (by omega))
            (right_lowered 0 0 n (by omega) (by omega) (by omega) (by omega) n0 n1)
            (cmp_lowered 0 0 (by omega) (by omega))
            (ret_bits bh bl _ (by omega) (by omega) (by omega) (by omega) rfl)
        ·
          -- LM
          have p0 := bitLen_pos (x := ((0 : Int) * 18446744073709551616 + al).toNat) (by omega)
          have p1 := bitLen_le128 ((0 : Int) * 18446744073709551616 + al).toNat (by omega)
          exact orders_LM al
            bh
            bl
            n
            (bitLen ((0 : Int) * 18446744073709551616 + al).toNat : Int)
            (bitLen (bh * 18446744073709551616 + bl).toNat : Int)
            w
            (LowOf ((0 : Int) * 18446744073709551616 + al))
            (by omega)
            (by omega)
            (by omega)
            (by omega)
            (ret_cmp 0 al bh bl (-1) (by omega) (by omega) (by omega) (by omega) (cmp_lt (by omega)))
            (sub_no 0 al bh bl (by omega) (by omega) (by omega) (by omega) (by omega) (by omega) (by omega) (by omega) (by omega))
            (ret_bits 0 al _ (by omega) (by omega) (by omega) (by omega) rfl)
            (ret_cmp bh bl 0 al 1 (by omega) (by omega) (by omega) (by omega) (cmp_gt (by omega)))
            (ret_right 0 al _ 0 (by omega) (by omega) (by omega) (by omega) (by omega) (by omega) (down_all _ _ (by omega) rfl) (by omega) (by omega))
            (ret_right 0 al _ 1 (by omega) (by omega) (by omega) (by omega) (by omega) (by omega) (down_one _ _ (by omega) rfl) (by omega) (by omega))
            (right_lowered 0 al n (by omega) (by omega) (by omega) (by omega) n0 n1)
            (cmp_lowered 0 al (by omega) (by omega))
            (ret_bits bh bl _ (by omega) (by omega) (by omega) (by omega) rfl)
      ·
        -- LH
        have p0 := bitLen_pos (x := (ah * 18446744073709551616 + al).toNat) (by omega)
        have p1 := bitLen_le128 (ah * 18446744073709551616 + al).toNat (by omega)
        exact orders_LH ah
          al
          bh
          bl
          n
          (bitLen (ah * 18446744073709551616 + al).toNat : Int)
          (bitLen (bh * 18446744073709551616 + bl).toNat : Int)
          w
          (LowOf (ah * 18446744073709551616 + al))
          (by omega)
          (by omega)
          (by omega)
          (by omega)
          (ret_cmp ah al bh bl (-1) (by omega) (by omega) (by omega) (by omega) (cmp_lt (by omega)))
          (sub_no ah al bh bl (by omega) (by omega) (by omega) (by omega) (by omega) (by omega) (by omega) (by omega) (by omega))
          (ret_bits ah al _ (by omega) (by omega) (by omega) (by omega) rfl)
          (ret_cmp bh bl ah al 1 (by omega) (by omega) (by omega) (by omega) (cmp_gt (by omega)))
          (ret_right ah al _ 0 (by omega) (by omega) (by omega) (by omega) (by omega) (by omega) (down_all _ _ (by omega) rfl) (by omega) (by omega))
          (ret_right ah al _ 1 (by omega) (by omega) (by omega) (by omega) (by omega) (by omega) (down_one _ _ (by omega) rfl) (by omega) (by omega))
          (right_lowered ah al n (by omega) (by omega) (by omega) (by omega) n0 n1)
          (cmp_lowered ah al (by omega) (by omega))
          (ret_bits bh bl _ (by omega) (by omega) (by omega) (by omega) rfl)
    ·
      -- GH
      have p0 := bitLen_pos (x := (ah * 18446744073709551616 + al).toNat) (by omega)
      have p1 := bitLen_le128 (ah * 18446744073709551616 + al).toNat (by omega)
      have p2 : bitLen (bh * 18446744073709551616 + bl).toNat ≤ bitLen (ah * 18446744073709551616 + al).toNat := bitLen_mono (by omega)
      exact orders_GH ah
        al
        bh
        bl
        n
        (bitLen (ah * 18446744073709551616 + al).toNat : Int)
        (bitLen (bh * 18446744073709551616 + bl).toNat : Int)
        w
        (LowOf (ah * 18446744073709551616 + al))
        (by omega)
        (by omega)
        (Int.ofNat_le.2 p2)
        (by omega)
        (by omega)
        (ret_cmp ah al bh bl 1 (by omega) (by omega) (by omega) (by omega) (cmp_gt (by omega)))
        (sub_yes ah al bh bl (by omega) (by omega) (by omega) (by omega) (by omega) (by omega) (by omega) (by omega) (by omega))
        (ret_bits ah al _ (by omega) (by omega) (by omega) (by omega) rfl)
        (ret_cmp bh bl ah al (-1) (by omega) (by omega) (by omega) (by omega) (cmp_lt (by omega)))
        (ret_right ah al _ 0 (by omega) (by omega) (by omega) (by omega) (by omega) (by omega) (down_all _ _ (by omega) rfl) (by omega) (by omega))
        (ret_right ah al _ 1 (by omega) (by omega) (by omega) (by omega) (by omega) (by omega) (down_one _ _ (by omega) rfl) (by omega) (by omega))
        (right_lowered ah al n (by omega) (by omega) (by omega) (by omega) n0 n1)
        (cmp_lowered ah al (by omega) (by omega))
        (ret_bits bh bl _ (by omega) (by omega) (by omega) (by omega) rfl)

end Go.Proofs.Ytahmgbaonldlfaa
