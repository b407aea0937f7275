/-
  Contracts of package wide's Bits, Right, Left, Add, Sub, Times, By at this program: each over the numbers that its words make (the high word times 2^64, and the low one). Conditions: all words lie below 2^64.
  Contracts of package wide's Times, By, Left at this program, over the numbers that the words make. Conditions: all words lie below 2^64.
  The contract of package wide's Text at this program: the number's digits, without a nought ahead of others. Conditions: both words lie below 2^64.
-/
import Derived.Test.YtpbgolcimbjekaaGreatDoorQ02
import Derived.WalkSmall
import Derived.Laws.BytesString
namespace Go.Proofs.YtpbgolcimbjekaaGreatDoor
open Go.RowKit

theorem add64_run (x y c : Int) (hx : 0 ≤ x) (x1 : x < 18446744073709551616) (hy : 0 ≤ y) (y1 : y < 18446744073709551616) (hc0 : 0 ≤ c) (hc : c ≤ 1) :
    ∃ s k : Int, 0 ≤ s ∧ s < 18446744073709551616 ∧ 0 ≤ k ∧ k ≤ 1 ∧ s + k * 18446744073709551616 = x + y + c ∧
      ∀ w, (callFunc 97 #[.int .u64 x, .int .u64 y, .int .u64 c]).run Tryz.prog w = .ok (.value (.tuple #[.int .u64 s, .int .u64 k])) w := by
  obtain ⟨s, k, s0, s1, k0, k1, e, es, ek⟩ := add64_carry x y c hx x1 hy y1 hc0 hc
  refine ⟨s, k, s0, s1, k0, k1, e, fun w => ?_⟩
  rw [run_callFunc_extern Tryz.func97 (by kernel_rfl) (by kernel_rfl) (by kernel_rfl) (e := add64Entry) (by kernel_rfl), run_add64 x y c hx hy hc0 hc, ← es, ← ek]
  rfl

set_option maxHeartbeats 1000000 in
theorem bits_any (h l : Int) (w : World) (h0 : 0 ≤ h) (h1 : h < 18446744073709551616) (l0 : 0 ≤ l) (l1 : l < 18446744073709551616) :
    Calls Tryz.prog 92 #[.agg #[.int .u64 h, .int .u64 l]] w fun e w' => e = .returned (.int .i64 (bitLen (h * 18446744073709551616 + l).toNat)) ∧ Below w.heap.size w w' := by
  have b1 := bitLen_le64 h.toNat (by omega)
  by_cases hz : h = 0
  · subst hz
    go_enter Tryz.func92, Tryz.ntmps92
    go_wp2_with (go_at_call 101; refine (len64_any _ _ (by omega) (by omega)).mono ?_; rintro e w' ⟨rfl, rfl⟩)
    go_ret
    go_light
    refine ⟨by simp, by go_grown⟩
  · have hb : (h == 0) = false := by simp [hz]
    go_enter Tryz.func92, Tryz.ntmps92
    go_wp2_with (go_at_call 101; refine (len64_any _ _ (by omega) (by omega)).mono ?_; rintro e w' ⟨rfl, rfl⟩)
    go_ret
    go_light
    refine ⟨congrArg Ending.returned (congrArg (Value.int IntKind.i64) ?_), by go_grown⟩
    exact bitLen_high h l (by omega) l0 l1

/-- What a sum, a product or a move up answers: the number V, if it has two words; else nothing. -/
def Fits (h l : Int) (b : Bool) (V : Int) : Prop := (b = true ∧ h * 18446744073709551616 + l = V) ∨ (b = false ∧ h = 0 ∧ l = 0 ∧ 340282366920938463463374607431768211456 ≤ V)

set_option maxHeartbeats 1000000 in
theorem add_any (ah al bh bl : Int) (w : World) (a0 : 0 ≤ al) (a1 : al < 18446744073709551616) (a2 : 0 ≤ ah) (a3 : ah < 18446744073709551616) (b0 : 0 ≤ bl) (b1 : bl < 18446744073709551616) (b2 : 0 ≤ bh) (b3 : bh < 18446744073709551616) :
    Calls Tryz.prog 94 #[.agg #[.int .u64 ah, .int .u64 al], .agg #[.int .u64 bh, .int .u64 bl]] w fun e w' =>
      ∃ (h l : Int) (b : Bool), e = .returned (.tuple #[.agg #[.int .u64 h, .int .u64 l], .bool b]) ∧ Wok h l ∧ Fits h l b ((ah * 18446744073709551616 + al) + (bh * 18446744073709551616 + bl)) ∧ Below w.heap.size w w' := by
  obtain ⟨s, c, s0, s1, c0, c1, e1, r1⟩ := add64_run al bl 0 a0 a1 b0 b1 (by omega) (by omega)
  obtain ⟨t, k, t0, t1, k0, k1, e2, r2⟩ := add64_run ah bh c a2 a3 b2 b3 c0 c1
  have E1 : Hid _ := e1
  have E2 : Hid _ := e2
  clear e1 e2
  by_cases hk : k = 0
  · subst hk
    go_enter Tryz.func94, Tryz.ntmps94
    go_wp2
    go_returns
    exact ⟨_, _, _, rfl, ⟨t0, t1, s0, s1⟩, Or.inl ⟨rfl, by have := E1.out; have := E2.out; omega⟩, by go_grown⟩
  · have hb : (k == 0) = false := by simp [hk]
    go_enter Tryz.func94, Tryz.ntmps94
    go_wp2
    go_returns
    exact ⟨_, _, _, rfl, ⟨by omega, by omega, by omega, by omega⟩, Or.inr ⟨rfl, rfl, rfl, by have := E1.out; have := E2.out; omega⟩, by go_grown⟩

end Go.Proofs.YtpbgolcimbjekaaGreatDoor

namespace Go.Proofs.YtpbgolcimbjekaaGreatDoor
open Go.RowKit

theorem bcell {W w1 : World} (hb : Below W.heap.size W w1) : (∀ b o, b < W.heap.size → w1.cell? ⟨b, o, none⟩ = W.cell? ⟨b, o, none⟩) ∧ (∀ b o, b < W.heap.size → w1.frozen? ⟨b, o, none⟩ = W.frozen? ⟨b, o, none⟩) :=
  ⟨fun b o h => hb.cell (p := ⟨b, o, none⟩) h, fun b o h => hb.frozen (p := ⟨b, o, none⟩) h⟩

theorem aft {B : Nat} {W0 W w1 : World} (hb : Below W.heap.size W w1) (h0 : Below B W0 W) (hB : B ≤ W.heap.size) :
    Below B W0 w1 ∧ (∀ b o, b < W.heap.size → w1.cell? ⟨b, o, none⟩ = W.cell? ⟨b, o, none⟩) ∧ (∀ b o, b < W.heap.size → w1.frozen? ⟨b, o, none⟩ = W.frozen? ⟨b, o, none⟩) ∧ W.heap.size ≤ w1.heap.size :=
  ⟨h0.trans (hb.mono hB), fun b o h => hb.cell (p := ⟨b, o, none⟩) h, fun b o h => hb.frozen (p := ⟨b, o, none⟩) h, hb.size⟩

set_option maxHeartbeats 1000000 in
theorem times_any (ah al u : Int) (w : World) (a0 : 0 ≤ al) (a1 : al < 18446744073709551616) (a2 : 0 ≤ ah) (a3 : ah < 18446744073709551616) (u0 : 0 ≤ u) (u1 : u < 18446744073709551616) :
    Calls Tryz.prog 83 #[.agg #[.int .u64 ah, .int .u64 al], .int .u64 u] w fun e w' =>
      ∃ (h l : Int) (b : Bool), e = .returned (.tuple #[.agg #[.int .u64 h, .int .u64 l], .bool b]) ∧ Wok h l ∧ Fits h l b ((ah * 18446744073709551616 + al) * u) ∧ Below w.heap.size w w' := by
  have p1 := Int.mul_nonneg a0 u0
  have p2 := Int.mul_nonneg a2 u0
  have q1 : al * u ≤ 18446744073709551615 * u := Int.mul_le_mul_of_nonneg_right (by omega) u0
  have q2 : ah * u ≤ 18446744073709551615 * u := Int.mul_le_mul_of_nonneg_right (by omega) u0
  have e := times_two ah al u (ah * u) (al * u % 18446744073709551616) (al * u / 18446744073709551616) rfl rfl rfl
  obtain ⟨s, c, s0, s1, c0, c1, e1, r1⟩ := add64_run (ah * u % 18446744073709551616) (al * u / 18446744073709551616) 0 (by omega) (by omega) (by omega) (by omega) (by omega) (by omega)
  have m1 : ∀ w, Calls Tryz.prog 96 #[.int .u64 al, .int .u64 u] w fun e w' => e = .returned (.tuple #[.int .u64 (al * u / 18446744073709551616), .int .u64 (al * u % 18446744073709551616)]) ∧ w' = w := fun w => mul64_any al u a0 a1 u0 u1 w
  have m2 : ∀ w, Calls Tryz.prog 96 #[.int .u64 ah, .int .u64 u] w fun e w' => e = .returned (.tuple #[.int .u64 (ah * u / 18446744073709551616), .int .u64 (ah * u % 18446744073709551616)]) ∧ w' = w := fun w => mul64_any ah u a2 a3 u0 u1 w
  have d1 : 0 ≤ ah * u / 18446744073709551616 := by omega
  have l0 : 0 ≤ al * u % 18446744073709551616 := by omega
  have l1 : al * u % 18446744073709551616 < 18446744073709551616 := by omega
  have fin : (ah * u / 18446744073709551616 = 0 ∧ c = 0 ∧ s * 18446744073709551616 + al * u % 18446744073709551616 = (ah * 18446744073709551616 + al) * u) ∨ ((¬ ah * u / 18446744073709551616 = 0 ∨ (ah * u / 18446744073709551616 = 0 ∧ ¬ c = 0)) ∧ 340282366920938463463374607431768211456 ≤ (ah * 18446744073709551616 + al) * u) := by
    by_cases z : ah * u / 18446744073709551616 = 0
    · by_cases k : c = 0
      · left; refine ⟨z, k, by omega⟩
      · right; refine ⟨Or.inr ⟨z, k⟩, by omega⟩
    · right; refine ⟨Or.inl z, by omega⟩
  generalize hV : (ah * 18446744073709551616 + al) * u = V at *
  generalize hA : al * u / 18446744073709551616 = A at *
  generalize hB : al * u % 18446744073709551616 = B at *
  generalize hC : ah * u / 18446744073709551616 = C at *
  generalize hD : ah * u % 18446744073709551616 = D at *
  have M1 : Hid _ := m1
  have M2 : Hid _ := m2
  clear m1 m2 e e1 p1 p2 q1 q2 hA hB hC hD hV
  rcases fin with ⟨rfl, rfl, f⟩ | ⟨z | ⟨rfl, z⟩, f⟩
  · have F : Hid _ := f
    clear f
    go_enter Tryz.func83, Tryz.ntmps83
    go_wp2_with (fail)
    refine (M1.out _).mono ?_
    rintro e w' ⟨rfl, rfl⟩
    go_wp2_with (fail)
    refine (M2.out _).mono ?_
    rintro e w' ⟨rfl, rfl⟩
    go_wp2
    go_returns
    exact ⟨_, _, _, rfl, ⟨s0, s1, l0, l1⟩, Or.inl ⟨rfl, F.out⟩, by go_grown⟩
  · have zb : (C == 0) = false := by simp [z]
    go_enter Tryz.func83, Tryz.ntmps83
    go_wp2_with (fail)
    refine (M1.out _).mono ?_
    rintro e w' ⟨rfl, rfl⟩
    go_wp2_with (fail)
    refine (M2.out _).mono ?_
    rintro e w' ⟨rfl, rfl⟩
    go_wp2
    go_returns
    exact ⟨_, _, _, rfl, ⟨by omega, by omega, by omega, by omega⟩, Or.inr ⟨rfl, rfl, rfl, f⟩, by go_grown⟩
  · have zb : (c == 0) = false := by simp [z]
    go_enter Tryz.func83, Tryz.ntmps83
    go_wp2_with (fail)
    refine (M1.out _).mono ?_
    rintro e w' ⟨rfl, rfl⟩
    go_wp2_with (fail)
    refine (M2.out _).mono ?_
    rintro e w' ⟨rfl, rfl⟩
    go_wp2
    go_returns
    exact ⟨_, _, _, rfl, ⟨by omega, by omega, by omega, by omega⟩, Or.inr ⟨rfl, rfl, rfl, f⟩, by go_grown⟩

/-- A number of two words by one: the high word's quotient, and what is left of it goes down. -/
theorem by_two (ah al u : Int) (u0 : 0 < u) (a2 : 0 ≤ ah) (a3 : ah < 18446744073709551616) (a0 : 0 ≤ al) (a1 : al < 18446744073709551616) :
    ah / u * 18446744073709551616 + (ah % u * 18446744073709551616 + al) / u = (ah * 18446744073709551616 + al) / u ∧ (ah % u * 18446744073709551616 + al) % u = (ah * 18446744073709551616 + al) % u ∧
    Wok (ah / u) ((ah % u * 18446744073709551616 + al) / u) := by
  have e : ah * 18446744073709551616 + al = (ah % u * 18446744073709551616 + al) + ah / u * 18446744073709551616 * u := by
    have h := Int.emod_add_mul_ediv ah u
    have h2 : ah / u * 18446744073709551616 * u = u * (ah / u) * 18446744073709551616 := by grind
    rw [h2]
    omega
  have m0 := Int.emod_nonneg ah (show u ≠ 0 by omega)
  have m1 := Int.emod_lt_of_pos ah u0
  refine ⟨?_, ?_, Int.ediv_nonneg a2 (by omega), ?_, Int.ediv_nonneg (by omega) (by omega), ?_⟩
  · rw [e, Int.add_mul_ediv_right _ _ (by omega)]; omega
  · rw [e, Int.add_mul_emod_self_right]
  · exact Int.lt_of_le_of_lt (Int.ediv_le_self _ a2) a3
  · exact Int.ediv_lt_of_lt_mul u0 (by omega)

set_option maxHeartbeats 1000000 in
theorem by_any (ah al u : Int) (w : World) (a0 : 0 ≤ al) (a1 : al < 18446744073709551616) (a2 : 0 ≤ ah) (a3 : ah < 18446744073709551616) (u0 : 0 < u) (u1 : u < 18446744073709551616) :
    Calls Tryz.prog 66 #[.agg #[.int .u64 ah, .int .u64 al], .int .u64 u] w fun e w' =>
      ∃ (h l r : Int), e = .returned (.tuple #[.agg #[.int .u64 h, .int .u64 l], .int .u64 r, .bool true]) ∧ Wok h l ∧ h * 18446744073709551616 + l = (ah * 18446744073709551616 + al) / u ∧ r = (ah * 18446744073709551616 + al) % u ∧ Below w.heap.size w w' := by
  obtain ⟨m1, m2, m3⟩ := by_two ah al u u0 a2 a3 a0 a1
  have M1 : Hid _ := m1
  have M2 : Hid _ := m2
  clear m1 m2
  have e0 : ¬ u = 0 := by omega
  have eb : (u == 0) = false := by simp [e0]
  have n0 := Int.emod_nonneg ah e0
  have n1 := Int.emod_lt_of_pos ah u0
  go_enter Tryz.func66, Tryz.ntmps66
  go_wp2_with (fail)
  go_quiet ((go_at_call 85; exact Calls.quiet_of (div64_any _ _ _ _ u1 a0 a1 n0 n1)))
  go_wp2
  go_returns
  exact ⟨_, _, _, rfl, m3, M1.out, M2.out, by go_grown; exact below_drewN (by go_grown) _⟩

set_option maxHeartbeats 1000000 in
theorem by_zero (ah al : Int) (w : World) :
    Calls Tryz.prog 66 #[.agg #[.int .u64 ah, .int .u64 al], .int .u64 0] w fun e w' =>
      e = .returned (.tuple #[.agg #[.int .u64 0, .int .u64 0], .int .u64 0, .bool false]) ∧ Below w.heap.size w w' := by
  go_enter Tryz.func66, Tryz.ntmps66
  go_wp2
  go_returns
  exact ⟨rfl, by go_grown⟩

set_option maxHeartbeats 1000000 in
theorem left_neg (ah al n : Int) (w : World) (n0 : n < 0) :
    Calls Tryz.prog 77 #[.agg #[.int .u64 ah, .int .u64 al], .int .i64 n] w fun e w' =>
      e = .returned (.tuple #[.agg #[.int .u64 0, .int .u64 0], .bool false]) ∧ Below w.heap.size w w' := by
  go_enter Tryz.func77, Tryz.ntmps77
  go_wp2
  go_returns
  exact ⟨rfl, by go_grown⟩

set_option maxHeartbeats 1000000 in
theorem left_any (ah al n : Int) (w : World) (a0 : 0 ≤ al) (a1 : al < 18446744073709551616) (b0 : 0 ≤ ah) (b1 : ah < 18446744073709551616) (n0 : 0 ≤ n) (n1 : n ≤ 9223372036854775807) :
    Calls Tryz.prog 77 #[.agg #[.int .u64 ah, .int .u64 al], .int .i64 n] w fun e w' =>
      ∃ (h l : Int) (b : Bool), e = .returned (.tuple #[.agg #[.int .u64 h, .int .u64 l], .bool b]) ∧ Wok h l ∧ Fits h l b ((ah * 18446744073709551616 + al) * 2 ^ n.toNat) ∧ Below w.heap.size w w' := by
  by_cases hz : ah = 0 ∧ al = 0
  · obtain ⟨rfl, rfl⟩ := hz
    go_enter Tryz.func77, Tryz.ntmps77
    go_wp2
    go_returns
    exact ⟨_, _, _, rfl, ⟨by omega, by omega, by omega, by omega⟩, Or.inl ⟨rfl, by simp⟩, by go_grown⟩
  · have hV : 0 < ah * 18446744073709551616 + al := by omega
    have hf := left_fits (ah * 18446744073709551616 + al) n hV n0
    have b128 : bitLen (ah * 18446744073709551616 + al).toNat ≤ 128 := bitLen_le128 _ (by omega)
    have bb : ∀ w, Calls Tryz.prog 92 #[.agg #[.int .u64 ah, .int .u64 al]] w fun e w' => e = .returned (.int .i64 (bitLen (ah * 18446744073709551616 + al).toNat)) ∧ Below w.heap.size w w' := fun w => bits_any ah al w b0 b1 a0 a1
    by_cases hq : (bitLen (ah * 18446744073709551616 + al).toNat : Int) ≤ 128 - n
    · have V1 := hf.1 hq
      clear hf
      generalize hk : bitLen (ah * 18446744073709551616 + al).toNat = k at *
      by_cases hn : 64 ≤ n
      · obtain ⟨rfl, m1, m2⟩ := left_high ah al n a0 b0 hn V1
        have M1 : Hid (Wok _ _) := m1
        have M2 : Hid _ := m2
        have B : Hid _ := bb
        clear bb m1 m2 V1 hk hV
        have hl : ¬ al = 0 := by omega
        clear hz
        go_enter Tryz.func77, Tryz.ntmps77
        go_wp2_with (fail)
        refine (B.out _).mono ?_
        rintro e w1 ⟨rfl, hw1⟩
        have HBw1 : Below w.heap.size w w1 := Below.trans (by go_grown) (hw1.mono (by first | omega | (simp; done) | (simp; omega)))
        obtain ⟨hcw1, hfw1⟩ := bcell hw1
        have hsw1 := hw1.size
        (try simp at hsw1)
        clear hw1
        go_wp2
        refine bodyPost_ret (v := .tuple #[.agg #[.int .u64 (IntKind.u64.wrap (al * 2 ^ (n - 64).toNat)), .int .u64 0], .bool true]) (by simp [results, Tryz.results77, go_sem, hcw1]) rfl ⟨_, _, _, rfl, M1.out, Or.inl ⟨rfl, M2.out⟩, ?_⟩
        go_grown
      · obtain ⟨m1, m2⟩ := left_low ah al n a0 a1 b0 n0 (by omega) V1
        have M1 : Hid (Wok _ _) := m1
        have M2 : Hid _ := m2
        have B : Hid _ := bb
        clear bb m1 m2 V1 hk hV
        by_cases hy : ah = 0
        · subst hy
          have hl : ¬ al = 0 := by omega
          have x1 : IntKind.u64.wrap (0 * 2 ^ n.toNat) = 0 := by simp [IntKind.wrap_u64]
          rw [x1] at M1 M2
          clear hz
          go_enter Tryz.func77, Tryz.ntmps77
          go_wp2_with (fail)
          refine (B.out _).mono ?_
          rintro e w1 ⟨rfl, hw1⟩
          have HBw1 : Below w.heap.size w w1 := Below.trans (by go_grown) (hw1.mono (by first | omega | (simp; done) | (simp; omega)))
          obtain ⟨hcw1, hfw1⟩ := bcell hw1
          have hsw1 := hw1.size
          (try simp at hsw1)
          clear hw1
          go_wp2
          refine bodyPost_ret (v := .tuple #[.agg #[.int .u64 (bits BinOp.or IntKind.u64 0 (al / 2 ^ (64 - n).toNat)), .int .u64 (IntKind.u64.wrap (al * 2 ^ n.toNat))], .bool true]) (by simp [results, Tryz.results77, go_sem, hcw1]) rfl ⟨_, _, _, rfl, M1.out, Or.inl ⟨rfl, M2.out⟩, ?_⟩
          go_grown
        · clear hz
          go_enter Tryz.func77, Tryz.ntmps77
          go_wp2_with (fail)
          refine (B.out _).mono ?_
          rintro e w1 ⟨rfl, hw1⟩
          have HBw1 : Below w.heap.size w w1 := Below.trans (by go_grown) (hw1.mono (by first | omega | (simp; done) | (simp; omega)))
          obtain ⟨hcw1, hfw1⟩ := bcell hw1
          have hsw1 := hw1.size
          (try simp at hsw1)
          clear hw1
          go_wp2
          refine bodyPost_ret (v := .tuple #[.agg #[.int .u64 (bits BinOp.or IntKind.u64 (IntKind.u64.wrap (ah * 2 ^ n.toNat)) (al / 2 ^ (64 - n).toNat)), .int .u64 (IntKind.u64.wrap (al * 2 ^ n.toNat))], .bool true]) (by simp [results, Tryz.results77, go_sem, hcw1]) rfl ⟨_, _, _, rfl, M1.out, Or.inl ⟨rfl, M2.out⟩, ?_⟩
          go_grown
    · have V1 : 340282366920938463463374607431768211456 ≤ (ah * 18446744073709551616 + al) * 2 ^ n.toNat := by
        refine Decidable.byContradiction fun hx => hq (hf.2 (by omega))
      have V2 : Hid _ := V1
      clear V1 hf
      generalize hk : bitLen (ah * 18446744073709551616 + al).toNat = k at *
      have B : Hid _ := bb
      clear bb hk hV
      by_cases hy : ah = 0
      · subst hy
        have hl : ¬ al = 0 := by omega
        clear hz
        go_enter Tryz.func77, Tryz.ntmps77
        go_wp2_with (fail)
        refine (B.out _).mono ?_
        rintro e w1 ⟨rfl, hw1⟩
        have HBw1 : Below w.heap.size w w1 := Below.trans (by go_grown) (hw1.mono (by first | omega | (simp; done) | (simp; omega)))
        obtain ⟨hcw1, hfw1⟩ := bcell hw1
        have hsw1 := hw1.size
        (try simp at hsw1)
        clear hw1
        go_wp2
        refine bodyPost_ret (v := .tuple #[.agg #[.int .u64 0, .int .u64 0], .bool false]) (by simp [results, Tryz.results77, go_sem, hcw1]) rfl ⟨_, _, _, rfl, ⟨by omega, by omega, by omega, by omega⟩, Or.inr ⟨rfl, rfl, rfl, V2.out⟩, ?_⟩
        go_grown
      · clear hz
        go_enter Tryz.func77, Tryz.ntmps77
        go_wp2_with (fail)
        refine (B.out _).mono ?_
        rintro e w1 ⟨rfl, hw1⟩
        have HBw1 : Below w.heap.size w w1 := Below.trans (by go_grown) (hw1.mono (by first | omega | (simp; done) | (simp; omega)))
        obtain ⟨hcw1, hfw1⟩ := bcell hw1
        have hsw1 := hw1.size
        (try simp at hsw1)
        clear hw1
        go_wp2
        refine bodyPost_ret (v := .tuple #[.agg #[.int .u64 0, .int .u64 0], .bool false]) (by simp [results, Tryz.results77, go_sem, hcw1]) rfl ⟨_, _, _, rfl, ⟨by omega, by omega, by omega, by omega⟩, Or.inr ⟨rfl, rfl, rfl, V2.out⟩, ?_⟩
        go_grown

end Go.Proofs.YtpbgolcimbjekaaGreatDoor

namespace Go.Proofs.YtpbgolcimbjekaaGreatDoor
open Go.RowKit

/-- What lies in place i of the table of digits behind j rounds. -/
def dg (V : Int) (j i : Nat) : Int := if 39 ≤ i + j then 48 + V / 10 ^ (38 - i) % 10 else 0

theorem dg_new (V : Int) (j m : Nat) (h : j + m = 38) : dg V (j + 1) m = 48 + V / 10 ^ j % 10 := by
  unfold dg
  rw [if_pos (by omega), show 38 - m = j by omega]
theorem dg_old (V : Int) (j m i : Nat) (h : j + m = 38) (hi : i ≠ m) : dg V (j + 1) i = dg V j i := by
  unfold dg
  by_cases c : 39 ≤ i + j
  · rw [if_pos c, if_pos (by omega)]
  · rw [if_neg c, if_neg (by omega)]
theorem dg_wrap (r : Int) (r0 : 0 ≤ r) (r1 : r < 10) : IntKind.u8.wrap (48 + IntKind.u8.wrap r) = 48 + r := by
  simp only [IntKind.wrap_u8]; omega
theorem div_step (V : Int) (j : Nat) : V / 10 ^ j / 10 = V / 10 ^ (j + 1) := by
  rw [Int.pow_succ, Int.ediv_ediv_of_nonneg (Int.pow_nonneg (by omega))]

theorem short39 (V : Int) (j : Nat) (_V0 : 0 ≤ V) (V1 : V < 340282366920938463463374607431768211456) (h : V / 10 ^ (j + 1) ≠ 0) : j + 1 ≤ 38 := by
  refine Decidable.byContradiction fun hn => h ?_
  have p : ∀ k : Nat, (10 : Int) ^ k = ((10 ^ k : Nat) : Int) := fun k => by simp
  have a : 10 ^ 39 ≤ 10 ^ (j + 1) := Nat.pow_le_pow_right (by omega) (by omega)
  rw [p]
  exact Int.ediv_eq_zero_of_lt _V0 (by omega)
theorem zeros39 (V : Int) (i : Nat) (hi : i < 39) : (Array.replicate 39 (Value.int IntKind.u8 0))[i]? = some (Value.int IntKind.u8 (dg V 0 i)) := by
  rw [Array.getElem?_replicate, if_pos hi]
  unfold dg
  rw [if_neg (by omega)]

/-- The n last digits of a number, the greatest first; and the text that they are. -/
def dsl (V : Int) (n : Nat) : List Int := (List.range n).map fun t => 48 + V / 10 ^ (n - 1 - t) % 10
def tx (V : Int) (n : Nat) : ByteArray := (dsl V n).foldl (fun r d => r.push (UInt8.ofNat d.toNat)) ByteArray.empty

theorem arr39 : Tryz.prog.arrayLen 119 = 39 := by kernel_rfl

set_option maxRecDepth 100000 in
theorem conv_text (wx : World) (B m j : Nat) (V : Int) (jm : j + m = 38) (hc : ∀ i, i < 39 → wx.cell? ⟨B, i, none⟩ = some (.int .u8 (dg V (j + 1) i))) :
    (convert 77 9 (.slice (some ⟨B, m, none⟩) (39 - m) (39 - m))).run Tryz.prog wx = .ok (.string (tx V (j + 1))) wx := by
  rw [run_convert_bytes_string wx _ _ _ _ _ _ Tryz.underlying77 Tryz.underlying5 Tryz.underlying9]
  have e : 39 - m = j + 1 := by omega
  rw [e]
  refine run_bytesToString wx _ _ _ (dsl V (j + 1)) ?_
  have ha : ∀ t, t < j + 1 → wx.cell? ((⟨B, m, none⟩ : Addr).add t) = some (.int .u8 (dg V (j + 1) (m + t))) := by
    intro t ht
    have h := hc (m + t) (by omega)
    rcases Nat.eq_zero_or_pos t with rfl | hp
    · simpa [Addr.add] using h
    · simpa [Addr.add, Nat.ne_of_gt hp] using h
  rw [run_loadCells (w := wx) (P := Tryz.prog) ⟨B, m, none⟩ (j + 1) (fun t => .int .u8 (dg V (j + 1) (m + t))) ha]
  congr 2
  unfold dsl
  rw [List.map_map]
  refine List.map_congr_left fun t ht => ?_
  have := List.mem_range.1 ht
  simp only [Function.comp]
  unfold dg
  rw [if_pos (by omega), show 38 - (m + t) = j + 1 - 1 - t by omega]

set_option maxHeartbeats 2000000 in
set_option maxRecDepth 100000 in
theorem text_any (ah al : Int) (w : World) (a0 : 0 ≤ al) (a1 : al < 18446744073709551616) (a2 : 0 ≤ ah) (a3 : ah < 18446744073709551616) :
    Calls Tryz.prog 65 #[.agg #[.int .u64 ah, .int .u64 al]] w fun e w' =>
      ∃ n : Nat, e = .returned (.string (tx (ah * 18446744073709551616 + al) n)) ∧ 1 ≤ n ∧ n ≤ 39 ∧ (n ≠ 1 → (ah * 18446744073709551616 + al) / 10 ^ (n - 1) ≠ 0) ∧ (ah * 18446744073709551616 + al) / 10 ^ n = 0 ∧ Below w.heap.size w w' := by
  generalize hV : ah * 18446744073709551616 + al = V
  have V0 : 0 ≤ V := by omega
  have V1 : V < 340282366920938463463374607431768211456 := by omega
  have HV : Hid _ := hV
  clear hV
  go_enter Tryz.func65, Tryz.ntmps65
  go_wp2
  go_loopw [4, 10] (fun f i wr => ∃ (j m : Nat) (h l : Int), j + m = 38 ∧ f = .int .i64 ((m : Int) + 1) ∧ i = .int .i64 j ∧ 0 ≤ h ∧ h < 18446744073709551616 ∧ 0 ≤ l ∧ l < 18446744073709551616 ∧
      Hid (h * 18446744073709551616 + l = V / 10 ^ j) ∧ Hid (j ≠ 0 → V / 10 ^ j ≠ 0) ∧
      wr.cell? ⟨w.heap.size + 1 + 1, 0, none⟩ = some (.int .u64 h) ∧ wr.cell? ⟨w.heap.size + 1 + 1, 1, none⟩ = some (.int .u64 l) ∧ wr.frozen? ⟨w.heap.size + 1 + 1, 0, none⟩ = false ∧ wr.frozen? ⟨w.heap.size + 1 + 1, 1, none⟩ = false ∧
      Hid (∀ i, i < 39 → wr.cell? ⟨w.heap.size + 1, i, none⟩ = some (.int .u8 (dg V j i))) ∧ Hid (∀ i, i < 39 → wr.frozen? ⟨w.heap.size + 1, i, none⟩ = false) ∧
      w.heap.size + 3 ≤ wr.heap.size ∧ Below w.heap.size w wr) (fun _ i _ => 39 - (intOf i).toNat)
  case atStart =>
    refine ⟨0, 38, ah, al, rfl, by go_num, rfl, a2, a3, a0, a1, ?_, ?_, by simp [go_sem], by simp [go_sem], by simp [go_sem], by simp [go_sem], ?_, ?_, by simp, by go_grown⟩
    · unfold Hid; rw [HV.out]; simp
    · unfold Hid; simp
    · unfold Hid; intro i hi
      rw [World.cell?_alloc_past _ _ _ (by simp), World.cell?_alloc_at _ _ _ _ (by simp)]
      exact zeros39 V i hi
    · unfold Hid; intro i hi
      simp [go_sem]
  case round =>
    obtain ⟨j, m, h, l, jm, rfl, rfl, k0, k1, k2, k3, HL, HN, c0, c1, f0, f1, HC, HF, hsz, HB⟩ := hrel
    have z1 : w.heap.size + 1 < wr.heap.size := by omega
    have z2 : w.heap.size + 1 + 1 < wr.heap.size := by omega
    have cm := HC.out m (by omega)
    have fm := HF.out m (by omega)
    go_wp2_with (fail)
    refine (by_any h l 10 _ k2 k3 k0 k1 (by omega) (by omega)).mono ?_
    rintro e w1 ⟨h1, l1, r, rfl, ⟨n0, n1, n2, n3⟩, q1, q2, hw1⟩
    rw [HL.out] at q1 q2
    have r0 : 0 ≤ r := by rw [q2]; exact Int.emod_nonneg _ (by omega)
    have r1 : r < 10 := by rw [q2]; exact Int.emod_lt_of_pos _ (by omega)
    rw [div_step] at q1
    have Q1 : Hid (h1 * 18446744073709551616 + l1 = V / 10 ^ (j + 1)) := q1
    have Q2 : Hid (48 + r = dg V (j + 1) m) := by unfold Hid; rw [dg_new V j m jm, q2]
    clear q1 q2
    have g0 := cell_later hw1 c0
    have g1 := cell_later hw1 c1
    have gm := cell_later hw1 cm
    obtain ⟨HB1, hc1, hf1, hs1⟩ := aft hw1 HB (by omega)
    clear hw1
    have i0 := (hf1 _ 0 z2).trans f0
    have i1 := (hf1 _ 1 z2).trans f1
    have im := (hf1 _ m z1).trans fm
    have y1 : w.heap.size + 1 < w1.heap.size := by omega
    have y2 : w.heap.size + 1 + 1 < w1.heap.size := by omega
    have HC1 : Hid (∀ i, i < 39 → (w1.setCell ⟨w.heap.size + 1, m, none⟩ (.int .u8 (48 + r))).cell? ⟨w.heap.size + 1, i, none⟩ = some (.int .u8 (dg V (j + 1) i))) := by
      intro i hi
      by_cases e : i = m
      · subst e; rw [World.cell?_setCell_same _ _ _ gm, Q2.out]
      · rw [World.cell?_setCell_other _ _ _ _ (by intro hh; exact e (by injection hh with _ h2 _; exact h2.symm)), (hc1 _ i z1).trans (HC.out i hi), dg_old V j m i jm e]
    have HF1 : Hid (∀ i, i < 39 → w1.frozen? ⟨w.heap.size + 1, i, none⟩ = false) := fun i hi => (hf1 _ i z1).trans (HF.out i hi)
    clear hc1 hf1 HB f0 f1 fm c0 c1 cm HC HF
    by_cases hz : h1 = 0 ∧ l1 = 0
    · obtain ⟨rfl, rfl⟩ := hz
      have hsl : ∀ wx, (Instr.sliceAt 119 (.pointer (some ⟨w.heap.size + 1, 0, none⟩)) (some (.int .i64 (m : Int))) (some (.int .i64 39)) (some (.int .i64 39))).run Tryz.prog wx = .ok (.slice (some ⟨w.heap.size + 1, m, none⟩) (39 - m) (39 - m)) wx := by
        intro wx
        rw [run_sliceAt_array_lhm wx 119 _ Tryz.underlying119 _ _ _ _ _ _ (by omega) (by omega) (by omega) (by rw [arr39]; omega)]
        simp [go_sem]
        omega
      have hcv := conv_text ((w1.setCell ⟨w.heap.size + 1, m, none⟩ (.int .u8 (48 + r))).alloc (.cells #[.int .u64 0, .int .u64 0] 42)) (w.heap.size + 1) m j V jm (fun i hi => (World.cell?_alloc_past _ _ _ (by simpa using y1)).trans (HC1.out i hi))
      go_wp2
      go_ret
      refine ⟨j + 1, rfl, by omega, by omega, ?_, ?_, by go_grown⟩
      · intro hn; exact HN.out (by omega)
      · rw [← Q1.out]; rfl
    · have NZ : V / 10 ^ (j + 1) ≠ 0 := by rw [← Q1.out]; omega
      have lim := short39 V j V0 V1 NZ
      obtain ⟨m', rfl⟩ : ∃ m', m = m' + 1 := ⟨m - 1, by omega⟩
      have HZ : Hid _ := NZ
      clear NZ
      by_cases hz1 : h1 = 0
      · have hz2 : ¬ l1 = 0 := fun h => hz ⟨hz1, h⟩
        clear hz
        subst hz1
        go_wp2
        go_roundw
        case rel =>
          refine ⟨j + 1, m', 0, l1, by omega, by go_num, by go_num, n0, n1, n2, n3, Q1, fun _ => HZ.out, by simp [go_sem, y2, g0], by simp [go_sem, y2, g1], by simp [go_sem, y2, i0], by simp [go_sem, y2, i1], ?_, ?_, by simp; omega, by go_grown⟩
          · unfold Hid; intro i hi
            have := HC1.out i hi
            simp [go_sem, y1, this]
          · unfold Hid; intro i hi
            have := HF1.out i hi
            simp [go_sem, y1, this]
        case measure => simp [intOf]; omega
      · clear hz
        go_wp2
        go_roundw
        case rel =>
          refine ⟨j + 1, m', h1, l1, by omega, by go_num, by go_num, n0, n1, n2, n3, Q1, fun _ => HZ.out, by simp [go_sem, y2, g0], by simp [go_sem, y2, g1], by simp [go_sem, y2, i0], by simp [go_sem, y2, i1], ?_, ?_, by simp; omega, by go_grown⟩
          · unfold Hid; intro i hi
            have := HC1.out i hi
            simp [go_sem, y1, this]
          · unfold Hid; intro i hi
            have := HF1.out i hi
            simp [go_sem, y1, this]
        case measure => simp [intOf]; omega

end Go.Proofs.YtpbgolcimbjekaaGreatDoor
