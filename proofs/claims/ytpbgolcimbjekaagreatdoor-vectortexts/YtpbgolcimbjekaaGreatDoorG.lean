/-
  Contracts of package wide's Times, By, Left at this program, over the numbers that the words make. Conditions: all words lie below 2^64.
-/
import Derived.Test.YtpbgolcimbjekaaGreatDoorE
import Derived.WalkSmall
namespace Go.Proofs.YtpbgolcimbjekaaGreatDoor
open Go.RowKit

theorem bcell {W w1 : World} (hb : Below W.heap.size W w1) : (∀ b o, b < W.heap.size → w1.cell? ⟨b, o, none⟩ = W.cell? ⟨b, o, none⟩) ∧ (∀ b o, b < W.heap.size → w1.frozen? ⟨b, o, none⟩ = W.frozen? ⟨b, o, none⟩) :=
  ⟨fun b o h => hb.cell (p := ⟨b, o, none⟩) h, fun b o h => hb.frozen (p := ⟨b, o, none⟩) h⟩

theorem aft {B : Nat} {W0 W w1 : World} (hb : Below W.heap.size W w1) (h0 : Below B W0 W) (hB : B ≤ W.heap.size) :
    Below B W0 w1 ∧ (∀ b o, b < W.heap.size → w1.cell? ⟨b, o, none⟩ = W.cell? ⟨b, o, none⟩) ∧ (∀ b o, b < W.heap.size → w1.frozen? ⟨b, o, none⟩ = W.frozen? ⟨b, o, none⟩) ∧ W.heap.size ≤ w1.heap.size :=
  ⟨h0.trans (hb.mono hB), fun b o h => hb.cell (p := ⟨b, o, none⟩) h, fun b o h => hb.frozen (p := ⟨b, o, none⟩) h, hb.size⟩

set_option maxHeartbeats 1000000 in
theorem times_any (ah al u : Int) (w : World) (a0 : 0 ≤ al) (a1 : al < 18446744073709551616) (a2 : 0 ≤ ah) (a3 : ah < 18446744073709551616) (u0 : 0 ≤ u) (u1 : u < 18446744073709551616) :
    Calls Tryz.prog 83 #[.agg #[.int .u64 ah, .int .u64 al], .int .u64 u] w fun e w' =>
      ∃ (h l : Int) (b : Bool), e = .returned (.tuple #[.agg #[.int .u64 h, .int .u64 l], .bool b]) ∧ Wok h l ∧ Fits h l b ((ah * 18446744073709551616 + al) * u) ∧ Below w.heap.size w w' := by
  have p1 := Int.mul_nonneg a0 u0
  have p2 := Int.mul_nonneg a2 u0
  have q1 : al * u ≤ 18446744073709551615 * u := Int.mul_le_mul_of_nonneg_right (by omega) u0
  have q2 : ah * u ≤ 18446744073709551615 * u := Int.mul_le_mul_of_nonneg_right (by omega) u0
  have e := times_two ah al u (ah * u) (al * u % 18446744073709551616) (al * u / 18446744073709551616) rfl rfl rfl
  obtain ⟨s, c, s0, s1, c0, c1, e1, r1⟩ := add64_run (ah * u % 18446744073709551616) (al * u / 18446744073709551616) 0 (by omega) (by omega) (by omega) (by omega) (by omega) (by omega)
  have m1 : ∀ w, Calls Tryz.prog 96 #[.int .u64 al, .int .u64 u] w fun e w' => e = .returned (.tuple #[.int .u64 (al * u / 18446744073709551616), .int .u64 (al * u % 18446744073709551616)]) ∧ w' = w := fun w => mul64_any al u a0 a1 u0 u1 w
  have m2 : ∀ w, Calls Tryz.prog 96 #[.int .u64 ah, .int .u64 u] w fun e w' => e = .returned (.tuple #[.int .u64 (ah * u / 18446744073709551616), .int .u64 (ah * u % 18446744073709551616)]) ∧ w' = w := fun w => mul64_any ah u a2 a3 u0 u1 w
  have d1 : 0 ≤ ah * u / 18446744073709551616 := by omega
  have l0 : 0 ≤ al * u % 18446744073709551616 := by omega
  have l1 : al * u % 18446744073709551616 < 18446744073709551616 := by omega
  have fin : (ah * u / 18446744073709551616 = 0 ∧ c = 0 ∧ s * 18446744073709551616 + al * u % 18446744073709551616 = (ah * 18446744073709551616 + al) * u) ∨ ((¬ ah * u / 18446744073709551616 = 0 ∨ (ah * u / 18446744073709551616 = 0 ∧ ¬ c = 0)) ∧ 340282366920938463463374607431768211456 ≤ (ah * 18446744073709551616 + al) * u) := by
    by_cases z : ah * u / 18446744073709551616 = 0
    · by_cases k : c = 0
      · left; refine ⟨z, k, by omega⟩
      · right; refine ⟨Or.inr ⟨z, k⟩, by omega⟩
    · right; refine ⟨Or.inl z, by omega⟩
  generalize hV : (ah * 18446744073709551616 + al) * u = V at *
  generalize hA : al * u / 18446744073709551616 = A at *
  generalize hB : al * u % 18446744073709551616 = B at *
  generalize hC : ah * u / 18446744073709551616 = C at *
  generalize hD : ah * u % 18446744073709551616 = D at *
  have M1 : Hid _ := m1
  have M2 : Hid _ := m2
  clear m1 m2 e e1 p1 p2 q1 q2 hA hB hC hD hV
  rcases fin with ⟨rfl, rfl, f⟩ | ⟨z | ⟨rfl, z⟩, f⟩
  · have F : Hid _ := f
    clear f
    go_enter Tryz.func83, Tryz.ntmps83
    go_wp2_with (fail)
    refine (M1.out _).mono ?_
    rintro e w' ⟨rfl, rfl⟩
    go_wp2_with (fail)
    refine (M2.out _).mono ?_
    rintro e w' ⟨rfl, rfl⟩
    go_wp2
    go_returns
    exact ⟨_, _, _, rfl, ⟨s0, s1, l0, l1⟩, Or.inl ⟨rfl, F.out⟩, by go_grown⟩
  · have zb : (C == 0) = false := by simp [z]
    go_enter Tryz.func83, Tryz.ntmps83
    go_wp2_with (fail)
    refine (M1.out _).mono ?_
    rintro e w' ⟨rfl, rfl⟩
    go_wp2_with (fail)
    refine (M2.out _).mono ?_
    rintro e w' ⟨rfl, rfl⟩
    go_wp2
    go_returns
    exact ⟨_, _, _, rfl, ⟨by omega, by omega, by omega, by omega⟩, Or.inr ⟨rfl, rfl, rfl, f⟩, by go_grown⟩
  · have zb : (c == 0) = false := by simp [z]
    go_enter Tryz.func83, Tryz.ntmps83
    go_wp2_with (fail)
    refine (M1.out _).mono ?_
    rintro e w' ⟨rfl, rfl⟩
    go_wp2_with (fail)
    refine (M2.out _).mono ?_
    rintro e w' ⟨rfl, rfl⟩
    go_wp2
    go_returns
    exact ⟨_, _, _, rfl, ⟨by omega, by omega, by omega, by omega⟩, Or.inr ⟨rfl, rfl, rfl, f⟩, by go_grown⟩

/-- A number of two words by one: the high word's quotient, and what is left of it goes down. -/
theorem by_two (ah al u : Int) (u0 : 0 < u) (a2 : 0 ≤ ah) (a3 : ah < 18446744073709551616) (a0 : 0 ≤ al) (a1 : al < 18446744073709551616) :
    ah / u * 18446744073709551616 + (ah % u * 18446744073709551616 + al) / u = (ah * 18446744073709551616 + al) / u ∧ (ah % u * 18446744073709551616 + al) % u = (ah * 18446744073709551616 + al) % u ∧
    Wok (ah / u) ((ah % u * 18446744073709551616 + al) / u) := by
  have e : ah * 18446744073709551616 + al = (ah % u * 18446744073709551616 + al) + ah / u * 18446744073709551616 * u := by
    have h := Int.emod_add_mul_ediv ah u
    have h2 : ah / u * 18446744073709551616 * u = u * (ah / u) * 18446744073709551616 := by grind
    rw [h2]
    omega
  have m0 := Int.emod_nonneg ah (show u ≠ 0 by omega)
  have m1 := Int.emod_lt_of_pos ah u0
  refine ⟨?_, ?_, Int.ediv_nonneg a2 (by omega), ?_, Int.ediv_nonneg (by omega) (by omega), ?_⟩
  · rw [e, Int.add_mul_ediv_right _ _ (by omega)]; omega
  · rw [e, Int.add_mul_emod_self_right]
  · exact Int.lt_of_le_of_lt (Int.ediv_le_self _ a2) a3
  · exact Int.ediv_lt_of_lt_mul u0 (by omega)

set_option maxHeartbeats 1000000 in
theorem by_any (ah al u : Int) (w : World) (a0 : 0 ≤ al) (a1 : al < 18446744073709551616) (a2 : 0 ≤ ah) (a3 : ah < 18446744073709551616) (u0 : 0 < u) (u1 : u < 18446744073709551616) :
    Calls Tryz.prog 66 #[.agg #[.int .u64 ah, .int .u64 al], .int .u64 u] w fun e w' =>
      ∃ (h l r : Int), e = .returned (.tuple #[.agg #[.int .u64 h, .int .u64 l], .int .u64 r, .bool true]) ∧ Wok h l ∧ h * 18446744073709551616 + l = (ah * 18446744073709551616 + al) / u ∧ r = (ah * 18446744073709551616 + al) % u ∧ Below w.heap.size w w' := by
  obtain ⟨m1, m2, m3⟩ := by_two ah al u u0 a2 a3 a0 a1
  have M1 : Hid _ := m1
  have M2 : Hid _ := m2
  clear m1 m2
  have e0 : ¬ u = 0 := by omega
  have eb : (u == 0) = false := by simp [e0]
  have n0 := Int.emod_nonneg ah e0
  have n1 := Int.emod_lt_of_pos ah u0
  go_enter Tryz.func66, Tryz.ntmps66
  go_wp2_with (fail)
  go_quiet ((go_at_call 85; exact Calls.quiet_of (div64_any _ _ _ _ u1 a0 a1 n0 n1)))
  go_wp2
  go_returns
  exact ⟨_, _, _, rfl, m3, M1.out, M2.out, by go_grown; exact below_drewN (by go_grown) _⟩

set_option maxHeartbeats 1000000 in
theorem by_zero (ah al : Int) (w : World) :
    Calls Tryz.prog 66 #[.agg #[.int .u64 ah, .int .u64 al], .int .u64 0] w fun e w' =>
      e = .returned (.tuple #[.agg #[.int .u64 0, .int .u64 0], .int .u64 0, .bool false]) ∧ Below w.heap.size w w' := by
  go_enter Tryz.func66, Tryz.ntmps66
  go_wp2
  go_returns
  exact ⟨rfl, by go_grown⟩

set_option maxHeartbeats 1000000 in
theorem left_neg (ah al n : Int) (w : World) (n0 : n < 0) :
    Calls Tryz.prog 77 #[.agg #[.int .u64 ah, .int .u64 al], .int .i64 n] w fun e w' =>
      e = .returned (.tuple #[.agg #[.int .u64 0, .int .u64 0], .bool false]) ∧ Below w.heap.size w w' := by
  go_enter Tryz.func77, Tryz.ntmps77
  go_wp2
  go_returns
  exact ⟨rfl, by go_grown⟩

set_option maxHeartbeats 1000000 in
theorem left_any (ah al n : Int) (w : World) (a0 : 0 ≤ al) (a1 : al < 18446744073709551616) (b0 : 0 ≤ ah) (b1 : ah < 18446744073709551616) (n0 : 0 ≤ n) (n1 : n ≤ 9223372036854775807) :
    Calls Tryz.prog 77 #[.agg #[.int .u64 ah, .int .u64 al], .int .i64 n] w fun e w' =>
      ∃ (h l : Int) (b : Bool), e = .returned (.tuple #[.agg #[.int .u64 h, .int .u64 l], .bool b]) ∧ Wok h l ∧ Fits h l b ((ah * 18446744073709551616 + al) * 2 ^ n.toNat) ∧ Below w.heap.size w w' := by
  by_cases hz : ah = 0 ∧ al = 0
  · obtain ⟨rfl, rfl⟩ := hz
    go_enter Tryz.func77, Tryz.ntmps77
    go_wp2
    go_returns
    exact ⟨_, _, _, rfl, ⟨by omega, by omega, by omega, by omega⟩, Or.inl ⟨rfl, by simp⟩, by go_grown⟩
  · have hV : 0 < ah * 18446744073709551616 + al := by omega
    have hf := left_fits (ah * 18446744073709551616 + al) n hV n0
    have b128 : bitLen (ah * 18446744073709551616 + al).toNat ≤ 128 := bitLen_le128 _ (by omega)
    have bb : ∀ w, Calls Tryz.prog 92 #[.agg #[.int .u64 ah, .int .u64 al]] w fun e w' => e = .returned (.int .i64 (bitLen (ah * 18446744073709551616 + al).toNat)) ∧ Below w.heap.size w w' := fun w => bits_any ah al w b0 b1 a0 a1
    by_cases hq : (bitLen (ah * 18446744073709551616 + al).toNat : Int) ≤ 128 - n
    · have V1 := hf.1 hq
      clear hf
      generalize hk : bitLen (ah * 18446744073709551616 + al).toNat = k at *
      by_cases hn : 64 ≤ n
      · obtain ⟨rfl, m1, m2⟩ := left_high ah al n a0 b0 hn V1
        have M1 : Hid (Wok _ _) := m1
        have M2 : Hid _ := m2
        have B : Hid _ := bb
        clear bb m1 m2 V1 hk hV
        have hl : ¬ al = 0 := by omega
        clear hz
        go_enter Tryz.func77, Tryz.ntmps77
        go_wp2_with (fail)
        refine (B.out _).mono ?_
        rintro e w1 ⟨rfl, hw1⟩
        have HBw1 : Below w.heap.size w w1 := Below.trans (by go_grown) (hw1.mono (by first | omega | (simp; done) | (simp; omega)))
        obtain ⟨hcw1, hfw1⟩ := bcell hw1
        have hsw1 := hw1.size
        (try simp at hsw1)
        clear hw1
        go_wp2
        refine bodyPost_ret (v := .tuple #[.agg #[.int .u64 (IntKind.u64.wrap (al * 2 ^ (n - 64).toNat)), .int .u64 0], .bool true]) (by simp [results, Tryz.results77, go_sem, hcw1]) rfl ⟨_, _, _, rfl, M1.out, Or.inl ⟨rfl, M2.out⟩, ?_⟩
        go_grown
      · obtain ⟨m1, m2⟩ := left_low ah al n a0 a1 b0 n0 (by omega) V1
        have M1 : Hid (Wok _ _) := m1
        have M2 : Hid _ := m2
        have B : Hid _ := bb
        clear bb m1 m2 V1 hk hV
        by_cases hy : ah = 0
        · subst hy
          have hl : ¬ al = 0 := by omega
          have x1 : IntKind.u64.wrap (0 * 2 ^ n.toNat) = 0 := by simp [IntKind.wrap_u64]
          rw [x1] at M1 M2
          clear hz
          go_enter Tryz.func77, Tryz.ntmps77
          go_wp2_with (fail)
          refine (B.out _).mono ?_
          rintro e w1 ⟨rfl, hw1⟩
          have HBw1 : Below w.heap.size w w1 := Below.trans (by go_grown) (hw1.mono (by first | omega | (simp; done) | (simp; omega)))
          obtain ⟨hcw1, hfw1⟩ := bcell hw1
          have hsw1 := hw1.size
          (try simp at hsw1)
          clear hw1
          go_wp2
          refine bodyPost_ret (v := .tuple #[.agg #[.int .u64 (bits BinOp.or IntKind.u64 0 (al / 2 ^ (64 - n).toNat)), .int .u64 (IntKind.u64.wrap (al * 2 ^ n.toNat))], .bool true]) (by simp [results, Tryz.results77, go_sem, hcw1]) rfl ⟨_, _, _, rfl, M1.out, Or.inl ⟨rfl, M2.out⟩, ?_⟩
          go_grown
        · clear hz
          go_enter Tryz.func77, Tryz.ntmps77
          go_wp2_with (fail)
          refine (B.out _).mono ?_
          rintro e w1 ⟨rfl, hw1⟩
          have HBw1 : Below w.heap.size w w1 := Below.trans (by go_grown) (hw1.mono (by first | omega | (simp; done) | (simp; omega)))
          obtain ⟨hcw1, hfw1⟩ := bcell hw1
          have hsw1 := hw1.size
          (try simp at hsw1)
          clear hw1
          go_wp2
          refine bodyPost_ret (v := .tuple #[.agg #[.int .u64 (bits BinOp.or IntKind.u64 (IntKind.u64.wrap (ah * 2 ^ n.toNat)) (al / 2 ^ (64 - n).toNat)), .int .u64 (IntKind.u64.wrap (al * 2 ^ n.toNat))], .bool true]) (by simp [results, Tryz.results77, go_sem, hcw1]) rfl ⟨_, _, _, rfl, M1.out, Or.inl ⟨rfl, M2.out⟩, ?_⟩
          go_grown
    · have V1 : 340282366920938463463374607431768211456 ≤ (ah * 18446744073709551616 + al) * 2 ^ n.toNat := by
        refine Decidable.byContradiction fun hx => hq (hf.2 (by omega))
      have V2 : Hid _ := V1
      clear V1 hf
      generalize hk : bitLen (ah * 18446744073709551616 + al).toNat = k at *
      have B : Hid _ := bb
      clear bb hk hV
      by_cases hy : ah = 0
      · subst hy
        have hl : ¬ al = 0 := by omega
        clear hz
        go_enter Tryz.func77, Tryz.ntmps77
        go_wp2_with (fail)
        refine (B.out _).mono ?_
        rintro e w1 ⟨rfl, hw1⟩
        have HBw1 : Below w.heap.size w w1 := Below.trans (by go_grown) (hw1.mono (by first | omega | (simp; done) | (simp; omega)))
        obtain ⟨hcw1, hfw1⟩ := bcell hw1
        have hsw1 := hw1.size
        (try simp at hsw1)
        clear hw1
        go_wp2
        refine bodyPost_ret (v := .tuple #[.agg #[.int .u64 0, .int .u64 0], .bool false]) (by simp [results, Tryz.results77, go_sem, hcw1]) rfl ⟨_, _, _, rfl, ⟨by omega, by omega, by omega, by omega⟩, Or.inr ⟨rfl, rfl, rfl, V2.out⟩, ?_⟩
        go_grown
      · clear hz
        go_enter Tryz.func77, Tryz.ntmps77
        go_wp2_with (fail)
        refine (B.out _).mono ?_
        rintro e w1 ⟨rfl, hw1⟩
        have HBw1 : Below w.heap.size w w1 := Below.trans (by go_grown) (hw1.mono (by first | omega | (simp; done) | (simp; omega)))
        obtain ⟨hcw1, hfw1⟩ := bcell hw1
        have hsw1 := hw1.size
        (try simp at hsw1)
        clear hw1
        go_wp2
        refine bodyPost_ret (v := .tuple #[.agg #[.int .u64 0, .int .u64 0], .bool false]) (by simp [results, Tryz.results77, go_sem, hcw1]) rfl ⟨_, _, _, rfl, ⟨by omega, by omega, by omega, by omega⟩, Or.inr ⟨rfl, rfl, rfl, V2.out⟩, ?_⟩
        go_grown

end Go.Proofs.YtpbgolcimbjekaaGreatDoor
