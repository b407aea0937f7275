/-
  Contracts of package wide's Bits, Right, Left, Add, Sub, Times, By at this program: each over the numbers that its words make (the high word times 2^64, and the low one). Conditions: all words lie below 2^64.
-/
import Derived.Test.YtpbgolcimbjekaaGreatDoorC
import Derived.Test.YtpbgolcimbjekaaGreatDoorF
namespace Go.Proofs.YtpbgolcimbjekaaGreatDoor
open Go.RowKit

theorem add64_run (x y c : Int) (hx : 0 ≤ x) (x1 : x < 18446744073709551616) (hy : 0 ≤ y) (y1 : y < 18446744073709551616) (hc0 : 0 ≤ c) (hc : c ≤ 1) :
    ∃ s k : Int, 0 ≤ s ∧ s < 18446744073709551616 ∧ 0 ≤ k ∧ k ≤ 1 ∧ s + k * 18446744073709551616 = x + y + c ∧
      ∀ w, (callFunc 97 #[.int .u64 x, .int .u64 y, .int .u64 c]).run Tryz.prog w = .ok (.value (.tuple #[.int .u64 s, .int .u64 k])) w := by
  obtain ⟨s, k, s0, s1, k0, k1, e, es, ek⟩ := add64_carry x y c hx x1 hy y1 hc0 hc
  refine ⟨s, k, s0, s1, k0, k1, e, fun w => ?_⟩
  rw [run_callFunc_extern Tryz.func97 (by kernel_rfl) (by kernel_rfl) (by kernel_rfl) (e := add64Entry) (by kernel_rfl), run_add64 x y c hx hy hc0 hc, ← es, ← ek]
  rfl

set_option maxHeartbeats 1000000 in
theorem bits_any (h l : Int) (w : World) (h0 : 0 ≤ h) (h1 : h < 18446744073709551616) (l0 : 0 ≤ l) (l1 : l < 18446744073709551616) :
    Calls Tryz.prog 92 #[.agg #[.int .u64 h, .int .u64 l]] w fun e w' => e = .returned (.int .i64 (bitLen (h * 18446744073709551616 + l).toNat)) ∧ Below w.heap.size w w' := by
  have b1 := bitLen_le64 h.toNat (by omega)
  by_cases hz : h = 0
  · subst hz
    go_enter Tryz.func92, Tryz.ntmps92
    go_wp2_with (go_at_call 101; refine (len64_any _ _ (by omega) (by omega)).mono ?_; rintro e w' ⟨rfl, rfl⟩)
    go_ret
    go_light
    refine ⟨by simp, by go_grown⟩
  · have hb : (h == 0) = false := by simp [hz]
    go_enter Tryz.func92, Tryz.ntmps92
    go_wp2_with (go_at_call 101; refine (len64_any _ _ (by omega) (by omega)).mono ?_; rintro e w' ⟨rfl, rfl⟩)
    go_ret
    go_light
    refine ⟨congrArg Ending.returned (congrArg (Value.int IntKind.i64) ?_), by go_grown⟩
    exact bitLen_high h l (by omega) l0 l1

/-- What a sum, a product or a move up answers: the number V, if it has two words; else nothing. -/
def Fits (h l : Int) (b : Bool) (V : Int) : Prop := (b = true ∧ h * 18446744073709551616 + l = V) ∨ (b = false ∧ h = 0 ∧ l = 0 ∧ 340282366920938463463374607431768211456 ≤ V)

set_option maxHeartbeats 1000000 in
theorem add_any (ah al bh bl : Int) (w : World) (a0 : 0 ≤ al) (a1 : al < 18446744073709551616) (a2 : 0 ≤ ah) (a3 : ah < 18446744073709551616) (b0 : 0 ≤ bl) (b1 : bl < 18446744073709551616) (b2 : 0 ≤ bh) (b3 : bh < 18446744073709551616) :
    Calls Tryz.prog 94 #[.agg #[.int .u64 ah, .int .u64 al], .agg #[.int .u64 bh, .int .u64 bl]] w fun e w' =>
      ∃ (h l : Int) (b : Bool), e = .returned (.tuple #[.agg #[.int .u64 h, .int .u64 l], .bool b]) ∧ Wok h l ∧ Fits h l b ((ah * 18446744073709551616 + al) + (bh * 18446744073709551616 + bl)) ∧ Below w.heap.size w w' := by
  obtain ⟨s, c, s0, s1, c0, c1, e1, r1⟩ := add64_run al bl 0 a0 a1 b0 b1 (by omega) (by omega)
  obtain ⟨t, k, t0, t1, k0, k1, e2, r2⟩ := add64_run ah bh c a2 a3 b2 b3 c0 c1
  have E1 : Hid _ := e1
  have E2 : Hid _ := e2
  clear e1 e2
  by_cases hk : k = 0
  · subst hk
    go_enter Tryz.func94, Tryz.ntmps94
    go_wp2
    go_returns
    exact ⟨_, _, _, rfl, ⟨t0, t1, s0, s1⟩, Or.inl ⟨rfl, by have := E1.out; have := E2.out; omega⟩, by go_grown⟩
  · have hb : (k == 0) = false := by simp [hk]
    go_enter Tryz.func94, Tryz.ntmps94
    go_wp2
    go_returns
    exact ⟨_, _, _, rfl, ⟨by omega, by omega, by omega, by omega⟩, Or.inr ⟨rfl, rfl, rfl, by have := E1.out; have := E2.out; omega⟩, by go_grown⟩

end Go.Proofs.YtpbgolcimbjekaaGreatDoor
