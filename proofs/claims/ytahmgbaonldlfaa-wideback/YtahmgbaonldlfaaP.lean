/-
  What undoes what, call by call: sums and differences, products and quotients, moves up and down, texts and numbers, as contracts that name the very value. Conditions: all words lie below 2^64.
-/
import Derived.Test.YtahmgbaonldlfaaL0
import Derived.Test.YtahmgbaonldlfaaN
namespace Go.Proofs.Ytahmgbaonldlfaa
open Go.RowKit

theorem words_eq {h l ah al : Int} (k2 : 0 ≤ l) (k3 : l < 18446744073709551616) (a0 : 0 ≤ al) (a1 : al < 18446744073709551616) (e : h * 18446744073709551616 + l = ah * 18446744073709551616 + al) : h = ah ∧ l = al :=
  ⟨by omega, by omega⟩

theorem sub_back (h l ah al bh bl : Int) (m : Wok h l) (a0 : 0 ≤ al) (a1 : al < 18446744073709551616) (a2 : 0 ≤ ah) (b0 : 0 ≤ bl) (b1 : bl < 18446744073709551616) (b2 : 0 ≤ bh) (b3 : bh < 18446744073709551616)
    (e : h * 18446744073709551616 + l = (ah * 18446744073709551616 + al) + (bh * 18446744073709551616 + bl)) :
    Ret 25 #[.agg #[.int .u64 h, .int .u64 l], .agg #[.int .u64 bh, .int .u64 bl]] (.tuple #[.agg #[.int .u64 ah, .int .u64 al], .bool true]) := fun w => by
  obtain ⟨m0, m1, m2, m3⟩ := m
  refine (sub_any h l bh bl w m2 m3 m0 m1 b0 b1 b2 b3).mono ?_
  rintro e' w' ⟨x, y, b, rfl, ⟨k0, k1, k2, k3⟩, f, hb⟩
  rcases f with ⟨rfl, f⟩ | ⟨rfl, _, _, f⟩
  · obtain ⟨rfl, rfl⟩ := words_eq (h := x) (l := y) (ah := ah) (al := al) k2 k3 a0 a1 (by omega)
    exact ⟨rfl, hb⟩
  · omega

theorem by_back (h l ah al u : Int) (m : Wok h l) (a0 : 0 ≤ al) (a1 : al < 18446744073709551616) (u0 : 0 < u) (u1 : u < 18446744073709551616)
    (e : h * 18446744073709551616 + l = (ah * 18446744073709551616 + al) * u) :
    Ret 27 #[.agg #[.int .u64 h, .int .u64 l], .int .u64 u] (.tuple #[.agg #[.int .u64 ah, .int .u64 al], .int .u64 0, .bool true]) := fun w => by
  obtain ⟨m0, m1, m2, m3⟩ := m
  refine (by_any h l u w m2 m3 m0 m1 u0 u1).mono ?_
  rintro e' w' ⟨x, y, r, rfl, ⟨k0, k1, k2, k3⟩, f, g, hb⟩
  rw [e, Int.mul_ediv_cancel _ (by omega)] at f
  rw [e, Int.mul_emod_left] at g
  obtain ⟨rfl, rfl⟩ := words_eq (h := x) (l := y) (ah := ah) (al := al) k2 k3 a0 a1 f
  subst g
  exact ⟨rfl, hb⟩

theorem times_by (ah al u h l : Int) (m : Wok h l) (A0 : 0 ≤ ah * 18446744073709551616 + al) (A1 : ah * 18446744073709551616 + al < 340282366920938463463374607431768211456) (u0 : 0 < u) (u1 : u < 18446744073709551616)
    (e : h * 18446744073709551616 + l = (ah * 18446744073709551616 + al) / u) :
    ∀ w, Calls Try.prog 23 #[.agg #[.int .u64 h, .int .u64 l], .int .u64 u] w fun e w' =>
      ∃ (x y : Int), e = .returned (.tuple #[.agg #[.int .u64 x, .int .u64 y], .bool true]) ∧ Wok x y ∧ x * 18446744073709551616 + y = (ah * 18446744073709551616 + al) / u * u ∧ Below w.heap.size w w' := fun w => by
  obtain ⟨m0, m1, m2, m3⟩ := m
  refine (times_any h l u w m2 m3 m0 m1 (by omega) u1).mono ?_
  rintro e' w' ⟨x, y, b, rfl, k, f, hb⟩
  rw [e] at f
  have le : (ah * 18446744073709551616 + al) / u * u ≤ ah * 18446744073709551616 + al := Int.ediv_mul_le _ (by omega)
  rcases f with ⟨rfl, f⟩ | ⟨rfl, _, _, f⟩
  · exact ⟨_, _, rfl, k, f, hb⟩
  · omega

theorem add_rest (ah al u x y r : Int) (m : Wok x y) (a0 : 0 ≤ al) (a1 : al < 18446744073709551616) (a2 : 0 ≤ ah) (a3 : ah < 18446744073709551616) (u0 : 0 < u) (u1 : u < 18446744073709551616)
    (e : x * 18446744073709551616 + y = (ah * 18446744073709551616 + al) / u * u) (er : r = (ah * 18446744073709551616 + al) % u) :
    0 ≤ r ∧ r < u ∧ Ret 20 #[.agg #[.int .u64 x, .int .u64 y], .agg #[.int .u64 0, .int .u64 r]] (.tuple #[.agg #[.int .u64 ah, .int .u64 al], .bool true]) := by
  obtain ⟨m0, m1, m2, m3⟩ := m
  have r0 : 0 ≤ r := by rw [er]; exact Int.emod_nonneg _ (by omega)
  have r1 : r < u := by rw [er]; exact Int.emod_lt_of_pos _ u0
  have s : (ah * 18446744073709551616 + al) / u * u + r = ah * 18446744073709551616 + al := by
    rw [er, Int.mul_comm]; exact Int.mul_ediv_add_emod _ _
  refine ⟨r0, r1, fun w => ?_⟩
  refine (add_any x y 0 r w m2 m3 m0 m1 r0 (by omega) (by omega) (by omega)).mono ?_
  rintro e' w' ⟨x', y', b, rfl, ⟨k0, k1, k2, k3⟩, f, hb⟩
  rcases f with ⟨rfl, f⟩ | ⟨rfl, _, _, f⟩
  · obtain ⟨rfl, rfl⟩ := words_eq (h := x') (l := y') (ah := ah) (al := al) k2 k3 a0 a1 (by omega)
    exact ⟨rfl, hb⟩
  · omega

theorem right_back (h l ah al n : Int) (m : Wok h l) (a0 : 0 ≤ al) (a1 : al < 18446744073709551616) (n0 : 0 ≤ n) (n1 : n ≤ 9223372036854775807)
    (e : h * 18446744073709551616 + l = (ah * 18446744073709551616 + al) * 2 ^ n.toNat) :
    Ret 30 #[.agg #[.int .u64 h, .int .u64 l], .int .i64 n] (.agg #[.int .u64 ah, .int .u64 al]) := fun w => by
  obtain ⟨m0, m1, m2, m3⟩ := m
  refine (right_any h l n w m2 m3 m0 m1 n0 n1).mono ?_
  rintro e' w' ⟨x, y, rfl, ⟨k0, k1, k2, k3⟩, f, hb⟩
  have p : ((2 : Int) ^ n.toNat) ≠ 0 := by
    have : (2 : Int) ^ n.toNat = ((2 ^ n.toNat : Nat) : Int) := by simp
    have := Nat.two_pow_pos n.toNat
    omega
  rw [e, Int.mul_ediv_cancel _ p] at f
  obtain ⟨rfl, rfl⟩ := words_eq (h := x) (l := y) (ah := ah) (al := al) k2 k3 a0 a1 f
  exact ⟨rfl, hb⟩

theorem parse_back (ah al : Int) (n : Nat) (a0 : 0 ≤ al) (a1 : al < 18446744073709551616) (a2 : 0 ≤ ah) (a3 : ah < 18446744073709551616) (h1 : 1 ≤ n) (h39 : n ≤ 39)
    (hn : n ≠ 1 → (ah * 18446744073709551616 + al) / 10 ^ (n - 1) ≠ 0) (h : (ah * 18446744073709551616 + al) / 10 ^ n = 0) :
    Ret 13 #[.string (tx (ah * 18446744073709551616 + al) n)] (.tuple #[.agg #[.int .u64 ah, .int .u64 al], .bool true]) := fun w => by
  refine (parse_any _ w (by rw [tx_size]; unfold maxLen; omega)).mono ?_
  rintro e' w' ⟨x, y, b, rfl, ⟨k0, k1, k2, k3⟩, f, hb⟩
  rw [tx_dval _ _ h] at f
  rcases f with ⟨rfl, _, f⟩ | ⟨rfl, _, _, f⟩
  · obtain ⟨rfl, rfl⟩ := words_eq (h := x) (l := y) (ah := ah) (al := al) k2 k3 a0 a1 f
    exact ⟨rfl, hb⟩
  · exact absurd ⟨tx_good _ n (by omega) h1 hn h, by omega⟩ f

end Go.Proofs.Ytahmgbaonldlfaa
