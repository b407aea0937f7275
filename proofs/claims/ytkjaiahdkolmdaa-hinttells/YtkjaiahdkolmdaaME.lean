/-
  The document's mask of a set, and its nodes, at this program. Conditions: the set is that of a mask below 256.
-/
import Derived.Test.YtkjaiahdkolmdaaMD
import Derived.Test.YtkjaiahdkolmdaaMF
namespace Go.Proofs.Ytkjaiahdkolmdaa.Mk
open Go.RowKit

abbrev setV (b : Nat) : Value := .agg #[.bool (tb b 0), .bool (tb b 1), .bool (tb b 2), .bool (tb b 3), .bool (tb b 4), .bool (tb b 5), .bool (tb b 6), .bool (tb b 7)]
theorem twice_no {b i : Nat} (e : tb b i = false) : b / 2 ^ (i + 1) * 2 = b / 2 ^ i := by
  have h := bit_is b i
  rw [e] at h
  rw [Nat.pow_succ, ← Nat.div_div_eq_div_mul]
  generalize b / 2 ^ i = q at *
  have : q % 2 ≠ 1 := by simpa using h
  omega
theorem twice_yes {b i : Nat} (e : tb b i = true) : b / 2 ^ (i + 1) * 2 + 1 = b / 2 ^ i := by
  have h := bit_is b i
  rw [e] at h
  rw [Nat.pow_succ, ← Nat.div_div_eq_div_mul]
  generalize b / 2 ^ i = q at *
  have : q % 2 = 1 := by simpa using h
  omega

set_option maxHeartbeats 1000000 in
set_option maxRecDepth 100000 in
theorem rmask_is (b : Nat) (hb : b < 256) (w : World) :
    Calls Try.prog 38 #[setV b] w fun e w' => e = .returned (.int .i64 b) ∧ Below w.heap.size w w' := by
  have B8 : Hid (b < 256) := hb
  clear hb
  go_enter Try.func38, Try.ntmps38
  go_wp2
  have q1 : Cs (w.alloc (.cells #[.bool (tb b 0), .bool (tb b 1), .bool (tb b 2), .bool (tb b 3), .bool (tb b 4), .bool (tb b 5), .bool (tb b 6), .bool (tb b 7)] 39)) w.heap.size (setL b) := Cs.new _ _ _ _ rfl
  go_loopw [3, 4] (fun s f wr => ∃ (j : Nat) (q : Int), j ≤ 8 ∧ q = (j : Int) - 1 ∧ s = .int .i64 (b / 2 ^ j : Nat) ∧ f = .int .i64 q ∧ Cs wr w.heap.size (setL b) ∧ Below w.heap.size w wr) (fun _ f _ => (intOf f + 1).toNat)
  case atStart => exact ⟨8, 7, by omega, by omega, by rw [Nat.div_eq_of_lt B8.out]; rfl, rfl, q1, by go_grown⟩
  case round =>
    clear q1
    obtain ⟨j, q, jl, qj, rfl, rfl, q1, HB⟩ := hrel
    have hs := HB.size
    cases j with
    | zero =>
      obtain rfl : q = -1 := by omega
      clear qj
      go_wp2
      go_ret
      exact ⟨by rw [Nat.pow_zero, Nat.div_one]; rfl, HB⟩
    | succ i =>
      obtain rfl : q = (i : Int) := by omega
      clear qj
      have c1 := q1.1 i _ (setL_at b (show i < 8 by omega))
      have j0 : (0 : Int) ≤ (i : Int) := by omega
      have j1 : (i : Int) < 8 := by omega
      have j2 : i < 8 := by omega
      have X1 : b / 2 ^ (i + 1) ≤ b := Nat.div_le_self _ _
      have X2 : b < 256 := B8.out
      cases e : tb b i with
      | false =>
        have Y := twice_no e
        rw [e] at c1
        generalize hr : b / 2 ^ (i + 1) = r at *
        have HR : Hid (r * 2 = b / 2 ^ i) := Y
        have e5 : wrap64 ((r : Int) * 2) = ((r * 2 : Nat) : Int) := by unfold wrap64; omega
        clear Y hr e
        go_wp2
        go_roundw
        case rel => exact ⟨i, (i : Int) - 1, by omega, by omega, by rw [← HR.out]; simp, by go_num, q1, HB⟩
        case measure => simp [intOf]
      | true =>
        have Y := twice_yes e
        rw [e] at c1
        generalize hr : b / 2 ^ (i + 1) = r at *
        have HR : Hid (r * 2 + 1 = b / 2 ^ i) := Y
        have X3 : b / 2 ^ i ≤ b := Nat.div_le_self _ _
        have e5 : wrap64 ((r : Int) * 2) = (r : Int) * 2 := by unfold wrap64; omega
        have e6 : wrap64 ((r : Int) * 2 + 1) = ((r * 2 + 1 : Nat) : Int) := by unfold wrap64; omega
        clear Y hr e X3
        go_wp2
        go_roundw
        case rel => exact ⟨i, (i : Int) - 1, by omega, by omega, by rw [← HR.out]; simp, by go_num, q1, HB⟩
        case measure => simp [intOf]

theorem nd_len (b : Nat) : (nd b).length ≤ 8 := cnt_le b

set_option maxHeartbeats 1000000 in
set_option maxRecDepth 100000 in
theorem rnodes_is (b : Nat) (w : World) :
    Calls Try.prog 17 #[setV b] w fun e w' => ∃ v, e = .returned v ∧ w'.ownsRow (w.heap.size + 1) 3 1 v (nd b).length ((nd b).map encN) ∧ Below w.heap.size w w' := by
  obtain ⟨i0, hi, hz0, hz1, hz2⟩ := info_parts intInfo
  go_enter Try.func17, Try.ntmps17
  go_wp2
  have q1 : Cs (w.alloc (.cells #[.bool (tb b 0), .bool (tb b 1), .bool (tb b 2), .bool (tb b 3), .bool (tb b 4), .bool (tb b 5), .bool (tb b 6), .bool (tb b 7)] 39)) w.heap.size (setL b) := Cs.new _ _ _ _ rfl
  go_loopw [3, 4] (fun o f wr => ∃ j : Nat, j ≤ 8 ∧ f = .int .i64 j ∧ wr.ownsRow (w.heap.size + 1) 3 1 o (ndT b j).length ((ndT b j).map encN) ∧ Cs wr w.heap.size (setL b) ∧ Below w.heap.size w wr) (fun _ f _ => 8 - (intOf f).toNat)
  case atStart => exact ⟨0, by omega, rfl, World.ownsRow_nil _ _ _ _, q1, by go_grown⟩
  case round =>
    clear q1
    obtain ⟨j, jl, rfl, own, q1, HB⟩ := hrel
    have hs := HB.size
    have qz := q1.2.2
    by_cases j8 : j < 8
    · have c1 := q1.1 j _ (setL_at b j8)
      have j0 : (0 : Int) ≤ (j : Int) := by omega
      have j1 : (j : Int) < 8 := by omega
      have S := ndT_succ b j8
      have NL := ndT_len b j
      obtain ⟨t, ht⟩ : ∃ t, t = tb b j := ⟨_, rfl⟩
      rw [← ht] at c1
      rw [show b.testBit j = t from ht.symm] at S
      cases t with
      | false =>
        have S' : ndT b (j + 1) = ndT b j := S
        have own' := own
        rw [← S'] at own'
        clear S S' own ht
        go_wp2
        go_roundw
        case rel => exact ⟨j + 1, by omega, by go_num, own', q1, HB⟩
        case measure => simp [intOf]; omega
      | true =>
        have HS : Hid (ndT b (j + 1) = ndT b j ++ [⟨j, j8⟩]) := S
        clear S ht
        have own3 := own.alloc (.cells #[encN ⟨j, j8⟩] 3)
        go_wp2_with (first
          | (at_builtin; refine wpList_append_own _ rfl _ _ 34 rfl (w.heap.size + 1) 3 i0 (.int .i64 0) 1 8 Try.underlying34 hi hz0 hz1 hz2 rfl (by decide) _ _ _ rfl own3 ⟨wr.heap.size, 0, none⟩ 1 1 [encN ⟨j, j8⟩] rfl rfl ?c1 ?c2 ?c3 ?c4 ?c5 ?_)
          | fail)
        case c1 =>
          intro j u hj
          match j, hj with
          | 0, hj => injection hj with hj; subst hj; simp [Addr.add, go_sem]
        case c2 => intro u hu; simp at hu; subst hu; rfl
        case c3 => unfold maxLen; omega
        case c4 => omega
        case c5 => simp; omega
        · intro v' w4 hown' hgrow _
          have own5 : w4.ownsRow (w.heap.size + 1) 3 1 v' (ndT b (j + 1)).length ((ndT b (j + 1)).map encN) := by
            rw [HS.out]
            simpa using hown'
          have HB4 : Below w.heap.size w w4 := (HB.alloc HB.size _).grown hgrow (by simp; omega) (fun k hk => by have := (World.ownsRow.lt own k hk).1; omega)
          have q2 : Cs w4 w.heap.size (setL b) := (q1.alloc _).grown hgrow (fun e => by have := (World.ownsRow.lt own _ e.symm).1; omega)
          clear own own3 hown' hgrow HB q1 HS
          go_wp2
          go_roundw
          case rel => exact ⟨j + 1, by omega, by go_num, own5, q2, HB4⟩
          case measure => simp [intOf]; omega
    · obtain rfl : j = 8 := by omega
      go_wp2
      go_ret
      exact ⟨_, rfl, own, HB⟩

end Go.Proofs.Ytkjaiahdkolmdaa.Mk
