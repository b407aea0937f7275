/-
  Plain facts: the digits that a number's text is made of are parsed to that number. Conditions: the number is not below 0, and it has just so many digits.
-/
import Derived.Test.YtahmgbaonldlfaaI
import Derived.Test.YtahmgbaonldlfaaJ
namespace Go.Proofs.Ytahmgbaonldlfaa
open Go.RowKit

theorem fold_push (l : List Int) : ∀ b : ByteArray, (l.foldl (fun r d => r.push (UInt8.ofNat d.toNat)) b).data.toList = b.data.toList ++ l.map fun d => UInt8.ofNat d.toNat := by
  induction l with
  | nil => intro b; simp
  | cons d t ih =>
    intro b
    rw [List.foldl_cons, ih]
    simp [ByteArray.push]

theorem tx_list (V : Int) (n : Nat) : (tx V n).data.toList = (dsl V n).map fun d => UInt8.ofNat d.toNat := by
  unfold tx
  rw [fold_push]
  rfl

theorem tx_size (V : Int) (n : Nat) : (tx V n).size = n := by
  have h : (tx V n).data.toList.length = n := by rw [tx_list]; simp [dsl]
  rw [Array.length_toList] at h
  exact h

theorem dig_bd (V : Int) (k : Nat) : 48 ≤ 48 + V / 10 ^ k % 10 ∧ 48 + V / 10 ^ k % 10 ≤ 57 := by
  have a := Int.emod_nonneg (V / 10 ^ k) (show (10 : Int) ≠ 0 by omega)
  have b := Int.emod_lt_of_pos (V / 10 ^ k) (show (0 : Int) < 10 by omega)
  omega

theorem byte_dig (d : Int) (h0 : 48 ≤ d) (h1 : d ≤ 57) : ((UInt8.ofNat d.toNat).toNat : Int) = d := by
  rw [UInt8.toNat_ofNat']
  omega

theorem tx_digs (V : Int) (n : Nat) : digs (tx V n).data.toList := by
  intro c hc
  rw [tx_list] at hc
  obtain ⟨d, hd, rfl⟩ := List.mem_map.1 hc
  obtain ⟨t, _, rfl⟩ := List.mem_map.1 hd
  have b := dig_bd V (n - 1 - t)
  have := byte_dig _ b.1 b.2
  omega

theorem dsl_take (V : Int) (n : Nat) : ∀ t, t ≤ n → V / 10 ^ n = 0 → dval (((dsl V n).map fun d => UInt8.ofNat d.toNat).take t) = V / 10 ^ (n - t) := by
  intro t
  induction t with
  | zero => intro _ h; simp [dval, h]
  | succ t ih =>
    intro ht h
    have hlen : ((dsl V n).map fun d => UInt8.ofNat d.toNat).length = n := by simp [dsl]
    rw [List.take_succ_eq_append_getElem (by omega), dval_snoc, ih (by omega) h]
    have e : ((dsl V n).map fun d => UInt8.ofNat d.toNat)[t]'(by omega) = UInt8.ofNat (48 + V / 10 ^ (n - 1 - t) % 10).toNat := by simp [dsl]
    rw [e]
    have b := dig_bd V (n - 1 - t)
    rw [byte_dig _ b.1 b.2, show n - t = (n - 1 - t) + 1 by omega, ← div_step, show n - (t + 1) = n - 1 - t by omega]
    generalize V / 10 ^ (n - 1 - t) = x
    omega

theorem tx_dval (V : Int) (n : Nat) (h : V / 10 ^ n = 0) : dval (tx V n).data.toList = V := by
  have e := dsl_take V n n (Nat.le_refl _) h
  rw [← tx_list, List.take_of_length_le (by rw [Array.length_toList]; exact Nat.le_of_eq (tx_size V n))] at e
  rw [e]
  simp

theorem tx_good (V : Int) (n : Nat) (V0 : 0 ≤ V) (h1 : 1 ≤ n) (hn : n ≠ 1 → V / 10 ^ (n - 1) ≠ 0) (h : V / 10 ^ n = 0) : good (tx V n) := by
  refine ⟨tx_digs V n, by rw [tx_size]; omega, fun h2 => ?_⟩
  rw [tx_size] at h2
  have hnz := hn (by omega)
  obtain ⟨m, rfl⟩ : ∃ m, n = m + 1 := ⟨n - 1, by omega⟩
  simp only [Nat.add_sub_cancel] at hnz
  have e : (tx V (m + 1)).data.toList.head? = some (UInt8.ofNat (48 + V / 10 ^ m % 10).toNat) := by
    rw [tx_list]
    simp [dsl, List.range_succ_eq_map]
  rw [e, Option.map_some]
  have b := dig_bd V m
  have bb := byte_dig _ b.1 b.2
  have q : V / 10 ^ m / 10 = 0 := by rw [div_step]; exact h
  have q0 : 0 ≤ V / 10 ^ m := Int.ediv_nonneg V0 (Int.pow_nonneg (by omega))
  intro hc
  have hc' : (UInt8.ofNat (48 + V / 10 ^ m % 10).toNat).toNat = 48 := by simpa using hc
  generalize V / 10 ^ m = x at *
  omega

end Go.Proofs.Ytahmgbaonldlfaa
