/-
  The contract of package wide's Text at this program: the number's digits, without a nought ahead of others. Conditions: both words lie below 2^64.
-/
import Derived.Test.YtaeejemknmjglaaDoorG
import Derived.Laws.BytesString
namespace Go.Proofs.YtaeejemknmjglaaDoor
open Go.RowKit

/-- What lies in place i of the table of digits behind j rounds. -/
def dg (V : Int) (j i : Nat) : Int := if 39 ≤ i + j then 48 + V / 10 ^ (38 - i) % 10 else 0

theorem dg_new (V : Int) (j m : Nat) (h : j + m = 38) : dg V (j + 1) m = 48 + V / 10 ^ j % 10 := by
  unfold dg
  rw [if_pos (by omega), show 38 - m = j by omega]
theorem dg_old (V : Int) (j m i : Nat) (h : j + m = 38) (hi : i ≠ m) : dg V (j + 1) i = dg V j i := by
  unfold dg
  by_cases c : 39 ≤ i + j
  · rw [if_pos c, if_pos (by omega)]
  · rw [if_neg c, if_neg (by omega)]
theorem dg_wrap (r : Int) (r0 : 0 ≤ r) (r1 : r < 10) : IntKind.u8.wrap (48 + IntKind.u8.wrap r) = 48 + r := by
  simp only [IntKind.wrap_u8]; omega
theorem div_step (V : Int) (j : Nat) : V / 10 ^ j / 10 = V / 10 ^ (j + 1) := by
  rw [Int.pow_succ, Int.ediv_ediv_of_nonneg (Int.pow_nonneg (by omega))]

theorem short39 (V : Int) (j : Nat) (_V0 : 0 ≤ V) (V1 : V < 340282366920938463463374607431768211456) (h : V / 10 ^ (j + 1) ≠ 0) : j + 1 ≤ 38 := by
  refine Decidable.byContradiction fun hn => h ?_
  have p : ∀ k : Nat, (10 : Int) ^ k = ((10 ^ k : Nat) : Int) := fun k => by simp
  have a : 10 ^ 39 ≤ 10 ^ (j + 1) := Nat.pow_le_pow_right (by omega) (by omega)
  rw [p]
  exact Int.ediv_eq_zero_of_lt _V0 (by omega)
theorem zeros39 (V : Int) (i : Nat) (hi : i < 39) : (Array.replicate 39 (Value.int IntKind.u8 0))[i]? = some (Value.int IntKind.u8 (dg V 0 i)) := by
  rw [Array.getElem?_replicate, if_pos hi]
  unfold dg
  rw [if_neg (by omega)]

/-- The n last digits of a number, the greatest first; and the text that they are. -/
def dsl (V : Int) (n : Nat) : List Int := (List.range n).map fun t => 48 + V / 10 ^ (n - 1 - t) % 10
def tx (V : Int) (n : Nat) : ByteArray := (dsl V n).foldl (fun r d => r.push (UInt8.ofNat d.toNat)) ByteArray.empty

set_option maxRecDepth 100000 in
theorem conv_text (wx : World) (B m j : Nat) (V : Int) (jm : j + m = 38) (hc : ∀ i, i < 39 → wx.cell? ⟨B, i, none⟩ = some (.int .u8 (dg V (j + 1) i))) :
    (convert 74 9 (.slice (some ⟨B, m, none⟩) (39 - m) (39 - m))).run Tryd.prog wx = .ok (.string (tx V (j + 1))) wx := by
  rw [run_convert_bytes_string wx _ _ _ _ _ _ Tryd.underlying74 Tryd.underlying5 Tryd.underlying9]
  have e : 39 - m = j + 1 := by omega
  rw [e]
  refine run_bytesToString wx _ _ _ (dsl V (j + 1)) ?_
  have ha : ∀ t, t < j + 1 → wx.cell? ((⟨B, m, none⟩ : Addr).add t) = some (.int .u8 (dg V (j + 1) (m + t))) := by
    intro t ht
    have h := hc (m + t) (by omega)
    rcases Nat.eq_zero_or_pos t with rfl | hp
    · simpa [Addr.add] using h
    · simpa [Addr.add, Nat.ne_of_gt hp] using h
  rw [run_loadCells (w := wx) (P := Tryd.prog) ⟨B, m, none⟩ (j + 1) (fun t => .int .u8 (dg V (j + 1) (m + t))) ha]
  congr 2
  unfold dsl
  rw [List.map_map]
  refine List.map_congr_left fun t ht => ?_
  have := List.mem_range.1 ht
  simp only [Function.comp]
  unfold dg
  rw [if_pos (by omega), show 38 - (m + t) = j + 1 - 1 - t by omega]

end Go.Proofs.YtaeejemknmjglaaDoor
