/-
  How much a pod has to be looked at, at this program. Conditions: the containers read as a list.
-/
import Derived.Test.YtaeejemknmjglaaDoorPJ
namespace Go.Proofs.YtaeejemknmjglaaDoor.Sp
open Go.RowKit

set_option maxHeartbeats 1000000 in
set_option maxRecDepth 100000 in
theorem great_is {v : Value} {zs : List Ct} (pn : ByteArray) (pr po : Int) (w : World) (h : RdC w v zs) :
    Calls Tryd.prog 9 #[.agg #[.string pn, .int .i64 pr, .int .i64 po, v]] w fun e w' => ∃ g : Int, e = .returned (.int .i64 g) ∧ (51 < zs.length → g = 5000) ∧ Below w.heap.size w w' := by
  obtain ⟨a, cap, rfl, h1, h2, h3⟩ := h
  have H3 : Hid (∀ (j : Nat) (c : Ct), zs[j]? = some c → c.n.size ≤ maxLen ∧ ∃ b off : Nat, a = some ⟨b, off, none⟩ ∧ Ten w b (off + j * 10) c) := h3
  clear h3
  have zl : zs.length ≤ maxLen := by omega
  unfold maxLen at zl
  go_enter Tryd.func9, Tryd.ntmps9
  go_wp2
  go_loopw [3, 12] (fun s3 f wr => ∃ (j : Nat) (n : Int), s3 = .int .i64 n ∧ f = .int .i64 j ∧ j ≤ zs.length ∧ j ≤ 51 ∧ Below w.heap.size w wr) (fun _ f _ => zs.length - (intOf f).toNat)
  case atStart => exact ⟨0, _, rfl, rfl, by omega, by omega, by go_grown⟩
  case round =>
    obtain ⟨j, n, rfl, rfl, jl, j5, HB⟩ := hrel
    have hs := HB.size
    by_cases cj : j < zs.length
    · obtain ⟨⟨m, rc, rm, rh, lc, lm, lh, x, y, z⟩, hdj⟩ : ∃ d, zs[j]? = some d := ⟨zs[j], List.getElem?_eq_getElem cj⟩
      obtain ⟨-, b, off, rfl, T⟩ := H3.out j _ hdj
      obtain ⟨c0, c1, c2, c3, c4, c5, c6, c7, c8, c9⟩ := T.later HB
      simp only at c0 c1 c2 c3 c4 c5 c6 c7 c8 c9
      have j0 : (0 : Int) ≤ (j : Int) := by omega
      have j1 : (j : Int) < (zs.length : Int) := by omega
      clear T hdj
      by_cases k : (50 : Int) < (j : Int)
      · go_wp2
        go_ret
        exact ⟨_, rfl, fun _ => rfl, by go_grown⟩
      · go_wp2
        go_roundw
        case rel => exact ⟨j + 1, _, rfl, by go_num, by omega, by omega, by go_grown⟩
        case measure => simp [intOf]; omega
    · go_wp2
      go_ret
      exact ⟨_, rfl, fun h => by omega, by go_grown⟩

end Go.Proofs.YtaeejemknmjglaaDoor.Sp
