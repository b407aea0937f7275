/-
  Contracts of package wide's Times, By, Left at this program, over the numbers that the words make. Conditions: all words lie below 2^64.
-/
import Derived.Test.YtaeejemknmjglaaDoorE
import Derived.WalkSmall
namespace Go.Proofs.YtaeejemknmjglaaDoor
open Go.RowKit

theorem bcell {W w1 : World} (hb : Below W.heap.size W w1) : (∀ b o, b < W.heap.size → w1.cell? ⟨b, o, none⟩ = W.cell? ⟨b, o, none⟩) ∧ (∀ b o, b < W.heap.size → w1.frozen? ⟨b, o, none⟩ = W.frozen? ⟨b, o, none⟩) :=
  ⟨fun b o h => hb.cell (p := ⟨b, o, none⟩) h, fun b o h => hb.frozen (p := ⟨b, o, none⟩) h⟩

theorem aft {B : Nat} {W0 W w1 : World} (hb : Below W.heap.size W w1) (h0 : Below B W0 W) (hB : B ≤ W.heap.size) :
    Below B W0 w1 ∧ (∀ b o, b < W.heap.size → w1.cell? ⟨b, o, none⟩ = W.cell? ⟨b, o, none⟩) ∧ (∀ b o, b < W.heap.size → w1.frozen? ⟨b, o, none⟩ = W.frozen? ⟨b, o, none⟩) ∧ W.heap.size ≤ w1.heap.size :=
  ⟨h0.trans (hb.mono hB), fun b o h => hb.cell (p := ⟨b, o, none⟩) h, fun b o h => hb.frozen (p := ⟨b, o, none⟩) h, hb.size⟩

/-- A number of two words by one: the high word's quotient, and what is left of it goes down. -/
theorem by_two (ah al u : Int) (u0 : 0 < u) (a2 : 0 ≤ ah) (a3 : ah < 18446744073709551616) (a0 : 0 ≤ al) (a1 : al < 18446744073709551616) :
    ah / u * 18446744073709551616 + (ah % u * 18446744073709551616 + al) / u = (ah * 18446744073709551616 + al) / u ∧ (ah % u * 18446744073709551616 + al) % u = (ah * 18446744073709551616 + al) % u ∧
    Wok (ah / u) ((ah % u * 18446744073709551616 + al) / u) := by
  have e : ah * 18446744073709551616 + al = (ah % u * 18446744073709551616 + al) + ah / u * 18446744073709551616 * u := by
    have h := Int.emod_add_mul_ediv ah u
    have h2 : ah / u * 18446744073709551616 * u = u * (ah / u) * 18446744073709551616 := by grind
    rw [h2]
    omega
  have m0 := Int.emod_nonneg ah (show u ≠ 0 by omega)
  have m1 := Int.emod_lt_of_pos ah u0
  refine ⟨?_, ?_, Int.ediv_nonneg a2 (by omega), ?_, Int.ediv_nonneg (by omega) (by omega), ?_⟩
  · rw [e, Int.add_mul_ediv_right _ _ (by omega)]; omega
  · rw [e, Int.add_mul_emod_self_right]
  · exact Int.lt_of_le_of_lt (Int.ediv_le_self _ a2) a3
  · exact Int.ediv_lt_of_lt_mul u0 (by omega)

end Go.Proofs.YtaeejemknmjglaaDoor
