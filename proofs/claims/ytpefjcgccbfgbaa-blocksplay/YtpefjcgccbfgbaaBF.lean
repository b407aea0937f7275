/-
  The document's comparison of two lists of zones (SameZones), at this program. Conditions: both lists read as zones.
-/
import Derived.Test.YtpefjcgccbfgbaaBE
namespace Go.Proofs.Ytpefjcgccbfgbaa.Bk
open Go.RowKit

/-- Like zones. -/
def eqZ (z y : Zn) : Bool := (z.b0 == y.b0 && z.b1 == y.b1) && (z.r0 == y.r0 && z.r1 == y.r1)
abbrev zoneV (z : Zn) : Value := .agg #[.int .i64 z.b0, .int .i64 z.b1, .int .i64 z.r0, .int .i64 z.r1]
theorem two_eq (d : Nat) (a b a' b' : Int) (w : World) : Sem.run Try.prog (Op.equalIn (d + 2) 33 (.agg #[.int .i64 a, .int .i64 b]) (.agg #[.int .i64 a', .int .i64 b'])) w = .ok (a == a' && b == b') w := by
  obtain ⟨i, hi⟩ := info_of_underlying Try.underlying3
  rw [show d + 2 = (d + 1) + 1 from rfl, run_equalIn_array w (d + 1) _ _ Try.underlying33 hi]
  rw [show Try.prog.cellsOf 3 = 1 by kernel_rfl, show List.range 2 = [0, 1] by rfl]
  have u := Try.underlying3
  simp only [Op.eqItems, Sem.run_bind]
  go_simp
  by_cases h0 : a = a' <;> simp [h0]
  by_cases h1 : b = b' <;> simp [h1]
theorem znS : Try.prog.underlying 35 = some (.struct (Try.prog.fieldsOf 35)) := by kernel_rfl
theorem znH : Try.prog.stoodInHeld 35 = false := by kernel_rfl
set_option maxHeartbeats 1000000 in
theorem zone_eq (z y : Zn) (w : World) : Sem.run Try.prog (Op.equalIn 10000 35 (zoneV z) (zoneV y)) w = .ok (eqZ z y) w := by
  rw [show (10000 : Nat) = 9999 + 1 from rfl, run_equalIn_agg w 9999 35 _ _ znS znH]
  simp only [Program.fieldsOf, Try.underlying35]
  have v1 := fun w => two_eq 9997 z.b0 z.b1 y.b0 y.b1 w
  have v2 := fun w => two_eq 9997 z.r0 z.r1 y.r0 y.r1 w
  go_simp
  unfold eqZ
  by_cases h0 : z.b0 = y.b0 <;> by_cases h1 : z.b1 = y.b1 <;> by_cases h2 : z.r0 = y.r0 <;> by_cases h3 : z.r1 = y.r1 <;> simp [h0, h1, h2, h3]

/-- Like lists of zones. -/
def sameZ : List Zn → List Zn → Bool
  | [], [] => true
  | r :: l, q :: m => eqZ r q && sameZ l m
  | _, _ => false
theorem sameZ_len : ∀ {l m : List Zn}, sameZ l m = true → l.length = m.length
  | [], [], _ => rfl
  | [], q :: m, h => by simp [sameZ] at h
  | r :: l, [], h => by simp [sameZ] at h
  | r :: l, q :: m, h => by
    rw [sameZ, Bool.and_eq_true] at h
    simp [sameZ_len h.2]

end Go.Proofs.Ytpefjcgccbfgbaa.Bk
