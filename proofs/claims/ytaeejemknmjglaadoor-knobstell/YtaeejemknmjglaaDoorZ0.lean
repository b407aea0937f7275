/-
  Contracts of the document's own answers for layer 1 at this program, over the numbers themselves: digits are those of one number. Conditions: numbers lie below 2^320 (products: both below 2^128).
-/
import Derived.Test.YtaeejemknmjglaaDoorW
import Derived.Test.YtaeejemknmjglaaDoorY
namespace Go.Proofs.YtaeejemknmjglaaDoor
open Go.RowKit

/-- The digits of a number. -/
def wd (V : Int) (i : Nat) : Int := V / 65536 ^ i % 65536
/-- A number's digits, as a value. -/
def dv (V : Int) : Value := .agg (dl (wd V)).toArray
theorem wd_digs (V : Int) : Digs (wd V) := fun _ => ⟨Int.emod_nonneg _ (by omega), Int.emod_lt_of_pos _ (by omega)⟩
theorem sv_wd (V : Int) (n : Nat) : sv (wd V) n = V % 65536 ^ n := by
  induction n with
  | zero => simp [sv, Int.emod_one]
  | succ n ih =>
    simp only [sv, wd]
    rw [ih, Int.pow_succ]
    have p := pow_pos16 n
    have q1 := Int.mul_ediv_add_emod V (65536 ^ n)
    have q2 := Int.mul_ediv_add_emod (V / 65536 ^ n) 65536
    have q3 := Int.mul_ediv_add_emod V (65536 ^ n * 65536)
    rw [Int.ediv_ediv_of_nonneg (by omega)] at q2
    generalize V / (65536 ^ n * 65536) = x at *
    generalize V / 65536 ^ n % 65536 = y at *
    generalize V / 65536 ^ n = z at *
    generalize V % (65536 ^ n * 65536) = r at *
    generalize V % 65536 ^ n = t at *
    subst q2
    generalize (65536 : Int) ^ n = P at *
    have : P * (65536 * x + y) = P * 65536 * x + y * P := by grind
    rw [this] at q1
    omega
theorem sv_wd20 (V : Int) (h0 : 0 ≤ V) (h1 : V < 65536 ^ 20) : sv (wd V) 20 = V := by rw [sv_wd, Int.emod_eq_of_lt h0 h1]
theorem sv_wd8 (V : Int) (h0 : 0 ≤ V) (h1 : V < 340282366920938463463374607431768211456) : sv (wd V) 8 = V := by rw [sv_wd, Int.emod_eq_of_lt h0 (by simpa using h1)]
theorem dl_congr {F G : Nat → Int} (h : ∀ i, i < 20 → F i = G i) : dl F = dl G := by
  unfold dl
  exact List.map_congr_left (fun i hi => by rw [h i (List.mem_range.1 hi)])
/-- Digits are those of their number. -/
theorem dl_of (F : Nat → Int) (hF : Digs F) : dl F = dl (wd (sv F 20)) := by
  have h0 := sv_nonneg F hF 20
  have h1 := sv_lt F hF 20
  exact dl_congr (sv_inj F _ hF (wd_digs _) 20 (sv_wd20 _ h0 h1).symm)
theorem dl_is (F : Nat → Int) (hF : Digs F) (V : Int) (h : sv F 20 = V) : (.agg (dl F).toArray : Value) = dv V := by rw [dl_of F hF, h]; rfl

theorem pow20 : (65536 : Int) ^ 20 = 2135987035920910082395021706169552114602704522356652769947041607822219725780640550022962086936576 := by decide

/-- A number's two words; too great: none. -/
def wh (V : Int) : Int := if V < 340282366920938463463374607431768211456 then V / 18446744073709551616 else 0
def wl (V : Int) : Int := if V < 340282366920938463463374607431768211456 then V % 18446744073709551616 else 0
def wt (V : Int) : Bool := decide (V < 340282366920938463463374607431768211456)
theorem fits_can {h l V : Int} {b : Bool} (m : Wok h l) (f : Fits h l b V) : h = wh V ∧ l = wl V ∧ b = wt V := by
  obtain ⟨m0, m1, m2, m3⟩ := m
  rcases f with ⟨rfl, rfl⟩ | ⟨rfl, rfl, rfl, f⟩
  · have e : h * 18446744073709551616 + l < 340282366920938463463374607431768211456 := by omega
    refine ⟨?_, ?_, ?_⟩
    · unfold wh; rw [if_pos e]; omega
    · unfold wl; rw [if_pos e]; omega
    · unfold wt; simp [e]
  · have e : ¬ V < 340282366920938463463374607431768211456 := by omega
    refine ⟨?_, ?_, ?_⟩
    · unfold wh; rw [if_neg e]
    · unfold wl; rw [if_neg e]
    · unfold wt; simp [e]
theorem wok_can (V : Int) (h : 0 ≤ V) : Wok (wh V) (wl V) := by
  unfold Wok wh wl
  by_cases e : V < 340282366920938463463374607431768211456
  · rw [if_pos e, if_pos e]; refine ⟨?_, ?_, ?_, ?_⟩ <;> omega
  · rw [if_neg e, if_neg e]; omega

set_option maxRecDepth 4000 in
theorem rof_dv (ah al : Int) (w : World) (a0 : 0 ≤ al) (a1 : al < 18446744073709551616) (a2 : 0 ≤ ah) (a3 : ah < 18446744073709551616) :
    Calls Tryd.prog 55 #[.agg #[.int .u64 ah, .int .u64 al]] w fun x w' => x = .returned (dv (ah * 18446744073709551616 + al)) ∧ Below w.heap.size w w' := by
  refine (rof_any ah al w a0 a1 a2 a3).mono ?_
  rintro e w' ⟨rfl, hb⟩
  exact ⟨by rw [dl_is _ (od_digs ah al) _ (od_sv ah al a0 a1 a2 a3)], hb⟩

theorem plus_dv (V U : Int) (w : World) (v0 : 0 ≤ V) (u0 : 0 ≤ U) (h : V + U < 65536 ^ 20) :
    Calls Tryd.prog 56 #[dv V, dv U] w fun x w' => x = .returned (dv (V + U)) ∧ Below w.heap.size w w' := by
  refine (plus_any (wd V) (wd U) w (wd_digs _) (wd_digs _)).mono ?_
  rintro e w' ⟨rfl, hb⟩
  refine ⟨?_, hb⟩
  rw [dl_is _ (psum_digs _ _) (V + U)]
  have a := psum_sv (wd V) (wd U) 20
  have c := carry_bd (wd V) (wd U) (wd_digs _) (wd_digs _) 20
  have s := sv_nonneg (psum (wd V) (wd U)) (psum_digs _ _) 20
  rw [sv_wd20 V v0 (by omega), sv_wd20 U u0 (by omega)] at a
  generalize carry (wd V) (wd U) 20 = k at *
  have hk : k = 0 := by
    rcases (by omega : k = 0 ∨ k = 1) with e | e
    · exact e
    · subst e; rw [Int.one_mul] at a; omega
  subst hk
  rw [Int.zero_mul] at a
  omega

theorem wide_dv (V : Int) (w : World) (v0 : 0 ≤ V) (v1 : V < 65536 ^ 20) :
    Calls Tryd.prog 57 #[dv V] w fun x w' => x = .returned (.tuple #[.agg #[.int .u64 (wh V), .int .u64 (wl V)], .bool (wt V)]) ∧ Below w.heap.size w w' := by
  refine (rwide_any (wd V) w (wd_digs _)).mono ?_
  rintro e w' ⟨h, l, b, rfl, m, f, hb⟩
  rw [sv_wd20 V v0 v1] at f
  obtain ⟨rfl, rfl, rfl⟩ := fits_can m f
  exact ⟨rfl, hb⟩

end Go.Proofs.YtaeejemknmjglaaDoor
