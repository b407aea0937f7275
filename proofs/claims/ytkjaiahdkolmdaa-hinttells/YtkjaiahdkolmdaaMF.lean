/-
  The document's sets of nodes at this program (Of, Mask, Nodes, Ahead). Conditions: where it is said, the set is that of a mask below 256.
-/
import Derived.Test.YtkjaiahdkolmdaaMB
import Derived.Deep.RegionHeld3
import Derived.Deep.RegionWith
import Derived.Deep.CutRange
import Derived.Deep.DeepCutAuto
import Derived.Deep.CutBlock
namespace Go.Proofs.Ytkjaiahdkolmdaa.Mk
open Go.RowKit

/-- Is a node in a mask? -/
def tb (b i : Nat) : Bool := b.testBit i
/-- The set of a mask, as cells. -/
def setL (b : Nat) : List Value := [.bool (tb b 0), .bool (tb b 1), .bool (tb b 2), .bool (tb b 3), .bool (tb b 4), .bool (tb b 5), .bool (tb b 6), .bool (tb b 7)]
theorem setL_eq (b : Nat) : setL b = (List.range 8).map fun i => Value.bool (tb b i) := rfl
/-- Its first ones. -/
def setT (b k : Nat) : List Value := (List.range 8).map fun i => Value.bool (decide (i < k) && tb b i)
theorem setT_zero (b : Nat) : setT b 0 = [.bool false, .bool false, .bool false, .bool false, .bool false, .bool false, .bool false, .bool false] := rfl
theorem setT_all (b : Nat) : setT b 8 = setL b := rfl
theorem setT_at (b k : Nat) {i : Nat} (hi : i < 8) : (setT b k)[i]? = some (.bool (decide (i < k) && tb b i)) := by
  unfold setT
  rw [List.getElem?_map, List.getElem?_range hi]
  rfl
theorem setL_at (b : Nat) {i : Nat} (hi : i < 8) : (setL b)[i]? = some (.bool (tb b i)) := by
  rw [setL_eq, List.getElem?_map, List.getElem?_range hi]
  rfl
theorem setT_succ (b : Nat) {k : Nat} (hk : k < 8) : (setT b k).set k (.bool (tb b k)) = setT b (k + 1) := by
  refine List.ext_getElem? fun i => ?_
  rw [List.getElem?_set]
  by_cases hi : i < 8
  · rw [setT_at b k hi, setT_at b (k + 1) hi, show (setT b k).length = 8 from rfl]
    by_cases e : k = i
    · subst e
      simp [hk]
    · rw [if_neg e]
      rcases Nat.lt_or_ge i k with h | h
      · simp [h, show i < k + 1 by omega]
      · simp [show ¬ i < k by omega, show ¬ i < k + 1 by omega]
  · rw [List.getElem?_eq_none (by show 8 ≤ i; omega), List.getElem?_eq_none (by show 8 ≤ i; omega), if_neg (by omega)]
theorem low_neg {m : Int} (h : m.tmod 256 < 0) : m.tmod 256 + 256 = (low m : Int) := by
  rw [low_int]
  rw [tmod_eq_if] at h ⊢
  split at h <;> split <;> omega
theorem low_pos {m : Int} (h : ¬ m.tmod 256 < 0) : m.tmod 256 = (low m : Int) := by
  rw [low_int]
  rw [tmod_eq_if] at h ⊢
  split at h <;> split <;> omega
theorem bit_is (b k : Nat) : (b / 2 ^ k % 2 == 1) = tb b k := by rw [tb, Nat.testBit_eq_decide_div_mod_eq]; rfl
theorem half_is (b k : Nat) : ((b / 2 ^ k : Nat) : Int).tdiv 2 = ((b / 2 ^ (k + 1) : Nat) : Int) := by
  rw [Nat.pow_succ, ← Nat.div_div_eq_div_mul]
  generalize b / 2 ^ k = q
  rw [Int.tdiv_eq_ediv_of_nonneg (by omega)]
  omega
theorem odd_is (b k : Nat) : (((b / 2 ^ k : Nat) : Int) % 2 == 1) = tb b k := by
  rw [← bit_is]
  generalize b / 2 ^ k = q
  rcases Nat.mod_two_eq_zero_or_one q with h | h
  · rw [h, show (q : Int) % 2 = 0 by omega]; rfl
  · rw [h, show (q : Int) % 2 = 1 by omega]; rfl

set_option maxHeartbeats 1000000 in
set_option maxRecDepth 100000 in
theorem rof_is (m : Int) (w : World) :
    Calls Try.prog 13 #[.int .i64 m] w fun e w' => e = .returned (.agg (setL (low m)).toArray) ∧ Below w.heap.size w w' := by
  obtain ⟨b, hb⟩ : ∃ b, b = low m := ⟨_, rfl⟩
  have T1 : Hid (m.tmod 256 < 0 → m.tmod 256 + 256 = b) := fun h => by rw [hb]; exact low_neg h
  have T2 : Hid (¬ m.tmod 256 < 0 → m.tmod 256 = b) := fun h => by rw [hb]; exact low_pos h
  have B8 : Hid (b < 256) := by rw [hb]; exact low_lt m
  rw [← hb]
  clear hb
  go_enter Try.func13, Try.ntmps13
  go_upto_if 8 with (fail)
  go_cut [0, 2, 3] (fun s0 s2 s3 wc => s0 = .int .i64 b ∧ s2 = .pointer (some ⟨w.heap.size, 0, none⟩) ∧ s3 = .pointer (some ⟨w.heap.size + 1, 0, none⟩) ∧ Cs wc w.heap.size (setT b 0) ∧ Cs wc (w.heap.size + 1) (setT b 0) ∧ Below w.heap.size w wc)
  case first =>
    have q1 : Cs (w.alloc (.cells #[.bool false, .bool false, .bool false, .bool false, .bool false, .bool false, .bool false, .bool false] 39)) w.heap.size (setT b 0) := Cs.new _ _ _ _ rfl
    have q2 : Cs ((w.alloc (.cells #[.bool false, .bool false, .bool false, .bool false, .bool false, .bool false, .bool false, .bool false] 39)).alloc (.cells #[.bool false, .bool false, .bool false, .bool false, .bool false, .bool false, .bool false, .bool false] 39)) (w.heap.size + 1) (setT b 0) := Cs.new _ _ _ _ (by simp)
    by_cases h : m.tmod 256 < 0
    · have E := T1.out h
      go_wp2_with (fail)
      go_meet
      case rel =>
        exact ⟨rfl, rfl, rfl, q1.alloc _, q2, by go_grown⟩
    · have E := T2.out h
      go_wp2_with (fail)
      go_meet
      case rel => exact ⟨rfl, rfl, rfl, q1.alloc _, q2, by go_grown⟩
  case rest =>
    clear T1 T2
    obtain ⟨rfl, rfl, rfl, q1, q2, HB⟩ := hcut
    go_wp2
    go_loopw [0, 4] (fun s f wr => ∃ j : Nat, j ≤ 8 ∧ s = .int .i64 (b / 2 ^ j : Nat) ∧ f = .int .i64 j ∧ Cs wr w.heap.size (setT b 0) ∧ Cs wr (w.heap.size + 1) (setT b j) ∧ Below w.heap.size w wr) (fun _ f _ => 8 - (intOf f).toNat)
    case atStart => exact ⟨0, by omega, by simp, rfl, q1, q2, HB⟩
    case round =>
      clear q1 q2 HB
      obtain ⟨j, jl, rfl, rfl, q1, q2, HB⟩ := hrel
      have hs := HB.size
      by_cases j8 : j < 8
      · have e1 := half_is b j
        have e2 := odd_is b j
        have e3 : Cs (wr.setCell ⟨w.heap.size + 1, j, none⟩ (.bool (tb b j))) (w.heap.size + 1) (setT b (j + 1)) := by rw [← setT_succ b j8]; exact q2.set j _ j8
        have e4 := q1.beside (b' := w.heap.size + 1) j (.bool (tb b j)) (by omega)
        have j1 : (j : Int) < 8 := by omega
        have j0 : (0 : Int) ≤ (j : Int) := by omega
        have c1 := q2.1 j _ (setT_at b j j8)
        have f1 := q2.2.1 j j8
        have e5 : wrap64 ((b / 2 ^ (j + 1) : Nat) : Int) = ((b / 2 ^ (j + 1) : Nat) : Int) := by
          have : b / 2 ^ (j + 1) ≤ b := Nat.div_le_self _ _
          have := B8.out
          exact wrap_small (by omega)
        have ER : Hid (b / 2 ^ (j + 1) = b / 2 ^ (j + 1)) := rfl
        generalize b / 2 ^ j = q at *
        generalize hr : b / 2 ^ (j + 1) = r at e1 e5
        have HR : Hid (r = b / 2 ^ (j + 1)) := hr.symm
        clear ER hr
        generalize tb b j = t at *
        have HB' : Below w.heap.size w (wr.setCell ⟨w.heap.size + 1, j, none⟩ (.bool t)) := by go_grown
        clear q1 q2 HB
        go_wp2
        go_roundw
        case rel => exact ⟨j + 1, by omega, by rw [e5, HR.out], by go_num, e4, e3, HB'⟩
        case measure => simp [intOf]; omega
      · obtain rfl : j = 8 := by omega
        have q2' : Cs wr (w.heap.size + 1) (setL b) := q2
        have c0 := q2'.1 0 _ rfl
        have c1 := q2'.1 1 _ rfl
        have c2 := q2'.1 2 _ rfl
        have c3 := q2'.1 3 _ rfl
        have c4 := q2'.1 4 _ rfl
        have c5 := q2'.1 5 _ rfl
        have c6 := q2'.1 6 _ rfl
        have c7 := q2'.1 7 _ rfl
        have d0 := q1.1 0 _ rfl
        have d1 := q1.1 1 _ rfl
        have d2 := q1.1 2 _ rfl
        have d3 := q1.1 3 _ rfl
        have d4 := q1.1 4 _ rfl
        have d5 := q1.1 5 _ rfl
        have d6 := q1.1 6 _ rfl
        have d7 := q1.1 7 _ rfl
        have f0 := q1.2.1 0 (by show 0 < 8; omega)
        have f1 := q1.2.1 1 (by show 1 < 8; omega)
        have f2 := q1.2.1 2 (by show 2 < 8; omega)
        have f3 := q1.2.1 3 (by show 3 < 8; omega)
        have f4 := q1.2.1 4 (by show 4 < 8; omega)
        have f5 := q1.2.1 5 (by show 5 < 8; omega)
        have f6 := q1.2.1 6 (by show 6 < 8; omega)
        have f7 := q1.2.1 7 (by show 7 < 8; omega)
        clear q2 q2' q1
        go_wp2
        refine bodyPost_ret (v := .agg #[.bool (tb b 0), .bool (tb b 1), .bool (tb b 2), .bool (tb b 3), .bool (tb b 4), .bool (tb b 5), .bool (tb b 6), .bool (tb b 7)]) (by simp [results, Try.results13, go_sem, d0, d1, d2, d3, d4, d5, d6, d7]) rfl ⟨rfl, by go_grown⟩

end Go.Proofs.Ytkjaiahdkolmdaa.Mk
