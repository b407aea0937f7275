/-
  The text of knobs at this program: package knobs' own, and the document's. Conditions: the numbers are ints; where it is said, the tables of the program lie as its text lays them.
-/
import Derived.Test.YtaeejemknmjglaaDoorRS
import Derived.Test.YtaeejemknmjglaaDoorPI
namespace Go.Proofs.YtaeejemknmjglaaDoor.Sp
open Go.RowKit

theorem strInfo : (Tryd.prog.info? 9).map (fun i => (i.zero, i.size, i.bytes)) = some (some (.string ⟨#[]⟩), 1, 16) := by kernel_rfl
/-- The text of knobs. -/
def txtK (ka kb kc kd ke : Int) : List UInt8 := Lib.join [numL ka, numL kb, numL kc, numL kd, numL ke] [32]
abbrev InK (ka kb kc kd ke : Int) : Prop := In64 ka ∧ In64 kb ∧ In64 kc ∧ In64 kd ∧ In64 ke
theorem InK.num {ka kb kc kd ke : Int} (h : InK ka kb kc kd ke) (j : Nat) : In64 (numK ka kb kc kd ke j) := by
  obtain ⟨a, b, c, d, e⟩ := h
  unfold numK
  split
  · exact a
  · split
    · exact b
    · split
      · exact c
      · split
        · exact d
        · exact e
theorem num_at {ka kb kc kd ke : Int} {j : Nat} (h : j < 5) : [ka, kb, kc, kd, ke][j]? = some (numK ka kb kc kd ke j) := by
  rcases (show j = 0 ∨ j = 1 ∨ j = 2 ∨ j = 3 ∨ j = 4 by omega) with rfl | rfl | rfl | rfl | rfl <;> rfl
/-- Its beginning of so many files. -/
def txtJ (ka kb kc kd ke : Int) (j : Nat) : List UInt8 := Lib.join ([numL ka, numL kb, numL kc, numL kd, numL ke].take j) [32]
theorem txt_zero (ka kb kc kd ke : Int) : txtJ ka kb kc kd ke 0 = [] := rfl
theorem txt_one (ka kb kc kd ke : Int) : txtJ ka kb kc kd ke 1 = numL (numK ka kb kc kd ke 0) := Lib.join_one _ _
theorem txt_next (ka kb kc kd ke : Int) (j : Nat) (h : 0 < j) (h5 : j < 5) : txtJ ka kb kc kd ke (j + 1) = txtJ ka kb kc kd ke j ++ [32] ++ numL (numK ka kb kc kd ke j) := by
  rcases (show j = 1 ∨ j = 2 ∨ j = 3 ∨ j = 4 by omega) with rfl | rfl | rfl | rfl
  all_goals simp [txtJ, numK, Lib.join_cons, Lib.joinTail]
theorem txt_all (ka kb kc kd ke : Int) : txtJ ka kb kc kd ke 5 = txtK ka kb kc kd ke := rfl
theorem txt_len {ka kb kc kd ke : Int} (h : InK ka kb kc kd ke) : ∀ j, j ≤ 5 → (txtJ ka kb kc kd ke j).length ≤ 22 * j
  | 0, _ => by simp [txt_zero]
  | 1, _ => by rw [txt_one]; have := numL_len (h.num 0); omega
  | j + 2, hj => by
    have := txt_len h (j + 1) (by omega)
    have k := numL_len (h.num (j + 1))
    rw [txt_next ka kb kc kd ke (j + 1) (by omega) (by omega)]
    simp
    omega
def bt (l : List UInt8) : ByteArray := ⟨l.toArray⟩
theorem bt_size (l : List UInt8) : (bt l).size = l.length := by simp [bt, ByteArray.size]
theorem bt_app (l m : List UInt8) : bt (l ++ m) = bt l ++ bt m := by
  refine ByteArray.ext ?_
  rw [ByteArray.data_append]
  simp [bt]

set_option maxHeartbeats 4000000 in
set_option maxRecDepth 100000 in
theorem rtextK_is (ka kb kc kd ke : Int) (h : InK ka kb kc kd ke) (w : World) :
    Calls Tryd.prog 24 #[.agg #[.int .i64 ka, .int .i64 kb, .int .i64 kc, .int .i64 kd, .int .i64 ke]] w fun e w' => e = .returned (.string (bt (txtK ka kb kc kd ke))) ∧ Below w.heap.size w w' := by
  obtain ⟨X, hX⟩ : ∃ X : Nat → ByteArray, X = fun j => bt (txtJ ka kb kc kd ke j) := ⟨_, rfl⟩
  have X0 : X 0 = ⟨#[]⟩ := by rw [hX]; rfl
  have XL : Hid (X 5 = bt (txtK ka kb kc kd ke)) := by unfold Hid; rw [hX]; rfl
  have XS : Hid (∀ j, j ≤ 5 → (X j).size ≤ 110) := fun j hj => by
    rw [hX, bt_size]
    have := txt_len h j hj
    omega
  have XN : Hid (∀ j, j < 5 → 0 < j → X (j + 1) = X j ++ ⟨#[32]⟩ ++ bt (numL (numK ka kb kc kd ke j))) := fun j hj h0 => by
    rw [hX]
    show bt (txtJ ka kb kc kd ke (j + 1)) = bt (txtJ ka kb kc kd ke j) ++ ⟨#[32]⟩ ++ bt (numL (numK ka kb kc kd ke j))
    rw [txt_next ka kb kc kd ke j h0 hj, bt_app, bt_app]
    rfl
  have XO : Hid (X 1 = ⟨#[]⟩ ++ bt (numL (numK ka kb kc kd ke 0))) := by
    unfold Hid
    rw [hX]
    show bt (txtJ ka kb kc kd ke 1) = ⟨#[]⟩ ++ bt (numL (numK ka kb kc kd ke 0))
    rw [txt_one]
    exact ByteArray.ext (by rw [ByteArray.data_append]; simp)
  have HI : Hid (InK ka kb kc kd ke) := h
  clear hX h
  rw [← XL.out]
  go_enter Tryd.func24, Tryd.ntmps24
  go_wp2
  go_loopw [3, 4] (fun s f wr => ∃ j : Nat, s = .string (X j) ∧ f = .int .i64 j ∧ j ≤ 5 ∧ Cs wr w.heap.size [.int .i64 ka, .int .i64 kb, .int .i64 kc, .int .i64 kd, .int .i64 ke] ∧ Below w.heap.size w wr) (fun _ f _ => 5 - (intOf f).toNat)
  case atStart => exact ⟨0, by rw [X0], rfl, by omega, (by repeat (first | assumption | (refine Cs.new _ _ _ _ ?_; simp; done) | refine Cs.alloc ?_ _ | refine Cs.drew ?_ | (refine Cs.beside ?_ _ _ (by omega)))), by go_grown⟩
  case round =>
    obtain ⟨j, rfl, rfl, jl, q_p, HB⟩ := hrel
    have hs := HB.size
    have p0 : wr.cell? ⟨w.heap.size, 0, none⟩ = some (.int .i64 ka) := q_p.1 0 _ rfl
    have p1 : wr.cell? ⟨w.heap.size, 1, none⟩ = some (.int .i64 kb) := q_p.1 1 _ rfl
    have p2 : wr.cell? ⟨w.heap.size, 2, none⟩ = some (.int .i64 kc) := q_p.1 2 _ rfl
    have p3 : wr.cell? ⟨w.heap.size, 3, none⟩ = some (.int .i64 kd) := q_p.1 3 _ rfl
    have p4 : wr.cell? ⟨w.heap.size, 4, none⟩ = some (.int .i64 ke) := q_p.1 4 _ rfl
    have pz := q_p.2.2
    by_cases j5 : j = 5
    · subst j5
      clear X0
      go_wp2
      go_ret
      exact ⟨rfl, HB⟩
    · have jf : j < 5 := by omega
      have j1 : (j : Int) < 5 := by omega
      obtain ⟨n, hn⟩ : ∃ n, n = numK ka kb kc kd ke j := ⟨_, rfl⟩
      have C : Hid (∀ w, Calls Tryd.prog 18 #[.agg #[.int .i64 ka, .int .i64 kb, .int .i64 kc, .int .i64 kd, .int .i64 ke], .int .i64 j] w fun e w' => e = .returned (.int .i64 n) ∧ Below w.heap.size w w') := fun w => by
        have := rat_is ka kb kc kd ke j w
        rw [hn]
        rcases (show j = 0 ∨ j = 1 ∨ j = 2 ∨ j = 3 ∨ j = 4 by omega) with rfl | rfl | rfl | rfl | rfl <;> exact this
      have HN : Hid (In64 n) := by rw [hn]; exact HI.out.num j
      have YN : Hid (0 < j → X (j + 1) = X j ++ ⟨#[32]⟩ ++ bt (numL n)) := fun h0 => by rw [hn]; exact XN.out j jf h0
      have YO : Hid (j = 0 → X (j + 1) = X j ++ bt (numL n)) := fun h0 => by subst h0; rw [hn, X0]; exact XO.out
      have S : (X j).size ≤ 110 := XS.out j jl
      obtain ⟨T, hT⟩ : ∃ T, T = X j := ⟨_, rfl⟩
      rw [← hT] at YN YO S
      rw [← hT]
      obtain ⟨T', hT'⟩ : ∃ T', T' = X (j + 1) := ⟨_, rfl⟩
      rw [← hT'] at YN YO
      have XT : Hid (X (j + 1) = T') := hT'.symm
      clear hn hT hT' X0 j5
      go_wp2_with (fail)
      refine (C.out _).mono ?_
      rintro e w2 ⟨rfl, hw2⟩
      have HB2 : Below w.heap.size w w2 := HB.trans (hw2.mono HB.size)
      have r_p := Cs.later hw2 q_p
      clear C p0 p1 p2 p3 p4 pz HB hs q_p hw2
      have b32 : (⟨#[32]⟩ : ByteArray).size = 1 := rfl
      have b3 : (⟨#[109, 97, 120]⟩ : ByteArray).size = 3 := rfl
      have bn := numL_len HN.out
      have bs : (bt (numL n)).size ≤ 21 := by rw [bt_size]; exact bn
      clear bn
      by_cases j0 : j = 0
      · have E : Hid (T' = T ++ bt (numL n)) := YO.out j0
        have ji : ¬ (0 : Int) < (j : Int) := by omega
        clear YN YO
        by_cases u : n = 4611686018427387904
        · subst u
          have sz : ¬ 9223372036854775807 < T.size + (⟨#[109, 97, 120]⟩ : ByteArray).size := by omega
          have E2 : Hid (T' = T ++ ⟨#[109, 97, 120]⟩) := E
          clear E
          go_wp2
          go_roundw
          case rel => exact ⟨j + 1, by rw [XT.out, E2.out], by go_num, by omega, r_p, HB2⟩
          case measure => simp [intOf]; omega
        · have u0 : (n == 4611686018427387904) = false := by simp [u]
          have L : bt (numL n) = bt (Lib.itoa n) := by rw [numL, if_neg u]
          rw [L] at E bs
          clear L u
          go_wp2_with (fail)
          refine (rsigned_is n HN.out _).mono ?_
          rintro e w3 ⟨rfl, hw3⟩
          have HB3 : Below w.heap.size w w3 := HB2.trans (hw3.mono HB2.size)
          have q_3 := Cs.later hw3 r_p
          rw [show (⟨(Lib.itoa n).toArray⟩ : ByteArray) = bt (Lib.itoa n) from rfl]
          generalize bt (Lib.itoa n) = Y at *
          have sz : ¬ 9223372036854775807 < T.size + Y.size := by omega
          clear HB2 r_p hw3
          go_wp2
          go_roundw
          case rel => exact ⟨j + 1, by rw [XT.out, E.out], by go_num, by omega, q_3, HB3⟩
          case measure => simp [intOf]; omega
      · have E : Hid (T' = T ++ ⟨#[32]⟩ ++ bt (numL n)) := YN.out (by omega)
        have ji : (0 : Int) < (j : Int) := by omega
        have sy : ¬ 9223372036854775807 < T.size + (⟨#[32]⟩ : ByteArray).size := by omega
        have sq : (T ++ ⟨#[32]⟩).size ≤ 111 := by rw [ByteArray.size_append]; omega
        clear YN YO
        by_cases u : n = 4611686018427387904
        · subst u
          have sz : ¬ 9223372036854775807 < (T ++ ⟨#[32]⟩).size + (⟨#[109, 97, 120]⟩ : ByteArray).size := by omega
          have E2 : Hid (T' = T ++ ⟨#[32]⟩ ++ ⟨#[109, 97, 120]⟩) := E
          clear E
          go_wp2
          go_roundw
          case rel => exact ⟨j + 1, by rw [XT.out, E2.out], by go_num, by omega, r_p, HB2⟩
          case measure => simp [intOf]; omega
        · have u0 : (n == 4611686018427387904) = false := by simp [u]
          have L : bt (numL n) = bt (Lib.itoa n) := by rw [numL, if_neg u]
          rw [L] at E bs
          clear L u
          go_wp2_with (fail)
          refine (rsigned_is n HN.out _).mono ?_
          rintro e w3 ⟨rfl, hw3⟩
          have HB3 : Below w.heap.size w w3 := HB2.trans (hw3.mono HB2.size)
          have q_3 := Cs.later hw3 r_p
          rw [show (⟨(Lib.itoa n).toArray⟩ : ByteArray) = bt (Lib.itoa n) from rfl]
          generalize bt (Lib.itoa n) = Y at *
          have sz : ¬ 9223372036854775807 < (T ++ ⟨#[32]⟩).size + Y.size := by omega
          clear HB2 r_p hw3
          go_wp2
          go_roundw
          case rel => exact ⟨j + 1, by rw [XT.out, E.out], by go_num, by omega, q_3, HB3⟩
          case measure => simp [intOf]; omega

end Go.Proofs.YtaeejemknmjglaaDoor.Sp
