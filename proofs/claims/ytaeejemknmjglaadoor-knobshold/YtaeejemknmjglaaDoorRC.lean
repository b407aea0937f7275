/-
  The document's own answers for the numbers of files, and which knobs are right, at this program. Conditions: where it is said, the tables of the program lie as its text lays them.
-/
import Derived.Test.YtaeejemknmjglaaDoorRB
import Derived.Deep.CutRange
import Derived.Deep.DeepCutAuto
namespace Go.Proofs.YtaeejemknmjglaaDoor.Sp
open Go.RowKit

set_option maxHeartbeats 4000000 in
set_option maxRecDepth 100000 in
theorem rat_is (ka kb kc kd ke f : Int) (w : World) :
    Calls Tryd.prog 18 #[.agg #[.int .i64 ka, .int .i64 kb, .int .i64 kc, .int .i64 kd, .int .i64 ke], .int .i64 f] w fun e w' => e = .returned (.int .i64 (atK ka kb kc kd ke f)) ∧ Below w.heap.size w w' := by
  obtain ⟨R, hR⟩ : ∃ R, R = atK ka kb kc kd ke f := ⟨_, rfl⟩
  rw [← hR]
  have HR : Hid (R = atK ka kb kc kd ke f) := hR
  clear hR
  by_cases hf : f = 0 ∨ f = 1 ∨ f = 2 ∨ f = 3 ∨ f = 4
  · rcases hf with rfl | rfl | rfl | rfl | rfl
    all_goals
      go_enter Tryd.func18, Tryd.ntmps18
      go_wp2
      go_ret
      exact ⟨by rw [HR.out]; rfl, by go_grown⟩
  · have N : Hid (R = 0) := by unfold Hid; rw [HR.out, at_no hf]
    have g0 : (f == 0) = false := by simp; omega
    have g1 : (f == 1) = false := by simp; omega
    have g2 : (f == 2) = false := by simp; omega
    have g3 : (f == 3) = false := by simp; omega
    have g4 : (f == 4) = false := by simp; omega
    clear hf
    go_enter Tryd.func18, Tryd.ntmps18
    go_wp2
    go_ret
    exact ⟨by rw [N.out]; rfl, by go_grown⟩

set_option maxHeartbeats 4000000 in
set_option maxRecDepth 100000 in
theorem rwith_is (ka kb kc kd ke f n : Int) (w : World) :
    Calls Tryd.prog 20 #[.agg #[.int .i64 ka, .int .i64 kb, .int .i64 kc, .int .i64 kd, .int .i64 ke], .int .i64 f, .int .i64 n] w fun e w' => e = .returned (withV ka kb kc kd ke f n) ∧ Below w.heap.size w w' := by
  obtain ⟨R, hR⟩ : ∃ R, R = withV ka kb kc kd ke f n := ⟨_, rfl⟩
  rw [← hR]
  have HR : Hid (R = withV ka kb kc kd ke f n) := hR
  clear hR
  by_cases hf : f = 0 ∨ f = 1 ∨ f = 2 ∨ f = 3 ∨ f = 4
  · rcases hf with rfl | rfl | rfl | rfl | rfl
    all_goals
      go_enter Tryd.func20, Tryd.ntmps20
      go_wp2
      go_returns
      exact ⟨by rw [HR.out]; rfl, by go_grown⟩
  · have N : Hid (R = .agg #[.int .i64 ka, .int .i64 kb, .int .i64 kc, .int .i64 kd, .int .i64 ke]) := by unfold Hid; rw [HR.out, with_no hf]
    have g0 : (f == 0) = false := by simp; omega
    have g1 : (f == 1) = false := by simp; omega
    have g2 : (f == 2) = false := by simp; omega
    have g3 : (f == 3) = false := by simp; omega
    have g4 : (f == 4) = false := by simp; omega
    clear hf
    go_enter Tryd.func20, Tryd.ntmps20
    go_wp2
    go_returns
    exact ⟨by rw [N.out], by go_grown⟩

/-- Right knobs. -/
def rightK (ka kb kc kd ke : Int) : Bool := fitF 0 ka && (fitF 1 kb && (fitF 2 kc && (fitF 3 kd && (fitF 4 ke && decide (kc ≤ kd)))))
/-- The number of file i. -/
def numK (ka kb kc kd ke : Int) (i : Nat) : Int := if i = 0 then ka else if i = 1 then kb else if i = 2 then kc else if i = 3 then kd else ke
theorem right_bad {ka kb kc kd ke : Int} (i : Nat) (hi : i < 5) (h : fitF i (numK ka kb kc kd ke i) = false) : rightK ka kb kc kd ke = false := by
  unfold rightK
  rcases (show i = 0 ∨ i = 1 ∨ i = 2 ∨ i = 3 ∨ i = 4 by omega) with rfl | rfl | rfl | rfl | rfl
  · rw [show fitF 0 ka = false from h]; rfl
  · rw [show fitF 1 kb = false from h]; simp
  · rw [show fitF 2 kc = false from h]; simp
  · rw [show fitF 3 kd = false from h]; simp
  · rw [show fitF 4 ke = false from h]; simp
theorem right_good {ka kb kc kd ke : Int} (h : ∀ i, i < 5 → fitF i (numK ka kb kc kd ke i) = true) : rightK ka kb kc kd ke = decide (kc ≤ kd) := by
  unfold rightK
  rw [show fitF 0 ka = true from h 0 (by omega), show fitF 1 kb = true from h 1 (by omega), show fitF 2 kc = true from h 2 (by omega), show fitF 3 kd = true from h 3 (by omega), show fitF 4 ke = true from h 4 (by omega)]
  rfl

set_option maxHeartbeats 4000000 in
set_option maxRecDepth 100000 in
theorem right_is (ka kb kc kd ke : Int) (w : World) (hL : LaidK w) :
    Calls Tryd.prog 21 #[.agg #[.int .i64 ka, .int .i64 kb, .int .i64 kc, .int .i64 kd, .int .i64 ke]] w fun e w' => e = .returned (.bool (rightK ka kb kc kd ke)) ∧ Below w.heap.size w w' := by
  obtain ⟨R, hR⟩ : ∃ R, R = rightK ka kb kc kd ke := ⟨_, rfl⟩
  rw [← hR]
  have HR : Hid (R = rightK ka kb kc kd ke) := hR
  have HL : Hid (LaidK w) := hL
  clear hR hL
  go_enter Tryd.func21, Tryd.ntmps21
  go_wp2_with (fail)
  refine (numbers_is ka kb kc kd ke _).mono ?_
  rintro e w1 ⟨rfl, hw1⟩
  have HBw1 : Below w.heap.size w w1 := Below.trans (by go_grown) (hw1.mono (by first | omega | (simp; done) | (simp; omega)))
  have p_p : Cs w1 (w.heap.size) [.int .i64 ka, .int .i64 kb, .int .i64 kc, .int .i64 kd, .int .i64 ke] := Cs.later hw1 (by repeat (first | assumption | (refine Cs.new _ _ _ _ ?_; simp; done) | refine Cs.alloc ?_ _ | refine Cs.drew ?_ | (refine Cs.beside ?_ _ _ (by omega))))
  have q_p := p_p
  have p0 : w1.cell? ⟨w.heap.size, 0, none⟩ = some (.int .i64 ka) := p_p.1 0 _ rfl
  have p1 : w1.cell? ⟨w.heap.size, 1, none⟩ = some (.int .i64 kb) := p_p.1 1 _ rfl
  have p2 : w1.cell? ⟨w.heap.size, 2, none⟩ = some (.int .i64 kc) := p_p.1 2 _ rfl
  have p3 : w1.cell? ⟨w.heap.size, 3, none⟩ = some (.int .i64 kd) := p_p.1 3 _ rfl
  have p4 : w1.cell? ⟨w.heap.size, 4, none⟩ = some (.int .i64 ke) := p_p.1 4 _ rfl
  have pz : w.heap.size < w1.heap.size := p_p.2.2
  clear p_p
  have hsw1 := hw1.size
  (try simp at hsw1)
  clear hw1
  go_wp2
  clear p0 p1 p2 p3 p4 pz hsw1
  go_loopw [7] (fun p wr => ∃ j : Nat, p = .int .i64 j ∧ j ≤ 5 ∧ Hid (∀ i, i < j → fitF i (numK ka kb kc kd ke i) = true) ∧ Cs wr w.heap.size [.int .i64 ka, .int .i64 kb, .int .i64 kc, .int .i64 kd, .int .i64 ke] ∧ Below w.heap.size w wr) (fun p _ => 5 - (intOf p).toNat)
  case atStart => exact ⟨0, rfl, by omega, fun i hi => absurd hi (by omega), q_p, HBw1⟩
  case round =>
    clear q_p HBw1
    obtain ⟨j, rfl, jl, HJ, q_p, HB⟩ := hrel
    have hs := HB.size
    have p2 : wr.cell? ⟨w.heap.size, 2, none⟩ = some (.int .i64 kc) := q_p.1 2 _ rfl
    have p3 : wr.cell? ⟨w.heap.size, 3, none⟩ = some (.int .i64 kd) := q_p.1 3 _ rfl
    have pz := q_p.2.2
    by_cases j5 : j = 5
    · subst j5
      have X : Hid (R = decide (kc ≤ kd)) := by unfold Hid; rw [HR.out, right_good HJ.out]
      go_wp2
      go_ret
      exact ⟨by rw [X.out]; rfl, HB⟩
    · have jf : j < 5 := by omega
      have C : Hid (∀ w, LaidK w → Calls Tryd.prog 37 #[.int .i64 j, .int .i64 (numK ka kb kc kd ke j)] w fun e w' => e = .returned (.bool (fitF j (numK ka kb kc kd ke j))) ∧ w' = w) := fun w h => fits_is j jf _ w h
      have ix : ∀ w : World, (Instr.index 51 (.agg #[.int .i64 ka, .int .i64 kb, .int .i64 kc, .int .i64 kd, .int .i64 ke]) (.int .i64 j)).run Tryd.prog w = .ok (.int .i64 (numK ka kb kc kd ke j)) w := by
        rcases (show j = 0 ∨ j = 1 ∨ j = 2 ∨ j = 3 ∨ j = 4 by omega) with rfl | rfl | rfl | rfl | rfl
        · exact num_ix0 ka kb kc kd ke
        · exact num_ix1 ka kb kc kd ke
        · exact num_ix2 ka kb kc kd ke
        · exact num_ix3 ka kb kc kd ke
        · exact num_ix4 ka kb kc kd ke
      have j0 : (0 : Int) ≤ (j : Int) := by omega
      have j1 : (j : Int) < 5 := by omega
      have YB : Hid (fitF j (numK ka kb kc kd ke j) = false → R = false) := fun h => by rw [HR.out, right_bad j jf h]
      have YG : Hid (fitF j (numK ka kb kc kd ke j) = true → ∀ i, i < j + 1 → fitF i (numK ka kb kc kd ke i) = true) := fun h i hi => by
        by_cases e : i = j
        · rw [e]; exact h
        · exact HJ.out i (by omega)
      obtain ⟨n, hn⟩ : ∃ n, n = numK ka kb kc kd ke j := ⟨_, rfl⟩
      obtain ⟨g, hg⟩ : ∃ g, g = fitF j n := ⟨_, rfl⟩
      rw [← hn] at ix YB YG C
      rw [← hg] at YB YG C
      clear hn hg HJ
      go_wp2_with (fail)
      refine (C.out _ (HL.out.later HB)).mono ?_
      rintro e w2 ⟨rfl, rfl⟩
      clear C ix
      cases g with
      | false =>
        have X : Hid (R = false) := YB.out rfl
        clear YB YG
        go_wp2
        go_ret
        exact ⟨by rw [X.out]; rfl, HB⟩
      | true =>
        have YG' := YG.out rfl
        have HJ' : Hid (∀ i, i < j + 1 → fitF i (numK ka kb kc kd ke i) = true) := YG'
        clear YG YG' YB
        go_wp2
        go_roundw
        case rel => exact ⟨j + 1, by go_num, by omega, HJ', q_p, HB⟩
        case measure => simp [intOf]; omega

theorem fit_u {lo hi : Int} {u : Bool} : fitN lo hi u 4611686018427387904 = u := if_pos rfl
theorem fit_n {lo hi n : Int} {u : Bool} (h : n ≠ 4611686018427387904) : fitN lo hi u n = decide (lo ≤ n ∧ n ≤ hi) := if_neg h
theorem fit_low {lo hi n : Int} {u : Bool} (h : n < lo) (k : lo ≤ 1) : fitN lo hi u n = false := by
  rw [fit_n (by omega)]
  exact decide_eq_false (by omega)
theorem fit_in {lo hi n : Int} {u : Bool} (h : lo ≤ n) (k : n ≤ hi) (l : hi ≤ 9007199254740992) : fitN lo hi u n = true := by
  rw [fit_n (by omega)]
  exact decide_eq_true ⟨h, k⟩
theorem fit_up {lo hi n : Int} {u : Bool} (h : hi < n) (k : u = false ∨ n ≠ 4611686018427387904) : fitN lo hi u n = false := by
  by_cases e : n = 4611686018427387904
  · subst e
    rw [fit_u]
    exact k.resolve_right (fun h => h rfl)
  · rw [fit_n e]
    exact decide_eq_false (by omega)

set_option maxHeartbeats 8000000 in
set_option maxRecDepth 100000 in
theorem rright_is (ka kb kc kd ke : Int) (w : World) :
    Calls Tryd.prog 22 #[.agg #[.int .i64 ka, .int .i64 kb, .int .i64 kc, .int .i64 kd, .int .i64 ke]] w fun e w' => e = .returned (.bool (rightK ka kb kc kd ke)) ∧ Below w.heap.size w w' := by
  obtain ⟨R, hR⟩ : ∃ R, R = rightK ka kb kc kd ke := ⟨_, rfl⟩
  rw [← hR]
  have HR : Hid (R = rightK ka kb kc kd ke) := hR
  clear hR
  obtain ⟨g0, h0⟩ : ∃ g, g = fitF 0 ka := ⟨_, rfl⟩
  obtain ⟨g3, h3⟩ : ∃ g, g = fitF 3 kd := ⟨_, rfl⟩
  have H0 : Hid (g0 = fitN 0 9007199254740992 true ka) := h0
  have H3 : Hid (g3 = fitN 0 9007199254740992 true kd) := h3
  have HG : Hid (R = (g0 && (fitN 1 10000 false kb && (fitN 0 9007199254740992 false kc && (g3 && (fitN 0 9007199254740992 false ke && decide (kc ≤ kd))))))) := by unfold Hid; rw [HR.out, h0, h3]; rfl
  clear HR h0 h3
  go_enter Tryd.func22, Tryd.ntmps22
  go_upto_region 2 with (fail)
  have q : Cs (w.alloc (.cells #[.int .i64 ka, .int .i64 kb, .int .i64 kc, .int .i64 kd, .int .i64 ke] 33)) w.heap.size [.int .i64 ka, .int .i64 kb, .int .i64 kc, .int .i64 kd, .int .i64 ke] := (by repeat (first | assumption | (refine Cs.new _ _ _ _ ?_; simp; done) | refine Cs.alloc ?_ _ | refine Cs.drew ?_ | (refine Cs.beside ?_ _ _ (by omega))))
  have HB : Below w.heap.size w (w.alloc (.cells #[.int .i64 ka, .int .i64 kb, .int .i64 kc, .int .i64 kd, .int .i64 ke] 33)) := by go_grown
  generalize w.alloc (.cells #[.int .i64 ka, .int .i64 kb, .int .i64 kc, .int .i64 kd, .int .i64 ke] 33) = W at *
  have p0 : W.cell? ⟨w.heap.size, 0, none⟩ = some (.int .i64 ka) := q.1 0 _ rfl
  have p1 : W.cell? ⟨w.heap.size, 1, none⟩ = some (.int .i64 kb) := q.1 1 _ rfl
  have p2 : W.cell? ⟨w.heap.size, 2, none⟩ = some (.int .i64 kc) := q.1 2 _ rfl
  have p3 : W.cell? ⟨w.heap.size, 3, none⟩ = some (.int .i64 kd) := q.1 3 _ rfl
  have p4 : W.cell? ⟨w.heap.size, 4, none⟩ = some (.int .i64 ke) := q.1 4 _ rfl
  have pz : w.heap.size < W.heap.size := q.2.2
  clear q
  go_cut [4] (fun s wc => s = .bool g0 ∧ wc = W)
  case first =>
    clear HG H3 p1 p2 p3 p4
    by_cases k1 : ka < 0
    · have X : Hid (g0 = false) := by unfold Hid; rw [H0.out, fit_low k1 (by omega)]
      have z : (ka == 4611686018427387904) = false := by simp; omega
      clear H0
      go_wp2_with (fail)
      go_meet
      case rel => exact ⟨by rw [X.out], rfl⟩
    by_cases k2 : ka ≤ 9007199254740992
    · have X : Hid (g0 = true) := by unfold Hid; rw [H0.out, fit_in (by omega) k2 (by omega)]
      clear H0
      go_wp2_with (fail)
      go_meet
      case rel => exact ⟨by rw [X.out], rfl⟩
    by_cases k3 : ka = 4611686018427387904
    · subst k3
      have X : Hid (g0 = true) := by unfold Hid; rw [H0.out, fit_u]
      clear H0
      go_wp2_with (fail)
      go_meet
      case rel => exact ⟨by rw [X.out], rfl⟩
    · have X : Hid (g0 = false) := by unfold Hid; rw [H0.out, fit_up (by omega) (Or.inr k3)]
      have z : (ka == 4611686018427387904) = false := by simp [k3]
      clear H0 k3
      go_wp2_with (fail)
      go_meet
      case rel => exact ⟨by rw [X.out], rfl⟩
  case rest =>
    obtain ⟨rfl, hW⟩ := hcut
    have hW := hW.symm
    subst hW
    clear p0 H0
    go_upto_region 3 with (fail)
    go_cut [5] (fun s wc => s = .bool g3 ∧ wc = W)
    case first =>
      clear HG p1 p2 p4
      by_cases k1 : kd < 0
      · have X : Hid (g3 = false) := by unfold Hid; rw [H3.out, fit_low k1 (by omega)]
        have z : (kd == 4611686018427387904) = false := by simp; omega
        clear H3
        go_wp2_with (fail)
        go_meet
        case rel => exact ⟨by rw [X.out], rfl⟩
      by_cases k2 : kd ≤ 9007199254740992
      · have X : Hid (g3 = true) := by unfold Hid; rw [H3.out, fit_in (by omega) k2 (by omega)]
        clear H3
        go_wp2_with (fail)
        go_meet
        case rel => exact ⟨by rw [X.out], rfl⟩
      by_cases k3 : kd = 4611686018427387904
      · subst k3
        have X : Hid (g3 = true) := by unfold Hid; rw [H3.out, fit_u]
        clear H3
        go_wp2_with (fail)
        go_meet
        case rel => exact ⟨by rw [X.out], rfl⟩
      · have X : Hid (g3 = false) := by unfold Hid; rw [H3.out, fit_up (by omega) (Or.inr k3)]
        have z : (kd == 4611686018427387904) = false := by simp [k3]
        clear H3 k3
        go_wp2_with (fail)
        go_meet
        case rel => exact ⟨by rw [X.out], rfl⟩
    case rest =>
      obtain ⟨rfl, hW⟩ := hcut
      have hW := hW.symm
      subst hW
      clear H3
      cases g0 with
      | false =>
        have X : Hid (R = false) := HG
        clear HG
        go_wp2
        go_ret
        exact ⟨by rw [X.out]; rfl, HB⟩
      | true =>
      cases g3 with
      | false =>
        have X : Hid (R = false) := by unfold Hid; rw [HG.out]; simp
        clear HG
        go_wp2
        go_ret
        exact ⟨by rw [X.out]; rfl, HB⟩
      | true =>
      by_cases k1 : kb ≤ 0
      · have X : Hid (R = false) := by unfold Hid; rw [HG.out, fit_low (n := kb) (by omega) (by omega)]; simp
        clear HG
        go_wp2
        go_ret
        exact ⟨by rw [X.out]; rfl, HB⟩
      by_cases k2 : 10001 ≤ kb
      · have X : Hid (R = false) := by unfold Hid; rw [HG.out, fit_up (n := kb) (by omega) (Or.inl rfl)]; simp
        clear HG
        go_wp2
        go_ret
        exact ⟨by rw [X.out]; rfl, HB⟩
      by_cases k3 : kc < 0
      · have X : Hid (R = false) := by unfold Hid; rw [HG.out, fit_low (n := kc) (by omega) (by omega)]; simp
        clear HG
        go_wp2
        go_ret
        exact ⟨by rw [X.out]; rfl, HB⟩
      by_cases k4 : 9007199254740992 < kc
      · have X : Hid (R = false) := by unfold Hid; rw [HG.out, fit_up (n := kc) (by omega) (Or.inl rfl)]; simp
        clear HG
        go_wp2
        go_ret
        exact ⟨by rw [X.out]; rfl, HB⟩
      by_cases k5 : ke < 0
      · have X : Hid (R = false) := by unfold Hid; rw [HG.out, fit_low (n := ke) (by omega) (by omega)]; simp
        clear HG
        go_wp2
        go_ret
        exact ⟨by rw [X.out]; rfl, HB⟩
      by_cases k6 : 9007199254740992 < ke
      · have X : Hid (R = false) := by unfold Hid; rw [HG.out, fit_up (n := ke) (by omega) (Or.inl rfl)]; simp
        clear HG
        go_wp2
        go_ret
        exact ⟨by rw [X.out]; rfl, HB⟩
      have X : Hid (R = decide (kc ≤ kd)) := by
        unfold Hid
        rw [HG.out, fit_in (n := kb) (by omega) (by omega) (by omega), fit_in (n := kc) (by omega) (by omega) (by omega), fit_in (n := ke) (by omega) (by omega) (by omega)]
        rfl
      clear HG
      go_wp2
      go_ret
      exact ⟨by rw [X.out]; rfl, HB⟩

end Go.Proofs.YtaeejemknmjglaaDoor.Sp
