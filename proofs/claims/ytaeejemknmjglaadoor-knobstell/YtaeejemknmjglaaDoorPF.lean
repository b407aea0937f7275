/-
  The document's own answer on a container at this program. Conditions: the name's length fits the machine.
-/
import Derived.Test.YtaeejemknmjglaaDoorPE
import Derived.Deep.RegionHeld3
import Derived.Deep.RegionWith
import Derived.Deep.CutRange
import Derived.Deep.DeepCutAuto
import Derived.Deep.CutBlock
namespace Go.Proofs.YtaeejemknmjglaaDoor.Sp
open Go.RowKit

set_option maxHeartbeats 2000000 in
set_option maxRecDepth 100000 in
theorem refContainer_is (n : ByteArray) (rc rm rh lc lm lh : Int) (x y z : Bool) (hm : n.size ≤ maxLen) (w : World) :
    Calls Tryd.prog 28 #[.agg #[.string n, .int .i64 rc, .int .i64 rm, .int .i64 rh, .int .i64 lc, .int .i64 lm, .int .i64 lh, .bool x, .bool y, .bool z]] w fun e w' => e = .returned (.bool (ctB n rc rm rh lc lm lh)) ∧ Below w.heap.size w w' := by
  obtain ⟨R, hR⟩ : ∃ R, R = ctB n rc rm rh lc lm lh := ⟨_, rfl⟩
  rw [← hR]
  have HR : Hid (R = ctB n rc rm rh lc lm lh) := hR
  have HM : Hid (n.size ≤ maxLen) := hm
  clear hR hm
  go_enter Tryd.func28, Tryd.ntmps28
  go_upto_region 1 with (fail)
  go_cut [3, 4] (fun s3 s4 wc => ∃ p q : Nat, s3 = .pointer (some ⟨p, 0, none⟩) ∧ s4 = .pointer (some ⟨q, 0, none⟩) ∧ p ≠ q ∧ w.heap.size < p ∧ w.heap.size < q ∧ Cs wc p [.int .i64 rc, .int .i64 rm, .int .i64 rh] ∧ Cs wc q [.int .i64 lc, .int .i64 lm, .int .i64 lh] ∧ Cs wc w.heap.size [.string n, .int .i64 rc, .int .i64 rm, .int .i64 rh, .int .i64 lc, .int .i64 lm, .int .i64 lh, .bool x, .bool y, .bool z] ∧ Below w.heap.size w wc)
  case first =>
    go_region
    all_goals
      go_wp2_with (fail)
      go_meet
      case rel => exact ⟨_, _, rfl, rfl, by omega, by omega, by omega, (by repeat (first | assumption | (refine Cs.new _ _ _ _ ?_; simp; done) | refine Cs.alloc ?_ _ | refine Cs.drew ?_ | (refine Cs.beside ?_ _ _ (by omega)))), (by repeat (first | assumption | (refine Cs.new _ _ _ _ ?_; simp; done) | refine Cs.alloc ?_ _ | refine Cs.drew ?_ | (refine Cs.beside ?_ _ _ (by omega)))), (by repeat (first | assumption | (refine Cs.new _ _ _ _ ?_; simp; done) | refine Cs.alloc ?_ _ | refine Cs.drew ?_ | (refine Cs.beside ?_ _ _ (by omega)))), by go_grown⟩
  case rest =>
    obtain ⟨p, q, rfl, rfl, pq, pz, qz, q_p, q_q, q_a, HB⟩ := hcut
    have a0 : wc.cell? ⟨w.heap.size, 0, none⟩ = some (.string n) := q_a.1 0 _ rfl
    have p0 : wc.cell? ⟨p, 0, none⟩ = some (.int .i64 rc) := q_p.1 0 _ rfl
    have p1 : wc.cell? ⟨p, 1, none⟩ = some (.int .i64 rm) := q_p.1 1 _ rfl
    have p2 : wc.cell? ⟨p, 2, none⟩ = some (.int .i64 rh) := q_p.1 2 _ rfl
    have q0 : wc.cell? ⟨q, 0, none⟩ = some (.int .i64 lc) := q_q.1 0 _ rfl
    have q1 : wc.cell? ⟨q, 1, none⟩ = some (.int .i64 lm) := q_q.1 1 _ rfl
    have q2 : wc.cell? ⟨q, 2, none⟩ = some (.int .i64 lh) := q_q.1 2 _ rfl
    have az := q_a.2.2
    go_wp2_with (fail)
    refine (refName_is n HM.out _).mono ?_
    rintro e w1 ⟨rfl, rfl⟩
    obtain ⟨g1, hg1⟩ : ∃ g, g = nameB n := ⟨_, rfl⟩
    rw [← hg1]
    have G1 : Hid (nameB n = g1) := hg1.symm
    clear hg1
    cases g1 with
    | false =>
      go_wp2
      go_ret
      exact ⟨by rw [HR.out, ct_no1 G1.out]; rfl, by go_grown⟩
    | true =>
    go_wp2_with (fail)
    refine (refRight_any rc rm rh _).mono ?_
    rintro e w2 ⟨rfl, hw2⟩
    obtain ⟨g2, hg2⟩ : ∃ g, g = rightB rc rm rh := ⟨_, rfl⟩
    rw [← hg2]
    have G2 : Hid (rightB rc rm rh = g2) := hg2.symm
    clear hg2 a0 az p0 p1 p2 q0 q1 q2
    have r_p := Cs.later hw2 q_p
    have r_q := Cs.later hw2 q_q
    have HB2 : Below w.heap.size w w2 := HB.trans (hw2.mono HB.size)
    clear q_p q_q q_a HB hw2
    have p0 : w2.cell? ⟨p, 0, none⟩ = some (.int .i64 rc) := r_p.1 0 _ rfl
    have p1 : w2.cell? ⟨p, 1, none⟩ = some (.int .i64 rm) := r_p.1 1 _ rfl
    have p2 : w2.cell? ⟨p, 2, none⟩ = some (.int .i64 rh) := r_p.1 2 _ rfl
    have q0 : w2.cell? ⟨q, 0, none⟩ = some (.int .i64 lc) := r_q.1 0 _ rfl
    have q1 : w2.cell? ⟨q, 1, none⟩ = some (.int .i64 lm) := r_q.1 1 _ rfl
    have q2 : w2.cell? ⟨q, 2, none⟩ = some (.int .i64 lh) := r_q.1 2 _ rfl
    cases g2 with
    | false =>
      go_wp2
      go_ret
      exact ⟨by rw [HR.out, ct_no2 G2.out]; rfl, by go_grown⟩
    | true =>
    go_wp2_with (fail)
    refine (refRight_any lc lm lh _).mono ?_
    rintro e w3 ⟨rfl, hw3⟩
    obtain ⟨g3, hg3⟩ : ∃ g, g = rightB lc lm lh := ⟨_, rfl⟩
    rw [← hg3]
    have G3 : Hid (rightB lc lm lh = g3) := hg3.symm
    clear hg3 p0 p1 p2 q0 q1 q2
    have q_p := Cs.later hw3 r_p
    have q_q := Cs.later hw3 r_q
    have HB3 : Below w.heap.size w w3 := HB2.trans (hw3.mono HB2.size)
    clear r_p r_q HB2 hw3
    have p0 : w3.cell? ⟨p, 0, none⟩ = some (.int .i64 rc) := q_p.1 0 _ rfl
    have p1 : w3.cell? ⟨p, 1, none⟩ = some (.int .i64 rm) := q_p.1 1 _ rfl
    have p2 : w3.cell? ⟨p, 2, none⟩ = some (.int .i64 rh) := q_p.1 2 _ rfl
    have q0 : w3.cell? ⟨q, 0, none⟩ = some (.int .i64 lc) := q_q.1 0 _ rfl
    have q1 : w3.cell? ⟨q, 1, none⟩ = some (.int .i64 lm) := q_q.1 1 _ rfl
    have q2 : w3.cell? ⟨q, 2, none⟩ = some (.int .i64 lh) := q_q.1 2 _ rfl
    cases g3 with
    | false =>
      go_wp2
      go_ret
      exact ⟨by rw [HR.out, ct_no3 G3.out]; rfl, by go_grown⟩
    | true =>
    have Y : Hid (R = ctsB rc rm rh lc lm lh) := by unfold Hid; rw [HR.out, ct_yes G1.out G2.out G3.out]
    clear HR G1 G2 G3
    go_wp2
    all_goals
      go_ret
      refine ⟨?_, HB3⟩
      rw [Y.out]
      refine congrArg (fun b => Ending.returned (Value.bool b)) ?_
      unfold ctsB Cts
      rw [Bool.eq_iff_iff]
      simp
      try omega

end Go.Proofs.YtaeejemknmjglaaDoor.Sp
