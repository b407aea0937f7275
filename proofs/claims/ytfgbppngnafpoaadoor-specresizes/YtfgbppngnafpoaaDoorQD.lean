/-
  The class of a pod at this program: the document's own answer. Conditions: the containers read as a list.
-/
import Derived.Test.YtfgbppngnafpoaaDoorPM
namespace Go.Proofs.YtfgbppngnafpoaaDoor.Sp
open Go.RowKit

theorem zero_four (c : Ct) : zeroC c = ((c.rc == 0) && ((c.rm == 0) && ((c.lc == 0) && (c.lm == 0)))) := by
  unfold zeroC
  rw [Bool.eq_iff_iff]
  simp
theorem guar_four (c : Ct) : guarC c = ((c.rc == c.lc) && ((c.rm == c.lm) && (!(c.rc == 0) && !(c.rm == 0)))) := by
  unfold guarC
  rw [Bool.eq_iff_iff]
  simp
theorem class_two {zs : List Ct} (h : zs.all zeroC = true) : classI zs = 2 := by
  unfold classI
  rw [if_pos h]
theorem class_one {zs : List Ct} {j : Nat} {c : Ct} (h : zs.all zeroC = false) (hj : zs[j]? = some c) (hc : guarC c = false) : classI zs = 1 := by
  unfold classI
  rw [h, if_neg (by simp), if_neg]
  intro g
  have := List.all_eq_true.1 g c (List.mem_of_getElem? hj)
  rw [hc] at this
  exact Bool.noConfusion this
theorem class_none {zs : List Ct} (h : zs.all zeroC = false) (hg : ∀ i, i < zs.length → ∀ c : Ct, zs[i]? = some c → guarC c = true) : classI zs = 0 := by
  unfold classI
  rw [h, if_neg (by simp), if_pos]
  refine List.all_eq_true.2 (fun c hc => ?_)
  obtain ⟨i, hi⟩ := List.getElem?_of_mem hc
  exact hg i (List.getElem?_eq_some_iff.1 hi).1 c hi

set_option maxHeartbeats 1000000 in
set_option maxRecDepth 100000 in
theorem refClass_is {v : Value} {zs : List Ct} (pn : ByteArray) (pr po : Int) (w : World) (h : RdC w v zs) :
    Calls Tryd.prog 21 #[.agg #[.string pn, .int .i64 pr, .int .i64 po, v]] w fun e w' => e = .returned (.int .i64 (classI zs)) ∧ Below w.heap.size w w' := by
  obtain ⟨R, hR⟩ : ∃ R, R = classI zs := ⟨_, rfl⟩
  rw [← hR]
  have HR : Hid (R = classI zs) := hR
  clear hR
  obtain ⟨Z, hZ⟩ := alls_ex zs zeroC true
  have HZ : Hid (Alls zs zeroC Z true) := hZ
  clear hZ
  obtain ⟨a, cap, rfl, h1, h2, h3⟩ := h
  have H3 : Hid (∀ (j : Nat) (c : Ct), zs[j]? = some c → c.n.size ≤ maxLen ∧ ∃ b off : Nat, a = some ⟨b, off, none⟩ ∧ Ten w b (off + j * 10) c) := h3
  clear h3
  have zl : zs.length ≤ maxLen := by omega
  unfold maxLen at zl
  go_enter Tryd.func21, Tryd.ntmps21
  go_wp2
  go_loopw [3, 11] (fun s3 f wr => ∃ (j : Nat) (g : Bool), f = .int .i64 j ∧ j ≤ zs.length ∧ s3 = .bool g ∧ Hid (g = Z j) ∧ Cs wr w.heap.size [.string pn, .int .i64 pr, .int .i64 po, .slice a zs.length cap] ∧ Below w.heap.size w wr) (fun _ f _ => zs.length - (intOf f).toNat)
  case atStart => exact ⟨0, _, rfl, by omega, rfl, by unfold Hid; rw [HZ.out.zero], (by repeat (first | assumption | (refine Cs.new _ _ _ _ ?_; simp; done) | refine Cs.alloc ?_ _ | refine Cs.drew ?_ | (refine Cs.beside ?_ _ _ (by omega)))), by go_grown⟩
  case round =>
    obtain ⟨j, g, rfl, jl, rfl, GZ, q_p, HB⟩ := hrel
    obtain ⟨wo, rfl⟩ : ∃ wo, wo = wr := ⟨_, rfl⟩
    have hs := HB.size
    by_cases cj : j < zs.length
    · obtain ⟨⟨m, rc, rm, rh, lc, lm, lh, x, y, z⟩, hdj⟩ : ∃ d, zs[j]? = some d := ⟨zs[j], List.getElem?_eq_getElem cj⟩
      obtain ⟨-, b, off, rfl, T⟩ := H3.out j _ hdj
      have DJ : Hid (zs[j]? = some ⟨m, rc, rm, rh, lc, lm, lh, x, y, z⟩) := hdj
      obtain ⟨c0, c1, c2, c3, c4, c5, c6, c7, c8, c9⟩ := T.later HB
      simp only at c0 c1 c2 c3 c4 c5 c6 c7 c8 c9
      have j0 : (0 : Int) ≤ (j : Int) := by omega
      have j1 : (j : Int) < (zs.length : Int) := by omega
      have r_p := q_p.alloc (.cells #[.string m, .int .i64 rc, .int .i64 rm, .int .i64 rh, .int .i64 lc, .int .i64 lm, .int .i64 lh, .bool x, .bool y, .bool z] 26)
      have HB1 : Below w.heap.size w (wo.alloc (.cells #[.string m, .int .i64 rc, .int .i64 rm, .int .i64 rh, .int .i64 lc, .int .i64 lm, .int .i64 lh, .bool x, .bool y, .bool z] 26)) := by go_grown
      obtain ⟨e1, t1⟩ : ∃ e, (rc == 0) = e := ⟨_, rfl⟩
      obtain ⟨e2, t2⟩ : ∃ e, (rm == 0) = e := ⟨_, rfl⟩
      obtain ⟨e3, t3⟩ : ∃ e, (lc == 0) = e := ⟨_, rfl⟩
      obtain ⟨e4, t4⟩ : ∃ e, (lm == 0) = e := ⟨_, rfl⟩
      have N : Hid (zeroC ⟨m, rc, rm, rh, lc, lm, lh, x, y, z⟩ = (e1 && (e2 && (e3 && e4)))) := by unfold Hid; rw [zero_four, ← t1, ← t2, ← t3, ← t4]
      clear T hdj q_p
      cases g with
      | false =>
        go_wp2
        go_roundw
        case rel => exact ⟨j + 1, _, by go_num, by omega, rfl, by unfold Hid; rw [HZ.out.next j _ DJ.out, ← GZ.out, N.out]; rfl, r_p, HB1⟩
        case measure => simp [intOf]; omega
      | true =>
        cases e1 with
        | false =>
          go_wp2
          go_roundw
          case rel => exact ⟨j + 1, _, by go_num, by omega, rfl, by unfold Hid; rw [HZ.out.next j _ DJ.out, ← GZ.out, N.out]; rfl, r_p, HB1⟩
          case measure => simp [intOf]; omega
        | true =>
          cases e2 with
          | false =>
            go_wp2
            go_roundw
            case rel => exact ⟨j + 1, _, by go_num, by omega, rfl, by unfold Hid; rw [HZ.out.next j _ DJ.out, ← GZ.out, N.out]; rfl, r_p, HB1⟩
            case measure => simp [intOf]; omega
          | true =>
            cases e3 with
            | false =>
              go_wp2
              go_roundw
              case rel => exact ⟨j + 1, _, by go_num, by omega, rfl, by unfold Hid; rw [HZ.out.next j _ DJ.out, ← GZ.out, N.out]; rfl, r_p, HB1⟩
              case measure => simp [intOf]; omega
            | true =>
              cases e4 with
              | false =>
                go_wp2
                go_roundw
                case rel => exact ⟨j + 1, _, by go_num, by omega, rfl, by unfold Hid; rw [HZ.out.next j _ DJ.out, ← GZ.out, N.out]; rfl, r_p, HB1⟩
                case measure => simp [intOf]; omega
              | true =>
                go_wp2
                go_roundw
                case rel => exact ⟨j + 1, _, by go_num, by omega, rfl, by unfold Hid; rw [HZ.out.next j _ DJ.out, ← GZ.out, N.out]; rfl, r_p, HB1⟩
                case measure => simp [intOf]; omega
    · obtain rfl : j = zs.length := by omega
      have E : Hid (zs.all zeroC = g) := by
        unfold Hid
        rw [GZ.out, HZ.out.all, Bool.true_and]
      have p3 : wo.cell? ⟨w.heap.size, 3, none⟩ = some (.slice a zs.length cap) := q_p.1 3 _ rfl
      have pz := q_p.2.2
      clear GZ HZ
      cases g with
      | true =>
        go_wp2
        go_ret
        exact ⟨by rw [HR.out, class_two E.out]; rfl, HB⟩
      | false =>
      have ZF : Hid (zs.all zeroC = false) := E.out
      clear E
      go_wp2
      clear p3 pz q_p
      go_loopw [45] (fun f wr => ∃ j : Nat, f = .int .i64 j ∧ j ≤ zs.length ∧ Hid (∀ i, i < j → ∀ c : Ct, zs[i]? = some c → guarC c = true) ∧ Below w.heap.size w wr) (fun f _ => zs.length - (intOf f).toNat)
      case atStart => exact ⟨0, rfl, by omega, fun i hi => absurd hi (by omega), HB⟩
      case round =>
        clear HB hs cj jl
        obtain ⟨j, rfl, jl, HJ, HB⟩ := hrel
        obtain ⟨wx, rfl⟩ : ∃ wx, wx = wr := ⟨_, rfl⟩
        have hs := HB.size
        by_cases cj : j < zs.length
        · obtain ⟨⟨m, rc, rm, rh, lc, lm, lh, x, y, z⟩, hdj⟩ : ∃ d, zs[j]? = some d := ⟨zs[j], List.getElem?_eq_getElem cj⟩
          obtain ⟨-, b, off, rfl, T⟩ := H3.out j _ hdj
          have DJ : Hid (zs[j]? = some ⟨m, rc, rm, rh, lc, lm, lh, x, y, z⟩) := hdj
          obtain ⟨c0, c1, c2, c3, c4, c5, c6, c7, c8, c9⟩ := T.later HB
          simp only at c0 c1 c2 c3 c4 c5 c6 c7 c8 c9
          have j0 : (0 : Int) ≤ (j : Int) := by omega
          have j1 : (j : Int) < (zs.length : Int) := by omega
          have HB1 : Below w.heap.size w (wx.alloc (.cells #[.string m, .int .i64 rc, .int .i64 rm, .int .i64 rh, .int .i64 lc, .int .i64 lm, .int .i64 lh, .bool x, .bool y, .bool z] 26)) := by go_grown
          obtain ⟨e1, t1⟩ : ∃ e, (rc == lc) = e := ⟨_, rfl⟩
          obtain ⟨e2, t2⟩ : ∃ e, (rm == lm) = e := ⟨_, rfl⟩
          obtain ⟨e3, t3⟩ : ∃ e, (rc == 0) = e := ⟨_, rfl⟩
          obtain ⟨e4, t4⟩ : ∃ e, (rm == 0) = e := ⟨_, rfl⟩
          have u1 : (rc != lc) = !e1 := by rw [← t1]; rfl
          have u2 : (rm != lm) = !e2 := by rw [← t2]; rfl
          have N : Hid (guarC ⟨m, rc, rm, rh, lc, lm, lh, x, y, z⟩ = (e1 && (e2 && (!e3 && !e4)))) := by unfold Hid; rw [guar_four, ← t1, ← t2, ← t3, ← t4]
          clear T hdj
          cases e1 with
          | false =>
            have X : Hid (R = 1) := by
              unfold Hid
              rw [HR.out, class_one ZF.out DJ.out (by rw [N.out]; rfl)]
            go_wp2
            go_ret
            exact ⟨by rw [X.out]; rfl, HB1⟩
          | true =>
            cases e2 with
            | false =>
              have X : Hid (R = 1) := by
                unfold Hid
                rw [HR.out, class_one ZF.out DJ.out (by rw [N.out]; rfl)]
              go_wp2
              go_ret
              exact ⟨by rw [X.out]; rfl, HB1⟩
            | true =>
              cases e3 with
              | false =>
                cases e4 with
                | false =>
                  go_wp2
                  go_roundw
                  case rel => exact ⟨j + 1, by go_num, by omega, fun i hi c hc => by
                    by_cases e : i = j
                    · subst e
                      rw [DJ.out] at hc
                      injection hc with hc
                      subst hc
                      rw [N.out]; rfl
                    · exact HJ.out i (by omega) c hc, HB1⟩
                  case measure => simp [intOf]; omega
                | true =>
                  have X : Hid (R = 1) := by
                    unfold Hid
                    rw [HR.out, class_one ZF.out DJ.out (by rw [N.out]; rfl)]
                  go_wp2
                  go_ret
                  exact ⟨by rw [X.out]; rfl, HB1⟩
              | true =>
                have X : Hid (R = 1) := by
                  unfold Hid
                  rw [HR.out, class_one ZF.out DJ.out (by rw [N.out]; rfl)]
                go_wp2
                go_ret
                exact ⟨by rw [X.out]; rfl, HB1⟩
        · obtain rfl : j = zs.length := by omega
          have X : Hid (R = 0) := by
            unfold Hid
            rw [HR.out, class_none ZF.out HJ.out]
          clear HJ
          go_wp2
          go_ret
          exact ⟨by rw [X.out]; rfl, HB⟩

end Go.Proofs.YtfgbppngnafpoaaDoor.Sp
