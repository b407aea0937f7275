/-
  Which pods are right at this program: the document's own answer. Conditions: the containers read as a list; the names' lengths fit the machine.
-/
import Derived.Test.YtaeejemknmjglaaDoorPL
import Derived.Test.YtaeejemknmjglaaDoorYS
namespace Go.Proofs.YtaeejemknmjglaaDoor.Sp
open Go.RowKit

set_option maxHeartbeats 2000000 in
set_option maxRecDepth 100000 in
theorem refPod_is {v : Value} {zs : List Ct} (pn : ByteArray) (pr po : Int) (hm : pn.size ≤ maxLen) (w : World) (h : RdC w v zs) :
    Calls Tryd.prog 25 #[.agg #[.string pn, .int .i64 pr, .int .i64 po, v]] w fun e w' => e = .returned (.bool (podB pn pr po zs)) ∧ Below w.heap.size w w' := by
  obtain ⟨R, hR⟩ : ∃ R, R = podB pn pr po zs := ⟨_, rfl⟩
  rw [← hR]
  have HR : Hid (R = podB pn pr po zs) := hR
  have HZ : Hid (RdC w v zs) := h
  have HM : Hid (pn.size ≤ maxLen) := hm
  clear hR h hm
  obtain ⟨a, cap, rfl, h1, h2, h3⟩ := id HZ.out
  have H3 : Hid (∀ (j : Nat) (c : Ct), zs[j]? = some c → c.n.size ≤ maxLen ∧ ∃ b off : Nat, a = some ⟨b, off, none⟩ ∧ Ten w b (off + j * 10) c) := h3
  clear h3
  have zl : zs.length ≤ maxLen := by omega
  unfold maxLen at zl
  go_enter Tryd.func25, Tryd.ntmps25
  go_wp2_with (fail)
  refine (refName_is pn HM.out _).mono ?_
  rintro e w1 ⟨rfl, rfl⟩
  obtain ⟨g1, hg1⟩ : ∃ g, g = nameB pn := ⟨_, rfl⟩
  rw [← hg1]
  have G1 : Hid (nameB pn = g1) := hg1.symm
  clear hg1
  cases g1 with
  | false =>
    go_wp2
    go_ret
    exact ⟨by rw [HR.out, pod_head (head_no G1.out)]; rfl, by go_grown⟩
  | true =>
  by_cases p1 : pr < -1000
  · go_wp2
    go_ret
    exact ⟨by rw [HR.out, pod_head (head_not (by omega))]; rfl, by go_grown⟩
  by_cases p2 : 1000 < pr
  · go_wp2
    go_ret
    exact ⟨by rw [HR.out, pod_head (head_not (by omega))]; rfl, by go_grown⟩
  by_cases p3 : po < 0
  · go_wp2
    go_ret
    exact ⟨by rw [HR.out, pod_head (head_not (by omega))]; rfl, by go_grown⟩
  by_cases p4 : 2 < po
  · go_wp2
    go_ret
    exact ⟨by rw [HR.out, pod_head (head_not (by omega))]; rfl, by go_grown⟩
  have GH : Hid (headB pn pr po = true) := head_yes G1.out (by omega)
  by_cases l1 : (zs.length : Int) < 1
  · go_wp2
    go_ret
    exact ⟨by rw [HR.out, pod_len (by omega)]; rfl, by go_grown⟩
  by_cases l2 : (6 : Int) < (zs.length : Int)
  · go_wp2
    go_ret
    exact ⟨by rw [HR.out, pod_len (by omega)]; rfl, by go_grown⟩
  go_wp2
  clear p1 p2 p3 p4 G1
  go_loopw [49] (fun f wr => ∃ j : Nat, f = .int .i64 j ∧ j ≤ zs.length ∧ Hid (∀ i, i < j → ∀ c : Ct, zs[i]? = some c → c.ok = true ∧ fnd c.n zs = some i) ∧ Cs wr w.heap.size [.string pn, .int .i64 pr, .int .i64 po, .slice a zs.length cap] ∧ Below w.heap.size w wr) (fun f _ => zs.length - (intOf f).toNat)
  case atStart => exact ⟨0, rfl, by omega, fun i hi => absurd hi (by omega), (by repeat (first | assumption | (refine Cs.new _ _ _ _ ?_; simp; done) | refine Cs.alloc ?_ _ | refine Cs.drew ?_ | (refine Cs.beside ?_ _ _ (by omega)))), by go_grown⟩
  case round =>
    obtain ⟨j, rfl, jl, HJ, q_p, HB⟩ := hrel
    obtain ⟨wo, rfl⟩ : ∃ wo, wo = wr := ⟨_, rfl⟩
    have hs := HB.size
    have p0 : wo.cell? ⟨w.heap.size, 0, none⟩ = some (.string pn) := q_p.1 0 _ rfl
    have p1 : wo.cell? ⟨w.heap.size, 1, none⟩ = some (.int .i64 pr) := q_p.1 1 _ rfl
    have p2 : wo.cell? ⟨w.heap.size, 2, none⟩ = some (.int .i64 po) := q_p.1 2 _ rfl
    have p3 : wo.cell? ⟨w.heap.size, 3, none⟩ = some (.slice a zs.length cap) := q_p.1 3 _ rfl
    have pz := q_p.2.2
    by_cases cj : j < zs.length
    · obtain ⟨⟨m, rc, rm, rh, lc, lm, lh, x, y, z⟩, hdj⟩ : ∃ d, zs[j]? = some d := ⟨zs[j], List.getElem?_eq_getElem cj⟩
      obtain ⟨hmm, b, off, rfl, T⟩ := H3.out j _ hdj
      have MM : Hid (m.size ≤ maxLen) := hmm
      have DJ : Hid (zs[j]? = some ⟨m, rc, rm, rh, lc, lm, lh, x, y, z⟩) := hdj
      clear hdj hmm
      obtain ⟨c0, c1, c2, c3, c4, c5, c6, c7, c8, c9⟩ := T.later HB
      simp only at c0 c1 c2 c3 c4 c5 c6 c7 c8 c9
      have j0 : (0 : Int) ≤ (j : Int) := by omega
      have j1 : (j : Int) < (zs.length : Int) := by omega
      clear T
      go_wp2_with (fail)
      refine (refContainer_is m rc rm rh lc lm lh x y z MM.out _).mono ?_
      rintro e w2 ⟨rfl, hw2⟩
      have HB2 : Below w.heap.size w w2 := Below.trans (show Below w.heap.size w _ by go_grown) (hw2.mono (by simp; omega))
      have r_p := Cs.later hw2 (q_p.alloc (.cells #[.string m, .int .i64 rc, .int .i64 rm, .int .i64 rh, .int .i64 lc, .int .i64 lm, .int .i64 lh, .bool x, .bool y, .bool z] 26))
      have r_c : Cs w2 wo.heap.size [.string m, .int .i64 rc, .int .i64 rm, .int .i64 rh, .int .i64 lc, .int .i64 lm, .int .i64 lh, .bool x, .bool y, .bool z] := Cs.later hw2 (by repeat (first | assumption | (refine Cs.new _ _ _ _ ?_; simp; done) | refine Cs.alloc ?_ _ | refine Cs.drew ?_ | (refine Cs.beside ?_ _ _ (by omega))))
      obtain ⟨g, hg⟩ : ∃ g, g = ctB m rc rm rh lc lm lh := ⟨_, rfl⟩
      rw [← hg]
      have GG : Hid (ctB m rc rm rh lc lm lh = g) := hg.symm
      clear hg p0 p1 p2 p3 pz q_p HB hs hw2 c0 c1 c2 c3 c4 c5 c6 c7 c8 c9
      cases g with
      | false =>
        have X : Hid (R = false) := by
          unfold Hid
          rw [HR.out, pod_cs (csB_no DJ.out (fun h => by have := h.1; unfold Ct.ok at this; rw [GG.out] at this; exact Bool.noConfusion this))]
        go_wp2
        go_ret
        exact ⟨by rw [X.out]; rfl, HB2⟩
      | true =>
        have hs := HB2.size
        have p3 : w2.cell? ⟨w.heap.size, 3, none⟩ = some (.slice (some ⟨b, off, none⟩) zs.length cap) := r_p.1 3 _ rfl
        have jc : (j : Int) ≤ (cap : Int) := by omega
        have L0 : Hid (Lies w [(wo.heap.size, [.string m, .int .i64 rc, .int .i64 rm, .int .i64 rh, .int .i64 lc, .int .i64 lm, .int .i64 lh, .bool x, .bool y, .bool z]), (w.heap.size, [.string pn, .int .i64 pr, .int .i64 po, .slice (some ⟨b, off, none⟩) zs.length cap])] w2) := ⟨fun x hx => by
          simp at hx
          rcases hx with rfl | rfl
          · exact r_c
          · exact r_p, HB2⟩
        clear r_p r_c
        go_wp2
        clear p3 HB2 hs
        go_loopw [62] (fun f wt => ∃ q : Nat, f = .int .i64 q ∧ q ≤ j ∧ Hid ((∀ i, i < q → ∀ d : Ct, zs[i]? = some d → eqS d.n m = false) ∧ Lies w [(wo.heap.size, [.string m, .int .i64 rc, .int .i64 rm, .int .i64 rh, .int .i64 lc, .int .i64 lm, .int .i64 lh, .bool x, .bool y, .bool z]), (w.heap.size, [.string pn, .int .i64 pr, .int .i64 po, .slice (some ⟨b, off, none⟩) zs.length cap])] wt)) (fun f _ => j - (intOf f).toNat)
        case atStart => exact ⟨0, rfl, by omega, fun i hi => absurd hi (by omega), L0.out⟩
        case round =>
          clear L0
          obtain ⟨q, rfl, ql, HQ⟩ := hrel
          have HB := HQ.out.2.2
          have hs := HB.size
          have r_c := HQ.out.2.get 0 rfl
          have c0 : wr.cell? ⟨wo.heap.size, 0, none⟩ = some (.string m) := r_c.1 0 _ rfl
          have cz := r_c.2.2
          by_cases cq : q < j
          · obtain ⟨⟨m1, rc1, rm1, rh1, lc1, lm1, lh1, x1, y1, z1⟩, hdq⟩ : ∃ d, zs[q]? = some d := ⟨zs[q]'(by omega), List.getElem?_eq_getElem _⟩
            obtain ⟨-, b', off', eb, U⟩ := H3.out q _ hdq
            injection eb with eb
            injection eb with eb1 eb2
            subst eb1 eb2
            obtain ⟨d0, d1, d2, d3, d4, d5, d6, d7, d8, d9⟩ := U.later HB
            simp only at d0 d1 d2 d3 d4 d5 d6 d7 d8 d9
            have q0 : (0 : Int) ≤ (q : Int) := by omega
            have q1 : (q : Int) < (j : Int) := by omega
            obtain ⟨g, hg⟩ : ∃ g, eqS m m1 = g := ⟨_, rfl⟩
            have t0 : (m.toList == m1.toList) = g := by rw [eqS_l]; exact hg
            have DQ : Hid (zs[q]? = some ⟨m1, rc1, rm1, rh1, lc1, lm1, lh1, x1, y1, z1⟩) := hdq
            have EG : Hid (eqS m1 m = g) := by unfold Hid; rw [eqS_comm]; exact hg
            clear U hdq hg r_c
            cases g with
            | true =>
              have X : Hid (R = false) := by
                unfold Hid
                rw [HR.out, pod_cs (csB_no DJ.out (fun h => by
                  have := (fnd_first DJ.out).1 h.2 q cq _ DQ.out
                  rw [EG.out] at this
                  exact Bool.noConfusion this))]
              clear HQ
              go_wp2
              go_ret
              exact ⟨by rw [X.out]; rfl, by go_grown⟩
            | false =>
              have HQ' : Hid ((∀ i, i < q + 1 → ∀ d : Ct, zs[i]? = some d → eqS d.n m = false) ∧ Lies w [(wo.heap.size, [.string m, .int .i64 rc, .int .i64 rm, .int .i64 rh, .int .i64 lc, .int .i64 lm, .int .i64 lh, .bool x, .bool y, .bool z]), (w.heap.size, [.string pn, .int .i64 pr, .int .i64 po, .slice (some ⟨b, off, none⟩) zs.length cap])] (wr.alloc (.cells #[.string m1, .int .i64 rc1, .int .i64 rm1, .int .i64 rh1, .int .i64 lc1, .int .i64 lm1, .int .i64 lh1, .bool x1, .bool y1, .bool z1] 26))) := ⟨fun i hi d hd => by
                by_cases e : i = q
                · subst e
                  rw [DQ.out] at hd
                  injection hd with hd
                  subst hd
                  exact EG.out
                · exact HQ.out.1 i (by omega) d hd, HQ.out.2.alloc _⟩
              clear HQ DQ EG
              go_wp2
              go_roundw
              case rel => exact ⟨q + 1, by go_num, by omega, HQ'⟩
              case measure => simp [intOf]; omega
          · obtain rfl : q = j := by omega
            have HJ' : Hid (∀ i, i < q + 1 → ∀ c : Ct, zs[i]? = some c → c.ok = true ∧ fnd c.n zs = some i) := fun i hi c hc => by
              by_cases e : i = q
              · subst e
                rw [DJ.out] at hc
                injection hc with hc
                subst hc
                exact ⟨GG.out, (fnd_first DJ.out).2 HQ.out.1⟩
              · exact HJ.out i (by omega) c hc
            have r_p := HQ.out.2.get 1 rfl
            clear HJ DJ GG HQ MM
            go_wp2
            go_roundw
            case rel => exact ⟨q + 1, by go_num, by omega, HJ', r_p, HB⟩
            case measure => simp [intOf]; omega
    · have CC : Hid (R = sumsB zs) := by
        unfold Hid
        rw [HR.out, pod_sums GH.out (by omega) (csB_iff.2 (fun i c hc => HJ.out i (by have := (List.getElem?_eq_some_iff.1 hc).1; omega) c hc))]
      clear HR HJ
      go_wp2_with (fail)
      refine (refSums_is pn pr po _ (HZ.out.later HB) (by omega)).mono ?_
      rintro e w2 ⟨rfl, hw2⟩
      have HB2 : Below w.heap.size w w2 := HB.trans (hw2.mono HB.size)
      obtain ⟨⟨u1, u2, u3⟩, hu⟩ : ∃ u, u = (sumL (0, 0, 0) (zs.map Ct.rq)).getD (0, 0, 0) := ⟨_, rfl⟩
      obtain ⟨⟨x1, x2, x3⟩, hx⟩ : ∃ u, u = (sumL (0, 0, 0) (zs.map Ct.li)).getD (0, 0, 0) := ⟨_, rfl⟩
      have E : vo2 (sumL (0, 0, 0) (zs.map Ct.rq)) (sumL (0, 0, 0) (zs.map Ct.li)) = .tuple #[.agg #[.int .i64 u1, .int .i64 u2, .int .i64 u3], .agg #[.int .i64 x1, .int .i64 x2, .int .i64 x3], .bool R] := by
        rw [CC.out]
        unfold vo2 sumsB
        rw [← hu, ← hx]
        rfl
      rw [E]
      clear hw2 p0 p1 p2 p3 pz q_p HB hs hu hx E CC
      have hs := HB2.size
      go_wp2
      go_ret
      exact ⟨rfl, by go_grown⟩

end Go.Proofs.YtaeejemknmjglaaDoor.Sp
