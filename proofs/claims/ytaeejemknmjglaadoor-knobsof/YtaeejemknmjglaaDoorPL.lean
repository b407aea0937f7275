/-
  Which pods are right at this program: package spec's own, and the document's. Conditions: the tables of the program lie as its text lays them; the containers read as a list; the names' lengths fit the machine.
-/
import Derived.Test.YtaeejemknmjglaaDoorPF
import Derived.Test.YtaeejemknmjglaaDoorPK
namespace Go.Proofs.YtaeejemknmjglaaDoor.Sp
open Go.RowKit

theorem head_no {pn : ByteArray} {pr po : Int} (h : nameB pn = false) : headB pn pr po = false := by simp [headB, h]
theorem head_not {pn : ByteArray} {pr po : Int} (h : ¬ (-1000 ≤ pr ∧ pr ≤ 1000 ∧ 0 ≤ po ∧ po ≤ 2)) : headB pn pr po = false := by
  unfold headB
  rw [decide_eq_false h, Bool.and_false]
theorem head_yes {pn : ByteArray} {pr po : Int} (h : nameB pn = true) (k : -1000 ≤ pr ∧ pr ≤ 1000 ∧ 0 ≤ po ∧ po ≤ 2) : headB pn pr po = true := by
  unfold headB
  rw [h, decide_eq_true k]
  rfl

set_option maxHeartbeats 2000000 in
set_option maxRecDepth 100000 in
theorem pod_is {v : Value} {zs : List Ct} (pn : ByteArray) (pr po : Int) (hm : pn.size ≤ maxLen) (w : World) (hL : LaidS w) (h : RdC w v zs) :
    Calls Tryd.prog 30 #[.agg #[.string pn, .int .i64 pr, .int .i64 po, v]] w fun e w' => e = .returned (.bool (podB pn pr po zs)) ∧ Below w.heap.size w w' := by
  obtain ⟨R, hR⟩ : ∃ R, R = podB pn pr po zs := ⟨_, rfl⟩
  rw [← hR]
  have HR : Hid (R = podB pn pr po zs) := hR
  have HL : Hid (LaidS w) := hL
  have HZ : Hid (RdC w v zs) := h
  have HM : Hid (pn.size ≤ maxLen) := hm
  clear hR hL h hm
  obtain ⟨a, cap, rfl, h1, h2, h3⟩ := id HZ.out
  have H3 : Hid (∀ (j : Nat) (c : Ct), zs[j]? = some c → c.n.size ≤ maxLen ∧ ∃ b off : Nat, a = some ⟨b, off, none⟩ ∧ Ten w b (off + j * 10) c) := h3
  clear h3
  have zl : zs.length ≤ maxLen := by omega
  unfold maxLen at zl
  go_enter Tryd.func30, Tryd.ntmps30
  go_wp2_with (fail)
  refine (name_is pn HM.out _).mono ?_
  rintro e w1 ⟨rfl, rfl⟩
  obtain ⟨g1, hg1⟩ : ∃ g, g = nameB pn := ⟨_, rfl⟩
  rw [← hg1]
  have G1 : Hid (nameB pn = g1) := hg1.symm
  clear hg1
  cases g1 with
  | false =>
    go_wp2
    go_ret
    exact ⟨by rw [HR.out, pod_head (head_no G1.out)]; rfl, by go_grown⟩
  | true =>
  by_cases p1 : pr < -1000
  · go_wp2
    go_ret
    exact ⟨by rw [HR.out, pod_head (head_not (by omega))]; rfl, by go_grown⟩
  by_cases p2 : 1000 < pr
  · go_wp2
    go_ret
    exact ⟨by rw [HR.out, pod_head (head_not (by omega))]; rfl, by go_grown⟩
  by_cases p3 : po < 0
  · go_wp2
    go_ret
    exact ⟨by rw [HR.out, pod_head (head_not (by omega))]; rfl, by go_grown⟩
  by_cases p4 : 2 < po
  · go_wp2
    go_ret
    exact ⟨by rw [HR.out, pod_head (head_not (by omega))]; rfl, by go_grown⟩
  have GH : Hid (headB pn pr po = true) := head_yes G1.out (by omega)
  by_cases l1 : (zs.length : Int) < 1
  · go_wp2
    go_ret
    exact ⟨by rw [HR.out, pod_len (by omega)]; rfl, by go_grown⟩
  by_cases l2 : (6 : Int) < (zs.length : Int)
  · go_wp2
    go_ret
    exact ⟨by rw [HR.out, pod_len (by omega)]; rfl, by go_grown⟩
  go_wp2
  clear p1 p2 p3 p4 G1
  go_loopw [48] (fun f wr => ∃ j : Nat, f = .int .i64 j ∧ j ≤ zs.length ∧ Hid (∀ i, i < j → ∀ c : Ct, zs[i]? = some c → c.ok = true ∧ fnd c.n zs = some i) ∧ Cs wr w.heap.size [.string pn, .int .i64 pr, .int .i64 po, .slice a zs.length cap] ∧ Below w.heap.size w wr) (fun f _ => zs.length - (intOf f).toNat)
  case atStart => exact ⟨0, rfl, by omega, fun i hi => absurd hi (by omega), (by repeat (first | assumption | (refine Cs.new _ _ _ _ ?_; simp; done) | refine Cs.alloc ?_ _ | refine Cs.drew ?_ | (refine Cs.beside ?_ _ _ (by omega)))), by go_grown⟩
  case round =>
    obtain ⟨j, rfl, jl, HJ, q_p, HB⟩ := hrel
    have hs := HB.size
    have p0 : wr.cell? ⟨w.heap.size, 0, none⟩ = some (.string pn) := q_p.1 0 _ rfl
    have p1 : wr.cell? ⟨w.heap.size, 1, none⟩ = some (.int .i64 pr) := q_p.1 1 _ rfl
    have p2 : wr.cell? ⟨w.heap.size, 2, none⟩ = some (.int .i64 po) := q_p.1 2 _ rfl
    have p3 : wr.cell? ⟨w.heap.size, 3, none⟩ = some (.slice a zs.length cap) := q_p.1 3 _ rfl
    have pz := q_p.2.2
    by_cases cj : j < zs.length
    · obtain ⟨⟨m, rc, rm, rh, lc, lm, lh, x, y, z⟩, hdj⟩ : ∃ d, zs[j]? = some d := ⟨zs[j], List.getElem?_eq_getElem cj⟩
      obtain ⟨hmm, b, off, rfl, T⟩ := H3.out j _ hdj
      have MM : Hid (m.size ≤ maxLen) := hmm
      have DJ : Hid (zs[j]? = some ⟨m, rc, rm, rh, lc, lm, lh, x, y, z⟩) := hdj
      obtain ⟨k, hk, kj⟩ := fnd_of hdj (eqS_refl m)
      have FK : Hid (fnd m zs = some k) := hk
      have C : Hid (∀ w, RdC w (.slice (some ⟨b, off, none⟩) zs.length cap) zs → Calls Tryd.prog 46 #[.agg #[.string pn, .int .i64 pr, .int .i64 po, .slice (some ⟨b, off, none⟩) zs.length cap], .string m] w fun e w' => e = .returned (.tuple #[.int .i64 k, .bool true]) ∧ Below w.heap.size w w') := fun w h => by
        have := find_is pn pr po m w h
        rw [FK.out] at this
        exact this
      clear hdj hk hmm
      obtain ⟨c0, c1, c2, c3, c4, c5, c6, c7, c8, c9⟩ := T.later HB
      simp only at c0 c1 c2 c3 c4 c5 c6 c7 c8 c9
      have j0 : (0 : Int) ≤ (j : Int) := by omega
      have j1 : (j : Int) < (zs.length : Int) := by omega
      have k0 : (0 : Int) ≤ (k : Int) := by omega
      clear T
      go_wp2_with (fail)
      refine (C.out _ ((HZ.out.later HB).alloc _)).mono ?_
      rintro e w2 ⟨rfl, hw2⟩
      have HB2 : Below w.heap.size w w2 := Below.trans (show Below w.heap.size w _ by go_grown) (hw2.mono (by simp; omega))
      have r_p := Cs.later hw2 (q_p.alloc (.cells #[.string m, .int .i64 rc, .int .i64 rm, .int .i64 rh, .int .i64 lc, .int .i64 lm, .int .i64 lh, .bool x, .bool y, .bool z] 26))
      have r_c : Cs w2 wr.heap.size [.string m, .int .i64 rc, .int .i64 rm, .int .i64 rh, .int .i64 lc, .int .i64 lm, .int .i64 lh, .bool x, .bool y, .bool z] := Cs.later hw2 (by repeat (first | assumption | (refine Cs.new _ _ _ _ ?_; simp; done) | refine Cs.alloc ?_ _ | refine Cs.drew ?_ | (refine Cs.beside ?_ _ _ (by omega))))
      clear p0 p1 p2 p3 pz q_p HB hs hw2 c0 c1 c2 c3 c4 c5 c6 c7 c8 c9 C
      by_cases kk : k = j
      · obtain rfl : k = j := kk
        have kn : ((k : Int) != (k : Int)) = false := by simp
        have c0 : w2.cell? ⟨wr.heap.size, 0, none⟩ = some (.string m) := r_c.1 0 _ rfl
        have c1 : w2.cell? ⟨wr.heap.size, 1, none⟩ = some (.int .i64 rc) := r_c.1 1 _ rfl
        have c2 : w2.cell? ⟨wr.heap.size, 2, none⟩ = some (.int .i64 rm) := r_c.1 2 _ rfl
        have c3 : w2.cell? ⟨wr.heap.size, 3, none⟩ = some (.int .i64 rh) := r_c.1 3 _ rfl
        have c4 : w2.cell? ⟨wr.heap.size, 4, none⟩ = some (.int .i64 lc) := r_c.1 4 _ rfl
        have c5 : w2.cell? ⟨wr.heap.size, 5, none⟩ = some (.int .i64 lm) := r_c.1 5 _ rfl
        have c6 : w2.cell? ⟨wr.heap.size, 6, none⟩ = some (.int .i64 lh) := r_c.1 6 _ rfl
        have c7 : w2.cell? ⟨wr.heap.size, 7, none⟩ = some (.bool x) := r_c.1 7 _ rfl
        have c8 : w2.cell? ⟨wr.heap.size, 8, none⟩ = some (.bool y) := r_c.1 8 _ rfl
        have c9 : w2.cell? ⟨wr.heap.size, 9, none⟩ = some (.bool z) := r_c.1 9 _ rfl
        go_wp2_with (fail)
        refine (container_is m rc rm rh lc lm lh x y z MM.out _ (HL.out.later HB2)).mono ?_
        rintro e w3 ⟨rfl, hw3⟩
        have HB3 : Below w.heap.size w w3 := HB2.trans (hw3.mono HB2.size)
        have q_p := Cs.later hw3 r_p
        obtain ⟨g, hg⟩ : ∃ g, g = ctB m rc rm rh lc lm lh := ⟨_, rfl⟩
        rw [← hg]
        have GG : Hid (ctB m rc rm rh lc lm lh = g) := hg.symm
        clear hg c0 c1 c2 c3 c4 c5 c6 c7 c8 c9 r_p r_c HB2 hw3
        cases g with
        | false =>
          have X : Hid (R = false) := by
            unfold Hid
            rw [HR.out, pod_cs (csB_no DJ.out (fun h => by have := h.1; unfold Ct.ok at this; rw [GG.out] at this; exact Bool.noConfusion this))]
          go_wp2
          go_ret
          exact ⟨by rw [X.out]; rfl, HB3⟩
        | true =>
          have HJ' : Hid (∀ i, i < k + 1 → ∀ c : Ct, zs[i]? = some c → c.ok = true ∧ fnd c.n zs = some i) := fun i hi c hc => by
            by_cases e : i = k
            · subst e
              rw [DJ.out] at hc
              injection hc with hc
              subst hc
              exact ⟨GG.out, FK.out⟩
            · exact HJ.out i (by omega) c hc
          clear HJ DJ GG FK MM
          go_wp2
          go_roundw
          case rel => exact ⟨k + 1, by go_num, by omega, HJ', q_p, HB3⟩
          case measure => simp [intOf]; omega
      · have kn : ((k : Int) != (j : Int)) = true := by simp; omega
        have X : Hid (R = false) := by
          unfold Hid
          rw [HR.out, pod_cs (csB_no DJ.out (fun h => by have e := h.2; rw [FK.out] at e; injection e with e; exact kk e))]
        clear kk
        go_wp2
        go_ret
        exact ⟨by rw [X.out]; rfl, HB2⟩
    · have CC : Hid (R = sumsB zs) := by
        unfold Hid
        rw [HR.out, pod_sums GH.out (by omega) (csB_iff.2 (fun i c hc => HJ.out i (by have := (List.getElem?_eq_some_iff.1 hc).1; omega) c hc))]
      clear HR HJ
      go_wp2_with (fail)
      refine (sum_rq pn pr po _ (HL.out.later HB) (HZ.out.later HB) (by omega)).mono ?_
      rintro e w2 ⟨rfl, hw2⟩
      obtain ⟨u1, u2, u3, g, hu⟩ := vo_ex (sumL (0, 0, 0) (zs.map Ct.rq))
      rw [hu]
      have E1 : Hid ((sumL (0, 0, 0) (zs.map Ct.rq)).isSome = g) := vo_bool hu
      have HB2 : Below w.heap.size w w2 := HB.trans (hw2.mono HB.size)
      have r_p := Cs.later hw2 q_p
      clear hu p0 p1 p2 p3 pz q_p HB hs hw2
      have hs := HB2.size
      have p0 : w2.cell? ⟨w.heap.size, 0, none⟩ = some (.string pn) := r_p.1 0 _ rfl
      have p1 : w2.cell? ⟨w.heap.size, 1, none⟩ = some (.int .i64 pr) := r_p.1 1 _ rfl
      have p2 : w2.cell? ⟨w.heap.size, 2, none⟩ = some (.int .i64 po) := r_p.1 2 _ rfl
      have p3 : w2.cell? ⟨w.heap.size, 3, none⟩ = some (.slice a zs.length cap) := r_p.1 3 _ rfl
      have pz := r_p.2.2
      go_wp2_with (fail)
      refine (sum_li pn pr po _ ((HL.out.later HB2).alloc _) ((HZ.out.later HB2).alloc _) (by omega)).mono ?_
      rintro e w3 ⟨rfl, hw3⟩
      obtain ⟨v1, v2, v3, g', hv⟩ := vo_ex (sumL (0, 0, 0) (zs.map Ct.li))
      rw [hv]
      have E2 : Hid ((sumL (0, 0, 0) (zs.map Ct.li)).isSome = g') := vo_bool hv
      have HB3 : Below w.heap.size w w3 := Below.trans (show Below w.heap.size w _ by go_grown) (hw3.mono (by simp; omega))
      have X : Hid (R = (g && g')) := by unfold Hid; rw [CC.out, sumsB, E1.out, E2.out]
      clear hv hw3 p0 p1 p2 p3 pz r_p HB2 hs CC E1 E2
      have hs := HB3.size
      cases g with
      | false =>
        go_wp2
        go_ret
        exact ⟨by rw [X.out]; rfl, by go_grown⟩
      | true =>
        go_wp2
        go_ret
        exact ⟨by rw [X.out]; rfl, by go_grown⟩

end Go.Proofs.YtaeejemknmjglaaDoor.Sp
