/-
  SpecAgain of this program: true for every pod and every list of changes. Conditions: the tables of the program lie as its text lays them; the containers and the changes read as lists; the names' lengths fit the machine.
-/
import Derived.Test.YtfgbppngnafpoaaDoorQA
import Derived.Test.YtfgbppngnafpoaaDoorPX
namespace Go.Proofs.YtfgbppngnafpoaaDoor.Sp
open Go.RowKit

theorem chInfo : (Tryd.prog.info? 56).map (fun i => (i.zero, i.size, i.bytes)) = some (some (.agg #[.string ⟨#[]⟩, .int .i64 0, .int .i64 0, .int .i64 0, .int .i64 0, .int .i64 0, .int .i64 0]), 7, 64) := by kernel_rfl
theorem news_ch {W : World} {T : TypeId} {p : Addr} {x : Ch} (e : p = ⟨W.heap.size, 0, none⟩) : ∀ (j : Nat) (u : Value), (chl x)[j]? = some u → (W.alloc (.cells #[.string x.n, .int .i64 x.rc, .int .i64 x.rm, .int .i64 x.rh, .int .i64 x.lc, .int .i64 x.lm, .int .i64 x.lh] T)).cell? (p.add j) = some u := by
  subst e
  intro j u hj
  rw [Addr.add_lit, Nat.zero_add]
  exact (Cs.new W W.heap.size (chl x) T rfl).1 j u hj
theorem chl_one {x : Ch} : ∀ u ∈ chl x, u.oneCell' = true := by
  intro u hu; simp [chl] at hu; rcases hu with rfl | rfl | rfl | rfl | rfl | rfl | rfl <;> rfl
/-- A row of one's own reads as changes. -/
theorem Owns.changes {W : World} {base : Nat} {T : TypeId} {o : Value} {zs : List Ct} (h : Owns W base T 7 o ((zs.map own1).map chl)) (hm : ∀ c ∈ zs, c.n.size ≤ maxLen := by assumption) : RdX W o (zs.map own1) := by
  obtain ⟨a, cap, e, h1, h2, -, h3⟩ := h.read
  rw [List.length_map] at e h1
  refine ⟨a, cap, e, h1, h2, fun j d hj => ?_⟩
  obtain ⟨b, rfl, hc⟩ := h3 j (chl d) (by rw [List.getElem?_map, hj]; rfl)
  have hs : d.n.size ≤ maxLen := by
    obtain ⟨c, hcm, rfl⟩ := List.mem_map.1 (List.mem_of_getElem? hj)
    exact hm c hcm
  exact ⟨hs, b, 0, rfl, hc 0 _ rfl, hc 1 _ rfl, hc 2 _ rfl, hc 3 _ rfl, hc 4 _ rfl, hc 5 _ rfl, hc 6 _ rfl⟩
theorem same_self {pn : ByteArray} {pr po : Int} {zs : List Ct} {v u : Value} {qn : ByteArray} {qr qo : Int} (e1 : pn = qn) (e2 : pr = qr) (e3 : po = qo) (w : World) (h : RdC w v zs) (k : RdC w u zs) : Calls Tryd.prog 23 #[.agg #[.string pn, .int .i64 pr, .int .i64 po, v], .agg #[.string qn, .int .i64 qr, .int .i64 qo, u]] w fun e w' => e = .returned (.bool true) ∧ Below w.heap.size w w' := by
  have := same_is pn pr po qn qr qo w h k
  rwa [sameB_iff.2 ⟨e1, e2, e3, rfl⟩] at this

set_option maxHeartbeats 8000000 in
set_option maxRecDepth 100000 in
theorem specAgain_any {v u : Value} {zs : List Ct} {l : List Ch} (pn : ByteArray) (pr po : Int) (hm : pn.size ≤ maxLen) (w : World) (hL : LaidS w) (h : RdC w v zs) (k : RdX w u l) :
    Calls Tryd.prog 7 #[.agg #[.string pn, .int .i64 pr, .int .i64 po, v], u] w fun e w' => e = .returned (.bool true) ∧ Below w.heap.size w w' := by
  have HL : Hid (LaidS w) := hL
  have HZ : Hid (RdC w v zs) := h
  have HX : Hid (RdX w u l) := k
  have HM : Hid (pn.size ≤ maxLen) := hm
  clear hL hm
  obtain ⟨sa, cap, rfl, h1, h2, h3⟩ := h
  have H3 : Hid (∀ (j : Nat) (c : Ct), zs[j]? = some c → c.n.size ≤ maxLen ∧ ∃ b off : Nat, sa = some ⟨b, off, none⟩ ∧ Ten w b (off + j * 10) c) := h3
  have hmz : ∀ c ∈ zs, c.n.size ≤ maxLen := fun c hc => by
    obtain ⟨i, hi⟩ := List.mem_iff_getElem?.1 hc
    exact (h3 i c hi).1
  obtain ⟨sx, capx, rfl, k1, k2, -⟩ := k
  obtain ⟨X, hX⟩ := run_ex zs own1 chl
  have HXX : Hid (Run zs own1 chl X) := hX
  obtain ⟨i0, hi, hz0, hz1, hz2⟩ := info_parts chInfo
  clear h3 hX
  have zl : zs.length ≤ maxLen := by omega
  have ll : l.length ≤ maxLen := by omega
  unfold maxLen at zl ll
  go_enter Tryd.func7, Tryd.ntmps7
  go_wp2_with (fail)
  refine (sfirst_is _ (HL.out.alloc _)).mono ?_
  rintro e w1 ⟨rfl, hw1⟩
  have HBw1 : Below w.heap.size w w1 := Below.trans (by go_grown) (hw1.mono (by first | omega | (simp; done) | (simp; omega)))
  have p_p : Cs w1 (w.heap.size) [.string pn, .int .i64 pr, .int .i64 po, .slice sa zs.length cap] := Cs.later hw1 (by repeat (first | assumption | (refine Cs.new _ _ _ _ ?_; simp; done) | refine Cs.alloc ?_ _ | refine Cs.drew ?_ | (refine Cs.beside ?_ _ _ (by omega))))
  have q_p := p_p
  have p0 : w1.cell? ⟨w.heap.size, 0, none⟩ = some (.string pn) := p_p.1 0 _ rfl
  have p1 : w1.cell? ⟨w.heap.size, 1, none⟩ = some (.int .i64 pr) := p_p.1 1 _ rfl
  have p2 : w1.cell? ⟨w.heap.size, 2, none⟩ = some (.int .i64 po) := p_p.1 2 _ rfl
  have p3 : w1.cell? ⟨w.heap.size, 3, none⟩ = some (.slice sa zs.length cap) := p_p.1 3 _ rfl
  have pz : w.heap.size < w1.heap.size := p_p.2.2
  clear p_p
  have hsw1 := hw1.size
  (try simp at hsw1)
  clear hw1
  go_wp2_with (fail)
  refine (great_is pn pr po _ (HZ.out.later HBw1)).mono ?_
  rintro e w2 ⟨gr, rfl, gr5, hw2⟩
  have HBw2 : Below w.heap.size w w2 := Below.trans (by go_grown) (hw2.mono (by first | omega | (simp; done) | (simp; omega)))
  have p_p : Cs w2 (w.heap.size) [.string pn, .int .i64 pr, .int .i64 po, .slice sa zs.length cap] := Cs.later hw2 (by repeat (first | assumption | (refine Cs.new _ _ _ _ ?_; simp; done) | refine Cs.alloc ?_ _ | refine Cs.drew ?_ | (refine Cs.beside ?_ _ _ (by omega))))
  clear q_p p0 p1 p2 p3 pz
  have q_p := p_p
  have p0 : w2.cell? ⟨w.heap.size, 0, none⟩ = some (.string pn) := p_p.1 0 _ rfl
  have p1 : w2.cell? ⟨w.heap.size, 1, none⟩ = some (.int .i64 pr) := p_p.1 1 _ rfl
  have p2 : w2.cell? ⟨w.heap.size, 2, none⟩ = some (.int .i64 po) := p_p.1 2 _ rfl
  have p3 : w2.cell? ⟨w.heap.size, 3, none⟩ = some (.slice sa zs.length cap) := p_p.1 3 _ rfl
  have pz : w.heap.size < w2.heap.size := p_p.2.2
  clear p_p
  have hsw2 := hw2.size
  (try simp at hsw2)
  clear hw2
  by_cases l1 : (2000 : Int) < gr
  · go_wp2
    go_ret
    exact ⟨rfl, HBw2⟩
  have z51 : zs.length ≤ 51 := by
    rcases Nat.lt_or_ge 51 zs.length with a | a
    · have := gr5 a; omega
    · exact a
  by_cases l2 : (30 : Int) < (l.length : Int)
  · go_wp2
    go_ret
    exact ⟨rfl, HBw2⟩
  clear HBw1 gr5
  go_wp2_with (fail)
  refine (resize_is pn pr po HM.out _ (HL.out.later HBw2) (HZ.out.later HBw2) (HX.out.later HBw2)).mono ?_
  rintro e w3 ⟨vq, rfl, rd, hw3⟩
  obtain ⟨⟨er, out⟩, hres⟩ : ∃ x, resV pn pr po zs l = x := ⟨_, rfl⟩
  rw [hres] at rd ⊢
  have RV : Hid (resV pn pr po zs l = (er, out)) := hres
  dsimp only at rd ⊢
  have HBw3 : Below w.heap.size w w3 := Below.trans (by go_grown) (hw3.mono (by first | omega | (simp; done) | (simp; omega)))
  have p_p : Cs w3 (w.heap.size) [.string pn, .int .i64 pr, .int .i64 po, .slice sa zs.length cap] := Cs.later hw3 (by repeat (first | assumption | (refine Cs.new _ _ _ _ ?_; simp; done) | refine Cs.alloc ?_ _ | refine Cs.drew ?_ | (refine Cs.beside ?_ _ _ (by omega))))
  clear q_p p0 p1 p2 p3 pz
  have q_p := p_p
  have p0 : w3.cell? ⟨w.heap.size, 0, none⟩ = some (.string pn) := p_p.1 0 _ rfl
  have p1 : w3.cell? ⟨w.heap.size, 1, none⟩ = some (.int .i64 pr) := p_p.1 1 _ rfl
  have p2 : w3.cell? ⟨w.heap.size, 2, none⟩ = some (.int .i64 po) := p_p.1 2 _ rfl
  have p3 : w3.cell? ⟨w.heap.size, 3, none⟩ = some (.slice sa zs.length cap) := p_p.1 3 _ rfl
  have pz : w.heap.size < w3.heap.size := p_p.2.2
  clear p_p
  have hsw3 := hw3.size
  (try simp at hsw3)
  clear hw3
  clear hres HBw2 l1 l2
  by_cases e0 : er = 0
  case neg =>
    obtain ⟨sq, capq, rfl, -⟩ := id rd
    have en : (er == 0) = false := by simp [e0]
    unfold resP
    rw [if_neg e0, if_neg e0, if_neg e0]
    clear rd RV e0
    go_wp2_with (fail)
    refine (pod_is pn pr po HM.out _ (HL.out.later (show Below w.heap.size w _ by go_grown)) (HZ.out.later (show Below w.heap.size w _ by go_grown))).mono ?_
    rintro e wA ⟨rfl, hwA⟩
    have HBA : Below w.heap.size w wA := Below.trans (show Below w.heap.size w _ by go_grown) (hwA.mono (by first | omega | (simp; omega)))
    have q_A : Cs wA w.heap.size [.string pn, .int .i64 pr, .int .i64 po, .slice sa zs.length cap] := Cs.later hwA (by repeat (first | assumption | (refine Cs.new _ _ _ _ ?_; simp; done) | refine Cs.alloc ?_ _ | refine Cs.drew ?_ | (refine Cs.beside ?_ _ _ (by omega))))
    obtain ⟨gp, hgp⟩ : ∃ g, podB pn pr po zs = g := ⟨_, rfl⟩
    rw [hgp]
    have GP : Hid (podB pn pr po zs = gp) := hgp
    clear hgp hwA q_p p0 p1 p2 p3 pz hsw1 hsw2 hsw3
    cases gp with
    | false =>
      go_wp2
      go_ret
      exact ⟨rfl, HBA⟩
    | true =>
      have p3 : wA.cell? ⟨w.heap.size, 3, none⟩ = some (.slice sa zs.length cap) := q_A.1 3 _ rfl
      have HX0 : Hid (Run zs own1 chl X) := HXX.out
      go_wp2
      clear p3
      go_loopw [9, 59] (fun s9 f wr => ∃ (j : Nat) (o : Value), o = s9 ∧ f = .int .i64 j ∧ j ≤ zs.length ∧ Owns wr wA.heap.size 56 7 o (X j) ∧ Below wA.heap.size wA wr) (fun _ f _ => zs.length - (intOf f).toNat)
      case atStart => exact ⟨0, _, rfl, rfl, by omega, by rw [HX0.out.zero]; exact Owns.nil _ _ _ _, Below.refl _ _⟩
      case round =>
        obtain ⟨j, o, rfl, rfl, jl, own, HB⟩ := hrel
        have hs := HB.size
        have HBw : Below w.heap.size w wr := HBA.trans (HB.mono HBA.size)
        have ol : Hid ((X j).length = j) := HX0.out.len j jl
        by_cases cj : j < zs.length
        · obtain ⟨⟨m, rc, rm, rh, lc, lm, lh, x, y, z⟩, hdj⟩ : ∃ d, zs[j]? = some d := ⟨zs[j], List.getElem?_eq_getElem cj⟩
          obtain ⟨-, b, off, rfl, T⟩ := H3.out j _ hdj
          have HS : Hid (X (j + 1) = X j ++ [chl ⟨m, rc, rm, rh, lc, lm, lh⟩]) := HX0.out.next j _ hdj
          obtain ⟨c0, c1, c2, c3, c4, c5, c6, c7, c8, c9⟩ := T.later HBw
          simp only at c0 c1 c2 c3 c4 c5 c6 c7 c8 c9
          have j0 : (0 : Int) ≤ (j : Int) := by omega
          have j1 : (j : Int) < (zs.length : Int) := by omega
          clear T hdj
          have own3 := (own.alloc (.cells #[.string m, .int .i64 rc, .int .i64 rm, .int .i64 rh, .int .i64 lc, .int .i64 lm, .int .i64 lh, .bool x, .bool y, .bool z] 26)).alloc (.cells #[.string m, .int .i64 rc, .int .i64 rm, .int .i64 rh, .int .i64 lc, .int .i64 lm, .int .i64 lh] 56)
          have HB2 : Below wA.heap.size wA ((wr.alloc (.cells #[.string m, .int .i64 rc, .int .i64 rm, .int .i64 rh, .int .i64 lc, .int .i64 lm, .int .i64 lh, .bool x, .bool y, .bool z] 26)).alloc (.cells #[.string m, .int .i64 rc, .int .i64 rm, .int .i64 rh, .int .i64 lc, .int .i64 lm, .int .i64 lh] 56)) := (HB.alloc hs _).alloc (by simp; omega) _
          have OB : Hid (∀ k, o.ownBlock = some k → wA.heap.size ≤ k) := fun k hk => own.ge k hk
          clear own
          go_wp2_with (first
            | (at_builtin; refine wpList_append_own _ rfl _ _ 48 rfl wA.heap.size 56 i0 (.agg #[.string ⟨#[]⟩, .int .i64 0, .int .i64 0, .int .i64 0, .int .i64 0, .int .i64 0, .int .i64 0]) 7 64 Tryd.underlying48 hi hz0 hz1 hz2 rfl (by decide) _ _ _ rfl own3.2 ⟨wr.heap.size + 1, 0, none⟩ 1 1 (chl ⟨m, rc, rm, rh, lc, lm, lh⟩) rfl rfl (news_ch (by simp)) chl_one ?c3 ?c4 ?c5 ?_)
            | fail)
          case c3 => rw [ol.out]; unfold maxLen; omega
          case c4 => rw [ol.out]; omega
          case c5 => simp; omega
          intro o' w4 hown' hgrow _
          have own4 := own3.more rfl hown'
          have HB4 : Below wA.heap.size wA w4 := HB2.grown hgrow (by simp; omega) (fun k hk => OB.out k hk)
          have own5 : Owns w4 wA.heap.size 56 7 o' (X (j + 1)) := by rw [HS.out]; exact own4
          clear own4 own3 hown' hgrow HS HB2 OB c0 c1 c2 c3 c4 c5 c6 c7 c8 c9
          go_wp2
          go_roundw
          case rel => exact ⟨j + 1, _, rfl, by go_num, by omega, own5, HB4⟩
          case measure => simp [intOf]; omega
        · obtain rfl : j = zs.length := by omega
          rw [HX0.out.all] at own
          have rx := own.changes
          obtain ⟨lo, hlo⟩ : ∃ lo, lo = zs.map own1 := ⟨_, rfl⟩
          rw [← hlo] at rx
          have RVO : Hid (resV pn pr po zs lo = (0, zs)) := by unfold Hid; rw [hlo]; exact resV_own GP.out
          obtain ⟨so, capo, rfl, -⟩ := id rx
          have RX : Hid (RdX wr (.slice so lo.length capo) lo) := rx
          have q_B := Cs.later HB q_A
          have p0 : wr.cell? ⟨w.heap.size, 0, none⟩ = some (.string pn) := q_B.1 0 _ rfl
          have p1 : wr.cell? ⟨w.heap.size, 1, none⟩ = some (.int .i64 pr) := q_B.1 1 _ rfl
          have p2 : wr.cell? ⟨w.heap.size, 2, none⟩ = some (.int .i64 po) := q_B.1 2 _ rfl
          have p3 : wr.cell? ⟨w.heap.size, 3, none⟩ = some (.slice sa zs.length cap) := q_B.1 3 _ rfl
          clear rx own hlo cj jl ol
          go_wp2_with (fail)
          refine (resize_is pn pr po HM.out _ (HL.out.later HBw) (HZ.out.later HBw) RX.out).mono ?_
          rintro e wC ⟨vt, rfl, rd, hwC⟩
          rw [RVO.out] at rd ⊢
          dsimp only at rd ⊢
          obtain ⟨st, capt, rfl, -⟩ := id rd
          have HBC : Below w.heap.size w wC := HBw.trans (hwC.mono HBw.size)
          have q_C := Cs.later hwC q_B
          have sC := HBC.size
          have RT : Hid (RdC (wC.alloc (.cells #[.string pn, .int .i64 pr, .int .i64 po, .slice st zs.length capt] 33)) (.slice st zs.length capt) zs) := rd.alloc _
          rw [show resP 0 pn pr po (.slice st zs.length capt) = .tuple #[.agg #[.string pn, .int .i64 pr, .int .i64 po, .slice st zs.length capt], .int .i64 0] from rfl]
          have p0 : wC.cell? ⟨w.heap.size, 0, none⟩ = some (.string pn) := q_C.1 0 _ rfl
          have p1 : wC.cell? ⟨w.heap.size, 1, none⟩ = some (.int .i64 pr) := q_C.1 1 _ rfl
          have p2 : wC.cell? ⟨w.heap.size, 2, none⟩ = some (.int .i64 po) := q_C.1 2 _ rfl
          have p3 : wC.cell? ⟨w.heap.size, 3, none⟩ = some (.slice sa zs.length cap) := q_C.1 3 _ rfl
          have pzC := q_C.2.2
          clear rd RX RVO hwC q_B
          go_wp2_with (fail)
          refine (same_self rfl rfl rfl _ ((HZ.out.later HBC).alloc _) RT.out).mono ?_
          rintro e wD ⟨rfl, hwD⟩
          have HBD : Below w.heap.size w wD := Below.trans (show Below w.heap.size w _ by go_grown) (hwD.mono (by simp; omega))
          go_wp2
          go_ret
          exact ⟨rfl, HBD⟩
  subst e0
  have KE := resV_keeps RV.out
  have KP := resV_done RV.out
  obtain ⟨sq, capq, rfl, -⟩ := id rd
  rw [KE.1] at rd ⊢
  have HO : Hid (RdC w3 (.slice sq zs.length capq) out) := rd
  have OL : Hid (out.length = zs.length) := KE.1
  have AG : Hid (resV pn pr po out l = (0, out)) := resV_again RV.out
  have RS : Hid (rstL out out = []) := rst_self (pod_parts KP.2.2.2.1).2.2.1
  have X3 : Hid (RdX w3 (.slice sx l.length capx) l) := HX.out.later HBw3
  have L3 : Hid (LaidS w3) := HL.out.later HBw3
  rw [show resP 0 pn pr po (.slice sq zs.length capq) = .tuple #[.agg #[.string pn, .int .i64 pr, .int .i64 po, .slice sq zs.length capq], .int .i64 0] from rfl]
  clear KE KP rd RV
  go_wp2_with (fail)
  refine (resize_is pn pr po HM.out _ (L3.out.alloc _) (HO.out.alloc _) (X3.out.alloc _)).mono ?_
  rintro e w4 ⟨vr, rfl, rd, hw4⟩
  rw [AG.out] at rd ⊢
  dsimp only at rd ⊢
  obtain ⟨sr, capr, rfl, -⟩ := id rd
  rw [OL.out] at rd ⊢
  have HO4 : RdC w4 (.slice sq zs.length capq) out := (HO.out.alloc _).later hw4
  have HBw4 : Below w.heap.size w w4 := Below.trans (by go_grown) (hw4.mono (by first | omega | (simp; done) | (simp; omega)))
  have p_p : Cs w4 (w.heap.size) [.string pn, .int .i64 pr, .int .i64 po, .slice sa zs.length cap] := Cs.later hw4 (by repeat (first | assumption | (refine Cs.new _ _ _ _ ?_; simp; done) | refine Cs.alloc ?_ _ | refine Cs.drew ?_ | (refine Cs.beside ?_ _ _ (by omega))))
  have p_q : Cs w4 (w3.heap.size) [.string pn, .int .i64 pr, .int .i64 po, .slice sq zs.length capq] := Cs.later hw4 (by repeat (first | assumption | (refine Cs.new _ _ _ _ ?_; simp; done) | refine Cs.alloc ?_ _ | refine Cs.drew ?_ | (refine Cs.beside ?_ _ _ (by omega))))
  clear q_p p0 p1 p2 p3 pz
  have q_p := p_p
  have p0 : w4.cell? ⟨w.heap.size, 0, none⟩ = some (.string pn) := p_p.1 0 _ rfl
  have p1 : w4.cell? ⟨w.heap.size, 1, none⟩ = some (.int .i64 pr) := p_p.1 1 _ rfl
  have p2 : w4.cell? ⟨w.heap.size, 2, none⟩ = some (.int .i64 po) := p_p.1 2 _ rfl
  have p3 : w4.cell? ⟨w.heap.size, 3, none⟩ = some (.slice sa zs.length cap) := p_p.1 3 _ rfl
  have pz : w.heap.size < w4.heap.size := p_p.2.2
  clear p_p
  have q_q := p_q
  have q0 : w4.cell? ⟨w3.heap.size, 0, none⟩ = some (.string pn) := p_q.1 0 _ rfl
  have q1 : w4.cell? ⟨w3.heap.size, 1, none⟩ = some (.int .i64 pr) := p_q.1 1 _ rfl
  have q2 : w4.cell? ⟨w3.heap.size, 2, none⟩ = some (.int .i64 po) := p_q.1 2 _ rfl
  have q3 : w4.cell? ⟨w3.heap.size, 3, none⟩ = some (.slice sq zs.length capq) := p_q.1 3 _ rfl
  have qz : w3.heap.size < w4.heap.size := p_q.2.2
  clear p_q
  have hsw4 := hw4.size
  (try simp at hsw4)
  clear hw4
  have R4 : Hid (RdC (w4.alloc (.cells #[.string pn, .int .i64 pr, .int .i64 po, .slice sr zs.length capr] 33)) (.slice sq zs.length capq) out ∧ RdC (w4.alloc (.cells #[.string pn, .int .i64 pr, .int .i64 po, .slice sr zs.length capr] 33)) (.slice sr zs.length capr) out) := ⟨HO4.alloc _, rd.alloc _⟩
  rw [show resP 0 pn pr po (.slice sr zs.length capr) = .tuple #[.agg #[.string pn, .int .i64 pr, .int .i64 po, .slice sr zs.length capr], .int .i64 0] from rfl]
  clear HO4 rd AG HBw3
  go_wp2_with (fail)
  refine (same_self rfl rfl rfl _ R4.out.1 R4.out.2).mono ?_
  rintro e w5 ⟨rfl, hw5⟩
  have R5 : Hid (RdC w5 (.slice sq zs.length capq) out ∧ RdC w5 (.slice sr zs.length capr) out) := ⟨R4.out.1.later hw5, R4.out.2.later hw5⟩
  have HBw5 : Below w.heap.size w w5 := Below.trans (by go_grown) (hw5.mono (by first | omega | (simp; done) | (simp; omega)))
  have p_p : Cs w5 (w.heap.size) [.string pn, .int .i64 pr, .int .i64 po, .slice sa zs.length cap] := Cs.later hw5 (by repeat (first | assumption | (refine Cs.new _ _ _ _ ?_; simp; done) | refine Cs.alloc ?_ _ | refine Cs.drew ?_ | (refine Cs.beside ?_ _ _ (by omega))))
  have p_q : Cs w5 (w3.heap.size) [.string pn, .int .i64 pr, .int .i64 po, .slice sq zs.length capq] := Cs.later hw5 (by repeat (first | assumption | (refine Cs.new _ _ _ _ ?_; simp; done) | refine Cs.alloc ?_ _ | refine Cs.drew ?_ | (refine Cs.beside ?_ _ _ (by omega))))
  have p_r : Cs w5 (w4.heap.size) [.string pn, .int .i64 pr, .int .i64 po, .slice sr zs.length capr] := Cs.later hw5 (by repeat (first | assumption | (refine Cs.new _ _ _ _ ?_; simp; done) | refine Cs.alloc ?_ _ | refine Cs.drew ?_ | (refine Cs.beside ?_ _ _ (by omega))))
  clear q_p p0 p1 p2 p3 pz
  clear q_q q0 q1 q2 q3 qz
  have q_p := p_p
  have p0 : w5.cell? ⟨w.heap.size, 0, none⟩ = some (.string pn) := p_p.1 0 _ rfl
  have p1 : w5.cell? ⟨w.heap.size, 1, none⟩ = some (.int .i64 pr) := p_p.1 1 _ rfl
  have p2 : w5.cell? ⟨w.heap.size, 2, none⟩ = some (.int .i64 po) := p_p.1 2 _ rfl
  have p3 : w5.cell? ⟨w.heap.size, 3, none⟩ = some (.slice sa zs.length cap) := p_p.1 3 _ rfl
  have pz : w.heap.size < w5.heap.size := p_p.2.2
  clear p_p
  have q_q := p_q
  have q0 : w5.cell? ⟨w3.heap.size, 0, none⟩ = some (.string pn) := p_q.1 0 _ rfl
  have q1 : w5.cell? ⟨w3.heap.size, 1, none⟩ = some (.int .i64 pr) := p_q.1 1 _ rfl
  have q2 : w5.cell? ⟨w3.heap.size, 2, none⟩ = some (.int .i64 po) := p_q.1 2 _ rfl
  have q3 : w5.cell? ⟨w3.heap.size, 3, none⟩ = some (.slice sq zs.length capq) := p_q.1 3 _ rfl
  have qz : w3.heap.size < w5.heap.size := p_q.2.2
  clear p_q
  have q_r := p_r
  have r0 : w5.cell? ⟨w4.heap.size, 0, none⟩ = some (.string pn) := p_r.1 0 _ rfl
  have r1 : w5.cell? ⟨w4.heap.size, 1, none⟩ = some (.int .i64 pr) := p_r.1 1 _ rfl
  have r2 : w5.cell? ⟨w4.heap.size, 2, none⟩ = some (.int .i64 po) := p_r.1 2 _ rfl
  have r3 : w5.cell? ⟨w4.heap.size, 3, none⟩ = some (.slice sr zs.length capr) := p_r.1 3 _ rfl
  have rz : w4.heap.size < w5.heap.size := p_r.2.2
  clear p_r
  have hsw5 := hw5.size
  (try simp at hsw5)
  clear hw5
  clear R4
  go_wp2_with (fail)
  refine (restarts_is pn pr po pn pr po _ R5.out.1 R5.out.2 (by rw [OL.out]; omega)).mono ?_
  rintro e w6 ⟨vs, rfl, rs, hw6⟩
  rw [RS.out] at rs
  obtain ⟨ss, caps, rfl, -⟩ := rs
  rw [show ([] : List ByteArray).length = 0 from rfl]
  have HBw6 : Below w.heap.size w w6 := Below.trans (by go_grown) (hw6.mono (by first | omega | (simp; done) | (simp; omega)))
  have p_p : Cs w6 (w.heap.size) [.string pn, .int .i64 pr, .int .i64 po, .slice sa zs.length cap] := Cs.later hw6 (by repeat (first | assumption | (refine Cs.new _ _ _ _ ?_; simp; done) | refine Cs.alloc ?_ _ | refine Cs.drew ?_ | (refine Cs.beside ?_ _ _ (by omega))))
  clear q_p p0 p1 p2 p3 pz
  have q_p := p_p
  have p0 : w6.cell? ⟨w.heap.size, 0, none⟩ = some (.string pn) := p_p.1 0 _ rfl
  have p1 : w6.cell? ⟨w.heap.size, 1, none⟩ = some (.int .i64 pr) := p_p.1 1 _ rfl
  have p2 : w6.cell? ⟨w.heap.size, 2, none⟩ = some (.int .i64 po) := p_p.1 2 _ rfl
  have p3 : w6.cell? ⟨w.heap.size, 3, none⟩ = some (.slice sa zs.length cap) := p_p.1 3 _ rfl
  have pz : w.heap.size < w6.heap.size := p_p.2.2
  clear p_p
  have hsw6 := hw6.size
  (try simp at hsw6)
  clear hw6
  clear q_q q0 q1 q2 q3 qz q_r r0 r1 r2 r3 rz HBw4 HBw5
  go_wp2_with (fail)
  refine (pod_is pn pr po HM.out _ (HL.out.later (show Below w.heap.size w _ by go_grown)) (HZ.out.later (show Below w.heap.size w _ by go_grown))).mono ?_
  rintro e wA ⟨rfl, hwA⟩
  have HBA : Below w.heap.size w wA := Below.trans (show Below w.heap.size w _ by go_grown) (hwA.mono (by first | omega | (simp; omega)))
  have q_A : Cs wA w.heap.size [.string pn, .int .i64 pr, .int .i64 po, .slice sa zs.length cap] := Cs.later hwA (by repeat (first | assumption | (refine Cs.new _ _ _ _ ?_; simp; done) | refine Cs.alloc ?_ _ | refine Cs.drew ?_ | (refine Cs.beside ?_ _ _ (by omega))))
  obtain ⟨gp, hgp⟩ : ∃ g, podB pn pr po zs = g := ⟨_, rfl⟩
  rw [hgp]
  have GP : Hid (podB pn pr po zs = gp) := hgp
  clear hgp hwA q_p p0 p1 p2 p3 pz hsw1 hsw2 hsw3 hsw4 hsw5 hsw6
  cases gp with
  | false =>
    go_wp2
    go_ret
    exact ⟨rfl, HBA⟩
  | true =>
    have p3 : wA.cell? ⟨w.heap.size, 3, none⟩ = some (.slice sa zs.length cap) := q_A.1 3 _ rfl
    have HX0 : Hid (Run zs own1 chl X) := HXX.out
    go_wp2
    clear p3
    go_loopw [9, 59] (fun s9 f wr => ∃ (j : Nat) (o : Value), o = s9 ∧ f = .int .i64 j ∧ j ≤ zs.length ∧ Owns wr wA.heap.size 56 7 o (X j) ∧ Below wA.heap.size wA wr) (fun _ f _ => zs.length - (intOf f).toNat)
    case atStart => exact ⟨0, _, rfl, rfl, by omega, by rw [HX0.out.zero]; exact Owns.nil _ _ _ _, Below.refl _ _⟩
    case round =>
      obtain ⟨j, o, rfl, rfl, jl, own, HB⟩ := hrel
      have hs := HB.size
      have HBw : Below w.heap.size w wr := HBA.trans (HB.mono HBA.size)
      have ol : Hid ((X j).length = j) := HX0.out.len j jl
      by_cases cj : j < zs.length
      · obtain ⟨⟨m, rc, rm, rh, lc, lm, lh, x, y, z⟩, hdj⟩ : ∃ d, zs[j]? = some d := ⟨zs[j], List.getElem?_eq_getElem cj⟩
        obtain ⟨-, b, off, rfl, T⟩ := H3.out j _ hdj
        have HS : Hid (X (j + 1) = X j ++ [chl ⟨m, rc, rm, rh, lc, lm, lh⟩]) := HX0.out.next j _ hdj
        obtain ⟨c0, c1, c2, c3, c4, c5, c6, c7, c8, c9⟩ := T.later HBw
        simp only at c0 c1 c2 c3 c4 c5 c6 c7 c8 c9
        have j0 : (0 : Int) ≤ (j : Int) := by omega
        have j1 : (j : Int) < (zs.length : Int) := by omega
        clear T hdj
        have own3 := (own.alloc (.cells #[.string m, .int .i64 rc, .int .i64 rm, .int .i64 rh, .int .i64 lc, .int .i64 lm, .int .i64 lh, .bool x, .bool y, .bool z] 26)).alloc (.cells #[.string m, .int .i64 rc, .int .i64 rm, .int .i64 rh, .int .i64 lc, .int .i64 lm, .int .i64 lh] 56)
        have HB2 : Below wA.heap.size wA ((wr.alloc (.cells #[.string m, .int .i64 rc, .int .i64 rm, .int .i64 rh, .int .i64 lc, .int .i64 lm, .int .i64 lh, .bool x, .bool y, .bool z] 26)).alloc (.cells #[.string m, .int .i64 rc, .int .i64 rm, .int .i64 rh, .int .i64 lc, .int .i64 lm, .int .i64 lh] 56)) := (HB.alloc hs _).alloc (by simp; omega) _
        have OB : Hid (∀ k, o.ownBlock = some k → wA.heap.size ≤ k) := fun k hk => own.ge k hk
        clear own
        go_wp2_with (first
          | (at_builtin; refine wpList_append_own _ rfl _ _ 48 rfl wA.heap.size 56 i0 (.agg #[.string ⟨#[]⟩, .int .i64 0, .int .i64 0, .int .i64 0, .int .i64 0, .int .i64 0, .int .i64 0]) 7 64 Tryd.underlying48 hi hz0 hz1 hz2 rfl (by decide) _ _ _ rfl own3.2 ⟨wr.heap.size + 1, 0, none⟩ 1 1 (chl ⟨m, rc, rm, rh, lc, lm, lh⟩) rfl rfl (news_ch (by simp)) chl_one ?c3 ?c4 ?c5 ?_)
          | fail)
        case c3 => rw [ol.out]; unfold maxLen; omega
        case c4 => rw [ol.out]; omega
        case c5 => simp; omega
        intro o' w4 hown' hgrow _
        have own4 := own3.more rfl hown'
        have HB4 : Below wA.heap.size wA w4 := HB2.grown hgrow (by simp; omega) (fun k hk => OB.out k hk)
        have own5 : Owns w4 wA.heap.size 56 7 o' (X (j + 1)) := by rw [HS.out]; exact own4
        clear own4 own3 hown' hgrow HS HB2 OB c0 c1 c2 c3 c4 c5 c6 c7 c8 c9
        go_wp2
        go_roundw
        case rel => exact ⟨j + 1, _, rfl, by go_num, by omega, own5, HB4⟩
        case measure => simp [intOf]; omega
      · obtain rfl : j = zs.length := by omega
        rw [HX0.out.all] at own
        have rx := own.changes
        obtain ⟨lo, hlo⟩ : ∃ lo, lo = zs.map own1 := ⟨_, rfl⟩
        rw [← hlo] at rx
        have RVO : Hid (resV pn pr po zs lo = (0, zs)) := by unfold Hid; rw [hlo]; exact resV_own GP.out
        obtain ⟨so, capo, rfl, -⟩ := id rx
        have RX : Hid (RdX wr (.slice so lo.length capo) lo) := rx
        have q_B := Cs.later HB q_A
        have p0 : wr.cell? ⟨w.heap.size, 0, none⟩ = some (.string pn) := q_B.1 0 _ rfl
        have p1 : wr.cell? ⟨w.heap.size, 1, none⟩ = some (.int .i64 pr) := q_B.1 1 _ rfl
        have p2 : wr.cell? ⟨w.heap.size, 2, none⟩ = some (.int .i64 po) := q_B.1 2 _ rfl
        have p3 : wr.cell? ⟨w.heap.size, 3, none⟩ = some (.slice sa zs.length cap) := q_B.1 3 _ rfl
        clear rx own hlo cj jl ol
        go_wp2_with (fail)
        refine (resize_is pn pr po HM.out _ (HL.out.later HBw) (HZ.out.later HBw) RX.out).mono ?_
        rintro e wC ⟨vt, rfl, rd, hwC⟩
        rw [RVO.out] at rd ⊢
        dsimp only at rd ⊢
        obtain ⟨st, capt, rfl, -⟩ := id rd
        have HBC : Below w.heap.size w wC := HBw.trans (hwC.mono HBw.size)
        have q_C := Cs.later hwC q_B
        have sC := HBC.size
        have RT : Hid (RdC (wC.alloc (.cells #[.string pn, .int .i64 pr, .int .i64 po, .slice st zs.length capt] 33)) (.slice st zs.length capt) zs) := rd.alloc _
        rw [show resP 0 pn pr po (.slice st zs.length capt) = .tuple #[.agg #[.string pn, .int .i64 pr, .int .i64 po, .slice st zs.length capt], .int .i64 0] from rfl]
        have p0 : wC.cell? ⟨w.heap.size, 0, none⟩ = some (.string pn) := q_C.1 0 _ rfl
        have p1 : wC.cell? ⟨w.heap.size, 1, none⟩ = some (.int .i64 pr) := q_C.1 1 _ rfl
        have p2 : wC.cell? ⟨w.heap.size, 2, none⟩ = some (.int .i64 po) := q_C.1 2 _ rfl
        have p3 : wC.cell? ⟨w.heap.size, 3, none⟩ = some (.slice sa zs.length cap) := q_C.1 3 _ rfl
        have pzC := q_C.2.2
        clear rd RX RVO hwC q_B
        go_wp2_with (fail)
        refine (same_self rfl rfl rfl _ ((HZ.out.later HBC).alloc _) RT.out).mono ?_
        rintro e wD ⟨rfl, hwD⟩
        have HBD : Below w.heap.size w wD := Below.trans (show Below w.heap.size w _ by go_grown) (hwD.mono (by simp; omega))
        go_wp2
        go_ret
        exact ⟨rfl, HBD⟩

end Go.Proofs.YtfgbppngnafpoaaDoor.Sp
