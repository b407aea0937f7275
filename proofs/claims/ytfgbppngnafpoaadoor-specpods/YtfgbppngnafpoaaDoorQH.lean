/-
  Who is restarted at this program: the document's own answer. Conditions: the containers read as lists, a hundred thousand at the most.
-/
import Derived.Test.YtfgbppngnafpoaaDoorQG
import Derived.Test.YtfgbppngnafpoaaDoorPQ
namespace Go.Proofs.YtfgbppngnafpoaaDoor.Sp
open Go.RowKit

theorem three {e x : Bool} : e = false ∨ (e = true ∧ x = false) ∨ (e = true ∧ x = true) := by
  cases e <;> cases x <;> simp

set_option maxHeartbeats 4000000 in
set_option maxRecDepth 100000 in
theorem refRestarts_is {v u : Value} {zs ys : List Ct} (pn : ByteArray) (pr po : Int) (qn : ByteArray) (qr qo : Int) (w : World) (h : RdC w v zs) (k : RdC w u ys) (hz : zs.length ≤ 100000) :
    Calls Tryd.prog 28 #[.agg #[.string pn, .int .i64 pr, .int .i64 po, v], .agg #[.string qn, .int .i64 qr, .int .i64 qo, u]] w fun e w' => ∃ v', e = .returned v' ∧ RdS w' v' (rstL zs ys) ∧ Below w.heap.size w w' := by
  obtain ⟨N, hN⟩ := rsts_ex zs ys
  have NN : Hid (Rsts zs ys N) := hN
  clear hN
  have HZ : Hid (RdC w v zs) := h
  have HY : Hid (RdC w u ys) := k
  obtain ⟨a, cap, rfl, h1, h2, h3⟩ := h
  have H3 : Hid (∀ (j : Nat) (c : Ct), zs[j]? = some c → c.n.size ≤ maxLen ∧ ∃ b off : Nat, a = some ⟨b, off, none⟩ ∧ Ten w b (off + j * 10) c) := h3
  obtain ⟨a1, cap1, rfl, k1, k2, k3⟩ := k
  clear h3 k3 k1 k2
  have zl : zs.length ≤ maxLen := by omega
  unfold maxLen at zl
  obtain ⟨i0, hi, hz0, hz1, hz2⟩ := info_parts strInfo
  obtain ⟨cl, hcl⟩ : ∃ cl, cl = chgL zs ys := ⟨_, rfl⟩
  have CL : Hid (cl = chgL zs ys) := hcl
  have cll : cl.length = zs.length := by rw [hcl]; unfold chgL; rw [List.length_map]
  have CLL : Hid (cl.length = zs.length) := cll
  clear hcl cll
  go_enter Tryd.func28, Tryd.ntmps28
  go_wp2_with (fail)
  refine (refChanged_is pn pr po qn qr qo _ ((HZ.out.alloc _).alloc _) ((HY.out.alloc _).alloc _) hz).mono ?_
  rintro e w1 ⟨v1, rfl, hrd, hw1⟩
  rw [← CL.out] at hrd
  obtain ⟨a2, cap2, rfl, r1, r2, r3⟩ := id hrd
  have R3 : Hid (∀ (j : Nat) (d : Bool × Bool × Bool), cl[j]? = some d → ∃ b off : Nat, a2 = some ⟨b, off, none⟩ ∧ w1.cell? ⟨b, off + j * 3, none⟩ = some (.bool d.1) ∧ w1.cell? ⟨b, off + j * 3 + 1, none⟩ = some (.bool d.2.1) ∧ w1.cell? ⟨b, off + j * 3 + 2, none⟩ = some (.bool d.2.2)) := r3
  have HB1 : Below w.heap.size w w1 := Below.trans (show Below w.heap.size w _ by go_grown) (hw1.mono (by simp; omega))
  have q_p : Cs w1 w.heap.size [.string pn, .int .i64 pr, .int .i64 po, .slice a zs.length cap] := Cs.later hw1 (by repeat (first | assumption | (refine Cs.new _ _ _ _ ?_; simp; done) | refine Cs.alloc ?_ _ | refine Cs.drew ?_ | (refine Cs.beside ?_ _ _ (by omega))))
  rw [CLL.out]
  clear hrd r3 hw1
  have hs1 := HB1.size
  go_wp2
  go_loopw [5, 13] (fun s5 f wr => ∃ (j : Nat) (o : Value), o = s5 ∧ f = .int .i64 j ∧ j ≤ zs.length ∧ Owns wr w1.heap.size 9 1 o (N j) ∧ Below w1.heap.size w1 wr) (fun _ f _ => zs.length - (intOf f).toNat)
  case atStart => exact ⟨0, _, rfl, rfl, by omega, by rw [NN.out.zero]; exact Owns.nil _ _ _ _, Below.refl _ _⟩
  case round =>
    obtain ⟨j, o, rfl, rfl, jl, own, HB⟩ := hrel
    obtain ⟨wo, rfl⟩ : ∃ wo, wo = wr := ⟨_, rfl⟩
    have hs := HB.size
    have HBw : Hid (Below w.heap.size w wo) := HB1.trans (HB.mono hs1)
    have p3 : wo.cell? ⟨w.heap.size, 3, none⟩ = some (.slice a zs.length cap) := cell_later HB (q_p.1 3 _ rfl)
    have pz : w.heap.size < wo.heap.size := Nat.lt_of_lt_of_le q_p.2.2 hs
    by_cases cj : j < zs.length
    · obtain ⟨⟨m, rc, rm, rh, lc, lm, lh, x, y, z⟩, hdj⟩ : ∃ d, zs[j]? = some d := ⟨zs[j], List.getElem?_eq_getElem cj⟩
      obtain ⟨-, b, off, rfl, T⟩ := H3.out j _ hdj
      obtain ⟨c0, c1, c2, c3, c4, c5, c6, c7, c8, c9⟩ := T.later HBw.out
      simp only at c0 c1 c2 c3 c4 c5 c6 c7 c8 c9
      have bz : b < wo.heap.size := by have := World.block_lt_of_cell? _ _ c0; simpa using this
      obtain ⟨⟨e0, e1, e2⟩, he⟩ : ∃ e, e = chgOf ys ⟨m, rc, rm, rh, lc, lm, lh, x, y, z⟩ := ⟨_, rfl⟩
      have hcj : cl[j]? = some (e0, e1, e2) := by rw [CL.out]; unfold chgL; rw [List.getElem?_map, hdj, he]; rfl
      obtain ⟨b2, off2, rfl, g0, g1, g2⟩ := R3.out j _ hcj
      have g0 := cell_later HB g0
      have g1 := cell_later HB g1
      have g2 := cell_later HB g2
      simp only at g0 g1 g2
      obtain ⟨r, hr⟩ : ∃ r, r = ((e0 && x) || ((e1 && y) || (e2 && z))) := ⟨_, rfl⟩
      have RE : Hid (r = ((e0 && x) || ((e1 && y) || (e2 && z)))) := hr
      have RB : Hid (rstB ys ⟨m, rc, rm, rh, lc, lm, lh, x, y, z⟩ = r) := by
        unfold Hid rstB
        rw [← he, hr]
      have NY : Hid (rstB ys ⟨m, rc, rm, rh, lc, lm, lh, x, y, z⟩ = true → N (j + 1) = N j ++ [ls m]) := NN.out.yes j _ hdj
      have NO : Hid (rstB ys ⟨m, rc, rm, rh, lc, lm, lh, x, y, z⟩ = false → N (j + 1) = N j) := NN.out.no j _ hdj
      have NL : Hid ((N j).length ≤ j) := NN.out.len j
      have j0 : (0 : Int) ≤ (j : Int) := by omega
      have j1 : (j : Int) < (zs.length : Int) := by omega
      have l0 : Hid (Cs ((wo.alloc (.cells #[.bool e0, .bool e1, .bool e2] 24)).alloc (.cells #[.string m, .int .i64 rc, .int .i64 rm, .int .i64 rh, .int .i64 lc, .int .i64 lm, .int .i64 lh, .bool x, .bool y, .bool z] 26)) wo.heap.size [.bool e0, .bool e1, .bool e2]) := (by repeat (first | assumption | (refine Cs.new _ _ _ _ ?_; simp; done) | refine Cs.alloc ?_ _ | refine Cs.drew ?_ | (refine Cs.beside ?_ _ _ (by omega))))
      have l1 : Hid (Cs ((wo.alloc (.cells #[.bool e0, .bool e1, .bool e2] 24)).alloc (.cells #[.string m, .int .i64 rc, .int .i64 rm, .int .i64 rh, .int .i64 lc, .int .i64 lm, .int .i64 lh, .bool x, .bool y, .bool z] 26)) (wo.heap.size + 1) [.string m, .int .i64 rc, .int .i64 rm, .int .i64 rh, .int .i64 lc, .int .i64 lm, .int .i64 lh, .bool x, .bool y, .bool z]) := (by repeat (first | assumption | (refine Cs.new _ _ _ _ ?_; simp; done) | refine Cs.alloc ?_ _ | refine Cs.drew ?_ | (refine Cs.beside ?_ _ _ (by omega))))
      have own1 := (own.alloc (.cells #[.bool e0, .bool e1, .bool e2] 24)).alloc (.cells #[.string m, .int .i64 rc, .int .i64 rm, .int .i64 rh, .int .i64 lc, .int .i64 lm, .int .i64 lh, .bool x, .bool y, .bool z] 26)
      have HB2 : Hid (Below w1.heap.size w1 ((wo.alloc (.cells #[.bool e0, .bool e1, .bool e2] 24)).alloc (.cells #[.string m, .int .i64 rc, .int .i64 rm, .int .i64 rh, .int .i64 lc, .int .i64 lm, .int .i64 lh, .bool x, .bool y, .bool z] 26))) := ((HB.alloc hs _).alloc (by simp; omega) _)
      have s2 : w1.heap.size ≤ ((wo.alloc (.cells #[.bool e0, .bool e1, .bool e2] 24)).alloc (.cells #[.string m, .int .i64 rc, .int .i64 rm, .int .i64 rh, .int .i64 lc, .int .i64 lm, .int .i64 lh, .bool x, .bool y, .bool z] 26)).heap.size := by simp; omega
      clear T hdj he hcj own hr
      go_upto_region 6 with (fail)
      clear c0 c1 c2 c3 c4 c5 c6 c7 c8 c9 g0 g1 g2 p3
      generalize (wo.alloc (.cells #[.bool e0, .bool e1, .bool e2] 24)).alloc (.cells #[.string m, .int .i64 rc, .int .i64 rm, .int .i64 rh, .int .i64 lc, .int .i64 lm, .int .i64 lh, .bool x, .bool y, .bool z] 26) = W2 at *
      have k0 : W2.cell? ⟨wo.heap.size, 0, none⟩ = some (.bool e0) := l0.out.1 0 _ rfl
      have k1 : W2.cell? ⟨wo.heap.size, 1, none⟩ = some (.bool e1) := l0.out.1 1 _ rfl
      have k2 : W2.cell? ⟨wo.heap.size, 2, none⟩ = some (.bool e2) := l0.out.1 2 _ rfl
      have n7 : W2.cell? ⟨wo.heap.size + 1, 7, none⟩ = some (.bool x) := l1.out.1 7 _ rfl
      have n8 : W2.cell? ⟨wo.heap.size + 1, 8, none⟩ = some (.bool y) := l1.out.1 8 _ rfl
      have n9 : W2.cell? ⟨wo.heap.size + 1, 9, none⟩ = some (.bool z) := l1.out.1 9 _ rfl
      go_cut [47] (fun s47 wc => s47 = .bool r ∧ wc = W2)
      case first =>
        clear RB NY NO NL own1 HB2 l0 l1
        rcases three (e := e0) (x := x) with rfl | ⟨rfl, rfl⟩ | ⟨rfl, rfl⟩ <;> rcases three (e := e1) (x := y) with rfl | ⟨rfl, rfl⟩ | ⟨rfl, rfl⟩ <;> rcases three (e := e2) (x := z) with rfl | ⟨rfl, rfl⟩ | ⟨rfl, rfl⟩
        all_goals
          go_wp2_with (fail)
          go_meet
          case rel => exact ⟨by rw [RE.out]; simp, rfl⟩
      case rest =>
        obtain ⟨rfl, rfl⟩ := hcut
        clear k0 k1 k2 n7 n8 n9 RE l0
        cases r with
        | true =>
          have n0 : wc.cell? ⟨wo.heap.size + 1, 0, none⟩ = some (.string m) := l1.out.1 0 _ rfl
          have HM' : Hid (N (j + 1) = N j ++ [ls m]) := NY.out RB.out
          have OB : Hid (∀ k, o.ownBlock = some k → w1.heap.size ≤ k) := fun k hk => own1.ge k hk
          have own3 := own1.alloc (.cells #[.string m] 9)
          have HB3 : Below w1.heap.size w1 (wc.alloc (.cells #[.string m] 9)) := HB2.out.alloc s2 _
          clear NY NO RB own1
          go_wp2_with (first
            | (at_builtin; refine wpList_append_own _ rfl _ _ 45 rfl w1.heap.size 9 i0 (.string ⟨#[]⟩) 1 16 Tryd.underlying45 hi hz0 hz1 hz2 rfl (by decide) _ _ _ rfl own3.2 ⟨wc.heap.size, 0, none⟩ 1 1 (ls m) rfl rfl (news_s rfl) ls_one ?c3 ?c4 ?c5 ?_)
            | fail)
          case c3 => have := NL.out; unfold maxLen; omega
          case c4 => have := NL.out; omega
          case c5 => first | omega | (simp; omega)
          intro o' w4 hown' hgrow _
          have own4 := own3.more rfl hown'
          have HB4 : Below w1.heap.size w1 w4 := HB3.grown hgrow (by simp; omega) (fun k hk => OB.out k hk)
          have own5 : Owns w4 w1.heap.size 9 1 o' (N (j + 1)) := by rw [HM'.out]; exact own4
          clear own4 own3 hown' hgrow HM' OB HB3 n0 HB2 s2
          go_wp2
          go_roundw
          case rel => exact ⟨j + 1, _, rfl, by go_num, by omega, own5, HB4⟩
          case measure => simp [intOf]; omega
        | false =>
          have NX : Hid (N (j + 1) = N j) := NO.out RB.out
          have own5 : Owns wc w1.heap.size 9 1 o (N (j + 1)) := by rw [NX.out]; exact own1
          have HB4 := HB2.out
          clear NX NO NY RB own1 HB2
          go_wp2
          go_roundw
          case rel => exact ⟨j + 1, _, rfl, by go_num, by omega, own5, HB4⟩
          case measure => simp [intOf]; omega
    · obtain rfl : j = zs.length := by omega
      rw [NN.out.all] at own
      have rd := own.texts
      obtain ⟨a', cap', rfl, -⟩ := id rd
      have RD : Hid (RdS wo (.slice a' (rstL zs ys).length cap') (rstL zs ys)) := rd
      clear rd own
      go_wp2
      go_ret
      exact ⟨_, rfl, RD.out, HBw.out⟩

end Go.Proofs.YtfgbppngnafpoaaDoor.Sp
