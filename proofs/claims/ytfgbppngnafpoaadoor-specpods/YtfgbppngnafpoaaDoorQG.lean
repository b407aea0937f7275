/-
  What changed of each container at this program: the document's own answer. Conditions: the containers read as lists, a hundred thousand at the most.
-/
import Derived.Test.YtfgbppngnafpoaaDoorPP
import Derived.OneCell
namespace Go.Proofs.YtfgbppngnafpoaaDoor.Sp
open Go.RowKit

def tb (x : Bool × Bool × Bool) : List Value := [.bool x.1, .bool x.2.1, .bool x.2.2]
theorem Owns.tris {W : World} {base : Nat} {T : TypeId} {o : Value} {bs : List (Bool × Bool × Bool)} (h : Owns W base T 3 o (bs.map tb)) : RdB W o bs := by
  obtain ⟨a, cap, e, h1, h2, -, h3⟩ := h.read
  rw [List.length_map] at e h1
  refine ⟨a, cap, e, h1, h2, fun j d hj => ?_⟩
  obtain ⟨b, rfl, hc⟩ := h3 j (tb d) (by rw [List.getElem?_map, hj]; rfl)
  exact ⟨b, 0, rfl, hc 0 _ rfl, hc 1 _ rfl, hc 2 _ rfl⟩
theorem newsb {W : World} {T : TypeId} {p : Addr} {x : Bool × Bool × Bool} (e : p = ⟨W.heap.size, 0, none⟩) : ∀ (j : Nat) (u : Value), (tb x)[j]? = some u → (W.alloc (.cells #[.bool x.1, .bool x.2.1, .bool x.2.2] T)).cell? (p.add j) = some u := by
  subst e
  intro j u hj
  match j, hj with
  | 0, hj => injection hj with hj; subst hj; simp [Addr.add, go_sem]
  | 1, hj => injection hj with hj; subst hj; simp [Addr.add, go_sem]
  | 2, hj => injection hj with hj; subst hj; simp [Addr.add, go_sem]
theorem tb_one {x : Bool × Bool × Bool} : ∀ u ∈ tb x, u.oneCell' = true := by
  intro u hu; simp [tb] at hu; rcases hu with rfl | rfl | rfl <;> rfl
theorem Owns.put {W : World} {base k : Nat} {T : TypeId} {o : Value} {xss : List (List Value)} (h : Owns W base T k o xss) {b : Nat} (hn : o.ownBlock ≠ some b) (i : Nat) (x : Value) : Owns (W.setCell ⟨b, i, none⟩ x) base T k o xss := ⟨h.1, ownsRow_setCell_other h.2 hn x⟩
/-- What holds at the place of one container. -/
def KC (w W : World) (o : Value) (xss : List (List Value)) (xb : Nat) (e : Bool × Bool × Bool) (qs : List Value) : Prop :=
  Owns W (w.heap.size + 2) 24 3 o xss ∧ Cs W xb (tb e) ∧ Cs W (w.heap.size + 1) qs ∧ Below w.heap.size w W

set_option maxHeartbeats 2000000 in
set_option maxRecDepth 100000 in
theorem refChanged_is {v u : Value} {zs ys : List Ct} (pn : ByteArray) (pr po : Int) (qn : ByteArray) (qr qo : Int) (w : World) (h : RdC w v zs) (k : RdC w u ys) (hz : zs.length ≤ 100000) :
    Calls Tryd.prog 26 #[.agg #[.string pn, .int .i64 pr, .int .i64 po, v], .agg #[.string qn, .int .i64 qr, .int .i64 qo, u]] w fun e w' => ∃ v', e = .returned v' ∧ RdB w' v' (chgL zs ys) ∧ Below w.heap.size w w' := by
  obtain ⟨X, hX⟩ := run_ex zs (chgOf ys) tb
  have HX : Hid (Run zs (chgOf ys) tb X) := hX
  clear hX
  have HY : Hid (RdC w u ys) := k
  obtain ⟨a, cap, rfl, h1, h2, h3⟩ := h
  have H3 : Hid (∀ (j : Nat) (c : Ct), zs[j]? = some c → c.n.size ≤ maxLen ∧ ∃ b off : Nat, a = some ⟨b, off, none⟩ ∧ Ten w b (off + j * 10) c) := h3
  obtain ⟨a1, cap1, rfl, k1, k2, k3⟩ := k
  have K3 : Hid (∀ (j : Nat) (c : Ct), ys[j]? = some c → c.n.size ≤ maxLen ∧ ∃ b off : Nat, a1 = some ⟨b, off, none⟩ ∧ Ten w b (off + j * 10) c) := k3
  clear h3 k3
  have zl : zs.length ≤ maxLen := by omega
  unfold maxLen at zl
  have yl : ys.length ≤ maxLen := by omega
  unfold maxLen at yl
  obtain ⟨i0, hi, hz0, hz1, hz2⟩ := info_parts fff_in
  go_enter Tryd.func26, Tryd.ntmps26
  go_wp2
  go_loopw [5, 14] (fun s5 f wr => ∃ (j : Nat) (o : Value), o = s5 ∧ f = .int .i64 j ∧ j ≤ zs.length ∧ Owns wr (w.heap.size + 2) 24 3 o (X j) ∧ Cs wr (w.heap.size + 1) [.string qn, .int .i64 qr, .int .i64 qo, .slice a1 ys.length cap1] ∧ Below w.heap.size w wr) (fun _ f _ => zs.length - (intOf f).toNat)
  case atStart => exact ⟨0, _, rfl, rfl, by omega, by rw [HX.out.zero]; exact Owns.nil _ _ _ _, (by repeat (first | assumption | (refine Cs.new _ _ _ _ ?_; simp; done) | refine Cs.alloc ?_ _ | refine Cs.drew ?_ | (refine Cs.beside ?_ _ _ (by omega)))), by go_grown⟩
  case round =>
    obtain ⟨j, o, rfl, rfl, jl, own, q_q, HB⟩ := hrel
    have hs := HB.size
    have ol : Hid ((X j).length = j) := HX.out.len j jl
    by_cases cj : j < zs.length
    · obtain ⟨⟨m, rc, rm, rh, lc, lm, lh, x, y, z⟩, hdj⟩ : ∃ d, zs[j]? = some d := ⟨zs[j], List.getElem?_eq_getElem cj⟩
      obtain ⟨-, b, off, rfl, T⟩ := H3.out j _ hdj
      obtain ⟨⟨e0, e1, e2⟩, he⟩ : ∃ e, chgOf ys ⟨m, rc, rm, rh, lc, lm, lh, x, y, z⟩ = e := ⟨_, rfl⟩
      have HS : Hid (X (j + 1) = X j ++ [tb (e0, e1, e2)]) := by have := HX.out.next j _ hdj; rwa [he] at this
      have HE : Hid (chgOf ys ⟨m, rc, rm, rh, lc, lm, lh, x, y, z⟩ = (e0, e1, e2)) := he
      obtain ⟨c0, c1, c2, c3, c4, c5, c6, c7, c8, c9⟩ := T.later HB
      simp only at c0 c1 c2 c3 c4 c5 c6 c7 c8 c9
      have j0 : (0 : Int) ≤ (j : Int) := by omega
      have j1 : (j : Int) < (zs.length : Int) := by omega
      have q3 : wr.cell? ⟨w.heap.size + 1, 3, none⟩ = some (.slice a1 ys.length cap1) := q_q.1 3 _ rfl
      have q2 : wr.cell? ⟨w.heap.size + 1, 2, none⟩ = some (.int .i64 qo) := q_q.1 2 _ rfl
      have q1 : wr.cell? ⟨w.heap.size + 1, 1, none⟩ = some (.int .i64 qr) := q_q.1 1 _ rfl
      have q0 : wr.cell? ⟨w.heap.size + 1, 0, none⟩ = some (.string qn) := q_q.1 0 _ rfl
      have qz := q_q.2.2
      have qy : w.heap.size < wr.heap.size := by omega
      clear T hdj he
      go_wp2_with (fail)
      refine (refFind_is qn qr qo m _ (((HY.out.later HB).alloc _).alloc _)).mono ?_
      rintro e w2 ⟨rfl, hw2⟩
      have HB2 : Below w.heap.size w w2 := Below.trans (show Below w.heap.size w _ by go_grown) (hw2.mono (by simp; omega))
      have own2 := ((own.alloc (.cells #[.string m, .int .i64 rc, .int .i64 rm, .int .i64 rh, .int .i64 lc, .int .i64 lm, .int .i64 lh, .bool x, .bool y, .bool z] 26)).alloc (.cells #[.bool false, .bool false, .bool false] 24)).later hw2
      have r_q := Cs.later hw2 ((q_q.alloc (.cells #[.string m, .int .i64 rc, .int .i64 rm, .int .i64 rh, .int .i64 lc, .int .i64 lm, .int .i64 lh, .bool x, .bool y, .bool z] 26)).alloc (.cells #[.bool false, .bool false, .bool false] 24))
      have r_c : Cs w2 wr.heap.size [.string m, .int .i64 rc, .int .i64 rm, .int .i64 rh, .int .i64 lc, .int .i64 lm, .int .i64 lh, .bool x, .bool y, .bool z] := Cs.later hw2 (by repeat (first | assumption | (refine Cs.new _ _ _ _ ?_; simp; done) | refine Cs.alloc ?_ _ | refine Cs.drew ?_ | (refine Cs.beside ?_ _ _ (by omega))))
      have r_x : Cs w2 (wr.heap.size + 1) [.bool false, .bool false, .bool false] := Cs.later hw2 (by repeat (first | assumption | (refine Cs.new _ _ _ _ ?_; simp; done) | refine Cs.alloc ?_ _ | refine Cs.drew ?_ | (refine Cs.beside ?_ _ _ (by omega))))
      obtain ⟨f, ho⟩ : ∃ f, fnd m ys = f := ⟨_, rfl⟩
      rw [ho]
      have HO : Hid (fnd m ys = f) := ho
      have KX : Hid (∀ u0 u1 u2 (ob : Obj), Hid (KC w ((((w2.setCell ⟨wr.heap.size + 1, 0, none⟩ (.bool u0)).setCell ⟨wr.heap.size + 1, 1, none⟩ (.bool u1)).setCell ⟨wr.heap.size + 1, 2, none⟩ (.bool u2)).alloc ob) o (X j) (wr.heap.size + 1) (u0, u1, u2) [.string qn, .int .i64 qr, .int .i64 qo, .slice a1 ys.length cap1])) := fun u0 u1 u2 ob => by
        have lt := own.lt
        have ne : o.ownBlock ≠ some (wr.heap.size + 1) := fun e => by have := lt _ e; omega
        exact ⟨(((own2.put ne 0 _).put ne 1 _).put ne 2 _).alloc ob, (Cs.puts3 r_x _ _ _).alloc ob, (((r_q.beside _ _ (by omega)).beside _ _ (by omega)).beside _ _ (by omega)).alloc ob,
          (((HB2.setCell (show w.heap.size ≤ wr.heap.size + 1 by omega) _).setCell (show w.heap.size ≤ wr.heap.size + 1 by omega) _).setCell (show w.heap.size ≤ wr.heap.size + 1 by omega) _).alloc (by simp [World.setCell]; exact HB2.size) ob⟩
      have K0 : Hid (KC w w2 o (X j) (wr.heap.size + 1) (false, false, false) [.string qn, .int .i64 qr, .int .i64 qo, .slice a1 ys.length cap1]) := ⟨own2, r_x, r_q, HB2⟩
      have wz : w.heap.size + 1 < wr.heap.size := qz
      clear ho own q_q hw2 HB hs c0 c1 c2 c3 c4 c5 c6 c7 c8 c9 q0 q1 q2 q3 qz qy own2
      go_upto_if 23 with (fail)
      go_cut [23] (fun _ wc => Hid (KC w wc o (X j) (wr.heap.size + 1) (e0, e1, e2) [.string qn, .int .i64 qr, .int .i64 qo, .slice a1 ys.length cap1]))
      case first =>
        cases f with
        | none =>
          rw [show fi none = -1 from rfl]
          have EE := HE.out
          rw [chgOf_none HO.out] at EE
          injection EE with E0 EE
          injection EE with E1 E2
          subst E0 E1 E2
          clear r_q r_c r_x KX HO HE HS
          go_wp2_with (fail)
          go_meet
          case rel => exact K0
        | some k =>
          rw [show fi (some k) = (k : Int) from rfl]
          obtain ⟨⟨m1, rc1, rm1, rh1, lc1, lm1, lh1, x1, y1, z1⟩, hk1, -, -⟩ := fnd_at HO.out
          obtain ⟨-, b1, off1, rfl, U⟩ := K3.out k _ hk1
          have EE := HE.out
          rw [chgOf_some HO.out hk1] at EE
          unfold chg at EE
          simp only [Prod.mk.injEq] at EE
          obtain ⟨a0, t0⟩ : ∃ e, (rc != rc1) = e := ⟨_, rfl⟩
          obtain ⟨b0, s0⟩ : ∃ e, (lc != lc1) = e := ⟨_, rfl⟩
          obtain ⟨a1', t1⟩ : ∃ e, (rm != rm1) = e := ⟨_, rfl⟩
          obtain ⟨b1', s1⟩ : ∃ e, (lm != lm1) = e := ⟨_, rfl⟩
          obtain ⟨a2, t2⟩ : ∃ e, (rh != rh1) = e := ⟨_, rfl⟩
          obtain ⟨b2, s2⟩ : ∃ e, (lh != lh1) = e := ⟨_, rfl⟩
          rw [t0, s0, t1, s1, t2, s2] at EE
          have E0 : Hid ((a0 || b0) = e0) := EE.1
          have E1 : Hid ((a1' || b1') = e1) := EE.2.1
          have E2 : Hid ((a2 || b2) = e2) := EE.2.2
          have kl := (List.getElem?_eq_some_iff.1 hk1).1
          have k0 : (0 : Int) ≤ (k : Int) := by omega
          have k1' : (k : Int) < (ys.length : Int) := by omega
          obtain ⟨d0, d1, d2, d3, d4, d5, d6, d7, d8, d9⟩ := U.later HB2
          simp only at d0 d1 d2 d3 d4 d5 d6 d7 d8 d9
          have c1 : w2.cell? ⟨wr.heap.size, 1, none⟩ = some (.int .i64 rc) := r_c.1 1 _ rfl
          have c2 : w2.cell? ⟨wr.heap.size, 2, none⟩ = some (.int .i64 rm) := r_c.1 2 _ rfl
          have c3 : w2.cell? ⟨wr.heap.size, 3, none⟩ = some (.int .i64 rh) := r_c.1 3 _ rfl
          have c4 : w2.cell? ⟨wr.heap.size, 4, none⟩ = some (.int .i64 lc) := r_c.1 4 _ rfl
          have c5 : w2.cell? ⟨wr.heap.size, 5, none⟩ = some (.int .i64 lm) := r_c.1 5 _ rfl
          have c6 : w2.cell? ⟨wr.heap.size, 6, none⟩ = some (.int .i64 lh) := r_c.1 6 _ rfl
          have g0 : w2.cell? ⟨wr.heap.size + 1, 0, none⟩ = some (.bool false) := r_x.1 0 _ rfl
          have g1 : w2.cell? ⟨wr.heap.size + 1, 1, none⟩ = some (.bool false) := r_x.1 1 _ rfl
          have g2 : w2.cell? ⟨wr.heap.size + 1, 2, none⟩ = some (.bool false) := r_x.1 2 _ rfl
          have gF0 : w2.frozen? ⟨wr.heap.size + 1, 0, none⟩ = false := r_x.2.1 0 (by simp)
          have gF1 : w2.frozen? ⟨wr.heap.size + 1, 1, none⟩ = false := r_x.2.1 1 (by simp)
          have gF2 : w2.frozen? ⟨wr.heap.size + 1, 2, none⟩ = false := r_x.2.1 2 (by simp)
          have gz := r_x.2.2
          have cz := r_c.2.2
          have q3 : w2.cell? ⟨w.heap.size + 1, 3, none⟩ = some (.slice (some ⟨b1, off1, none⟩) ys.length cap1) := r_q.1 3 _ rfl
          have qz := r_q.2.2
          clear U hk1 HO EE r_q r_c r_x K0 HE HS
          cases a0 <;> cases a1' <;> cases a2
          all_goals
            go_wp2_with (fail)
            go_meet
            case rel =>
              rw [← E0.out, ← E1.out, ← E2.out]
              exact KX.out _ _ _ _
      case rest =>
        clear KX K0 r_q r_c r_x HB2
        obtain ⟨own2, r_x, r_q, HB2⟩ := hcut.out
        clear hcut
        have hs := HB2.size
        have x0 : wc.cell? ⟨wr.heap.size + 1, 0, none⟩ = some (.bool e0) := r_x.1 0 _ rfl
        have x1 : wc.cell? ⟨wr.heap.size + 1, 1, none⟩ = some (.bool e1) := r_x.1 1 _ rfl
        have x2 : wc.cell? ⟨wr.heap.size + 1, 2, none⟩ = some (.bool e2) := r_x.1 2 _ rfl
        have xz := r_x.2.2
        have own3 := own2.alloc (.cells #[.bool e0, .bool e1, .bool e2] 24)
        go_wp2_with (first
          | (at_builtin; refine wpList_append_own _ rfl _ _ 43 rfl (w.heap.size + 2) 24 i0 (.agg #[.bool false, .bool false, .bool false]) 3 3 Tryd.underlying43 hi hz0 hz1 hz2 rfl (by decide) _ _ _ rfl own3.2 ⟨wc.heap.size, 0, none⟩ 1 1 (tb (e0, e1, e2)) rfl rfl (newsb rfl) tb_one ?c3 ?c4 ?c5 ?_)
          | fail)
        case c3 => rw [ol.out]; unfold maxLen; omega
        case c4 => rw [ol.out]; omega
        case c5 => simp; omega
        intro v' w4 hown' hgrow _
        have own4 := own3.more rfl hown'
        have HB4 : Below w.heap.size w w4 := (HB2.alloc HB2.size _).grown hgrow (by simp; omega) (fun k hk => by have := own3.ge k hk; omega)
        have q_4 : Cs w4 (w.heap.size + 1) [.string qn, .int .i64 qr, .int .i64 qo, .slice a1 ys.length cap1] := Cs.grown (r_q.alloc _) hgrow (fun e => by have := own3.ge _ e.symm; omega)
        have own5 : Owns w4 (w.heap.size + 2) 24 3 v' (X (j + 1)) := by rw [HS.out]; exact own4
        clear own4 own3 own2 hown' hgrow HS HB2 r_q r_x x0 x1 x2
        go_wp2
        go_roundw
        case rel => exact ⟨j + 1, _, rfl, by go_num, by omega, own5, q_4, HB4⟩
        case measure => simp [intOf]; omega
    · obtain rfl : j = zs.length := by omega
      rw [HX.out.all] at own
      have rd := own.tris
      have RD : Hid (RdB wr o (chgL zs ys)) := rd
      clear rd own
      go_wp2
      go_ret
      exact ⟨_, rfl, RD.out, HB⟩

end Go.Proofs.YtfgbppngnafpoaaDoor.Sp
