/-
  Sums over a pod's containers at this program: the document's and the statement's own; the requests of a pod. Conditions: the tables of the program lie as its text lays them; the containers read as a list, a hundred thousand at the most.
-/
import Derived.Test.YtaeejemknmjglaaDoorPI
import Derived.Maps.AppendAt
import Derived.Deep.RegionHeld3
import Derived.Deep.RegionWith
namespace Go.Proofs.YtaeejemknmjglaaDoor.Sp
open Go.RowKit

/-- Two slices of one's own lie in two rows. -/
def Apart (o p : Value) : Prop := o.ownBlock = none ∨ p.ownBlock = none ∨ o.ownBlock ≠ p.ownBlock
theorem Apart.kept {o p : Value} (h : Apart o p) : p.ownBlock = none ∨ p.ownBlock ≠ o.ownBlock := by
  rcases h with h | h | h
  · cases hp : p.ownBlock with
    | none => exact Or.inl rfl
    | some b => exact Or.inr (by rw [h]; simp)
  · exact Or.inl h
  · exact Or.inr (fun e => h e.symm)
theorem Apart.symm {o p : Value} (h : Apart o p) : Apart p o := by
  rcases h with h | h | h
  · exact Or.inr (Or.inl h)
  · exact Or.inl h
  · exact Or.inr (Or.inr (fun e => h e.symm))
theorem Apart.turned {o p o' : Value} {s : Nat} (h : Apart o p) (e : o'.ownBlock = o.ownBlock ∨ o'.ownBlock = some s) (hp : ∀ b, p.ownBlock = some b → b < s) : Apart o' p := by
  rcases e with e | e
  · rcases h with h | h | h
    · exact Or.inl (e.trans h)
    · exact Or.inr (Or.inl h)
    · exact Or.inr (Or.inr (by rw [e]; exact h))
  · refine Or.inr (Or.inr ?_)
    rw [e]
    intro k
    have := hp s k.symm
    omega
theorem news1 {W : World} {T : TypeId} {p : Addr} {x : Int × Int × Int} (e : p = ⟨W.heap.size, 0, none⟩) : ∀ (j : Nat) (u : Value), (vl x)[j]? = some u → (W.alloc (.cells #[.int .i64 x.1, .int .i64 x.2.1, .int .i64 x.2.2] T)).cell? (p.add j) = some u := by
  subst e
  intro j u hj
  match j, hj with
  | 0, hj => injection hj with hj; subst hj; simp [Addr.add, go_sem]
  | 1, hj => injection hj with hj; subst hj; simp [Addr.add, go_sem]
  | 2, hj => injection hj with hj; subst hj; simp [Addr.add, go_sem]
theorem vl_one {x : Int × Int × Int} : ∀ u ∈ vl x, u.oneCell' = true := by
  intro u hu; simp [vl] at hu; rcases hu with rfl | rfl | rfl <;> rfl

theorem Cs.puts3 {W : World} {b : Nat} {u v x : Value} (k : Cs W b [u, v, x]) (u' v' x' : Value) : Cs (((W.setCell ⟨b, 0, none⟩ u').setCell ⟨b, 1, none⟩ v').setCell ⟨b, 2, none⟩ x') b [u', v', x'] :=
  ((k.set 0 u' (by simp)).set 1 v' (by simp)).set 2 x' (by simp)
/-- What the document hands back of two sums. -/
def vo2 (x y : Option (Int × Int × Int)) : Value := .tuple #[vv (x.getD (0, 0, 0)), vv (y.getD (0, 0, 0)), .bool (x.isSome && y.isSome)]

set_option maxHeartbeats 4000000 in
set_option maxRecDepth 100000 in
theorem refSums_is {v : Value} {zs : List Ct}
    (pn : ByteArray) (pr po : Int) (w : World) (h : RdC w v zs) (hz : zs.length ≤ 100000) :
    Calls Tryd.prog 35 #[.agg #[.string pn, .int .i64 pr, .int .i64 po, v]] w fun e w' => e = .returned (vo2 (sumL (0, 0, 0) (zs.map Ct.rq)) (sumL (0, 0, 0) (zs.map Ct.li))) ∧ Below w.heap.size w w' := by
  obtain ⟨R, hR⟩ : ∃ R, R = vo2 (sumL (0, 0, 0) (zs.map Ct.rq)) (sumL (0, 0, 0) (zs.map Ct.li)) := ⟨_, rfl⟩
  rw [← hR]
  have HR : Hid (R = vo2 (sumL (0, 0, 0) (zs.map Ct.rq)) (sumL (0, 0, 0) (zs.map Ct.li))) := hR
  clear hR
  obtain ⟨X, hX⟩ := run_ex zs Ct.rq vl
  have HX : Hid (Run zs Ct.rq vl X) := hX
  obtain ⟨Y, hY⟩ := run_ex zs Ct.li vl
  have HY : Hid (Run zs Ct.li vl Y) := hY
  clear hX hY
  obtain ⟨a, cap, rfl, h1, h2, h3⟩ := h
  have H3 : Hid (∀ (j : Nat) (c : Ct), zs[j]? = some c → c.n.size ≤ maxLen ∧ ∃ b off : Nat, a = some ⟨b, off, none⟩ ∧ Ten w b (off + j * 10) c) := h3
  clear h3
  obtain ⟨i0, hi, hz0, hz1, hz2⟩ := info_parts vecInfo
  go_enter Tryd.func35, Tryd.ntmps35
  go_wp2
  go_loopw [5, 6, 16] (fun s5 s6 f wr => ∃ (j : Nat) (o p : Value), o = s5 ∧ p = s6 ∧ f = .int .i64 j ∧ j ≤ zs.length ∧ Owns wr (w.heap.size + 3) 23 3 o (X j) ∧ Owns wr (w.heap.size + 3) 23 3 p (Y j) ∧ Apart o p ∧ Cs wr (w.heap.size + 1) [.int .i64 0, .int .i64 0, .int .i64 0] ∧ Cs wr (w.heap.size + 2) [.int .i64 0, .int .i64 0, .int .i64 0] ∧ Below w.heap.size w wr) (fun _ _ f _ => zs.length - (intOf f).toNat)
  case atStart => exact ⟨0, _, _, rfl, rfl, rfl, by omega, by rw [HX.out.zero]; exact Owns.nil _ _ _ _, by rw [HY.out.zero]; exact Owns.nil _ _ _ _, Or.inl rfl, (by repeat (first | assumption | (refine Cs.new _ _ _ _ ?_; simp; done) | refine Cs.alloc ?_ _ | refine Cs.drew ?_ | (refine Cs.beside ?_ _ _ (by omega)))), (by repeat (first | assumption | (refine Cs.new _ _ _ _ ?_; simp; done) | refine Cs.alloc ?_ _ | refine Cs.drew ?_ | (refine Cs.beside ?_ _ _ (by omega)))), by go_grown⟩
  case round =>
    obtain ⟨j, o, p, rfl, rfl, rfl, jl, own, owp, ap, q_r, q_s, HB⟩ := hrel
    have hs := HB.size
    have rz : w.heap.size + 2 < wr.heap.size := q_s.2.2
    have ol : Hid ((X j).length = j) := HX.out.len j jl
    have pl : Hid ((Y j).length = j) := HY.out.len j jl
    by_cases cj : j < zs.length
    · obtain ⟨⟨m, rc, rm, rh, lc, lm, lh, x, y, z⟩, hdj⟩ : ∃ d, zs[j]? = some d := ⟨zs[j], List.getElem?_eq_getElem cj⟩
      obtain ⟨-, b, off, rfl, T⟩ := H3.out j _ hdj
      have HS : Hid (X (j + 1) = X j ++ [vl (rc, rm, rh)]) := HX.out.next j _ hdj
      have HT : Hid (Y (j + 1) = Y j ++ [vl (lc, lm, lh)]) := HY.out.next j _ hdj
      obtain ⟨c0, c1, c2, c3, c4, c5, c6, c7, c8, c9⟩ := T.later HB
      simp only at c0 c1 c2 c3 c4 c5 c6 c7 c8 c9
      have j0 : (0 : Int) ≤ (j : Int) := by omega
      have j1 : (j : Int) < (zs.length : Int) := by omega
      clear T hdj
      have own3 := (own.alloc (.cells #[.string m, .int .i64 rc, .int .i64 rm, .int .i64 rh, .int .i64 lc, .int .i64 lm, .int .i64 lh, .bool x, .bool y, .bool z] 26)).alloc (.cells #[.int .i64 rc, .int .i64 rm, .int .i64 rh] 23)
      have owp3 := (owp.alloc (.cells #[.string m, .int .i64 rc, .int .i64 rm, .int .i64 rh, .int .i64 lc, .int .i64 lm, .int .i64 lh, .bool x, .bool y, .bool z] 26)).alloc (.cells #[.int .i64 rc, .int .i64 rm, .int .i64 rh] 23)
      have q_c : Cs ((wr.alloc (.cells #[.string m, .int .i64 rc, .int .i64 rm, .int .i64 rh, .int .i64 lc, .int .i64 lm, .int .i64 lh, .bool x, .bool y, .bool z] 26)).alloc (.cells #[.int .i64 rc, .int .i64 rm, .int .i64 rh] 23)) wr.heap.size [.string m, .int .i64 rc, .int .i64 rm, .int .i64 rh, .int .i64 lc, .int .i64 lm, .int .i64 lh, .bool x, .bool y, .bool z] := (by repeat (first | assumption | (refine Cs.new _ _ _ _ ?_; simp; done) | refine Cs.alloc ?_ _ | refine Cs.drew ?_ | (refine Cs.beside ?_ _ _ (by omega))))
      have r2 : Cs ((wr.alloc (.cells #[.string m, .int .i64 rc, .int .i64 rm, .int .i64 rh, .int .i64 lc, .int .i64 lm, .int .i64 lh, .bool x, .bool y, .bool z] 26)).alloc (.cells #[.int .i64 rc, .int .i64 rm, .int .i64 rh] 23)) (w.heap.size + 1) [.int .i64 0, .int .i64 0, .int .i64 0] := (by repeat (first | assumption | (refine Cs.new _ _ _ _ ?_; simp; done) | refine Cs.alloc ?_ _ | refine Cs.drew ?_ | (refine Cs.beside ?_ _ _ (by omega))))
      have s2 : Cs ((wr.alloc (.cells #[.string m, .int .i64 rc, .int .i64 rm, .int .i64 rh, .int .i64 lc, .int .i64 lm, .int .i64 lh, .bool x, .bool y, .bool z] 26)).alloc (.cells #[.int .i64 rc, .int .i64 rm, .int .i64 rh] 23)) (w.heap.size + 2) [.int .i64 0, .int .i64 0, .int .i64 0] := (by repeat (first | assumption | (refine Cs.new _ _ _ _ ?_; simp; done) | refine Cs.alloc ?_ _ | refine Cs.drew ?_ | (refine Cs.beside ?_ _ _ (by omega))))
      have HB2 : Below w.heap.size w ((wr.alloc (.cells #[.string m, .int .i64 rc, .int .i64 rm, .int .i64 rh, .int .i64 lc, .int .i64 lm, .int .i64 lh, .bool x, .bool y, .bool z] 26)).alloc (.cells #[.int .i64 rc, .int .i64 rm, .int .i64 rh] 23)) := by go_grown
      have OB : Hid (∀ k, o.ownBlock = some k → w.heap.size + 3 ≤ k ∧ k < wr.heap.size) := fun k hk => ⟨own.ge k hk, own.lt k hk⟩
      have PB : Hid (∀ k, p.ownBlock = some k → w.heap.size + 3 ≤ k ∧ k < wr.heap.size) := fun k hk => ⟨owp.ge k hk, owp.lt k hk⟩
      clear own owp q_r q_s HB
      go_wp2_with (first
        | (at_builtin; refine wpList_append_own_at _ rfl _ _ 70 rfl (w.heap.size + 3) 23 i0 (.agg #[.int .i64 0, .int .i64 0, .int .i64 0]) 3 24 Tryd.underlying70 hi hz0 hz1 hz2 rfl (by decide) _ _ _ rfl own3.2 ⟨wr.heap.size + 1, 0, none⟩ 1 1 (vl (rc, rm, rh)) rfl rfl (news1 (by simp)) vl_one ?c3 ?c4 ?c5 ?_)
        | fail)
      case c3 => rw [ol.out]; unfold maxLen; omega
      case c4 => rw [ol.out]; omega
      case c5 => simp; omega
      intro o' w4 hown' hgrow _ hat
      have own4 := own3.more rfl hown'
      have HB4 : Below w.heap.size w w4 := HB2.grown hgrow (by simp; omega) (fun k hk => by have := (OB.out k hk).1; omega)
      have q_4 : Cs w4 (w.heap.size + 1) [.int .i64 0, .int .i64 0, .int .i64 0] := r2.grown hgrow (fun e => by have := (OB.out _ e.symm).1; omega)
      have s_4 : Cs w4 (w.heap.size + 2) [.int .i64 0, .int .i64 0, .int .i64 0] := s2.grown hgrow (fun e => by have := (OB.out _ e.symm).1; omega)
      have c_4 : Cs w4 wr.heap.size [.string m, .int .i64 rc, .int .i64 rm, .int .i64 rh, .int .i64 lc, .int .i64 lm, .int .i64 lh, .bool x, .bool y, .bool z] := q_c.grown hgrow (fun e => by have := (OB.out _ e.symm).2; omega)
      have owp4 := owp3.kept hgrow ap.kept
      have ap4 : Apart o' p := ap.turned hat (fun b hb => by have := (PB.out b hb).2; simp; omega)
      have own5 : Owns w4 (w.heap.size + 3) 23 3 o' (X (j + 1)) := by rw [HS.out]; exact own4
      clear own4 own3 hown' hgrow HS HB2 r2 s2 q_c owp3 hat ap OB PB c0 c1 c2 c3 c4 c5 c6 c7 c8 c9
      have c4 : w4.cell? ⟨wr.heap.size, 4, none⟩ = some (.int .i64 lc) := c_4.1 4 _ rfl
      have c5 : w4.cell? ⟨wr.heap.size, 5, none⟩ = some (.int .i64 lm) := c_4.1 5 _ rfl
      have c6 : w4.cell? ⟨wr.heap.size, 6, none⟩ = some (.int .i64 lh) := c_4.1 6 _ rfl
      have cz := c_4.2.2
      have own6 := own5.alloc (.cells #[.int .i64 lc, .int .i64 lm, .int .i64 lh] 23)
      have owp6 := owp4.alloc (.cells #[.int .i64 lc, .int .i64 lm, .int .i64 lh] 23)
      have HB6 : Below w.heap.size w (w4.alloc (.cells #[.int .i64 lc, .int .i64 lm, .int .i64 lh] 23)) := by go_grown
      have OB : Hid (∀ k, o'.ownBlock = some k → w.heap.size + 3 ≤ k ∧ k < w4.heap.size) := fun k hk => ⟨own5.ge k hk, own5.lt k hk⟩
      have PB : Hid (∀ k, p.ownBlock = some k → w.heap.size + 3 ≤ k ∧ k < w4.heap.size) := fun k hk => ⟨owp4.ge k hk, owp4.lt k hk⟩
      clear own5 owp4
      go_wp2_with (first
        | (at_builtin; refine wpList_append_own_at _ rfl _ _ 70 rfl (w.heap.size + 3) 23 i0 (.agg #[.int .i64 0, .int .i64 0, .int .i64 0]) 3 24 Tryd.underlying70 hi hz0 hz1 hz2 rfl (by decide) _ _ _ rfl owp6.2 ⟨w4.heap.size, 0, none⟩ 1 1 (vl (lc, lm, lh)) rfl rfl (news1 rfl) vl_one ?c3 ?c4 ?c5 ?_)
        | fail)
      case c3 => rw [pl.out]; unfold maxLen; omega
      case c4 => rw [pl.out]; omega
      case c5 => simp; omega
      intro p' w5 hown' hgrow _ hat
      have owp7 := owp6.more rfl hown'
      have HB7 : Below w.heap.size w w5 := HB6.grown hgrow (by simp; omega) (fun k hk => by have := (PB.out k hk).1; omega)
      have q_7 : Cs w5 (w.heap.size + 1) [.int .i64 0, .int .i64 0, .int .i64 0] := (q_4.alloc _).grown hgrow (fun e => by have := (PB.out _ e.symm).1; omega)
      have s_7 : Cs w5 (w.heap.size + 2) [.int .i64 0, .int .i64 0, .int .i64 0] := (s_4.alloc _).grown hgrow (fun e => by have := (PB.out _ e.symm).1; omega)
      have own7 := own6.kept hgrow ap4.symm.kept
      have ap7 : Apart o' p' := (ap4.symm.turned hat (fun b hb => by have := (OB.out b hb).2; simp; omega)).symm
      have owp8 : Owns w5 (w.heap.size + 3) 23 3 p' (Y (j + 1)) := by rw [HT.out]; exact owp7
      clear owp7 owp6 own6 hown' hgrow HT HB6 q_4 s_4 c_4 hat ap4 OB PB c4 c5 c6 cz
      go_wp2
      go_roundw
      case rel => exact ⟨j + 1, _, _, rfl, rfl, by go_num, by omega, own7, owp8, ap7, q_7, s_7, HB7⟩
      case measure => simp [intOf]; omega
    · obtain rfl : j = zs.length := by omega
      rw [HX.out.all] at own
      rw [HY.out.all] at owp
      have rd := own.vecs
      have re := owp.vecs
      obtain ⟨xs, hxs⟩ : ∃ xs, xs = zs.map Ct.rq := ⟨_, rfl⟩
      obtain ⟨ys, hys⟩ : ∃ ys, ys = zs.map Ct.li := ⟨_, rfl⟩
      rw [← hxs] at rd HR
      rw [← hys] at re HR
      obtain ⟨a', cap', rfl, -⟩ := id rd
      obtain ⟨b', cbp', rfl, -⟩ := id re
      have RD : Hid (RdV wr (.slice a' xs.length cap') xs) := rd
      have RE : Hid (RdV wr (.slice b' ys.length cbp') ys) := re
      clear rd re cj jl own owp ol pl hxs hys ap
      go_wp2_with (fail)
      refine (refSum_any _ RD.out).mono ?_
      rintro e w2 ⟨rfl, hw2⟩
      have r2 := Cs.later hw2 q_r
      have s2 := Cs.later hw2 q_s
      have RE2 : Hid (RdV w2 (.slice b' ys.length cbp') ys) := RE.out.later hw2
      have HB2 : Below w.heap.size w w2 := HB.trans (hw2.mono HB.size)
      clear hw2 HB q_r q_s RD RE
      have rz : w.heap.size + 2 < w2.heap.size := s2.2.2
      obtain ⟨u1, u2, u3, g, hu⟩ := vo_ex (sumL (0, 0, 0) xs)
      rw [hu]
      have HU : Hid (vo (sumL (0, 0, 0) xs) = .tuple #[.agg #[.int .i64 u1, .int .i64 u2, .int .i64 u3], .bool g]) := hu
      clear hu
      go_wp2_with (fail)
      refine (refSum_any _ (RE2.out.later ((Below.refl _ _).alloc (Nat.le_refl _) _))).mono ?_
      rintro e w3 ⟨rfl, hw3⟩
      have HBw3 : Below w.heap.size w w3 := Below.trans (by go_grown) (hw3.mono (by first | omega | (simp; done) | (simp; omega)))
      have p_ca : Cs w3 (w2.heap.size) [.int .i64 u1, .int .i64 u2, .int .i64 u3] := Cs.later hw3 (by repeat (first | assumption | (refine Cs.new _ _ _ _ ?_; simp; done) | refine Cs.alloc ?_ _ | refine Cs.drew ?_ | (refine Cs.beside ?_ _ _ (by omega))))
      have p_cb : Cs w3 (w.heap.size + 1) [.int .i64 0, .int .i64 0, .int .i64 0] := Cs.later hw3 (by repeat (first | assumption | (refine Cs.new _ _ _ _ ?_; simp; done) | refine Cs.alloc ?_ _ | refine Cs.drew ?_ | (refine Cs.beside ?_ _ _ (by omega))))
      have p_cc : Cs w3 (w.heap.size + 2) [.int .i64 0, .int .i64 0, .int .i64 0] := Cs.later hw3 (by repeat (first | assumption | (refine Cs.new _ _ _ _ ?_; simp; done) | refine Cs.alloc ?_ _ | refine Cs.drew ?_ | (refine Cs.beside ?_ _ _ (by omega))))
      have q_ca := p_ca
      have ca0 : w3.cell? ⟨w2.heap.size, 0, none⟩ = some (.int .i64 u1) := p_ca.1 0 _ rfl
      have ca1 : w3.cell? ⟨w2.heap.size, 1, none⟩ = some (.int .i64 u2) := p_ca.1 1 _ rfl
      have ca2 : w3.cell? ⟨w2.heap.size, 2, none⟩ = some (.int .i64 u3) := p_ca.1 2 _ rfl
      have caz : w2.heap.size < w3.heap.size := p_ca.2.2
      clear p_ca
      have q_cb := p_cb
      have cb0 : w3.cell? ⟨w.heap.size + 1, 0, none⟩ = some (.int .i64 0) := p_cb.1 0 _ rfl
      have cbF0 : w3.frozen? ⟨w.heap.size + 1, 0, none⟩ = false := p_cb.2.1 0 (by simp)
      have cb1 : w3.cell? ⟨w.heap.size + 1, 1, none⟩ = some (.int .i64 0) := p_cb.1 1 _ rfl
      have cbF1 : w3.frozen? ⟨w.heap.size + 1, 1, none⟩ = false := p_cb.2.1 1 (by simp)
      have cb2 : w3.cell? ⟨w.heap.size + 1, 2, none⟩ = some (.int .i64 0) := p_cb.1 2 _ rfl
      have cbF2 : w3.frozen? ⟨w.heap.size + 1, 2, none⟩ = false := p_cb.2.1 2 (by simp)
      have cbz : w.heap.size + 1 < w3.heap.size := p_cb.2.2
      clear p_cb
      have q_cc := p_cc
      have cc0 : w3.cell? ⟨w.heap.size + 2, 0, none⟩ = some (.int .i64 0) := p_cc.1 0 _ rfl
      have ccF0 : w3.frozen? ⟨w.heap.size + 2, 0, none⟩ = false := p_cc.2.1 0 (by simp)
      have cc1 : w3.cell? ⟨w.heap.size + 2, 1, none⟩ = some (.int .i64 0) := p_cc.1 1 _ rfl
      have ccF1 : w3.frozen? ⟨w.heap.size + 2, 1, none⟩ = false := p_cc.2.1 1 (by simp)
      have cc2 : w3.cell? ⟨w.heap.size + 2, 2, none⟩ = some (.int .i64 0) := p_cc.1 2 _ rfl
      have ccF2 : w3.frozen? ⟨w.heap.size + 2, 2, none⟩ = false := p_cc.2.1 2 (by simp)
      have ccz : w.heap.size + 2 < w3.heap.size := p_cc.2.2
      clear p_cc
      have hsw3 := hw3.size
      (try simp at hsw3)
      clear hw3
      obtain ⟨v1, v2, v3, k, hv⟩ := vo_ex (sumL (0, 0, 0) ys)
      rw [hv]
      have X' : Hid (R = .tuple #[.agg #[.int .i64 u1, .int .i64 u2, .int .i64 u3], .agg #[.int .i64 v1, .int .i64 v2, .int .i64 v3], .bool (g && k)]) := by
        unfold Hid
        have e1 := HU.out
        rw [HR.out]
        unfold vo2
        unfold vo at e1 hv
        injection e1 with e1
        injection hv with e2
        injection e1 with e1
        injection e2 with e2
        simp only [List.cons.injEq, and_true, Value.bool.injEq] at e1 e2
        rw [e1.1, e2.1, e1.2, e2.2]
      clear hv HR HU
      go_upto_region 10 with (fail)
      go_cut [4] (fun s4 wc => s4 = .bool (g && k) ∧ Cs wc (w.heap.size + 1) [.int .i64 u1, .int .i64 u2, .int .i64 u3] ∧ Cs wc (w.heap.size + 2) [.int .i64 v1, .int .i64 v2, .int .i64 v3] ∧ Below w.heap.size w wc)
      case first =>
        cases g
        all_goals
          go_region
          all_goals
            go_wp2_with (fail)
            go_meet
            case rel =>
              refine ⟨rfl, ?_, ?_, by go_grown⟩
              · refine Cs.drew (Cs.alloc ?_ _)
                refine Cs.beside (Cs.beside (Cs.beside ?_ _ _ (by omega)) _ _ (by omega)) _ _ (by omega)
                exact Cs.puts3 q_cb _ _ _
              · refine Cs.drew (Cs.alloc ?_ _)
                refine Cs.puts3 (u := .int .i64 0) (v := .int .i64 0) (x := .int .i64 0) ?_ _ _ _
                refine Cs.beside (Cs.beside (Cs.beside ?_ _ _ (by omega)) _ _ (by omega)) _ _ (by omega)
                exact q_cc
      case rest =>
        clear q_ca ca0 ca1 ca2 caz q_cb cb0 cb1 cb2 cbF0 cbF1 cbF2 cbz q_cc cc0 cc1 cc2 ccF0 ccF1 ccF2 ccz HBw3 hsw3
        obtain ⟨rfl, d_b, d_c, HB3⟩ := hcut
        have r0 : wc.cell? ⟨w.heap.size + 1, 0, none⟩ = some (.int .i64 u1) := d_b.1 0 _ rfl
        have r1 : wc.cell? ⟨w.heap.size + 1, 1, none⟩ = some (.int .i64 u2) := d_b.1 1 _ rfl
        have r2 : wc.cell? ⟨w.heap.size + 1, 2, none⟩ = some (.int .i64 u3) := d_b.1 2 _ rfl
        have s0 : wc.cell? ⟨w.heap.size + 2, 0, none⟩ = some (.int .i64 v1) := d_c.1 0 _ rfl
        have s1 : wc.cell? ⟨w.heap.size + 2, 1, none⟩ = some (.int .i64 v2) := d_c.1 1 _ rfl
        have s2 : wc.cell? ⟨w.heap.size + 2, 2, none⟩ = some (.int .i64 v3) := d_c.1 2 _ rfl
        have rz := d_b.2.2
        have sz := d_c.2.2
        go_wp2
        refine bodyPost_ret (v := .tuple #[.agg #[.int .i64 u1, .int .i64 u2, .int .i64 u3], .agg #[.int .i64 v1, .int .i64 v2, .int .i64 v3], .bool (g && k)]) (by simp [results, Tryd.results35, go_sem, r0, r1, r2, s0, s1, s2]) rfl ?_
        exact ⟨by rw [X'.out], HB3⟩

set_option maxHeartbeats 1000000 in
set_option maxRecDepth 100000 in
theorem requestsP_is {v : Value} {zs : List Ct}
    (pn : ByteArray) (pr po : Int) (w : World) (hL : LaidS w) (h : RdC w v zs) (hz : zs.length ≤ 100000) :
    Calls Tryd.prog 33 #[.agg #[.string pn, .int .i64 pr, .int .i64 po, v]] w fun e w' => e = .returned (vv ((sumL (0, 0, 0) (zs.map Ct.rq)).getD (0, 0, 0))) ∧ Below w.heap.size w w' := by
  obtain ⟨R, hR⟩ : ∃ R, R = vv ((sumL (0, 0, 0) (zs.map Ct.rq)).getD (0, 0, 0)) := ⟨_, rfl⟩
  rw [← hR]
  have HR : Hid (R = vv ((sumL (0, 0, 0) (zs.map Ct.rq)).getD (0, 0, 0))) := hR
  have HL : Hid (LaidS w) := hL
  have HZ : Hid (RdC w v zs) := h
  clear hR hL h
  obtain ⟨a, cap, rfl, -⟩ := id HZ.out
  go_enter Tryd.func33, Tryd.ntmps33
  go_wp2_with (fail)
  refine (sum_rq pn pr po _ ((HL.out.alloc _).alloc _) ((HZ.out.alloc _).alloc _) hz).mono ?_
  rintro e w1 ⟨rfl, hw1⟩
  have HBw1 : Below w.heap.size w w1 := Below.trans (by go_grown) (hw1.mono (by first | omega | (simp; done) | (simp; omega)))
  have p_cb : Cs w1 (w.heap.size + 1) [.int .i64 0, .int .i64 0, .int .i64 0] := Cs.later hw1 (by repeat (first | assumption | (refine Cs.new _ _ _ _ ?_; simp; done) | refine Cs.alloc ?_ _ | refine Cs.drew ?_ | (refine Cs.beside ?_ _ _ (by omega))))
  have q_cb := p_cb
  have cb0 : w1.cell? ⟨w.heap.size + 1, 0, none⟩ = some (.int .i64 0) := p_cb.1 0 _ rfl
  have cbF0 : w1.frozen? ⟨w.heap.size + 1, 0, none⟩ = false := p_cb.2.1 0 (by simp)
  have cb1 : w1.cell? ⟨w.heap.size + 1, 1, none⟩ = some (.int .i64 0) := p_cb.1 1 _ rfl
  have cbF1 : w1.frozen? ⟨w.heap.size + 1, 1, none⟩ = false := p_cb.2.1 1 (by simp)
  have cb2 : w1.cell? ⟨w.heap.size + 1, 2, none⟩ = some (.int .i64 0) := p_cb.1 2 _ rfl
  have cbF2 : w1.frozen? ⟨w.heap.size + 1, 2, none⟩ = false := p_cb.2.1 2 (by simp)
  have cbz : w.heap.size + 1 < w1.heap.size := p_cb.2.2
  clear p_cb
  have hsw1 := hw1.size
  (try simp at hsw1)
  clear hw1
  obtain ⟨u1, u2, u3, g, hu⟩ := vo_ex (sumL (0, 0, 0) (zs.map Ct.rq))
  rw [hu]
  have X' : Hid (R = .agg #[.int .i64 u1, .int .i64 u2, .int .i64 u3]) := by
    unfold Hid
    rw [HR.out]
    unfold vo at hu
    injection hu with hu
    injection hu with hu
    simp only [List.cons.injEq, and_true, Value.bool.injEq] at hu
    exact hu.1
  clear hu HR
  go_wp2
  refine bodyPost_ret (v := .agg #[.int .i64 u1, .int .i64 u2, .int .i64 u3]) (by simp [results, Tryd.results33, go_sem, cb0, cb1, cb2, cbz]) rfl ?_
  exact ⟨by rw [X'.out], by go_grown⟩

end Go.Proofs.YtaeejemknmjglaaDoor.Sp
