/-
  Who is restarted at this program: package spec's own. Conditions: the containers read as lists, a hundred thousand at the most.
-/
import Derived.Test.YtfgbppngnafpoaaDoorPP
import Derived.WalkMore
import Derived.Deep.LoopGhost
namespace Go.Proofs.YtfgbppngnafpoaaDoor.Sp
open Go.RowKit

theorem strInfo : (Tryd.prog.info? 9).map (fun i => (i.zero, i.size, i.bytes)) = some (some (.string ⟨#[]⟩), 1, 16) := by kernel_rfl
/-- Who is told behind so many. -/
structure Rsts (zs ys : List Ct) (N : Nat → List (List Value)) : Prop where
  zero : N 0 = []
  yes : ∀ (j : Nat) (c : Ct), zs[j]? = some c → rstB ys c = true → N (j + 1) = N j ++ [ls c.n]
  no : ∀ (j : Nat) (c : Ct), zs[j]? = some c → rstB ys c = false → N (j + 1) = N j
  len : ∀ j, (N j).length ≤ j
  all : N zs.length = (rstL zs ys).map ls
theorem rsts_ex (zs ys : List Ct) : ∃ N, Rsts zs ys N := by
  refine ⟨fun j => (rstL (zs.take j) ys).map ls, rfl, fun j c h k => ?_, fun j c h k => ?_, fun j => ?_, by simp only [List.take_length]⟩
  · simp only [rst_take h, if_pos k, List.map_append]; rfl
  · simp only [rst_take h]; rw [if_neg (by rw [k]; exact Bool.false_ne_true)]
  · simp only [List.length_map]
    unfold rstL
    rw [List.length_map]
    exact Nat.le_trans (List.length_filter_le _ _) (by rw [List.length_take]; omega)
theorem news_s {W : World} {T : TypeId} {p : Addr} {s : ByteArray} (e : p = ⟨W.heap.size, 0, none⟩) : ∀ (j : Nat) (u : Value), (ls s)[j]? = some u → (W.alloc (.cells #[.string s] T)).cell? (p.add j) = some u := by
  subst e
  intro j u hj
  match j, hj with
  | 0, hj => injection hj with hj; subst hj; simp [Addr.add, go_sem]
theorem ls_one {s : ByteArray} : ∀ u ∈ ls s, u.oneCell' = true := by
  intro u hu; simp [ls] at hu; rw [hu]; rfl

set_option maxHeartbeats 2000000 in
set_option maxRecDepth 100000 in
theorem restarts_is {v u : Value} {zs ys : List Ct} (pn : ByteArray) (pr po : Int) (qn : ByteArray) (qr qo : Int) (w : World) (h : RdC w v zs) (k : RdC w u ys) (hz : zs.length ≤ 100000) :
    Calls Tryd.prog 27 #[.agg #[.string pn, .int .i64 pr, .int .i64 po, v], .agg #[.string qn, .int .i64 qr, .int .i64 qo, u]] w fun e w' => ∃ v', e = .returned v' ∧ RdS w' v' (rstL zs ys) ∧ Below w.heap.size w w' := by
  obtain ⟨N, hN⟩ := rsts_ex zs ys
  have NN : Hid (Rsts zs ys N) := hN
  clear hN
  have HZ : Hid (RdC w v zs) := h
  have HY : Hid (RdC w u ys) := k
  obtain ⟨a, cap, rfl, h1, h2, h3⟩ := h
  have H3 : Hid (∀ (j : Nat) (c : Ct), zs[j]? = some c → c.n.size ≤ maxLen ∧ ∃ b off : Nat, a = some ⟨b, off, none⟩ ∧ Ten w b (off + j * 10) c) := h3
  obtain ⟨a1, cap1, rfl, k1, k2, k3⟩ := k
  clear h3 k3 k1 k2
  have zl : zs.length ≤ maxLen := by omega
  unfold maxLen at zl
  obtain ⟨i0, hi, hz0, hz1, hz2⟩ := info_parts strInfo
  obtain ⟨cl, hcl⟩ : ∃ cl, cl = chgL zs ys := ⟨_, rfl⟩
  have CL : Hid (cl = chgL zs ys) := hcl
  have cll : cl.length = zs.length := by rw [hcl]; unfold chgL; rw [List.length_map]
  have CLL : Hid (cl.length = zs.length) := cll
  clear hcl cll
  go_enter Tryd.func27, Tryd.ntmps27
  go_wp2
  go_step3
  go_wp2
  go_step3
  go_wp2_with (fail)
  refine (changed_is pn pr po qn qr qo _ ((HZ.out.alloc _).alloc _) ((HY.out.alloc _).alloc _) hz).mono ?_
  rintro e w1 ⟨v1, rfl, hrd, hw1⟩
  rw [← CL.out] at hrd
  obtain ⟨a2, cap2, rfl, r1, r2, r3⟩ := id hrd
  have R3 : Hid (∀ (j : Nat) (d : Bool × Bool × Bool), cl[j]? = some d → ∃ b off : Nat, a2 = some ⟨b, off, none⟩ ∧ w1.cell? ⟨b, off + j * 3, none⟩ = some (.bool d.1) ∧ w1.cell? ⟨b, off + j * 3 + 1, none⟩ = some (.bool d.2.1) ∧ w1.cell? ⟨b, off + j * 3 + 2, none⟩ = some (.bool d.2.2)) := r3
  have HB1 : Below w.heap.size w w1 := Below.trans (show Below w.heap.size w _ by go_grown) (hw1.mono (by simp; omega))
  have q_p : Cs w1 w.heap.size [.string pn, .int .i64 pr, .int .i64 po, .slice a zs.length cap] := Cs.later hw1 (by repeat (first | assumption | (refine Cs.new _ _ _ _ ?_; simp; done) | refine Cs.alloc ?_ _ | refine Cs.drew ?_ | (refine Cs.beside ?_ _ _ (by omega))))
  rw [CLL.out]
  clear hrd r3 hw1
  have hs1 := HB1.size
  go_wp2
  go_loopg [5, 15] zs.length (fun g s5 f wr => ∃ (j : Nat) (o : Value), j + g = zs.length ∧ o = s5 ∧ f = .int .i64 j ∧ j ≤ zs.length ∧ Owns wr w1.heap.size 9 1 o (N j) ∧ Below w1.heap.size w1 wr)
  case atStart => exact ⟨0, _, by omega, rfl, rfl, by omega, by rw [NN.out.zero]; exact Owns.nil _ _ _ _, Below.refl _ _⟩
  case round =>
    obtain ⟨j, o, hjg, rfl, rfl, jl, own, HB⟩ := hrel
    obtain ⟨wo, rfl⟩ : ∃ wo, wo = wr := ⟨_, rfl⟩
    have hs := HB.size
    have HBw : Hid (Below w.heap.size w wo) := HB1.trans (HB.mono hs1)
    have p3 : wo.cell? ⟨w.heap.size, 3, none⟩ = some (.slice a zs.length cap) := cell_later HB (q_p.1 3 _ rfl)
    have pz : w.heap.size < wo.heap.size := Nat.lt_of_lt_of_le q_p.2.2 hs
    by_cases cj : j < zs.length
    · obtain ⟨g, rfl⟩ : ∃ g, gk = g + 1 := ⟨gk - 1, by omega⟩
      obtain ⟨⟨m, rc, rm, rh, lc, lm, lh, x, y, z⟩, hdj⟩ : ∃ d, zs[j]? = some d := ⟨zs[j], List.getElem?_eq_getElem cj⟩
      obtain ⟨-, b, off, rfl, T⟩ := H3.out j _ hdj
      obtain ⟨c0, c1, c2, c3, c4, c5, c6, c7, c8, c9⟩ := T.later HBw.out
      simp only at c0 c1 c2 c3 c4 c5 c6 c7 c8 c9
      have bz : b < wo.heap.size := by have := World.block_lt_of_cell? _ _ c0; simpa using this
      obtain ⟨⟨e0, e1, e2⟩, he⟩ : ∃ e, e = chgOf ys ⟨m, rc, rm, rh, lc, lm, lh, x, y, z⟩ := ⟨_, rfl⟩
      have hcj : cl[j]? = some (e0, e1, e2) := by rw [CL.out]; unfold chgL; rw [List.getElem?_map, hdj, he]; rfl
      obtain ⟨b2, off2, rfl, g0, g1, g2⟩ := R3.out j _ hcj
      have g0 := cell_later HB g0
      have g1 := cell_later HB g1
      have g2 := cell_later HB g2
      simp only at g0 g1 g2
      have RB : Hid (rstB ys ⟨m, rc, rm, rh, lc, lm, lh, x, y, z⟩ = ((e0 && x) || ((e1 && y) || (e2 && z)))) := by
        unfold Hid rstB
        rw [← he]
      have NY : Hid (rstB ys ⟨m, rc, rm, rh, lc, lm, lh, x, y, z⟩ = true → N (j + 1) = N j ++ [ls m]) := NN.out.yes j _ hdj
      have NO : Hid (rstB ys ⟨m, rc, rm, rh, lc, lm, lh, x, y, z⟩ = false → N (j + 1) = N j) := NN.out.no j _ hdj
      have NL : Hid ((N j).length ≤ j) := NN.out.len j
      have j0 : (0 : Int) ≤ (j : Int) := by omega
      have j1 : (j : Int) < (zs.length : Int) := by omega
      have l0 : Hid (Cs ((wo.alloc (.cells #[.bool e0, .bool e1, .bool e2] 24)).alloc (.cells #[.string m, .int .i64 rc, .int .i64 rm, .int .i64 rh, .int .i64 lc, .int .i64 lm, .int .i64 lh, .bool x, .bool y, .bool z] 26)) wo.heap.size [.bool e0, .bool e1, .bool e2]) := (by repeat (first | assumption | (refine Cs.new _ _ _ _ ?_; simp; done) | refine Cs.alloc ?_ _ | refine Cs.drew ?_ | (refine Cs.beside ?_ _ _ (by omega))))
      have l1 : Hid (Cs ((wo.alloc (.cells #[.bool e0, .bool e1, .bool e2] 24)).alloc (.cells #[.string m, .int .i64 rc, .int .i64 rm, .int .i64 rh, .int .i64 lc, .int .i64 lm, .int .i64 lh, .bool x, .bool y, .bool z] 26)) (wo.heap.size + 1) [.string m, .int .i64 rc, .int .i64 rm, .int .i64 rh, .int .i64 lc, .int .i64 lm, .int .i64 lh, .bool x, .bool y, .bool z]) := (by repeat (first | assumption | (refine Cs.new _ _ _ _ ?_; simp; done) | refine Cs.alloc ?_ _ | refine Cs.drew ?_ | (refine Cs.beside ?_ _ _ (by omega))))
      have own1 := (own.alloc (.cells #[.bool e0, .bool e1, .bool e2] 24)).alloc (.cells #[.string m, .int .i64 rc, .int .i64 rm, .int .i64 rh, .int .i64 lc, .int .i64 lm, .int .i64 lh, .bool x, .bool y, .bool z] 26)
      have HB2 : Hid (Below w1.heap.size w1 ((wo.alloc (.cells #[.bool e0, .bool e1, .bool e2] 24)).alloc (.cells #[.string m, .int .i64 rc, .int .i64 rm, .int .i64 rh, .int .i64 lc, .int .i64 lm, .int .i64 lh, .bool x, .bool y, .bool z] 26))) := ((HB.alloc hs _).alloc (by simp; omega) _)
      have s2 : w1.heap.size ≤ ((wo.alloc (.cells #[.bool e0, .bool e1, .bool e2] 24)).alloc (.cells #[.string m, .int .i64 rc, .int .i64 rm, .int .i64 rh, .int .i64 lc, .int .i64 lm, .int .i64 lh, .bool x, .bool y, .bool z] 26)).heap.size := by simp; omega
      clear T hdj he hcj own
      go_wp2
      clear c0 c1 c2 c3 c4 c5 c6 c7 c8 c9 g0 g1 g2 p3
      generalize (wo.alloc (.cells #[.bool e0, .bool e1, .bool e2] 24)).alloc (.cells #[.string m, .int .i64 rc, .int .i64 rm, .int .i64 rh, .int .i64 lc, .int .i64 lm, .int .i64 lh, .bool x, .bool y, .bool z] 26) = W2 at *
      go_loopg [5, 27] 3 (fun g2 s5 f wt => ∃ (r : Nat) (q : Int), r + g2 = 3 ∧ o = s5 ∧ f = .int .i64 q ∧ q = r ∧ r ≤ 3 ∧ Hid ((0 < r → (e0 && x) = false) ∧ (1 < r → (e1 && y) = false) ∧ (2 < r → (e2 && z) = false)) ∧ wt = W2)
      case atStart => exact ⟨0, _, rfl, rfl, rfl, rfl, by omega, ⟨by omega, by omega, by omega⟩, rfl⟩
      case round =>
        obtain ⟨r, q, hrg, rfl, rfl, hq, rl, HQ, rfl⟩ := hrel
        have k0 : wr.cell? ⟨wo.heap.size, 0, none⟩ = some (.bool e0) := l0.out.1 0 _ rfl
        have k1 : wr.cell? ⟨wo.heap.size, 1, none⟩ = some (.bool e1) := l0.out.1 1 _ rfl
        have k2 : wr.cell? ⟨wo.heap.size, 2, none⟩ = some (.bool e2) := l0.out.1 2 _ rfl
        have n0 : wr.cell? ⟨wo.heap.size + 1, 0, none⟩ = some (.string m) := l1.out.1 0 _ rfl
        rcases (show r = 0 ∨ r = 1 ∨ r = 2 ∨ r = 3 by omega) with rfl | rfl | rfl | rfl
        · obtain rfl : q = 0 := hq
          obtain rfl : gk = 3 := by omega
          have ix : ∀ w : World, (Instr.index 24 (.agg #[.bool x, .bool y, .bool z]) (.int .i64 0)).run Tryd.prog w = .ok (.bool x) w := bix0 x y z
          have HN : Hid ((e0 && x) = false → Hid ((0 < 1 → (e0 && x) = false) ∧ (1 < 1 → (e1 && y) = false) ∧ (2 < 1 → (e2 && z) = false))) := fun h => ⟨fun _ => h, by omega, by omega⟩
          have HM : Hid ((e0 && x) = true → N (j + 1) = N j ++ [ls m]) := fun h => NY.out (by rw [RB.out, h]; simp)
          cases x with
          | false =>
            have HQ' := HN.out (by simp)
            go_wp2
            go_roundg 2
            case measure => omega
            case rel => exact ⟨1, _, by omega, rfl, by go_num, rfl, by omega, HQ', rfl⟩
          | true =>
            cases e0 with
            | false =>
              have HQ' := HN.out rfl
              go_wp2
              go_roundg 2
              case measure => omega
              case rel => exact ⟨1, _, by omega, rfl, by go_num, rfl, by omega, HQ', rfl⟩
            | true =>
              have HM' : Hid (N (j + 1) = N j ++ [ls m]) := HM.out rfl
              have OB : Hid (∀ k, o.ownBlock = some k → w1.heap.size ≤ k) := fun k hk => own1.ge k hk
              have own3 := own1.alloc (.cells #[.string m] 9)
              have HB3 : Below w1.heap.size w1 (wr.alloc (.cells #[.string m] 9)) := HB2.out.alloc s2 _
              clear HN HM HQ NY NO RB l0 l1 own1
              go_wp2_with (first
                | (at_builtin; refine wpList_append_own _ rfl _ _ 45 rfl w1.heap.size 9 i0 (.string ⟨#[]⟩) 1 16 Tryd.underlying45 hi hz0 hz1 hz2 rfl (by decide) _ _ _ rfl own3.2 ⟨wr.heap.size, 0, none⟩ 1 1 (ls m) rfl rfl (news_s rfl) ls_one ?c3 ?c4 ?c5 ?_)
                | fail)
              case c3 => have := NL.out; unfold maxLen; omega
              case c4 => have := NL.out; omega
              case c5 => first | omega | (simp; omega)
              intro o' w4 hown' hgrow _
              have own4 := own3.more rfl hown'
              have HB4 : Below w1.heap.size w1 w4 := HB3.grown hgrow (by simp; omega) (fun k hk => OB.out k hk)
              have own5 : Owns w4 w1.heap.size 9 1 o' (N (j + 1)) := by rw [HM'.out]; exact own4
              clear own4 own3 hown' hgrow HM' OB HB3 k0 k1 k2 n0 HB2 s2
              go_wp2
              go_roundg g
              case measure => omega
              case rel => exact ⟨j + 1, _, by omega, rfl, by go_num, by omega, own5, HB4⟩
        · obtain rfl : q = 1 := hq
          obtain rfl : gk = 2 := by omega
          have ix : ∀ w : World, (Instr.index 24 (.agg #[.bool x, .bool y, .bool z]) (.int .i64 1)).run Tryd.prog w = .ok (.bool y) w := bix1 x y z
          have HN : Hid ((e1 && y) = false → Hid ((0 < 2 → (e0 && x) = false) ∧ (1 < 2 → (e1 && y) = false) ∧ (2 < 2 → (e2 && z) = false))) := fun h => ⟨fun _ => HQ.out.1 (by omega), fun _ => h, by omega⟩
          have HM : Hid ((e1 && y) = true → N (j + 1) = N j ++ [ls m]) := fun h => NY.out (by rw [RB.out, h]; simp)
          cases y with
          | false =>
            have HQ' := HN.out (by simp)
            go_wp2
            go_roundg 1
            case measure => omega
            case rel => exact ⟨2, _, by omega, rfl, by go_num, rfl, by omega, HQ', rfl⟩
          | true =>
            cases e1 with
            | false =>
              have HQ' := HN.out rfl
              go_wp2
              go_roundg 1
              case measure => omega
              case rel => exact ⟨2, _, by omega, rfl, by go_num, rfl, by omega, HQ', rfl⟩
            | true =>
              have HM' : Hid (N (j + 1) = N j ++ [ls m]) := HM.out rfl
              have OB : Hid (∀ k, o.ownBlock = some k → w1.heap.size ≤ k) := fun k hk => own1.ge k hk
              have own3 := own1.alloc (.cells #[.string m] 9)
              have HB3 : Below w1.heap.size w1 (wr.alloc (.cells #[.string m] 9)) := HB2.out.alloc s2 _
              clear HN HM HQ NY NO RB l0 l1 own1
              go_wp2_with (first
                | (at_builtin; refine wpList_append_own _ rfl _ _ 45 rfl w1.heap.size 9 i0 (.string ⟨#[]⟩) 1 16 Tryd.underlying45 hi hz0 hz1 hz2 rfl (by decide) _ _ _ rfl own3.2 ⟨wr.heap.size, 0, none⟩ 1 1 (ls m) rfl rfl (news_s rfl) ls_one ?c3 ?c4 ?c5 ?_)
                | fail)
              case c3 => have := NL.out; unfold maxLen; omega
              case c4 => have := NL.out; omega
              case c5 => first | omega | (simp; omega)
              intro o' w4 hown' hgrow _
              have own4 := own3.more rfl hown'
              have HB4 : Below w1.heap.size w1 w4 := HB3.grown hgrow (by simp; omega) (fun k hk => OB.out k hk)
              have own5 : Owns w4 w1.heap.size 9 1 o' (N (j + 1)) := by rw [HM'.out]; exact own4
              clear own4 own3 hown' hgrow HM' OB HB3 k0 k1 k2 n0 HB2 s2
              go_wp2
              go_roundg g
              case measure => omega
              case rel => exact ⟨j + 1, _, by omega, rfl, by go_num, by omega, own5, HB4⟩
        · obtain rfl : q = 2 := hq
          obtain rfl : gk = 1 := by omega
          have ix : ∀ w : World, (Instr.index 24 (.agg #[.bool x, .bool y, .bool z]) (.int .i64 2)).run Tryd.prog w = .ok (.bool z) w := bix2 x y z
          have HN : Hid ((e2 && z) = false → Hid ((0 < 3 → (e0 && x) = false) ∧ (1 < 3 → (e1 && y) = false) ∧ (2 < 3 → (e2 && z) = false))) := fun h => ⟨fun _ => HQ.out.1 (by omega), fun _ => HQ.out.2.1 (by omega), fun _ => h⟩
          have HM : Hid ((e2 && z) = true → N (j + 1) = N j ++ [ls m]) := fun h => NY.out (by rw [RB.out, h]; simp)
          cases z with
          | false =>
            have HQ' := HN.out (by simp)
            go_wp2
            go_roundg 0
            case measure => omega
            case rel => exact ⟨3, _, by omega, rfl, by go_num, rfl, by omega, HQ', rfl⟩
          | true =>
            cases e2 with
            | false =>
              have HQ' := HN.out rfl
              go_wp2
              go_roundg 0
              case measure => omega
              case rel => exact ⟨3, _, by omega, rfl, by go_num, rfl, by omega, HQ', rfl⟩
            | true =>
              have HM' : Hid (N (j + 1) = N j ++ [ls m]) := HM.out rfl
              have OB : Hid (∀ k, o.ownBlock = some k → w1.heap.size ≤ k) := fun k hk => own1.ge k hk
              have own3 := own1.alloc (.cells #[.string m] 9)
              have HB3 : Below w1.heap.size w1 (wr.alloc (.cells #[.string m] 9)) := HB2.out.alloc s2 _
              clear HN HM HQ NY NO RB l0 l1 own1
              go_wp2_with (first
                | (at_builtin; refine wpList_append_own _ rfl _ _ 45 rfl w1.heap.size 9 i0 (.string ⟨#[]⟩) 1 16 Tryd.underlying45 hi hz0 hz1 hz2 rfl (by decide) _ _ _ rfl own3.2 ⟨wr.heap.size, 0, none⟩ 1 1 (ls m) rfl rfl (news_s rfl) ls_one ?c3 ?c4 ?c5 ?_)
                | fail)
              case c3 => have := NL.out; unfold maxLen; omega
              case c4 => have := NL.out; omega
              case c5 => first | omega | (simp; omega)
              intro o' w4 hown' hgrow _
              have own4 := own3.more rfl hown'
              have HB4 : Below w1.heap.size w1 w4 := HB3.grown hgrow (by simp; omega) (fun k hk => OB.out k hk)
              have own5 : Owns w4 w1.heap.size 9 1 o' (N (j + 1)) := by rw [HM'.out]; exact own4
              clear own4 own3 hown' hgrow HM' OB HB3 k0 k1 k2 n0 HB2 s2
              go_wp2
              go_roundg g
              case measure => omega
              case rel => exact ⟨j + 1, _, by omega, rfl, by go_num, by omega, own5, HB4⟩
        · obtain rfl : q = 3 := hq
          obtain rfl : gk = 0 := by omega
          have NX : Hid (N (j + 1) = N j) := NO.out (by rw [RB.out, HQ.out.1 (by omega), HQ.out.2.1 (by omega), HQ.out.2.2 (by omega)]; rfl)
          have own5 : Owns wr w1.heap.size 9 1 o (N (j + 1)) := by rw [NX.out]; exact own1
          have HB4 := HB2.out
          clear k0 k1 k2 n0 HQ NX NO NY RB own1 l0 l1 HB2
          go_wp2
          go_roundg g
          case measure => omega
          case rel => exact ⟨j + 1, _, by omega, rfl, by go_num, by omega, own5, HB4⟩
    · obtain rfl : j = zs.length := by omega
      rw [NN.out.all] at own
      have rd := own.texts
      obtain ⟨a', cap', rfl, -⟩ := id rd
      have RD : Hid (RdS wo (.slice a' (rstL zs ys).length cap') (rstL zs ys)) := rd
      clear rd own
      go_wp2
      (try rw [Exit.noGoto_ret])
      go_ret
      exact ⟨_, rfl, RD.out, HBw.out⟩

end Go.Proofs.YtfgbppngnafpoaaDoor.Sp
