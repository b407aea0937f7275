/-
  Sums over a pod's containers at this program: package spec's own. Conditions: the tables of the program lie as its text lays them; the containers read as a list, a hundred thousand at the most.
-/
import Derived.Test.YtaeejemknmjglaaDoorPH
import Derived.Test.YtaeejemknmjglaaDoorPJ
import Derived.Deep.CutRange
import Derived.Deep.DeepCutAuto
import Derived.Deep.CutBlock
namespace Go.Proofs.YtaeejemknmjglaaDoor.Sp
open Go.RowKit

theorem vo_ex (o : Option (Int × Int × Int)) : ∃ (x y z : Int) (g : Bool), vo o = .tuple #[.agg #[.int .i64 x, .int .i64 y, .int .i64 z], .bool g] := ⟨_, _, _, _, rfl⟩
theorem vo_bool {o : Option (Int × Int × Int)} {x y z : Int} {g : Bool} (h : vo o = .tuple #[.agg #[.int .i64 x, .int .i64 y, .int .i64 z], .bool g]) : o.isSome = g := by
  unfold vo at h
  injection h with h
  injection h with h
  simp only [List.cons.injEq, and_true, Value.bool.injEq] at h
  exact h.2
theorem vecInfo : (Tryd.prog.info? 23).map (fun i => (i.zero, i.size, i.bytes)) = some (some (.agg #[.int .i64 0, .int .i64 0, .int .i64 0]), 3, 24) := by kernel_rfl
/-- What is there behind so many, of whatever each one gives. -/
structure Run {α β : Type} (zs : List α) (f : α → β) (g : β → List Value) (X : Nat → List (List Value)) : Prop where
  zero : X 0 = []
  next : ∀ (j : Nat) (c : α), zs[j]? = some c → X (j + 1) = X j ++ [g (f c)]
  len : ∀ j, j ≤ zs.length → (X j).length = j
  all : X zs.length = (zs.map f).map g
theorem run_ex {α β : Type} (zs : List α) (f : α → β) (g : β → List Value) : ∃ X, Run zs f g X :=
  ⟨fun j => ((zs.take j).map f).map g, rfl, fun j c h => by simp only [List.take_add_one, h, List.map_append]; rfl, fun j h => by simp; omega, by simp only [List.take_length]⟩

set_option maxHeartbeats 1000000 in
theorem requests_is (n : ByteArray) (rc rm rh lc lm lh : Int) (x y z : Bool) (w : World) :
    Calls Tryd.prog 48 #[.agg #[.string n, .int .i64 rc, .int .i64 rm, .int .i64 rh, .int .i64 lc, .int .i64 lm, .int .i64 lh, .bool x, .bool y, .bool z]] w fun e w' => e = .returned (.agg #[.int .i64 rc, .int .i64 rm, .int .i64 rh]) ∧ Below w.heap.size w w' := by
  go_enter Tryd.func48, Tryd.ntmps48
  go_wp2
  go_returns
  exact ⟨rfl, by go_grown⟩

set_option maxHeartbeats 1000000 in
set_option maxRecDepth 100000 in
theorem sum_rq {v : Value} {zs : List Ct}
    (pn : ByteArray) (pr po : Int) (w : World) (hL : LaidS w) (h : RdC w v zs) (hz : zs.length ≤ 100000) :
    Calls Tryd.prog 47 #[.agg #[.string pn, .int .i64 pr, .int .i64 po, v], .func (.func 48) #[] #[]] w fun e w' => e = .returned (vo (sumL (0, 0, 0) (zs.map Ct.rq))) ∧ Below w.heap.size w w' := by
  obtain ⟨R, hR⟩ : ∃ R, R = vo (sumL (0, 0, 0) (zs.map Ct.rq)) := ⟨_, rfl⟩
  rw [← hR]
  have HR : Hid (R = vo (sumL (0, 0, 0) (zs.map Ct.rq))) := hR
  have HL : Hid (LaidS w) := hL
  clear hR hL
  obtain ⟨X, hX⟩ := run_ex zs Ct.rq vl
  have HX : Hid (Run zs Ct.rq vl X) := hX
  clear hX
  obtain ⟨a, cap, rfl, h1, h2, h3⟩ := h
  have H3 : Hid (∀ (j : Nat) (c : Ct), zs[j]? = some c → c.n.size ≤ maxLen ∧ ∃ b off : Nat, a = some ⟨b, off, none⟩ ∧ Ten w b (off + j * 10) c) := h3
  clear h3
  obtain ⟨i0, hi, hz0, hz1, hz2⟩ := info_parts vecInfo
  go_enter Tryd.func47, Tryd.ntmps47
  go_wp2_with (at_make; refine wpList_make_own _ rfl _ _ 70 rfl (w.heap.size + 2) 23 i0 (.agg #[.int .i64 0, .int .i64 0, .int .i64 0]) 3 Tryd.underlying70 hi hz0 hz1 _ _ _ zs.length rfl rfl rfl (by rw [hz2]; omega) (by unfold maxLen; omega) (by simp) ?_)
  intro w1 hown hgrow
  have HB1 : Below w.heap.size w w1 := Below.grown (show Below w.heap.size w _ by go_grown) hgrow (by simp; omega) (fun k hk => by cases hk)
  have o1 : Owns w1 (w.heap.size + 2) 23 3 (.slice (some ⟨w.heap.size + 2, 0, none⟩) 0 zs.length) [] := Owns.made (by simpa using hown) rfl
  have q_a : Cs w1 w.heap.size [.string pn, .int .i64 pr, .int .i64 po, .slice a zs.length cap] := Cs.grown (by repeat (first | assumption | (refine Cs.new _ _ _ _ ?_; simp; done) | refine Cs.alloc ?_ _ | refine Cs.drew ?_ | (refine Cs.beside ?_ _ _ (by omega)))) hgrow (fun e => by cases e)
  have q_r : Cs w1 (w.heap.size + 1) [.int .i64 0, .int .i64 0, .int .i64 0] := Cs.grown (by repeat (first | assumption | (refine Cs.new _ _ _ _ ?_; simp; done) | refine Cs.alloc ?_ _ | refine Cs.drew ?_ | (refine Cs.beside ?_ _ _ (by omega)))) hgrow (fun e => by cases e)
  have a3 : w1.cell? ⟨w.heap.size, 3, none⟩ = some (.slice a zs.length cap) := q_a.1 3 _ rfl
  clear hown hgrow
  go_wp2
  clear a3 q_a
  go_loopw [6, 16] (fun o f wr => ∃ j : Nat, f = .int .i64 j ∧ j ≤ zs.length ∧ Owns wr (w.heap.size + 2) 23 3 o (X j) ∧ Cs wr (w.heap.size + 1) [.int .i64 0, .int .i64 0, .int .i64 0] ∧ Below w.heap.size w wr) (fun _ f _ => zs.length - (intOf f).toNat)
  case atStart => exact ⟨0, rfl, by omega, by rw [HX.out.zero]; exact o1, q_r, HB1⟩
  case round =>
    clear o1 q_r HB1
    obtain ⟨j, rfl, jl, own, q_r, HB⟩ := hrel
    have hs := HB.size
    have rz : w.heap.size + 1 < wr.heap.size := q_r.2.2
    have ol : Hid ((X j).length = j) := HX.out.len j jl
    by_cases cj : j < zs.length
    · obtain ⟨⟨m, rc, rm, rh, lc, lm, lh, x, y, z⟩, hdj⟩ : ∃ d, zs[j]? = some d := ⟨zs[j], List.getElem?_eq_getElem cj⟩
      obtain ⟨-, b, off, rfl, T⟩ := H3.out j _ hdj
      have HS : Hid (X (j + 1) = X j ++ [vl (rc, rm, rh)]) := HX.out.next j _ hdj
      obtain ⟨c0, c1, c2, c3, c4, c5, c6, c7, c8, c9⟩ := T.later HB
      simp only at c0 c1 c2 c3 c4 c5 c6 c7 c8 c9
      have j0 : (0 : Int) ≤ (j : Int) := by omega
      have j1 : (j : Int) < (zs.length : Int) := by omega
      clear T hdj
      go_wp2_with (fail)
      refine (requests_is m rc rm rh lc lm lh x y z _).mono ?_
      rintro e w2 ⟨rfl, hw2⟩
      have own2 := (own.alloc (.cells #[.string m, .int .i64 rc, .int .i64 rm, .int .i64 rh, .int .i64 lc, .int .i64 lm, .int .i64 lh, .bool x, .bool y, .bool z] 26)).later hw2
      have r2 := Cs.later hw2 (q_r.alloc (.cells #[.string m, .int .i64 rc, .int .i64 rm, .int .i64 rh, .int .i64 lc, .int .i64 lm, .int .i64 lh, .bool x, .bool y, .bool z] 26))
      have HB2 : Below w.heap.size w w2 := Below.trans (show Below w.heap.size w _ by go_grown) (hw2.mono (by simp; omega))
      clear own q_r hw2 c0 c1 c2 c3 c4 c5 c6 c7 c8 c9 HB hs rz
      have hs := HB2.size
      have rz : w.heap.size + 1 < w2.heap.size := r2.2.2
      have own3 := own2.alloc (.cells #[.int .i64 rc, .int .i64 rm, .int .i64 rh] 23)
      go_wp2_with (first
        | (at_builtin; refine wpList_append_own _ rfl _ _ 70 rfl (w.heap.size + 2) 23 i0 (.agg #[.int .i64 0, .int .i64 0, .int .i64 0]) 3 24 Tryd.underlying70 hi hz0 hz1 hz2 rfl (by decide) _ _ _ rfl own3.2 ⟨w2.heap.size, 0, none⟩ 1 1 (vl (rc, rm, rh)) rfl rfl ?c1 ?c2 ?c3 ?c4 ?c5 ?_)
        | fail)
      case c1 =>
        intro j u hj
        match j, hj with
        | 0, hj => injection hj with hj; subst hj; simp [Addr.add, go_sem]
        | 1, hj => injection hj with hj; subst hj; simp [Addr.add, go_sem]
        | 2, hj => injection hj with hj; subst hj; simp [Addr.add, go_sem]
      case c2 => intro u hu; simp [vl] at hu; rcases hu with rfl | rfl | rfl <;> rfl
      case c3 => rw [ol.out]; unfold maxLen; omega
      case c4 => rw [ol.out]; omega
      case c5 => simp; omega
      · intro v' w4 hown' hgrow _
        have own4 := own3.more rfl hown'
        have HB4 : Below w.heap.size w w4 := (HB2.alloc HB2.size _).grown hgrow (by simp; omega) (fun k hk => by have := own3.ge k hk; omega)
        have q_4 : Cs w4 (w.heap.size + 1) [.int .i64 0, .int .i64 0, .int .i64 0] := Cs.grown (r2.alloc _) hgrow (fun e => by have := own3.ge _ e.symm; omega)
        have own5 : Owns w4 (w.heap.size + 2) 23 3 v' (X (j + 1)) := by rw [HS.out]; exact own4
        clear own4 own3 own2 hown' hgrow HS HB2 r2
        go_wp2
        go_roundw
        case rel => exact ⟨j + 1, by go_num, by omega, own5, q_4, HB4⟩
        case measure => simp [intOf]; omega
    · obtain rfl : j = zs.length := by omega
      rw [HX.out.all] at own
      have rd := own.vecs
      obtain ⟨ys, hys⟩ : ∃ ys, ys = zs.map Ct.rq := ⟨_, rfl⟩
      rw [← hys] at rd HR
      obtain ⟨a', cap', rfl, -⟩ := id rd
      have RD : Hid (RdV wr (.slice a' ys.length cap') ys) := rd
      clear rd cj jl own ol hys
      go_wp2_with (fail)
      refine (vsum_any _ (HL.out.later HB) RD.out).mono ?_
      rintro e w2 ⟨rfl, hw2⟩
      have r2 := Cs.later hw2 q_r
      have HB2 : Below w.heap.size w w2 := HB.trans (hw2.mono HB.size)
      clear hw2 HB q_r RD
      obtain ⟨u1, u2, u3, g, hu⟩ := vo_ex (sumL (0, 0, 0) ys)
      rw [hu]
      have X' : Hid (R = .tuple #[.agg #[.int .i64 u1, .int .i64 u2, .int .i64 u3], .bool g]) := by unfold Hid; rw [HR.out, hu]
      clear hu HR
      have r0 : w2.cell? ⟨w.heap.size + 1, 0, none⟩ = some (.int .i64 0) := r2.1 0 _ rfl
      have r1 : w2.cell? ⟨w.heap.size + 1, 1, none⟩ = some (.int .i64 0) := r2.1 1 _ rfl
      have r2' : w2.cell? ⟨w.heap.size + 1, 2, none⟩ = some (.int .i64 0) := r2.1 2 _ rfl
      have f0 : w2.frozen? ⟨w.heap.size + 1, 0, none⟩ = false := r2.2.1 0 (by decide)
      have f1 : w2.frozen? ⟨w.heap.size + 1, 1, none⟩ = false := r2.2.1 1 (by decide)
      have f2 : w2.frozen? ⟨w.heap.size + 1, 2, none⟩ = false := r2.2.1 2 (by decide)
      have rz := r2.2.2
      go_wp2
      refine bodyPost_ret (v := .tuple #[.agg #[.int .i64 u1, .int .i64 u2, .int .i64 u3], .bool g]) (by simp [results, Tryd.results47, go_sem, r0, r1, r2']) rfl ?_
      exact ⟨by rw [X'.out], by go_grown⟩

set_option maxHeartbeats 1000000 in
theorem limits_is (n : ByteArray) (rc rm rh lc lm lh : Int) (x y z : Bool) (w : World) :
    Calls Tryd.prog 49 #[.agg #[.string n, .int .i64 rc, .int .i64 rm, .int .i64 rh, .int .i64 lc, .int .i64 lm, .int .i64 lh, .bool x, .bool y, .bool z]] w fun e w' => e = .returned (.agg #[.int .i64 lc, .int .i64 lm, .int .i64 lh]) ∧ Below w.heap.size w w' := by
  go_enter Tryd.func49, Tryd.ntmps49
  go_wp2
  go_returns
  exact ⟨rfl, by go_grown⟩

set_option maxHeartbeats 1000000 in
set_option maxRecDepth 100000 in
theorem sum_li {v : Value} {zs : List Ct}
    (pn : ByteArray) (pr po : Int) (w : World) (hL : LaidS w) (h : RdC w v zs) (hz : zs.length ≤ 100000) :
    Calls Tryd.prog 47 #[.agg #[.string pn, .int .i64 pr, .int .i64 po, v], .func (.func 49) #[] #[]] w fun e w' => e = .returned (vo (sumL (0, 0, 0) (zs.map Ct.li))) ∧ Below w.heap.size w w' := by
  obtain ⟨R, hR⟩ : ∃ R, R = vo (sumL (0, 0, 0) (zs.map Ct.li)) := ⟨_, rfl⟩
  rw [← hR]
  have HR : Hid (R = vo (sumL (0, 0, 0) (zs.map Ct.li))) := hR
  have HL : Hid (LaidS w) := hL
  clear hR hL
  obtain ⟨X, hX⟩ := run_ex zs Ct.li vl
  have HX : Hid (Run zs Ct.li vl X) := hX
  clear hX
  obtain ⟨a, cap, rfl, h1, h2, h3⟩ := h
  have H3 : Hid (∀ (j : Nat) (c : Ct), zs[j]? = some c → c.n.size ≤ maxLen ∧ ∃ b off : Nat, a = some ⟨b, off, none⟩ ∧ Ten w b (off + j * 10) c) := h3
  clear h3
  obtain ⟨i0, hi, hz0, hz1, hz2⟩ := info_parts vecInfo
  go_enter Tryd.func47, Tryd.ntmps47
  go_wp2_with (at_make; refine wpList_make_own _ rfl _ _ 70 rfl (w.heap.size + 2) 23 i0 (.agg #[.int .i64 0, .int .i64 0, .int .i64 0]) 3 Tryd.underlying70 hi hz0 hz1 _ _ _ zs.length rfl rfl rfl (by rw [hz2]; omega) (by unfold maxLen; omega) (by simp) ?_)
  intro w1 hown hgrow
  have HB1 : Below w.heap.size w w1 := Below.grown (show Below w.heap.size w _ by go_grown) hgrow (by simp; omega) (fun k hk => by cases hk)
  have o1 : Owns w1 (w.heap.size + 2) 23 3 (.slice (some ⟨w.heap.size + 2, 0, none⟩) 0 zs.length) [] := Owns.made (by simpa using hown) rfl
  have q_a : Cs w1 w.heap.size [.string pn, .int .i64 pr, .int .i64 po, .slice a zs.length cap] := Cs.grown (by repeat (first | assumption | (refine Cs.new _ _ _ _ ?_; simp; done) | refine Cs.alloc ?_ _ | refine Cs.drew ?_ | (refine Cs.beside ?_ _ _ (by omega)))) hgrow (fun e => by cases e)
  have q_r : Cs w1 (w.heap.size + 1) [.int .i64 0, .int .i64 0, .int .i64 0] := Cs.grown (by repeat (first | assumption | (refine Cs.new _ _ _ _ ?_; simp; done) | refine Cs.alloc ?_ _ | refine Cs.drew ?_ | (refine Cs.beside ?_ _ _ (by omega)))) hgrow (fun e => by cases e)
  have a3 : w1.cell? ⟨w.heap.size, 3, none⟩ = some (.slice a zs.length cap) := q_a.1 3 _ rfl
  clear hown hgrow
  go_wp2
  clear a3 q_a
  go_loopw [6, 16] (fun o f wr => ∃ j : Nat, f = .int .i64 j ∧ j ≤ zs.length ∧ Owns wr (w.heap.size + 2) 23 3 o (X j) ∧ Cs wr (w.heap.size + 1) [.int .i64 0, .int .i64 0, .int .i64 0] ∧ Below w.heap.size w wr) (fun _ f _ => zs.length - (intOf f).toNat)
  case atStart => exact ⟨0, rfl, by omega, by rw [HX.out.zero]; exact o1, q_r, HB1⟩
  case round =>
    clear o1 q_r HB1
    obtain ⟨j, rfl, jl, own, q_r, HB⟩ := hrel
    have hs := HB.size
    have rz : w.heap.size + 1 < wr.heap.size := q_r.2.2
    have ol : Hid ((X j).length = j) := HX.out.len j jl
    by_cases cj : j < zs.length
    · obtain ⟨⟨m, rc, rm, rh, lc, lm, lh, x, y, z⟩, hdj⟩ : ∃ d, zs[j]? = some d := ⟨zs[j], List.getElem?_eq_getElem cj⟩
      obtain ⟨-, b, off, rfl, T⟩ := H3.out j _ hdj
      have HS : Hid (X (j + 1) = X j ++ [vl (lc, lm, lh)]) := HX.out.next j _ hdj
      obtain ⟨c0, c1, c2, c3, c4, c5, c6, c7, c8, c9⟩ := T.later HB
      simp only at c0 c1 c2 c3 c4 c5 c6 c7 c8 c9
      have j0 : (0 : Int) ≤ (j : Int) := by omega
      have j1 : (j : Int) < (zs.length : Int) := by omega
      clear T hdj
      go_wp2_with (fail)
      refine (limits_is m rc rm rh lc lm lh x y z _).mono ?_
      rintro e w2 ⟨rfl, hw2⟩
      have own2 := (own.alloc (.cells #[.string m, .int .i64 rc, .int .i64 rm, .int .i64 rh, .int .i64 lc, .int .i64 lm, .int .i64 lh, .bool x, .bool y, .bool z] 26)).later hw2
      have r2 := Cs.later hw2 (q_r.alloc (.cells #[.string m, .int .i64 rc, .int .i64 rm, .int .i64 rh, .int .i64 lc, .int .i64 lm, .int .i64 lh, .bool x, .bool y, .bool z] 26))
      have HB2 : Below w.heap.size w w2 := Below.trans (show Below w.heap.size w _ by go_grown) (hw2.mono (by simp; omega))
      clear own q_r hw2 c0 c1 c2 c3 c4 c5 c6 c7 c8 c9 HB hs rz
      have hs := HB2.size
      have rz : w.heap.size + 1 < w2.heap.size := r2.2.2
      have own3 := own2.alloc (.cells #[.int .i64 lc, .int .i64 lm, .int .i64 lh] 23)
      go_wp2_with (first
        | (at_builtin; refine wpList_append_own _ rfl _ _ 70 rfl (w.heap.size + 2) 23 i0 (.agg #[.int .i64 0, .int .i64 0, .int .i64 0]) 3 24 Tryd.underlying70 hi hz0 hz1 hz2 rfl (by decide) _ _ _ rfl own3.2 ⟨w2.heap.size, 0, none⟩ 1 1 (vl (lc, lm, lh)) rfl rfl ?c1 ?c2 ?c3 ?c4 ?c5 ?_)
        | fail)
      case c1 =>
        intro j u hj
        match j, hj with
        | 0, hj => injection hj with hj; subst hj; simp [Addr.add, go_sem]
        | 1, hj => injection hj with hj; subst hj; simp [Addr.add, go_sem]
        | 2, hj => injection hj with hj; subst hj; simp [Addr.add, go_sem]
      case c2 => intro u hu; simp [vl] at hu; rcases hu with rfl | rfl | rfl <;> rfl
      case c3 => rw [ol.out]; unfold maxLen; omega
      case c4 => rw [ol.out]; omega
      case c5 => simp; omega
      · intro v' w4 hown' hgrow _
        have own4 := own3.more rfl hown'
        have HB4 : Below w.heap.size w w4 := (HB2.alloc HB2.size _).grown hgrow (by simp; omega) (fun k hk => by have := own3.ge k hk; omega)
        have q_4 : Cs w4 (w.heap.size + 1) [.int .i64 0, .int .i64 0, .int .i64 0] := Cs.grown (r2.alloc _) hgrow (fun e => by have := own3.ge _ e.symm; omega)
        have own5 : Owns w4 (w.heap.size + 2) 23 3 v' (X (j + 1)) := by rw [HS.out]; exact own4
        clear own4 own3 own2 hown' hgrow HS HB2 r2
        go_wp2
        go_roundw
        case rel => exact ⟨j + 1, by go_num, by omega, own5, q_4, HB4⟩
        case measure => simp [intOf]; omega
    · obtain rfl : j = zs.length := by omega
      rw [HX.out.all] at own
      have rd := own.vecs
      obtain ⟨ys, hys⟩ : ∃ ys, ys = zs.map Ct.li := ⟨_, rfl⟩
      rw [← hys] at rd HR
      obtain ⟨a', cap', rfl, -⟩ := id rd
      have RD : Hid (RdV wr (.slice a' ys.length cap') ys) := rd
      clear rd cj jl own ol hys
      go_wp2_with (fail)
      refine (vsum_any _ (HL.out.later HB) RD.out).mono ?_
      rintro e w2 ⟨rfl, hw2⟩
      have r2 := Cs.later hw2 q_r
      have HB2 : Below w.heap.size w w2 := HB.trans (hw2.mono HB.size)
      clear hw2 HB q_r RD
      obtain ⟨u1, u2, u3, g, hu⟩ := vo_ex (sumL (0, 0, 0) ys)
      rw [hu]
      have X' : Hid (R = .tuple #[.agg #[.int .i64 u1, .int .i64 u2, .int .i64 u3], .bool g]) := by unfold Hid; rw [HR.out, hu]
      clear hu HR
      have r0 : w2.cell? ⟨w.heap.size + 1, 0, none⟩ = some (.int .i64 0) := r2.1 0 _ rfl
      have r1 : w2.cell? ⟨w.heap.size + 1, 1, none⟩ = some (.int .i64 0) := r2.1 1 _ rfl
      have r2' : w2.cell? ⟨w.heap.size + 1, 2, none⟩ = some (.int .i64 0) := r2.1 2 _ rfl
      have f0 : w2.frozen? ⟨w.heap.size + 1, 0, none⟩ = false := r2.2.1 0 (by decide)
      have f1 : w2.frozen? ⟨w.heap.size + 1, 1, none⟩ = false := r2.2.1 1 (by decide)
      have f2 : w2.frozen? ⟨w.heap.size + 1, 2, none⟩ = false := r2.2.1 2 (by decide)
      have rz := r2.2.2
      go_wp2
      refine bodyPost_ret (v := .tuple #[.agg #[.int .i64 u1, .int .i64 u2, .int .i64 u3], .bool g]) (by simp [results, Tryd.results47, go_sem, r0, r1, r2']) rfl ?_
      exact ⟨by rw [X'.out], by go_grown⟩

end Go.Proofs.YtaeejemknmjglaaDoor.Sp
