/-
  What changed of each container, and who is restarted, at this program: package spec's own. Conditions: the containers read as lists, a hundred thousand at the most.
-/
import Derived.Test.YtfgbppngnafpoaaDoorPO
import Derived.Test.YtfgbppngnafpoaaDoorPK
namespace Go.Proofs.YtfgbppngnafpoaaDoor.Sp
open Go.RowKit

/-- A block of n triples of bools, as F tells them; it may be written. -/
def Tri (W : World) (g n : Nat) (F : Nat → Bool × Bool × Bool) : Prop := g < W.heap.size ∧ ∀ i, i < n → (W.cell? ⟨g, i * 3, none⟩ = some (.bool (F i).1) ∧ W.cell? ⟨g, i * 3 + 1, none⟩ = some (.bool (F i).2.1) ∧ W.cell? ⟨g, i * 3 + 2, none⟩ = some (.bool (F i).2.2)) ∧ W.frozen? ⟨g, i * 3, none⟩ = false ∧ W.frozen? ⟨g, i * 3 + 1, none⟩ = false ∧ W.frozen? ⟨g, i * 3 + 2, none⟩ = false
section
variable {W w1 : World} {g n : Nat} {F : Nat → Bool × Bool × Bool}
theorem Tri.later (h : Tri W g n F) (hb : Below W.heap.size W w1) : Tri w1 g n F := by
  obtain ⟨hg, h⟩ := h
  have := hb.size
  obtain ⟨_, hf⟩ := bcell hb
  refine ⟨by omega, fun i hi => ?_⟩
  obtain ⟨⟨c0, c1, c2⟩, f0, f1, f2⟩ := h i hi
  exact ⟨⟨cell_later hb c0, cell_later hb c1, cell_later hb c2⟩, (hf _ _ hg).trans f0, (hf _ _ hg).trans f1, (hf _ _ hg).trans f2⟩
theorem Tri.drew (h : Tri W g n F) : Tri W.drew g n F := h
theorem Tri.alloc (h : Tri W g n F) (o : Obj) : Tri (W.alloc o) g n F := h.later ((Below.refl _ _).alloc (Nat.le_refl _) o)
theorem Tri.congr {F' : Nat → Bool × Bool × Bool} (h : Tri W g n F) (e : ∀ i, i < n → F' i = F i) : Tri W g n F' := ⟨h.1, fun i hi => by rw [e i hi]; exact h.2 i hi⟩
theorem Tri.set {j : Nat} (h : Tri W g n F) (hj : j < n) (b : Bool × Bool × Bool) : Tri (((W.setCell ⟨g, j * 3, none⟩ (.bool b.1)).setCell ⟨g, j * 3 + 1, none⟩ (.bool b.2.1)).setCell ⟨g, j * 3 + 2, none⟩ (.bool b.2.2)) g n (fun i => if i = j then b else F i) := by
  obtain ⟨hg, h⟩ := h
  refine ⟨by simpa [World.setCell] using hg, fun i hi => ?_⟩
  obtain ⟨⟨c0, c1, c2⟩, f0, f1, f2⟩ := h i hi
  refine ⟨?_, by simp [f0], by simp [f1], by simp [f2]⟩
  by_cases e : i = j
  · subst e
    simp only [if_true]
    refine ⟨?_, ?_, ?_⟩
    · rw [cell_beside (show i * 3 + 2 ≠ i * 3 by omega), cell_beside (show i * 3 + 1 ≠ i * 3 by omega), cell_here c0]
    · rw [cell_beside (show i * 3 + 2 ≠ i * 3 + 1 by omega), cell_here ((cell_beside (show i * 3 ≠ i * 3 + 1 by omega)).trans c1)]
    · rw [cell_here ((cell_beside (show i * 3 + 1 ≠ i * 3 + 2 by omega)).trans ((cell_beside (show i * 3 ≠ i * 3 + 2 by omega)).trans c2))]
  · simp only [if_neg e]
    refine ⟨?_, ?_, ?_⟩
    · rw [cell_beside (show j * 3 + 2 ≠ i * 3 by omega), cell_beside (show j * 3 + 1 ≠ i * 3 by omega), cell_beside (show j * 3 ≠ i * 3 by omega), c0]
    · rw [cell_beside (show j * 3 + 2 ≠ i * 3 + 1 by omega), cell_beside (show j * 3 + 1 ≠ i * 3 + 1 by omega), cell_beside (show j * 3 ≠ i * 3 + 1 by omega), c1]
    · rw [cell_beside (show j * 3 + 2 ≠ i * 3 + 2 by omega), cell_beside (show j * 3 + 1 ≠ i * 3 + 2 by omega), cell_beside (show j * 3 ≠ i * 3 + 2 by omega), c2]
end
/-- A slice reads as a row of triples. -/
def RdB (W : World) (v : Value) (bs : List (Bool × Bool × Bool)) : Prop := ∃ (a : Option Addr) (cap : Nat), v = .slice a bs.length cap ∧ bs.length ≤ cap ∧ cap ≤ maxLen ∧
  ∀ (j : Nat) (d : Bool × Bool × Bool), bs[j]? = some d → ∃ b off : Nat, a = some ⟨b, off, none⟩ ∧ W.cell? ⟨b, off + j * 3, none⟩ = some (.bool d.1) ∧ W.cell? ⟨b, off + j * 3 + 1, none⟩ = some (.bool d.2.1) ∧ W.cell? ⟨b, off + j * 3 + 2, none⟩ = some (.bool d.2.2)
theorem RdB.later {W w1 : World} {v : Value} {bs : List (Bool × Bool × Bool)} (h : RdB W v bs) (hb : Below W.heap.size W w1) : RdB w1 v bs := by
  obtain ⟨a, cap, e, h1, h2, h3⟩ := h
  refine ⟨a, cap, e, h1, h2, fun j d hj => ?_⟩
  obtain ⟨b, off, e1, e2, e3, e4⟩ := h3 j d hj
  exact ⟨b, off, e1, cell_later hb e2, cell_later hb e3, cell_later hb e4⟩
/-- A slice reads as a row of texts. -/
def RdS (W : World) (v : Value) (ss : List ByteArray) : Prop := ∃ (a : Option Addr) (cap : Nat), v = .slice a ss.length cap ∧ ss.length ≤ cap ∧ cap ≤ maxLen ∧
  ∀ (j : Nat) (s : ByteArray), ss[j]? = some s → ∃ b off : Nat, a = some ⟨b, off, none⟩ ∧ W.cell? ⟨b, off + j, none⟩ = some (.string s)
theorem RdS.later {W w1 : World} {v : Value} {ss : List ByteArray} (h : RdS W v ss) (hb : Below W.heap.size W w1) : RdS w1 v ss := by
  obtain ⟨a, cap, e, h1, h2, h3⟩ := h
  refine ⟨a, cap, e, h1, h2, fun j d hj => ?_⟩
  obtain ⟨b, off, e1, e2⟩ := h3 j d hj
  exact ⟨b, off, e1, cell_later hb e2⟩
def ls (s : ByteArray) : List Value := [.string s]
theorem Owns.texts {W : World} {base : Nat} {T : TypeId} {o : Value} {ss : List ByteArray} (h : Owns W base T 1 o (ss.map ls)) : RdS W o ss := by
  obtain ⟨a, cap, e, h1, h2, -, h3⟩ := h.read
  rw [List.length_map] at e h1
  refine ⟨a, cap, e, h1, h2, fun j d hj => ?_⟩
  obtain ⟨b, rfl, hc⟩ := h3 j (ls d) (by rw [List.getElem?_map, hj]; rfl)
  have := hc 0 _ rfl
  rw [Nat.mul_one, Nat.add_zero] at this
  exact ⟨b, 0, rfl, this⟩

/-- What is told behind so many. -/
structure Chgs (zs ys : List Ct) (F : Nat → Nat → Bool × Bool × Bool) : Prop where
  zero : ∀ i, F 0 i = (false, false, false)
  next : ∀ (j : Nat) (c : Ct), zs[j]? = some c → ∀ i, F (j + 1) i = if i = j then chgOf ys c else F j i
  rest : ∀ j, F j j = (false, false, false)
  all : ∀ (i : Nat) (b : Bool × Bool × Bool), (chgL zs ys)[i]? = some b → F zs.length i = b
theorem chgs_ex (zs ys : List Ct) : ∃ F, Chgs zs ys F := by
  refine ⟨fun j i => if i < j then ((chgL zs ys)[i]?).getD (false, false, false) else (false, false, false), fun i => by simp, fun j c h i => ?_, fun j => by simp, fun i b h => ?_⟩
  · have e : (chgL zs ys)[j]? = some (chgOf ys c) := by unfold chgL; rw [List.getElem?_map, h]; rfl
    by_cases q : i = j
    · subst q
      simp [e]
    · simp only [if_neg q]
      by_cases l : i < j
      · rw [if_pos l, if_pos (by omega)]
      · rw [if_neg l, if_neg (by omega)]
  · have l := (List.getElem?_eq_some_iff.1 h).1
    unfold chgL at l
    rw [List.length_map] at l
    simp [l, h]
theorem fff_in : (Tryd.prog.info? 24).map (fun i => (i.zero, i.size, i.bytes)) = some (some (.agg #[.bool false, .bool false, .bool false]), 3, 3) := by kernel_rfl
theorem made_at (n k : Nat) (h : k < n * 3) : (madeCells #[.bool false, .bool false, .bool false] (n * 3)).toList[k]? = some (.bool false) := by
  unfold madeCells
  rw [Array.toList_map, Array.toList_range, List.getElem?_map, List.getElem?_range h]
  have : k % 3 = 0 ∨ k % 3 = 1 ∨ k % 3 = 2 := by omega
  rcases this with e | e | e <;> simp [e]

set_option maxHeartbeats 2000000 in
set_option maxRecDepth 100000 in
theorem changed_is {v u : Value} {zs ys : List Ct} (pn : ByteArray) (pr po : Int) (qn : ByteArray) (qr qo : Int) (w : World) (h : RdC w v zs) (k : RdC w u ys) (hz : zs.length ≤ 100000) :
    Calls Tryd.prog 25 #[.agg #[.string pn, .int .i64 pr, .int .i64 po, v], .agg #[.string qn, .int .i64 qr, .int .i64 qo, u]] w fun e w' => ∃ v', e = .returned v' ∧ RdB w' v' (chgL zs ys) ∧ Below w.heap.size w w' := by
  obtain ⟨F, hF⟩ := chgs_ex zs ys
  have FF : Hid (Chgs zs ys F) := hF
  clear hF
  have HY : Hid (RdC w u ys) := k
  obtain ⟨a, cap, rfl, h1, h2, h3⟩ := h
  have H3 : Hid (∀ (j : Nat) (c : Ct), zs[j]? = some c → c.n.size ≤ maxLen ∧ ∃ b off : Nat, a = some ⟨b, off, none⟩ ∧ Ten w b (off + j * 10) c) := h3
  obtain ⟨a1, cap1, rfl, k1, k2, k3⟩ := k
  have K3 : Hid (∀ (j : Nat) (c : Ct), ys[j]? = some c → c.n.size ≤ maxLen ∧ ∃ b off : Nat, a1 = some ⟨b, off, none⟩ ∧ Ten w b (off + j * 10) c) := k3
  clear h3 k3
  have zl : zs.length ≤ maxLen := by omega
  unfold maxLen at zl
  have yl : ys.length ≤ maxLen := by omega
  unfold maxLen at yl
  obtain ⟨i0, hi, hz0, hz1, hz2⟩ := info_parts fff_in
  go_enter Tryd.func25, Tryd.ntmps25
  go_wp2_with (at_make; refine wpList_make_full _ rfl _ _ 43 rfl (w.heap.size + 2) 24 i0 (.agg #[.bool false, .bool false, .bool false]) 3 Tryd.underlying43 hi hz0 hz1 _ _ _ _ zs.length rfl rfl rfl rfl (by rw [hz2]; omega) (by unfold maxLen; omega) (by simp) ?_)
  intro w1 hown hgrow
  have HB1 : Below w.heap.size w w1 := Below.grown (show Below w.heap.size w _ by go_grown) hgrow (by simp; omega) (fun k hk => by cases hk)
  have q_p : Cs w1 w.heap.size [.string pn, .int .i64 pr, .int .i64 po, .slice a zs.length cap] := Cs.grown (by repeat (first | assumption | (refine Cs.new _ _ _ _ ?_; simp; done) | refine Cs.alloc ?_ _ | refine Cs.drew ?_ | (refine Cs.beside ?_ _ _ (by omega)))) hgrow (fun e => by cases e)
  have q_q : Cs w1 (w.heap.size + 1) [.string qn, .int .i64 qr, .int .i64 qo, .slice a1 ys.length cap1] := Cs.grown (by repeat (first | assumption | (refine Cs.new _ _ _ _ ?_; simp; done) | refine Cs.alloc ?_ _ | refine Cs.drew ?_ | (refine Cs.beside ?_ _ _ (by omega)))) hgrow (fun e => by cases e)
  have tr1 : Tri w1 (w.heap.size + 2) zs.length (F 0) := by
    have hlt := (World.ownsRow.lt hown _ rfl).2
    refine ⟨hlt, fun i hi => ?_⟩
    rw [FF.out.zero i]
    refine ⟨⟨?_, ?_, ?_⟩, World.ownsRow.frozenAt hown _, World.ownsRow.frozenAt hown _, World.ownsRow.frozenAt hown _⟩
    · exact (World.ownsRow.cellAt hown (i * 3) (by omega)).trans (made_at _ _ (by omega))
    · exact (World.ownsRow.cellAt hown (i * 3 + 1) (by omega)).trans (made_at _ _ (by omega))
    · exact (World.ownsRow.cellAt hown (i * 3 + 2) (by omega)).trans (made_at _ _ (by omega))
  have p3 : w1.cell? ⟨w.heap.size, 3, none⟩ = some (.slice a zs.length cap) := q_p.1 3 _ rfl
  clear hown hgrow
  go_wp2
  clear p3 q_p
  go_loopw [17] (fun f wr => ∃ j : Nat, f = .int .i64 j ∧ j ≤ zs.length ∧ Tri wr (w.heap.size + 2) zs.length (F j) ∧ Cs wr (w.heap.size + 1) [.string qn, .int .i64 qr, .int .i64 qo, .slice a1 ys.length cap1] ∧ Below w.heap.size w wr) (fun f _ => zs.length - (intOf f).toNat)
  case atStart => exact ⟨0, rfl, by omega, tr1, q_q, HB1⟩
  case round =>
    clear tr1 q_q HB1
    obtain ⟨j, rfl, jl, tr, q_q, HB⟩ := hrel
    have hs := HB.size
    by_cases cj : j < zs.length
    · obtain ⟨⟨m, rc, rm, rh, lc, lm, lh, x, y, z⟩, hdj⟩ : ∃ d, zs[j]? = some d := ⟨zs[j], List.getElem?_eq_getElem cj⟩
      obtain ⟨-, b, off, rfl, T⟩ := H3.out j _ hdj
      have FN : Hid (∀ i, F (j + 1) i = if i = j then chgOf ys ⟨m, rc, rm, rh, lc, lm, lh, x, y, z⟩ else F j i) := FF.out.next j _ hdj
      obtain ⟨c0, c1, c2, c3, c4, c5, c6, c7, c8, c9⟩ := T.later HB
      simp only at c0 c1 c2 c3 c4 c5 c6 c7 c8 c9
      have j0 : (0 : Int) ≤ (j : Int) := by omega
      have j1 : (j : Int) < (zs.length : Int) := by omega
      have q3 : wr.cell? ⟨w.heap.size + 1, 3, none⟩ = some (.slice a1 ys.length cap1) := q_q.1 3 _ rfl
      have q2 : wr.cell? ⟨w.heap.size + 1, 2, none⟩ = some (.int .i64 qo) := q_q.1 2 _ rfl
      have q1 : wr.cell? ⟨w.heap.size + 1, 1, none⟩ = some (.int .i64 qr) := q_q.1 1 _ rfl
      have q0 : wr.cell? ⟨w.heap.size + 1, 0, none⟩ = some (.string qn) := q_q.1 0 _ rfl
      have qz := q_q.2.2
      clear T hdj
      go_wp2_with (fail)
      refine (find_is qn qr qo m _ ((HY.out.later HB).alloc _)).mono ?_
      rintro e w2 ⟨rfl, hw2⟩
      have HB2 : Below w.heap.size w w2 := Below.trans (show Below w.heap.size w _ by go_grown) (hw2.mono (by simp; omega))
      have tr2 := (tr.alloc (.cells #[.string m, .int .i64 rc, .int .i64 rm, .int .i64 rh, .int .i64 lc, .int .i64 lm, .int .i64 lh, .bool x, .bool y, .bool z] 26)).later hw2
      have r_q := Cs.later hw2 (q_q.alloc (.cells #[.string m, .int .i64 rc, .int .i64 rm, .int .i64 rh, .int .i64 lc, .int .i64 lm, .int .i64 lh, .bool x, .bool y, .bool z] 26))
      have r_c : Cs w2 wr.heap.size [.string m, .int .i64 rc, .int .i64 rm, .int .i64 rh, .int .i64 lc, .int .i64 lm, .int .i64 lh, .bool x, .bool y, .bool z] := Cs.later hw2 (by repeat (first | assumption | (refine Cs.new _ _ _ _ ?_; simp; done) | refine Cs.alloc ?_ _ | refine Cs.drew ?_ | (refine Cs.beside ?_ _ _ (by omega))))
      obtain ⟨o, ho⟩ : ∃ o, fnd m ys = o := ⟨_, rfl⟩
      rw [ho]
      have HO : Hid (fnd m ys = o) := ho
      clear ho tr q_q hw2 HB hs c0 c1 c2 c3 c4 c5 c6 c7 c8 c9 q0 q1 q2 q3 qz
      cases o with
      | none =>
        have TN : Tri w2 (w.heap.size + 2) zs.length (F (j + 1)) := tr2.congr (fun i _ => by
          rw [FN.out i, chgOf_none (c := ⟨m, rc, rm, rh, lc, lm, lh, x, y, z⟩) HO.out]
          by_cases e : i = j
          · rw [if_pos e, e, FF.out.rest j]
          · rw [if_neg e])
        clear tr2 HO FN r_c
        rw [show fv none = .tuple #[.int .i64 0, .bool false] from rfl]
        go_wp2
        go_roundw
        case rel => exact ⟨j + 1, by go_num, by omega, TN, r_q, HB2⟩
        case measure => simp [intOf]; omega
      | some k =>
        rw [show fv (some k) = .tuple #[.int .i64 k, .bool true] from rfl]
        obtain ⟨⟨m1, rc1, rm1, rh1, lc1, lm1, lh1, x1, y1, z1⟩, hk1, hk2, -⟩ := fnd_at HO.out
        obtain ⟨-, b1, off1, rfl, U⟩ := K3.out k _ hk1
        have CE : Hid (chgOf ys ⟨m, rc, rm, rh, lc, lm, lh, x, y, z⟩ = chg ⟨m, rc, rm, rh, lc, lm, lh, x, y, z⟩ ⟨m1, rc1, rm1, rh1, lc1, lm1, lh1, x1, y1, z1⟩) := chgOf_some HO.out hk1
        have kl := (List.getElem?_eq_some_iff.1 hk1).1
        have k0 : (0 : Int) ≤ (k : Int) := by omega
        have k1' : (k : Int) < (ys.length : Int) := by omega
        obtain ⟨d0, d1, d2, d3, d4, d5, d6, d7, d8, d9⟩ := U.later HB2
        simp only at d0 d1 d2 d3 d4 d5 d6 d7 d8 d9
        clear U hk1 hk2 HO
        have c0 : w2.cell? ⟨wr.heap.size, 0, none⟩ = some (.string m) := r_c.1 0 _ rfl
        have c1 : w2.cell? ⟨wr.heap.size, 1, none⟩ = some (.int .i64 rc) := r_c.1 1 _ rfl
        have c2 : w2.cell? ⟨wr.heap.size, 2, none⟩ = some (.int .i64 rm) := r_c.1 2 _ rfl
        have c3 : w2.cell? ⟨wr.heap.size, 3, none⟩ = some (.int .i64 rh) := r_c.1 3 _ rfl
        have c4 : w2.cell? ⟨wr.heap.size, 4, none⟩ = some (.int .i64 lc) := r_c.1 4 _ rfl
        have c5 : w2.cell? ⟨wr.heap.size, 5, none⟩ = some (.int .i64 lm) := r_c.1 5 _ rfl
        have c6 : w2.cell? ⟨wr.heap.size, 6, none⟩ = some (.int .i64 lh) := r_c.1 6 _ rfl
        have c7 : w2.cell? ⟨wr.heap.size, 7, none⟩ = some (.bool x) := r_c.1 7 _ rfl
        have c8 : w2.cell? ⟨wr.heap.size, 8, none⟩ = some (.bool y) := r_c.1 8 _ rfl
        have c9 : w2.cell? ⟨wr.heap.size, 9, none⟩ = some (.bool z) := r_c.1 9 _ rfl
        have q3 : w2.cell? ⟨w.heap.size + 1, 3, none⟩ = some (.slice (some ⟨b1, off1, none⟩) ys.length cap1) := r_q.1 3 _ rfl
        obtain ⟨⟨e0, e1, e2⟩, e3⟩ : ∃ e, e = chg ⟨m, rc, rm, rh, lc, lm, lh, x, y, z⟩ ⟨m1, rc1, rm1, rh1, lc1, lm1, lh1, x1, y1, z1⟩ := ⟨_, rfl⟩
        have CU : Hid (∀ w, Calls Tryd.prog 42 #[.agg #[.string m, .int .i64 rc, .int .i64 rm, .int .i64 rh, .int .i64 lc, .int .i64 lm, .int .i64 lh, .bool x, .bool y, .bool z], .agg #[.string m1, .int .i64 rc1, .int .i64 rm1, .int .i64 rh1, .int .i64 lc1, .int .i64 lm1, .int .i64 lh1, .bool x1, .bool y1, .bool z1]] w fun e w' => e = .returned (.agg #[.bool e0, .bool e1, .bool e2]) ∧ Below w.heap.size w w') := fun w => by
          have := unl_is m rc rm rh lc lm lh x y z m1 rc1 rm1 rh1 lc1 lm1 lh1 x1 y1 z1 w
          rw [← e3] at this
          exact this
        have TE : Hid (chgOf ys ⟨m, rc, rm, rh, lc, lm, lh, x, y, z⟩ = (e0, e1, e2)) := by unfold Hid; rw [CE.out, e3]
        clear e3 CE r_c
        go_upto_region 7 with (fail)
        go_region_with (go_at_call 42; refine (CU.out _).mono ?_; rintro e w3 ⟨rfl, hw3⟩; have tr3 : Tri w3 (w.heap.size + 2) zs.length (F j) := Tri.later (Tri.drew tr2) hw3; obtain ⟨⟨s0, s1, s2⟩, f0, f1, f2⟩ := tr3.2 j (by omega); have sz := tr3.1; have r_q3 := Cs.later hw3 r_q.drew; have HB3 : Below w.heap.size w w3 := HB2.drew.trans (hw3.mono HB2.size); clear hw3)
        all_goals
          have N1 : Tri (((w3.setCell ⟨w.heap.size + 2, j * 3, none⟩ (.bool e0)).setCell ⟨w.heap.size + 2, j * 3 + 1, none⟩ (.bool e1)).setCell ⟨w.heap.size + 2, j * 3 + 2, none⟩ (.bool e2)) (w.heap.size + 2) zs.length (F (j + 1)) := (tr3.set (by omega) (e0, e1, e2)).congr (fun i _ => by rw [FN.out i, TE.out])
          have N2 : Cs (((w3.setCell ⟨w.heap.size + 2, j * 3, none⟩ (.bool e0)).setCell ⟨w.heap.size + 2, j * 3 + 1, none⟩ (.bool e1)).setCell ⟨w.heap.size + 2, j * 3 + 2, none⟩ (.bool e2)) (w.heap.size + 1) [.string qn, .int .i64 qr, .int .i64 qo, .slice (some ⟨b1, off1, none⟩) ys.length cap1] := ((r_q3.beside _ _ (by omega)).beside _ _ (by omega)).beside _ _ (by omega)
          have N3 : Below w.heap.size w (((w3.setCell ⟨w.heap.size + 2, j * 3, none⟩ (.bool e0)).setCell ⟨w.heap.size + 2, j * 3 + 1, none⟩ (.bool e1)).setCell ⟨w.heap.size + 2, j * 3 + 2, none⟩ (.bool e2)) := by go_grown
          clear tr3 s0 s1 s2 f0 f1 f2 r_q3 HB3 CU TE FN tr2 c0 c1 c2 c3 c4 c5 c6 c7 c8 c9 d0 d1 d2 d3 d4 d5 d6 d7 d8 d9 q3
          go_wp2
          go_roundw
          case rel => exact ⟨j + 1, by go_num, by omega, N1, N2, N3⟩
          case measure => simp [intOf]; omega
    · obtain rfl : j = zs.length := by omega
      have RD : RdB wr (.slice (some ⟨w.heap.size + 2, 0, none⟩) zs.length zs.length) (chgL zs ys) := by
        have l : (chgL zs ys).length = zs.length := by unfold chgL; rw [List.length_map]
        refine ⟨_, _, by rw [l], by omega, by unfold maxLen; omega, fun i d hi => ?_⟩
        have hl := (List.getElem?_eq_some_iff.1 hi).1
        obtain ⟨⟨e0, e1, e2⟩, -⟩ := tr.2 i (by omega)
        rw [FF.out.all i d hi] at e0 e1 e2
        exact ⟨_, 0, rfl, by rw [Nat.zero_add]; exact e0, by rw [Nat.zero_add]; exact e1, by rw [Nat.zero_add]; exact e2⟩
      have RD' : Hid (RdB wr (.slice (some ⟨w.heap.size + 2, 0, none⟩) zs.length zs.length) (chgL zs ys)) := RD
      clear RD tr
      go_wp2
      go_ret
      exact ⟨_, rfl, RD'.out, HB⟩

end Go.Proofs.YtfgbppngnafpoaaDoor.Sp
