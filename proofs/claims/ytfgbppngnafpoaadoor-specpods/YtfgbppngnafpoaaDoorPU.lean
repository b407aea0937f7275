/-
  What comes of a resize at this program: package spec's own. Conditions: the tables of the program lie as its text lays them; the containers and the changes read as lists; the names' lengths fit the machine.
-/
import Derived.Test.YtfgbppngnafpoaaDoorPT
import Derived.Test.YtfgbppngnafpoaaDoorPL
import Derived.Test.YtfgbppngnafpoaaDoorPM
namespace Go.Proofs.YtfgbppngnafpoaaDoor.Sp
open Go.RowKit

/-- What a resize hands back: nothing, and the error; or the pod. -/
def resP (e : Int) (pn : ByteArray) (pr po : Int) (v : Value) : Value :=
  .tuple #[.agg #[.string (if e = 0 then pn else ⟨#[]⟩), .int .i64 (if e = 0 then pr else 0), .int .i64 (if e = 0 then po else 0), v], .int .i64 e]
theorem resP_no {e : Int} (h : e ≠ 0) (pn : ByteArray) (pr po : Int) : .tuple #[.agg #[.string ⟨#[]⟩, .int .i64 0, .int .i64 0, .slice none 0 0], .int .i64 e] = resP e pn pr po (.slice none 0 0) := by
  unfold resP
  rw [if_neg h, if_neg h, if_neg h]
theorem RdC.nil (W : World) : RdC W (.slice none 0 0) [] := ⟨_, 0, rfl, by simp, by simp [maxLen], fun j c h => by simp at h⟩
/-- What must hold behind a resize that hands back a pod with that slice. -/
def Rzd (w w' : World) (R : Int × List Ct) (v : Value) : Prop := RdC w' v R.2 ∧ Below w.heap.size w w'

def Ct.req (c : Ct) (x : Ch) : Ct := ⟨c.n, x.rc, x.rm, x.rh, c.lc, c.lm, c.lh, c.x, c.y, c.z⟩
theorem RowC.puta {W : World} {g k : Nat} {zs : List Ct} (h : RowC W g zs) (x : Ch) : RowC (((W.setCell ⟨g, k * 10 + 1, none⟩ (.int .i64 x.rc)).setCell ⟨g, k * 10 + 2, none⟩ (.int .i64 x.rm)).setCell ⟨g, k * 10 + 3, none⟩ (.int .i64 x.rh)) g (zs.modify k (fun c => c.req x)) := by
  obtain ⟨hg, h⟩ := h
  refine ⟨by simpa [World.setCell] using hg, fun i d hd => ?_⟩
  rw [List.getElem?_modify] at hd
  cases hi : zs[i]? with
  | none => rw [hi] at hd; cases hd
  | some e =>
    rw [hi] at hd
    injection hd with hd
    obtain ⟨h0, ⟨t0, t1, t2, t3, t4, t5, t6, t7, t8, t9⟩, h2⟩ := h i e hi
    have far : ∀ q, (q < k * 10 + 1 ∨ k * 10 + 3 < q) → (((W.setCell ⟨g, k * 10 + 1, none⟩ (.int .i64 x.rc)).setCell ⟨g, k * 10 + 2, none⟩ (.int .i64 x.rm)).setCell ⟨g, k * 10 + 3, none⟩ (.int .i64 x.rh)).cell? ⟨g, q, none⟩ = W.cell? ⟨g, q, none⟩ := fun q hq => by
      rw [cell_beside (by omega), cell_beside (by omega), cell_beside (by omega)]
    by_cases ki : k = i
    · subst ki
      simp only [if_true] at hd
      subst hd
      refine ⟨h0, ⟨(far _ (by omega)).trans t0, ?_, ?_, ?_, (far _ (by omega)).trans t4, (far _ (by omega)).trans t5, (far _ (by omega)).trans t6, (far _ (by omega)).trans t7, (far _ (by omega)).trans t8, (far _ (by omega)).trans t9⟩, fun q hq => by simpa using h2 q hq⟩
      · rw [cell_beside (by omega), cell_beside (by omega)]
        exact cell_here t1
      · rw [cell_beside (by omega)]
        exact cell_here ((cell_beside (by omega)).trans t2)
      · exact cell_here ((cell_beside (by omega)).trans ((cell_beside (by omega)).trans t3))
    · simp only [if_neg ki] at hd
      subst hd
      have f := fun q (hq : q < 10) => far (i * 10 + q) (by omega)
      exact ⟨h0, ⟨(f 0 (by omega)).trans t0, (f 1 (by omega)).trans t1, (f 2 (by omega)).trans t2, (f 3 (by omega)).trans t3, (f 4 (by omega)).trans t4, (f 5 (by omega)).trans t5, (f 6 (by omega)).trans t6, (f 7 (by omega)).trans t7, (f 8 (by omega)).trans t8, (f 9 (by omega)).trans t9⟩, fun q hq => by simpa using h2 q hq⟩
theorem RowC.putb {W : World} {g k : Nat} {zs : List Ct} (x : Ch) (h : RowC W g (zs.modify k (fun c => c.req x))) : RowC (((W.setCell ⟨g, k * 10 + 4, none⟩ (.int .i64 x.lc)).setCell ⟨g, k * 10 + 5, none⟩ (.int .i64 x.lm)).setCell ⟨g, k * 10 + 6, none⟩ (.int .i64 x.lh)) g (zs.modify k (fun c => c.put x)) := by
  obtain ⟨hg, h⟩ := h
  refine ⟨by simpa [World.setCell] using hg, fun i d hd => ?_⟩
  rw [List.getElem?_modify] at hd
  cases hi : zs[i]? with
  | none => rw [hi] at hd; cases hd
  | some e =>
    rw [hi] at hd
    injection hd with hd
    obtain ⟨h0, ⟨t0, t1, t2, t3, t4, t5, t6, t7, t8, t9⟩, h2⟩ := h i (if k = i then e.req x else e) (by rw [List.getElem?_modify, hi]; rfl)
    have far : ∀ q, (q < k * 10 + 4 ∨ k * 10 + 6 < q) → (((W.setCell ⟨g, k * 10 + 4, none⟩ (.int .i64 x.lc)).setCell ⟨g, k * 10 + 5, none⟩ (.int .i64 x.lm)).setCell ⟨g, k * 10 + 6, none⟩ (.int .i64 x.lh)).cell? ⟨g, q, none⟩ = W.cell? ⟨g, q, none⟩ := fun q hq => by
      rw [cell_beside (by omega), cell_beside (by omega), cell_beside (by omega)]
    by_cases ki : k = i
    · subst ki
      simp only [if_true] at hd h0 t0 t1 t2 t3 t4 t5 t6 t7 t8 t9
      subst hd
      refine ⟨h0, ⟨(far _ (by omega)).trans t0, (far _ (by omega)).trans t1, (far _ (by omega)).trans t2, (far _ (by omega)).trans t3, ?_, ?_, ?_, (far _ (by omega)).trans t7, (far _ (by omega)).trans t8, (far _ (by omega)).trans t9⟩, fun q hq => by simpa using h2 q hq⟩
      · rw [cell_beside (by omega), cell_beside (by omega)]
        exact cell_here t4
      · rw [cell_beside (by omega)]
        exact cell_here ((cell_beside (by omega)).trans t5)
      · exact cell_here ((cell_beside (by omega)).trans ((cell_beside (by omega)).trans t6))
    · simp only [if_neg ki] at hd h0 t0 t1 t2 t3 t4 t5 t6 t7 t8 t9
      subst hd
      have f := fun q (hq : q < 10) => far (i * 10 + q) (by omega)
      exact ⟨h0, ⟨(f 0 (by omega)).trans t0, (f 1 (by omega)).trans t1, (f 2 (by omega)).trans t2, (f 3 (by omega)).trans t3, (f 4 (by omega)).trans t4, (f 5 (by omega)).trans t5, (f 6 (by omega)).trans t6, (f 7 (by omega)).trans t7, (f 8 (by omega)).trans t8, (f 9 (by omega)).trans t9⟩, fun q hq => by simpa using h2 q hq⟩
/-- What holds while the two classes are told. -/
def KR (w : World) (bs : List (Nat × List Value)) (g : Nat) (out : List Ct) (v : Value) (zs : List Ct) (W : World) : Prop := Lies w bs W ∧ LaidS W ∧ RowC W g out ∧ RdC W v zs
theorem KR.later {w W w1 : World} {bs : List (Nat × List Value)} {g : Nat} {out zs : List Ct} {v : Value} (h : KR w bs g out v zs W) (hb : Below W.heap.size W w1) : KR w bs g out v zs w1 := ⟨h.1.later hb, h.2.1.later hb, h.2.2.1.later hb, h.2.2.2.later hb⟩
theorem KR.drew {w W : World} {bs : List (Nat × List Value)} {g : Nat} {out zs : List Ct} {v : Value} (h : KR w bs g out v zs W) : KR w bs g out v zs W.drew := ⟨h.1.drew, h.2.1.drew, h.2.2.1.drew, h.2.2.2.later (Below.refl _ _).drew⟩
theorem wp_store_cells {P : Program} {op : Oper} {a : Act} {w : World} {K : Act → World → Prop} {Q : Exit → Act → World → Prop} (ty : TypeId) (x y : Operand) (ho : op.op = .store ty x y) (hd : op.dst = none)
    (b o : Nat) (cells : Array Value) (hx : a.eval x = .pointer (some ⟨b, o, none⟩)) (hy : a.eval y = .agg cells) (ht : w.there b o cells.size) (hi : (P.info? ty).map (·.size) = some cells.size) (h1 : cells.all (·.oneCell') = true)
    (h : K a (w.setCells b o cells.toList)) : op.wp P a w K Q :=
  wp_store_mid ty x y ho b o cells hx hy ht hi h1 (by rw [hd]; exact h)
/-- The row while a change is stored: a: its requests are in; b: its limits too. -/
def mo (out : List Ct) (k : Nat) (x : Ch) (a b : Bool) : List Ct := bif b then out.modify k (fun c => c.put x) else bif a then out.modify k (fun c => c.req x) else out
/-- What holds while a change is stored. -/
def KS (w : World) (g nb k : Nat) (f : Nat → Bool) (bs : List (Nat × List Value)) (L : List Ct) (W : World) : Prop := RowC W g L ∧ Nmd W nb f ∧ Lies w bs W ∧ (g ≠ nb ∧ (∀ x ∈ bs, x.1 ≠ g) ∧ w.heap.size ≤ g) ∧ k < L.length
theorem KS.there {w W : World} {g nb k : Nat} {f : Nat → Bool} {bs : List (Nat × List Value)} {L : List Ct} (h : KS w g nb k f bs L W) (o : Nat) (ho : o + 3 ≤ 10) : W.there g (k * 10 + o) 3 := fun j hj => by
  obtain ⟨-, ⟨t0, t1, t2, t3, t4, t5, t6, t7, t8, t9⟩, h2⟩ := h.1.2 k _ (List.getElem?_eq_getElem h.2.2.2.2)
  refine ⟨?_, by have := h2 (o + j) (by omega); rwa [← Nat.add_assoc] at this⟩
  have : o + j = 0 ∨ o + j = 1 ∨ o + j = 2 ∨ o + j = 3 ∨ o + j = 4 ∨ o + j = 5 ∨ o + j = 6 ∨ o + j = 7 ∨ o + j = 8 ∨ o + j = 9 := by omega
  rw [Nat.add_assoc]
  rcases this with e | e | e | e | e | e | e | e | e | e <;> rw [e]
  · rw [Nat.add_zero, t0]; rfl
  · rw [t1]; rfl
  · rw [t2]; rfl
  · rw [t3]; rfl
  · rw [t4]; rfl
  · rw [t5]; rfl
  · rw [t6]; rfl
  · rw [t7]; rfl
  · rw [t8]; rfl
  · rw [t9]; rfl
theorem KS.rest {w W : World} {g nb k : Nat} {f : Nat → Bool} {bs : List (Nat × List Value)} {L L' : List Ct} (h : KS w g nb k f bs L W) (o : Nat) (u v x : Value) (hl : L'.length = L.length)
    (hr : RowC (((W.setCell ⟨g, o, none⟩ u).setCell ⟨g, o + 1, none⟩ v).setCell ⟨g, o + 1 + 1, none⟩ x) g L') : KS w g nb k f bs L' (W.setCells g o [u, v, x]) := by
  obtain ⟨-, h2, h3, h4, h5⟩ := h
  refine ⟨hr, ?_, ⟨fun q hq => ?_, ?_⟩, h4, by omega⟩
  · exact ((h2.beside _ _ (fun e => h4.1 e.symm)).beside _ _ (fun e => h4.1 e.symm)).beside _ _ (fun e => h4.1 e.symm)
  · exact Cs.beside (Cs.beside (Cs.beside (h3.1 q hq) _ _ (h4.2.1 q hq)) _ _ (h4.2.1 q hq)) _ _ (h4.2.1 q hq)
  · exact Below.setCell (Below.setCell (Below.setCell h3.2 h4.2.2 _) h4.2.2 _) h4.2.2 _
theorem KS.a {w W : World} {g nb k : Nat} {f : Nat → Bool} {bs : List (Nat × List Value)} {out : List Ct} {x : Ch} (h : KS w g nb k f bs (mo out k x false false) W) : KS w g nb k f bs (mo out k x true false) (W.setCells g (k * 10 + 1) [.int .i64 x.rc, .int .i64 x.rm, .int .i64 x.rh]) :=
  h.rest _ _ _ _ (by simp [mo]) (h.1.puta x)
theorem KS.b {w W : World} {g nb k : Nat} {f : Nat → Bool} {bs : List (Nat × List Value)} {out : List Ct} {x : Ch} (h : KS w g nb k f bs (mo out k x true false) W) : KS w g nb k f bs (mo out k x true true) (W.setCells g (k * 10 + 4) [.int .i64 x.lc, .int .i64 x.lm, .int .i64 x.lh]) :=
  h.rest _ _ _ _ (by simp [mo]) (RowC.putb x h.1)
theorem KS.drew {w W : World} {g nb k : Nat} {f : Nat → Bool} {bs : List (Nat × List Value)} {L : List Ct} (h : KS w g nb k f bs L W) : KS w g nb k f bs L W.drew := ⟨h.1, h.2.1, h.2.2.1.drew, h.2.2.2⟩

set_option maxHeartbeats 4000000 in
set_option maxRecDepth 100000 in
theorem resize_is {v u : Value} {zs : List Ct} {l : List Ch} (pn : ByteArray) (pr po : Int) (hm : pn.size ≤ maxLen) (w : World) (hL : LaidS w) (h : RdC w v zs) (k : RdX w u l) :
    Calls Tryd.prog 29 #[.agg #[.string pn, .int .i64 pr, .int .i64 po, v], u] w fun e w' => ∃ v', e = .returned (resP (resV pn pr po zs l).1 pn pr po v') ∧ Rzd w w' (resV pn pr po zs l) v' := by
  obtain ⟨R, hR⟩ : ∃ R, R = resV pn pr po zs l := ⟨_, rfl⟩
  rw [← hR]
  have HR : Hid (R = resV pn pr po zs l) := hR
  have HL : Hid (LaidS w) := hL
  have HZ : Hid (RdC w v zs) := h
  have HM : Hid (pn.size ≤ maxLen) := hm
  clear hR hL hm
  obtain ⟨a, cap, rfl, h1, h2, h3⟩ := h
  have H3 : Hid (∀ (j : Nat) (c : Ct), zs[j]? = some c → c.n.size ≤ maxLen ∧ ∃ b off : Nat, a = some ⟨b, off, none⟩ ∧ Ten w b (off + j * 10) c) := h3
  obtain ⟨a1, cap2, rfl, k1, k2, k3⟩ := k
  have K3 : Hid (∀ (j : Nat) (c : Ch), l[j]? = some c → c.n.size ≤ maxLen ∧ ∃ b off : Nat, a1 = some ⟨b, off, none⟩ ∧ Svn w b (off + j * 7) c) := k3
  clear h3 k3
  have zl : zs.length ≤ maxLen := by omega
  have ll : l.length ≤ maxLen := by omega
  unfold maxLen at zl ll
  go_enter Tryd.func29, Tryd.ntmps29
  go_wp2_with (fail)
  refine (pod_is pn pr po HM.out _ ((HL.out.alloc _).alloc _) ((HZ.out.alloc _).alloc _)).mono ?_
  rintro e w1 ⟨rfl, hw1⟩
  have HBw1 : Below w.heap.size w w1 := Below.trans (by go_grown) (hw1.mono (by first | omega | (simp; done) | (simp; omega)))
  have p_p : Cs w1 (w.heap.size) [.string pn, .int .i64 pr, .int .i64 po, .slice a zs.length cap] := Cs.later hw1 (by repeat (first | assumption | (refine Cs.new _ _ _ _ ?_; simp; done) | refine Cs.alloc ?_ _ | refine Cs.drew ?_ | (refine Cs.beside ?_ _ _ (by omega))))
  have p_r : Cs w1 (w.heap.size + 1) [.string ⟨#[]⟩, .int .i64 0, .int .i64 0, .slice none 0 0] := Cs.later hw1 (by repeat (first | assumption | (refine Cs.new _ _ _ _ ?_; simp; done) | refine Cs.alloc ?_ _ | refine Cs.drew ?_ | (refine Cs.beside ?_ _ _ (by omega))))
  have q_p := p_p
  have p0 : w1.cell? ⟨w.heap.size, 0, none⟩ = some (.string pn) := p_p.1 0 _ rfl
  have p1 : w1.cell? ⟨w.heap.size, 1, none⟩ = some (.int .i64 pr) := p_p.1 1 _ rfl
  have p2 : w1.cell? ⟨w.heap.size, 2, none⟩ = some (.int .i64 po) := p_p.1 2 _ rfl
  have p3 : w1.cell? ⟨w.heap.size, 3, none⟩ = some (.slice a zs.length cap) := p_p.1 3 _ rfl
  have pz : w.heap.size < w1.heap.size := p_p.2.2
  clear p_p
  have q_r := p_r
  have r0 : w1.cell? ⟨w.heap.size + 1, 0, none⟩ = some (.string ⟨#[]⟩) := p_r.1 0 _ rfl
  have rF0 : w1.frozen? ⟨w.heap.size + 1, 0, none⟩ = false := p_r.2.1 0 (by simp)
  have r1 : w1.cell? ⟨w.heap.size + 1, 1, none⟩ = some (.int .i64 0) := p_r.1 1 _ rfl
  have rF1 : w1.frozen? ⟨w.heap.size + 1, 1, none⟩ = false := p_r.2.1 1 (by simp)
  have r2 : w1.cell? ⟨w.heap.size + 1, 2, none⟩ = some (.int .i64 0) := p_r.1 2 _ rfl
  have rF2 : w1.frozen? ⟨w.heap.size + 1, 2, none⟩ = false := p_r.2.1 2 (by simp)
  have r3 : w1.cell? ⟨w.heap.size + 1, 3, none⟩ = some (.slice none 0 0) := p_r.1 3 _ rfl
  have rF3 : w1.frozen? ⟨w.heap.size + 1, 3, none⟩ = false := p_r.2.1 3 (by simp)
  have rz : w.heap.size + 1 < w1.heap.size := p_r.2.2
  clear p_r
  have hsw1 := hw1.size
  (try simp at hsw1)
  clear hw1
  obtain ⟨g1, hg1⟩ : ∃ g, podB pn pr po zs = g := ⟨_, rfl⟩
  rw [hg1]
  have G1 : Hid (podB pn pr po zs = g1) := hg1
  clear hg1
  cases g1 with
  | false =>
    have X : Hid (R = (2, [])) := by unfold Hid; rw [HR.out, resV_arg (fun h => by rw [G1.out] at h; exact Bool.noConfusion h.1)]
    go_wp2
    refine bodyPost_ret (v := .tuple #[.agg #[.string ⟨#[]⟩, .int .i64 0, .int .i64 0, .slice none 0 0], .int .i64 2]) (by simp [results, Tryd.results29, go_sem, r0, r1, r2, r3]) rfl ?_
    exact ⟨_, by rw [X.out, ← resP_no (by decide)], by rw [X.out]; exact RdC.nil _, by go_grown⟩
  | true =>
  by_cases l0 : l.length = 0
  · have X : Hid (R = (2, [])) := by unfold Hid; rw [HR.out, resV_arg (by omega)]
    have l0' : ((l.length : Int) == 0) = true := by simp [l0]
    clear l0
    go_wp2
    refine bodyPost_ret (v := .tuple #[.agg #[.string ⟨#[]⟩, .int .i64 0, .int .i64 0, .slice none 0 0], .int .i64 2]) (by simp [results, Tryd.results29, go_sem, r0, r1, r2, r3]) rfl ?_
    exact ⟨_, by rw [X.out, ← resP_no (by decide)], by rw [X.out]; exact RdC.nil _, by go_grown⟩
  have l0' : ((l.length : Int) == 0) = false := beq_eq_false_iff_ne.2 (by omega)
  have GG : Hid (podB pn pr po zs = true ∧ 0 < l.length) := ⟨G1.out, by omega⟩
  have zh : 1 ≤ zs.length ∧ zs.length ≤ 6 := (pod_parts G1.out).2.1
  clear l0 G1
  go_wp2_with (fail)
  refine (clone_is _ ((HZ.out.later HBw1).alloc _) (by omega) (by omega)).mono ?_
  rintro e w2 ⟨g, cap1, rfl, n1, n2, gl, rw2, hw2⟩
  have gl1 : w1.heap.size < g := by simp at gl; omega
  have HBw2 : Below w.heap.size w w2 := Below.trans (by go_grown) (hw2.mono (by first | omega | (simp; done) | (simp; omega)))
  have p_p : Cs w2 (w.heap.size) [.string pn, .int .i64 pr, .int .i64 po, .slice a zs.length cap] := Cs.later hw2 (by repeat (first | assumption | (refine Cs.new _ _ _ _ ?_; simp; done) | refine Cs.alloc ?_ _ | refine Cs.drew ?_ | (refine Cs.beside ?_ _ _ (by omega))))
  have p_r : Cs w2 (w.heap.size + 1) [.string ⟨#[]⟩, .int .i64 0, .int .i64 0, .slice none 0 0] := Cs.later hw2 (by repeat (first | assumption | (refine Cs.new _ _ _ _ ?_; simp; done) | refine Cs.alloc ?_ _ | refine Cs.drew ?_ | (refine Cs.beside ?_ _ _ (by omega))))
  have p_q : Cs w2 (w1.heap.size) [.string pn, .int .i64 pr, .int .i64 po, .slice a zs.length cap] := Cs.later hw2 (by repeat (first | assumption | (refine Cs.new _ _ _ _ ?_; simp; done) | refine Cs.alloc ?_ _ | refine Cs.drew ?_ | (refine Cs.beside ?_ _ _ (by omega))))
  clear q_p p0 p1 p2 p3 pz
  clear q_r r0 r1 r2 r3 rF0 rF1 rF2 rF3 rz
  have q_p := p_p
  have p0 : w2.cell? ⟨w.heap.size, 0, none⟩ = some (.string pn) := p_p.1 0 _ rfl
  have p1 : w2.cell? ⟨w.heap.size, 1, none⟩ = some (.int .i64 pr) := p_p.1 1 _ rfl
  have p2 : w2.cell? ⟨w.heap.size, 2, none⟩ = some (.int .i64 po) := p_p.1 2 _ rfl
  have p3 : w2.cell? ⟨w.heap.size, 3, none⟩ = some (.slice a zs.length cap) := p_p.1 3 _ rfl
  have pz : w.heap.size < w2.heap.size := p_p.2.2
  clear p_p
  have q_r := p_r
  have r0 : w2.cell? ⟨w.heap.size + 1, 0, none⟩ = some (.string ⟨#[]⟩) := p_r.1 0 _ rfl
  have rF0 : w2.frozen? ⟨w.heap.size + 1, 0, none⟩ = false := p_r.2.1 0 (by simp)
  have r1 : w2.cell? ⟨w.heap.size + 1, 1, none⟩ = some (.int .i64 0) := p_r.1 1 _ rfl
  have rF1 : w2.frozen? ⟨w.heap.size + 1, 1, none⟩ = false := p_r.2.1 1 (by simp)
  have r2 : w2.cell? ⟨w.heap.size + 1, 2, none⟩ = some (.int .i64 0) := p_r.1 2 _ rfl
  have rF2 : w2.frozen? ⟨w.heap.size + 1, 2, none⟩ = false := p_r.2.1 2 (by simp)
  have r3 : w2.cell? ⟨w.heap.size + 1, 3, none⟩ = some (.slice none 0 0) := p_r.1 3 _ rfl
  have rF3 : w2.frozen? ⟨w.heap.size + 1, 3, none⟩ = false := p_r.2.1 3 (by simp)
  have rz : w.heap.size + 1 < w2.heap.size := p_r.2.2
  clear p_r
  have q_q := p_q
  have q0 : w2.cell? ⟨w1.heap.size, 0, none⟩ = some (.string pn) := p_q.1 0 _ rfl
  have qF0 : w2.frozen? ⟨w1.heap.size, 0, none⟩ = false := p_q.2.1 0 (by simp)
  have q1 : w2.cell? ⟨w1.heap.size, 1, none⟩ = some (.int .i64 pr) := p_q.1 1 _ rfl
  have qF1 : w2.frozen? ⟨w1.heap.size, 1, none⟩ = false := p_q.2.1 1 (by simp)
  have q2 : w2.cell? ⟨w1.heap.size, 2, none⟩ = some (.int .i64 po) := p_q.1 2 _ rfl
  have qF2 : w2.frozen? ⟨w1.heap.size, 2, none⟩ = false := p_q.2.1 2 (by simp)
  have q3 : w2.cell? ⟨w1.heap.size, 3, none⟩ = some (.slice a zs.length cap) := p_q.1 3 _ rfl
  have qF3 : w2.frozen? ⟨w1.heap.size, 3, none⟩ = false := p_q.2.1 3 (by simp)
  have qz : w1.heap.size < w2.heap.size := p_q.2.2
  clear p_q
  have hsw2 := hw2.size
  (try simp at hsw2)
  clear hw2
  have gz := rw2.1
  have S0 : Hid (RowC ((w2.setCell ⟨w1.heap.size, 3, none⟩ (.slice (some ⟨g, 0, none⟩) zs.length cap1)).alloc (.cells #[.bool false, .bool false, .bool false, .bool false, .bool false, .bool false] 70)) g zs ∧
    Nmd ((w2.setCell ⟨w1.heap.size, 3, none⟩ (.slice (some ⟨g, 0, none⟩) zs.length cap1)).alloc (.cells #[.bool false, .bool false, .bool false, .bool false, .bool false, .bool false] 70)) w2.heap.size (nmd zs []) ∧
    Lies w [(w.heap.size, [.string pn, .int .i64 pr, .int .i64 po, .slice a zs.length cap]), (w.heap.size + 1, [.string ⟨#[]⟩, .int .i64 0, .int .i64 0, .slice none 0 0]), (w1.heap.size, [.string pn, .int .i64 pr, .int .i64 po, .slice (some ⟨g, 0, none⟩) zs.length cap1])] ((w2.setCell ⟨w1.heap.size, 3, none⟩ (.slice (some ⟨g, 0, none⟩) zs.length cap1)).alloc (.cells #[.bool false, .bool false, .bool false, .bool false, .bool false, .bool false] 70))) := by
    refine ⟨(rw2.beside _ _ (show g ≠ w1.heap.size by omega)).alloc _, ?_, ?_⟩
    · have := Nmd.new (w2.setCell ⟨w1.heap.size, 3, none⟩ (.slice (some ⟨g, 0, none⟩) zs.length cap1)) 70
      rw [show (w2.setCell ⟨w1.heap.size, 3, none⟩ (.slice (some ⟨g, 0, none⟩) zs.length cap1)).heap.size = w2.heap.size by simp [World.setCell]] at this
      exact this
    · refine ⟨fun x hx => ?_, by go_grown⟩
      simp at hx
      rcases hx with rfl | rfl | rfl
      · exact (Cs.beside q_p _ _ (by omega)).alloc _
      · exact (Cs.beside q_r _ _ (by omega)).alloc _
      · exact (Cs.set q_q 3 _ (by simp)).alloc _
  clear HBw1 rw2
  go_wp2
  clear q_p p0 p1 p2 p3 q_r r0 r1 r2 r3 rF0 rF1 rF2 rF3 rz q_q q0 q1 q2 q3 qF0 qF1 qF2 qF3 qz HBw2
  generalize (w2.setCell ⟨w1.heap.size, 3, none⟩ (.slice (some ⟨g, 0, none⟩) zs.length cap1)).alloc (.cells #[.bool false, .bool false, .bool false, .bool false, .bool false, .bool false] 70) = W3 at S0 ⊢
  generalize w2.heap.size = nb at *
  generalize w1.heap.size = qb at *
  go_loopw [28] (fun f wr => ∃ (j : Nat) (out : List Ct) (seen : List ByteArray), f = .int .i64 j ∧ j ≤ l.length ∧ Hid (resGo zs out seen (l.drop j) = resGo zs zs [] l ∧ out.length = zs.length ∧ RowC wr g out ∧ Nmd wr nb (nmd zs seen) ∧ Lies w [(w.heap.size, [.string pn, .int .i64 pr, .int .i64 po, .slice a zs.length cap]), (w.heap.size + 1, [.string ⟨#[]⟩, .int .i64 0, .int .i64 0, .slice none 0 0]), (qb, [.string pn, .int .i64 pr, .int .i64 po, .slice (some ⟨g, 0, none⟩) zs.length cap1])] wr)) (fun f _ => l.length - (intOf f).toNat)
  case atStart => exact ⟨0, zs, [], rfl, by omega, by rw [List.drop_zero], rfl, S0.out.1, S0.out.2.1, S0.out.2.2⟩
  case round =>
    clear S0
    obtain ⟨j, out, seen, rfl, jl, SS⟩ := hrel
    have HB := SS.out.2.2.2.2.2
    have nzr : nb < wr.heap.size := SS.out.2.2.2.1.1
    have hs := HB.size
    have q_p := SS.out.2.2.2.2.get 0 rfl
    have q_r := SS.out.2.2.2.2.get 1 rfl
    have q_q := SS.out.2.2.2.2.get 2 rfl
    have p0 : wr.cell? ⟨w.heap.size, 0, none⟩ = some (.string pn) := q_p.1 0 _ rfl
    have p1 : wr.cell? ⟨w.heap.size, 1, none⟩ = some (.int .i64 pr) := q_p.1 1 _ rfl
    have p2 : wr.cell? ⟨w.heap.size, 2, none⟩ = some (.int .i64 po) := q_p.1 2 _ rfl
    have p3 : wr.cell? ⟨w.heap.size, 3, none⟩ = some (.slice a zs.length cap) := q_p.1 3 _ rfl
    have pz := q_p.2.2
    by_cases cj : j < l.length
    · obtain ⟨⟨n, xc, xm, xh, yc, ym, yh⟩, hdj⟩ : ∃ d, l[j]? = some d := ⟨l[j], List.getElem?_eq_getElem cj⟩
      obtain ⟨-, b, off, rfl, T⟩ := K3.out j _ hdj
      have DR : Hid (l.drop j = ⟨n, xc, xm, xh, yc, ym, yh⟩ :: l.drop (j + 1)) := by
        unfold Hid
        rw [List.drop_eq_getElem_cons cj, (List.getElem?_eq_some_iff.1 hdj).2]
      obtain ⟨c0, c1, c2, c3, c4, c5, c6⟩ := T.later HB
      simp only at c0 c1 c2 c3 c4 c5 c6
      have j0 : (0 : Int) ≤ (j : Int) := by omega
      have j1 : (j : Int) < (l.length : Int) := by omega
      clear T hdj
      go_wp2_with (fail)
      refine (find_is pn pr po n _ ((HZ.out.later HB).alloc _)).mono ?_
      rintro e w4 ⟨rfl, hw4⟩
      have S4 : Hid (RowC w4 g out ∧ Nmd w4 nb (nmd zs seen) ∧ Lies w [(wr.heap.size, [.string n, .int .i64 xc, .int .i64 xm, .int .i64 xh, .int .i64 yc, .int .i64 ym, .int .i64 yh]), (w.heap.size, [.string pn, .int .i64 pr, .int .i64 po, .slice a zs.length cap]), (w.heap.size + 1, [.string ⟨#[]⟩, .int .i64 0, .int .i64 0, .slice none 0 0]), (qb, [.string pn, .int .i64 pr, .int .i64 po, .slice (some ⟨g, 0, none⟩) zs.length cap1])] w4) :=
        ⟨(SS.out.2.2.1.alloc _).later hw4, (SS.out.2.2.2.1.alloc _).later hw4, (SS.out.2.2.2.2.new [.string n, .int .i64 xc, .int .i64 xm, .int .i64 xh, .int .i64 yc, .int .i64 ym, .int .i64 yh] _).later hw4⟩
      have OL : Hid (resGo zs out seen (⟨n, xc, xm, xh, yc, ym, yh⟩ :: l.drop (j + 1)) = resGo zs zs [] l ∧ out.length = zs.length) := ⟨by rw [← DR.out]; exact SS.out.1, SS.out.2.1⟩
      obtain ⟨o, ho⟩ : ∃ o, fnd n zs = o := ⟨_, rfl⟩
      rw [ho]
      have HO : Hid (fnd n zs = o) := ho
      clear ho hw4 SS HB hs q_p q_r q_q p0 p1 p2 p3 pz c0 c1 c2 c3 c4 c5 c6 DR
      have x_c := S4.out.2.2.get 0 rfl
      have x_p := S4.out.2.2.get 1 rfl
      have x_r := S4.out.2.2.get 2 rfl
      have x_q := S4.out.2.2.get 3 rfl
      have HB := S4.out.2.2.2
      have hs := HB.size
      have c0 : w4.cell? ⟨wr.heap.size, 0, none⟩ = some (.string n) := x_c.1 0 _ rfl
      have c1 : w4.cell? ⟨wr.heap.size, 1, none⟩ = some (.int .i64 xc) := x_c.1 1 _ rfl
      have c2 : w4.cell? ⟨wr.heap.size, 2, none⟩ = some (.int .i64 xm) := x_c.1 2 _ rfl
      have c3 : w4.cell? ⟨wr.heap.size, 3, none⟩ = some (.int .i64 xh) := x_c.1 3 _ rfl
      have c4 : w4.cell? ⟨wr.heap.size, 4, none⟩ = some (.int .i64 yc) := x_c.1 4 _ rfl
      have c5 : w4.cell? ⟨wr.heap.size, 5, none⟩ = some (.int .i64 ym) := x_c.1 5 _ rfl
      have c6 : w4.cell? ⟨wr.heap.size, 6, none⟩ = some (.int .i64 yh) := x_c.1 6 _ rfl
      have p3 : w4.cell? ⟨w.heap.size, 3, none⟩ = some (.slice a zs.length cap) := x_p.1 3 _ rfl
      have r0 : w4.cell? ⟨w.heap.size + 1, 0, none⟩ = some (.string ⟨#[]⟩) := x_r.1 0 _ rfl
      have r1 : w4.cell? ⟨w.heap.size + 1, 1, none⟩ = some (.int .i64 0) := x_r.1 1 _ rfl
      have r2 : w4.cell? ⟨w.heap.size + 1, 2, none⟩ = some (.int .i64 0) := x_r.1 2 _ rfl
      have r3 : w4.cell? ⟨w.heap.size + 1, 3, none⟩ = some (.slice none 0 0) := x_r.1 3 _ rfl
      have rF0 : w4.frozen? ⟨w.heap.size + 1, 0, none⟩ = false := x_r.2.1 0 (by simp)
      have rF1 : w4.frozen? ⟨w.heap.size + 1, 1, none⟩ = false := x_r.2.1 1 (by simp)
      have rF2 : w4.frozen? ⟨w.heap.size + 1, 2, none⟩ = false := x_r.2.1 2 (by simp)
      have rF3 : w4.frozen? ⟨w.heap.size + 1, 3, none⟩ = false := x_r.2.1 3 (by simp)
      have rz := x_r.2.2
      have q3 : w4.cell? ⟨qb, 3, none⟩ = some (.slice (some ⟨g, 0, none⟩) zs.length cap1) := x_q.1 3 _ rfl
      cases o with
      | none =>
        have X : Hid (R = (21, [])) := by unfold Hid; rw [HR.out]; exact resV_err GG.out (by rw [← OL.out.1, resGo_none HO.out]) (by decide)
        rw [show fv none = .tuple #[.int .i64 0, .bool false] from rfl]
        clear S4 OL HO
        go_wp2
        refine bodyPost_ret (v := .tuple #[.agg #[.string ⟨#[]⟩, .int .i64 0, .int .i64 0, .slice none 0 0], .int .i64 21]) (by simp [results, Tryd.results29, go_sem, r0, r1, r2, r3]) rfl ?_
        exact ⟨_, by rw [X.out, ← resP_no (by decide)], by rw [X.out]; exact RdC.nil _, by go_grown⟩
      | some k =>
        rw [show fv (some k) = .tuple #[.int .i64 k, .bool true] from rfl]
        have kz := fnd_lt HO.out
        have k6 : k < 6 := by omega
        obtain ⟨n0, n1'⟩ := S4.out.2.1.2 k k6
        have nz := S4.out.2.1.1
        have i0 : (0 : Int) ≤ (k : Int) := by omega
        have i6 : (k : Int) < 6 := by omega
        have iz : (k : Int) < (zs.length : Int) := by omega
        obtain ⟨s, hs'⟩ : ∃ s, seen.any (eqS n) = s := ⟨_, rfl⟩
        rw [nmd_at HO.out, hs'] at n0
        have HS : Hid (seen.any (eqS n) = s) := hs'
        clear hs'
        cases s with
        | true =>
          have X : Hid (R = (22, [])) := by unfold Hid; rw [HR.out]; exact resV_err GG.out (by rw [← OL.out.1, resGo_seen HO.out HS.out]) (by decide)
          clear S4 OL HO
          go_wp2
          refine bodyPost_ret (v := .tuple #[.agg #[.string ⟨#[]⟩, .int .i64 0, .int .i64 0, .slice none 0 0], .int .i64 22]) (by simp [results, Tryd.results29, go_sem, r0, r1, r2, r3]) rfl ?_
          exact ⟨_, by rw [X.out, ← resP_no (by decide)], by rw [X.out]; exact RdC.nil _, by go_grown⟩
        | false =>
          obtain ⟨⟨m, rc, rm, rh, lc, lm, lh, x, y, z⟩, hk1⟩ : ∃ d, zs[k]? = some d := ⟨zs[k], List.getElem?_eq_getElem kz⟩
          obtain ⟨-, b1, off1, rfl, U⟩ := H3.out k _ hk1
          obtain ⟨d0, d1, d2, d3, d4, d5, d6, d7, d8, d9⟩ := U.later HB
          simp only at d0 d1 d2 d3 d4 d5 d6 d7 d8 d9
          obtain ⟨t, ht⟩ : ∃ t, turnB lc lm yc ym = t := ⟨_, rfl⟩
          have TT : Hid (turnAt zs k ⟨n, xc, xm, xh, yc, ym, yh⟩ = t) := by unfold Hid turnAt; rw [hk1]; exact ht
          have CT : Hid (∀ w, LaidS w → Calls Tryd.prog 44 #[.agg #[.int .i64 lc, .int .i64 lm, .int .i64 lh], .agg #[.int .i64 yc, .int .i64 ym, .int .i64 yh]] w fun e w' => e = .returned (.bool t) ∧ Below w.heap.size w w') := fun w hL => by
            have := turns_is lc lm lh yc ym yh w hL
            rwa [ht] at this
          have HL4 : Hid (LaidS w4) := HL.out.later HB
          clear U hk1 ht
          go_upto_region 14 with (fail)
          go_cut [54] (fun s54 wc => s54 = .bool t ∧ Hid (RowC wc g out ∧ Nmd wc nb (nmd zs seen) ∧ Lies w [(wr.heap.size, [.string n, .int .i64 xc, .int .i64 xm, .int .i64 xh, .int .i64 yc, .int .i64 ym, .int .i64 yh]), (w.heap.size, [.string pn, .int .i64 pr, .int .i64 po, .slice (some ⟨b1, off1, none⟩) zs.length cap]), (w.heap.size + 1, [.string ⟨#[]⟩, .int .i64 0, .int .i64 0, .slice none 0 0]), (qb, [.string pn, .int .i64 pr, .int .i64 po, .slice (some ⟨g, 0, none⟩) zs.length cap1])] wc))
          case first =>
            go_region_with (go_at_call 44; refine (CT.out _ HL4.out.drew).mono ?_; rintro e w5 ⟨rfl, hw5⟩; have S5 : Hid (RowC w5 g out ∧ Nmd w5 nb (nmd zs seen) ∧ Lies w [(wr.heap.size, [.string n, .int .i64 xc, .int .i64 xm, .int .i64 xh, .int .i64 yc, .int .i64 ym, .int .i64 yh]), (w.heap.size, [.string pn, .int .i64 pr, .int .i64 po, .slice (some ⟨b1, off1, none⟩) zs.length cap]), (w.heap.size + 1, [.string ⟨#[]⟩, .int .i64 0, .int .i64 0, .slice none 0 0]), (qb, [.string pn, .int .i64 pr, .int .i64 po, .slice (some ⟨g, 0, none⟩) zs.length cap1])] w5) := ⟨S4.out.1.drew.later hw5, S4.out.2.1.drew.later hw5, S4.out.2.2.drew.later hw5⟩; clear hw5)
            all_goals
              clear n0 n1' nz c0 c1 c2 c3 c4 c5 c6 p3 r0 r1 r2 r3 rF0 rF1 rF2 rF3 rz q3 x_c x_p x_r x_q HB hs d0 d1 d2 d3 d4 d5 d6 d7 d8 d9 S4 CT HL4
              go_wp2_with (fail)
              go_meet
              case rel => exact ⟨rfl, S5⟩
          case rest =>
            clear n0 n1' nz c0 c1 c2 c3 c4 c5 c6 p3 r0 r1 r2 r3 rF0 rF1 rF2 rF3 rz q3 x_c x_p x_r x_q HB hs d0 d1 d2 d3 d4 d5 d6 d7 d8 d9 S4 CT HL4
            obtain ⟨rfl, S5⟩ := hcut
            have x_c := S5.out.2.2.get 0 rfl
            have x_r := S5.out.2.2.get 2 rfl
            have x_q := S5.out.2.2.get 3 rfl
            have HB := S5.out.2.2.2
            have hs := HB.size
            cases t with
            | true =>
              have X : Hid (R = (28, [])) := by unfold Hid; rw [HR.out]; exact resV_err GG.out (by rw [← OL.out.1, resGo_turn HO.out HS.out TT.out]) (by decide)
              have r0 : wc.cell? ⟨w.heap.size + 1, 0, none⟩ = some (.string ⟨#[]⟩) := x_r.1 0 _ rfl
              have r1 : wc.cell? ⟨w.heap.size + 1, 1, none⟩ = some (.int .i64 0) := x_r.1 1 _ rfl
              have r2 : wc.cell? ⟨w.heap.size + 1, 2, none⟩ = some (.int .i64 0) := x_r.1 2 _ rfl
              have r3 : wc.cell? ⟨w.heap.size + 1, 3, none⟩ = some (.slice none 0 0) := x_r.1 3 _ rfl
              have rF0 : wc.frozen? ⟨w.heap.size + 1, 0, none⟩ = false := x_r.2.1 0 (by simp)
              have rF1 : wc.frozen? ⟨w.heap.size + 1, 1, none⟩ = false := x_r.2.1 1 (by simp)
              have rF2 : wc.frozen? ⟨w.heap.size + 1, 2, none⟩ = false := x_r.2.1 2 (by simp)
              have rF3 : wc.frozen? ⟨w.heap.size + 1, 3, none⟩ = false := x_r.2.1 3 (by simp)
              have rz := x_r.2.2
              clear S5 OL HO
              go_wp2
              refine bodyPost_ret (v := .tuple #[.agg #[.string ⟨#[]⟩, .int .i64 0, .int .i64 0, .slice none 0 0], .int .i64 28]) (by simp [results, Tryd.results29, go_sem, r0, r1, r2, r3]) rfl ?_
              exact ⟨_, by rw [X.out, ← resP_no (by decide)], by rw [X.out]; exact RdC.nil _, by go_grown⟩
            | false =>
              obtain ⟨n0, n1'⟩ := S5.out.2.1.2 k k6
              have nz := S5.out.2.1.1
              have NE : Hid (resGo zs (out.modify k (fun c => c.put ⟨n, xc, xm, xh, yc, ym, yh⟩)) (n :: seen) (l.drop (j + 1)) = resGo zs zs [] l ∧ (out.modify k (fun c => c.put ⟨n, xc, xm, xh, yc, ym, yh⟩)).length = zs.length) :=
                ⟨by rw [← OL.out.1, resGo_on HO.out HS.out TT.out], by rw [List.length_modify]; exact OL.out.2⟩
              obtain ⟨dd, hdd⟩ : ∃ d, out[k]? = some d := ⟨out[k]'(by rw [OL.out.2]; exact kz), List.getElem?_eq_getElem _⟩
              have DD : Hid (out[k]? = some dd) := hdd
              have NM : Hid (∀ i, nmd zs (n :: seen) i = if i = k then true else nmd zs seen i) := nmd_on HO.out
              clear hdd OL HS TT HO
              go_upto_region 17 with (fail)
              have S7 : Hid (RowC (wc.setCell ⟨nb, k, none⟩ (.bool true)) g out ∧ Nmd (wc.setCell ⟨nb, k, none⟩ (.bool true)) nb (nmd zs (n :: seen)) ∧ Lies w [(wr.heap.size, [.string n, .int .i64 xc, .int .i64 xm, .int .i64 xh, .int .i64 yc, .int .i64 ym, .int .i64 yh]), (w.heap.size, [.string pn, .int .i64 pr, .int .i64 po, .slice (some ⟨b1, off1, none⟩) zs.length cap]), (w.heap.size + 1, [.string ⟨#[]⟩, .int .i64 0, .int .i64 0, .slice none 0 0]), (qb, [.string pn, .int .i64 pr, .int .i64 po, .slice (some ⟨g, 0, none⟩) zs.length cap1])] (wc.setCell ⟨nb, k, none⟩ (.bool true))) := by
                refine ⟨S5.out.1.beside _ _ (show g ≠ nb by omega), (S5.out.2.1.set true).congr (fun i _ => NM.out i), fun x hx => ?_, HB.setCell (show w.heap.size ≤ nb by omega) _⟩
                have := S5.out.2.2.1 x hx
                refine Cs.beside this _ _ ?_
                simp at hx
                rcases hx with rfl | rfl | rfl | rfl
                · show wr.heap.size ≠ nb
                  omega
                · show w.heap.size ≠ nb
                  omega
                · show w.heap.size + 1 ≠ nb
                  omega
                · show qb ≠ nb
                  omega
              clear n0 n1' nz x_c x_r x_q HB hs S5 NM
              generalize wc.setCell ⟨nb, k, none⟩ (.bool true) = W7 at S7 ⊢
              have OLen := NE.out.2
              rw [List.length_modify] at OLen
              have K0 : Hid (KS w g nb k (nmd zs (n :: seen)) [(wr.heap.size, [.string n, .int .i64 xc, .int .i64 xm, .int .i64 xh, .int .i64 yc, .int .i64 ym, .int .i64 yh]), (w.heap.size, [.string pn, .int .i64 pr, .int .i64 po, .slice (some ⟨b1, off1, none⟩) zs.length cap]), (w.heap.size + 1, [.string ⟨#[]⟩, .int .i64 0, .int .i64 0, .slice none 0 0]), (qb, [.string pn, .int .i64 pr, .int .i64 po, .slice (some ⟨g, 0, none⟩) zs.length cap1])] (mo out k ⟨n, xc, xm, xh, yc, ym, yh⟩ false false) W7) := by
                refine ⟨S7.out.1, S7.out.2.1, S7.out.2.2, ⟨by omega, fun x hx => ?_, by omega⟩, by show k < out.length; omega⟩
                simp at hx
                rcases hx with rfl | rfl | rfl | rfl
                · show wr.heap.size ≠ g
                  omega
                · show w.heap.size ≠ g
                  omega
                · show w.heap.size + 1 ≠ g
                  omega
                · show qb ≠ g
                  omega
              clear S7 DD OLen
              refine wp_region_noPanic ?_
              refine wp_region_held_drew (S := fun w' => Cs w' qb [.string pn, .int .i64 pr, .int .i64 po, .slice (some ⟨g, 0, none⟩) zs.length cap1] ∧ Cs w' wr.heap.size [.string n, .int .i64 xc, .int .i64 xm, .int .i64 xh, .int .i64 yc, .int .i64 ym, .int .i64 yh]) (by kernel_rfl) ?_ (fun hHeld => ?_)
              · exact ⟨K0.out.drew.2.2.1.get 3 rfl, K0.out.drew.2.2.1.get 0 rfl⟩
              refine wpAnyH_take (i := 0) (v := ?_) rfl (by kernel_rfl) (by kernel_rfl) (by kernel_rfl) (fun _ _ _ h => h) (Or.inl ⟨by rfl, ?_⟩) (by assumption) ?_
              rotate_left
              · (intro wS hSw; have g1 := hSw.1.1 3 _ rfl; have g2 := hSw.2.1 1 _ rfl; have g3 := hSw.2.1 2 _ rfl; have g4 := hSw.2.1 3 _ rfl; have g5 := hSw.2.1 4 _ rfl; have g6 := hSw.2.1 5 _ rfl; have g7 := hSw.2.1 6 _ rfl; go_simp; try with_reducible rfl)
              change wpAnyH _ _ _ _ _ _ _ (Act.put _ (some 58) _) _
              simp only [Act.put, List.setIfInBounds_toArray, List.set_cons_zero, List.set_cons_succ]
              refine wpAnyH_take (i := 1) (v := ?_) rfl (by kernel_rfl) (by kernel_rfl) (by kernel_rfl) (fun _ _ _ h => h) (Or.inl ⟨by rfl, ?_⟩) (by assumption) ?_
              rotate_left
              · (intro wS hSw; have g1 := hSw.1.1 3 _ rfl; have g2 := hSw.2.1 1 _ rfl; have g3 := hSw.2.1 2 _ rfl; have g4 := hSw.2.1 3 _ rfl; have g5 := hSw.2.1 4 _ rfl; have g6 := hSw.2.1 5 _ rfl; have g7 := hSw.2.1 6 _ rfl; go_simp; try with_reducible rfl)
              change wpAnyH _ _ _ _ _ _ _ (Act.put _ (some 59) _) _
              simp only [Act.put, List.setIfInBounds_toArray, List.set_cons_zero, List.set_cons_succ]
              refine wpAnyH_take (i := 2) (v := ?_) rfl (by kernel_rfl) (by kernel_rfl) (by kernel_rfl) (fun _ _ _ h => h) (Or.inl ⟨by rfl, ?_⟩) (by assumption) ?_
              rotate_left
              · (intro wS hSw; have g1 := hSw.1.1 3 _ rfl; have g2 := hSw.2.1 1 _ rfl; have g3 := hSw.2.1 2 _ rfl; have g4 := hSw.2.1 3 _ rfl; have g5 := hSw.2.1 4 _ rfl; have g6 := hSw.2.1 5 _ rfl; have g7 := hSw.2.1 6 _ rfl; go_simp; try with_reducible rfl)
              change wpAnyH _ _ _ _ _ _ _ (Act.put _ (some 60) _) _
              simp only [Act.put, List.setIfInBounds_toArray, List.set_cons_zero, List.set_cons_succ]
              refine wpAnyH_take (i := 3) (v := ?_) rfl (by kernel_rfl) (by kernel_rfl) (by kernel_rfl) (fun _ _ _ h => h) (Or.inl ⟨by rfl, ?_⟩) (by assumption) ?_
              rotate_left
              · (intro wS hSw; have g1 := hSw.1.1 3 _ rfl; have g2 := hSw.2.1 1 _ rfl; have g3 := hSw.2.1 2 _ rfl; have g4 := hSw.2.1 3 _ rfl; have g5 := hSw.2.1 4 _ rfl; have g6 := hSw.2.1 5 _ rfl; have g7 := hSw.2.1 6 _ rfl; go_simp; try with_reducible rfl)
              change wpAnyH _ _ _ _ _ _ _ (Act.put _ (some 61) _) _
              simp only [Act.put, List.setIfInBounds_toArray, List.set_cons_zero, List.set_cons_succ]
              refine wpAnyH_take (i := 5) (v := ?_) rfl (by kernel_rfl) (by kernel_rfl) (by kernel_rfl) (fun _ _ _ h => h) (Or.inl ⟨by rfl, ?_⟩) (by assumption) ?_
              rotate_left
              · (intro wS hSw; have g1 := hSw.1.1 3 _ rfl; have g2 := hSw.2.1 1 _ rfl; have g3 := hSw.2.1 2 _ rfl; have g4 := hSw.2.1 3 _ rfl; have g5 := hSw.2.1 4 _ rfl; have g6 := hSw.2.1 5 _ rfl; have g7 := hSw.2.1 6 _ rfl; go_simp; try with_reducible rfl)
              change wpAnyH _ _ _ _ _ _ _ (Act.put _ (some 63) _) _
              simp only [Act.put, List.setIfInBounds_toArray, List.set_cons_zero, List.set_cons_succ]
              refine wpAnyH_take (i := 6) (v := ?_) rfl (by kernel_rfl) (by kernel_rfl) (by kernel_rfl) (fun _ _ _ h => h) (Or.inl ⟨by rfl, ?_⟩) (by assumption) ?_
              rotate_left
              · (intro wS hSw; have g1 := hSw.1.1 3 _ rfl; have g2 := hSw.2.1 1 _ rfl; have g3 := hSw.2.1 2 _ rfl; have g4 := hSw.2.1 3 _ rfl; have g5 := hSw.2.1 4 _ rfl; have g6 := hSw.2.1 5 _ rfl; have g7 := hSw.2.1 6 _ rfl; go_simp; try with_reducible rfl)
              change wpAnyH _ _ _ _ _ _ _ (Act.put _ (some 64) _) _
              simp only [Act.put, List.setIfInBounds_toArray, List.set_cons_zero, List.set_cons_succ]
              refine wpAnyH_take (i := 7) (v := ?_) rfl (by kernel_rfl) (by kernel_rfl) (by kernel_rfl) (fun _ _ _ h => h) (Or.inl ⟨by rfl, ?_⟩) (by assumption) ?_
              rotate_left
              · (intro wS hSw; have g1 := hSw.1.1 3 _ rfl; have g2 := hSw.2.1 1 _ rfl; have g3 := hSw.2.1 2 _ rfl; have g4 := hSw.2.1 3 _ rfl; have g5 := hSw.2.1 4 _ rfl; have g6 := hSw.2.1 5 _ rfl; have g7 := hSw.2.1 6 _ rfl; go_simp; try with_reducible rfl)
              change wpAnyH _ _ _ _ _ _ _ (Act.put _ (some 65) _) _
              simp only [Act.put, List.setIfInBounds_toArray, List.set_cons_zero, List.set_cons_succ]
              refine wpAnyH_take (i := 8) (v := ?_) rfl (by kernel_rfl) (by kernel_rfl) (by kernel_rfl) (fun _ _ _ h => h) (Or.inl ⟨by rfl, ?_⟩) (by assumption) ?_
              rotate_left
              · (intro wS hSw; have g1 := hSw.1.1 3 _ rfl; have g2 := hSw.2.1 1 _ rfl; have g3 := hSw.2.1 2 _ rfl; have g4 := hSw.2.1 3 _ rfl; have g5 := hSw.2.1 4 _ rfl; have g6 := hSw.2.1 5 _ rfl; have g7 := hSw.2.1 6 _ rfl; go_simp; try with_reducible rfl)
              change wpAnyH _ _ _ _ _ _ _ (Act.put _ (some 66) _) _
              simp only [Act.put, List.setIfInBounds_toArray, List.set_cons_zero, List.set_cons_succ]
              refine wpAnyH_take (i := 10) (v := ?_) rfl (by kernel_rfl) (by kernel_rfl) (by kernel_rfl) (fun _ _ _ h => h) (Or.inl ⟨by rfl, ?_⟩) (by assumption) ?_
              rotate_left
              · (intro wS hSw; have g1 := hSw.1.1 3 _ rfl; have g2 := hSw.2.1 1 _ rfl; have g3 := hSw.2.1 2 _ rfl; have g4 := hSw.2.1 3 _ rfl; have g5 := hSw.2.1 4 _ rfl; have g6 := hSw.2.1 5 _ rfl; have g7 := hSw.2.1 6 _ rfl; go_simp; try with_reducible rfl)
              change wpAnyH _ _ _ _ _ _ _ (Act.put _ (some 68) _) _
              simp only [Act.put, List.setIfInBounds_toArray, List.set_cons_zero, List.set_cons_succ]
              refine wpAnyH_take (i := 11) (v := ?_) rfl (by kernel_rfl) (by kernel_rfl) (by kernel_rfl) (fun _ _ _ h => h) (Or.inl ⟨by rfl, ?_⟩) (by assumption) ?_
              rotate_left
              · (intro wS hSw; have g1 := hSw.1.1 3 _ rfl; have g2 := hSw.2.1 1 _ rfl; have g3 := hSw.2.1 2 _ rfl; have g4 := hSw.2.1 3 _ rfl; have g5 := hSw.2.1 4 _ rfl; have g6 := hSw.2.1 5 _ rfl; have g7 := hSw.2.1 6 _ rfl; go_simp; try with_reducible rfl)
              change wpAnyH _ _ _ _ _ _ _ (Act.put _ (some 69) _) _
              simp only [Act.put, List.setIfInBounds_toArray, List.set_cons_zero, List.set_cons_succ]
              refine wpAnyH_named ?_
              intro A hA
              clear hHeld
              refine wpAnyH_inv (I := fun L a W => ∃ (c4 c9 c12 c13 c14 c15 : Bool) (s62 s67 s70 s71 : Value), L = #[true, true, true, true, c4, true, true, true, true, c9, true, true, c12, c13, c14, c15] ∧ a = ((((A.put (some 62) s62).put (some 67) s67).put (some 70) s70).put (some 71) s71) ∧ Hid (KS w g nb k (nmd zs (n :: seen)) [(wr.heap.size, [.string n, .int .i64 xc, .int .i64 xm, .int .i64 xh, .int .i64 yc, .int .i64 ym, .int .i64 yh]), (w.heap.size, [.string pn, .int .i64 pr, .int .i64 po, .slice (some ⟨b1, off1, none⟩) zs.length cap]), (w.heap.size + 1, [.string ⟨#[]⟩, .int .i64 0, .int .i64 0, .slice none 0 0]), (qb, [.string pn, .int .i64 pr, .int .i64 po, .slice (some ⟨g, 0, none⟩) zs.length cap1])] (mo out k ⟨n, xc, xm, xh, yc, ym, yh⟩ c12 c15) W) ∧ Hid (c4 = true → s62 = .slice (some ⟨g, 0, none⟩) zs.length cap1) ∧ Hid (c9 = true → s67 = .agg #[.int .i64 yc, .int .i64 ym, .int .i64 yh]) ∧ Hid (c13 = true → s70 = .pointer (some ⟨g, k * 10, none⟩)) ∧ Hid (c14 = true → s71 = .pointer (some ⟨g, k * 10 + 4, none⟩)) ∧ Hid (c15 = true → c12 = true)) ?hS ?hz (by kernel_rfl) ?hsteps ?hend _ _ _ _ (by decide) ?h0
              case hS => rintro L a W ⟨c4, c9, c12, c13, c14, c15, s62, s67, s70, s71, -, -, K, -⟩; exact (fun h => h) (⟨K.out.2.2.1.get 3 rfl, K.out.2.2.1.get 0 rfl⟩)
              case hz => rintro L a W ⟨c4, c9, c12, c13, c14, c15, s62, s67, s70, s71, rfl, -⟩; rfl
              case h0 => exact ⟨false, false, false, false, false, false, A.eval (.tmp 62), A.eval (.tmp 67), A.eval (.tmp 70), A.eval (.tmp 71), rfl, by simp only [put_self], K0.out.drew, fun h => Bool.noConfusion h, fun h => Bool.noConfusion h, fun h => Bool.noConfusion h, fun h => Bool.noConfusion h, fun h => Bool.noConfusion h⟩
              case hend =>
                rintro L a W ⟨c4, c9, c12, c13, c14, c15, s62, s67, s70, s71, rfl, rfl, K, k4, k9, k13, k14, o15_12⟩ hall
                obtain rfl : c4 = true := hall 4
                obtain rfl : c9 = true := hall 9
                obtain rfl : c12 = true := hall 12
                obtain rfl : c13 = true := hall 13
                obtain rfl : c14 = true := hall 14
                obtain rfl : c15 = true := hall 15
                obtain rfl := k4.out rfl
                obtain rfl := k9.out rfl
                obtain rfl := k13.out rfl
                obtain rfl := k14.out rfl
                clear k4 k9 k13 k14 o15_12
                refine NoPanic.normal ?_
                subst hA
                simp only [Act.put, List.setIfInBounds_toArray, List.set_cons_zero, List.set_cons_succ]
                have S8 : Hid (RowC W g (out.modify k (fun c => c.put ⟨n, xc, xm, xh, yc, ym, yh⟩)) ∧ Nmd W nb (nmd zs (n :: seen)) ∧ Lies w [(w.heap.size, [.string pn, .int .i64 pr, .int .i64 po, .slice (some ⟨b1, off1, none⟩) zs.length cap]), (w.heap.size + 1, [.string ⟨#[]⟩, .int .i64 0, .int .i64 0, .slice none 0 0]), (qb, [.string pn, .int .i64 pr, .int .i64 po, .slice (some ⟨g, 0, none⟩) zs.length cap1])] W) := ⟨K.out.1, K.out.2.1, fun x hx => K.out.2.2.1.1 x (List.mem_cons_of_mem _ hx), K.out.2.2.1.2⟩
                clear K K0
                go_wp2
                go_roundw
                case rel => exact ⟨j + 1, out.modify k (fun c => c.put ⟨n, xc, xm, xh, yc, ym, yh⟩), n :: seen, by go_num, by omega, NE.out.1, NE.out.2, S8.out.1, S8.out.2.1, S8.out.2.2⟩
                case measure => simp [intOf]; omega
              case hsteps =>
                refine StepsI.skip (i := 0) (by rintro L a W ⟨c4, c9, c12, c13, c14, c15, s62, s67, s70, s71, rfl, -⟩; rfl) ?_
                refine StepsI.skip (i := 1) (by rintro L a W ⟨c4, c9, c12, c13, c14, c15, s62, s67, s70, s71, rfl, -⟩; rfl) ?_
                refine StepsI.skip (i := 2) (by rintro L a W ⟨c4, c9, c12, c13, c14, c15, s62, s67, s70, s71, rfl, -⟩; rfl) ?_
                refine StepsI.skip (i := 3) (by rintro L a W ⟨c4, c9, c12, c13, c14, c15, s62, s67, s70, s71, rfl, -⟩; rfl) ?_
                refine StepsI.cons (i := 4) rfl ?_ ?_
                · rintro L a W ⟨c4, c9, c12, c13, c14, c15, s62, s67, s70, s71, rfl, rfl, K, k4, k9, k13, k14, o15_12⟩ h0 hd KK hK
                  obtain rfl : c4 = false := h0
                  have z0 := (K.out.2.2.1.get 3 rfl).1 3 _ rfl
                  subst hA
                  simp only [Act.put, List.setIfInBounds_toArray, List.set_cons_zero, List.set_cons_succ]
                  clear hd
                  go_simp
                  exact hK.out _ _ ⟨true, c9, c12, c13, c14, c15, .slice (some ⟨g, 0, none⟩) zs.length cap1, s67, s70, s71, rfl, by simp only [Act.put, List.setIfInBounds_toArray, List.set_cons_zero, List.set_cons_succ], K, fun _ => rfl, k9.out, k13.out, k14.out, o15_12.out⟩
                refine StepsI.skip (i := 5) (by rintro L a W ⟨c4, c9, c12, c13, c14, c15, s62, s67, s70, s71, rfl, -⟩; rfl) ?_
                refine StepsI.skip (i := 6) (by rintro L a W ⟨c4, c9, c12, c13, c14, c15, s62, s67, s70, s71, rfl, -⟩; rfl) ?_
                refine StepsI.skip (i := 7) (by rintro L a W ⟨c4, c9, c12, c13, c14, c15, s62, s67, s70, s71, rfl, -⟩; rfl) ?_
                refine StepsI.skip (i := 8) (by rintro L a W ⟨c4, c9, c12, c13, c14, c15, s62, s67, s70, s71, rfl, -⟩; rfl) ?_
                refine StepsI.cons (i := 9) rfl ?_ ?_
                · rintro L a W ⟨c4, c9, c12, c13, c14, c15, s62, s67, s70, s71, rfl, rfl, K, k4, k9, k13, k14, o15_12⟩ h0 hd KK hK
                  obtain rfl : c9 = false := h0
                  have z0 := (K.out.2.2.1.get 0 rfl).1 4 _ rfl
                  have z1 := (K.out.2.2.1.get 0 rfl).1 5 _ rfl
                  have z2 := (K.out.2.2.1.get 0 rfl).1 6 _ rfl
                  subst hA
                  simp only [Act.put, List.setIfInBounds_toArray, List.set_cons_zero, List.set_cons_succ]
                  clear hd
                  go_simp
                  exact hK.out _ _ ⟨c4, true, c12, c13, c14, c15, s62, .agg #[.int .i64 yc, .int .i64 ym, .int .i64 yh], s70, s71, rfl, by simp only [Act.put, List.setIfInBounds_toArray, List.set_cons_zero, List.set_cons_succ], K, k4.out, fun _ => rfl, k13.out, k14.out, o15_12.out⟩
                refine StepsI.skip (i := 10) (by rintro L a W ⟨c4, c9, c12, c13, c14, c15, s62, s67, s70, s71, rfl, -⟩; rfl) ?_
                refine StepsI.skip (i := 11) (by rintro L a W ⟨c4, c9, c12, c13, c14, c15, s62, s67, s70, s71, rfl, -⟩; rfl) ?_
                refine StepsI.cons (i := 12) rfl ?_ ?_
                · rintro L a W ⟨c4, c9, c12, c13, c14, c15, s62, s67, s70, s71, rfl, rfl, K, k4, k9, k13, k14, o15_12⟩ h0 hd KK hK
                  obtain rfl : c12 = false := h0
                  obtain rfl : c15 = false := by
                    cases c15
                    · rfl
                    · exact absurd (o15_12.out rfl) (by decide)
                  subst hA
                  simp only [Act.put, List.setIfInBounds_toArray, List.set_cons_zero, List.set_cons_succ]
                  clear hd
                  rw [if_pos (by rfl)]
                  refine wp_store_cells _ _ _ rfl rfl g (k * 10 + 1) #[.int .i64 xc, .int .i64 xm, .int .i64 xh] rfl rfl (K.out.there 1 (by omega)) (by kernel_rfl) (by simp [Value.oneCell']) ?_
                  exact hK.out _ _ ⟨c4, c9, true, c13, c14, false, s62, s67, s70, s71, rfl, by simp only [Act.put, List.setIfInBounds_toArray, List.set_cons_zero, List.set_cons_succ], K.out.a, k4.out, k9.out, k13.out, k14.out, fun _ => rfl⟩
                refine StepsI.cons (i := 13) rfl ?_ ?_
                · rintro L a W ⟨c4, c9, c12, c13, c14, c15, s62, s67, s70, s71, rfl, rfl, K, k4, k9, k13, k14, o15_12⟩ h0 hd KK hK
                  obtain rfl : c13 = false := h0
                  obtain rfl : c4 = true := hd ⟨4, .data⟩ (by simp) rfl
                  have e4 := k4.out rfl
                  subst e4
                  subst hA
                  simp only [Act.put, List.setIfInBounds_toArray, List.set_cons_zero, List.set_cons_succ]
                  clear hd
                  go_simp
                  exact hK.out _ _ ⟨true, c9, c12, true, c14, c15, .slice (some ⟨g, 0, none⟩) zs.length cap1, s67, .pointer (some ⟨g, k * 10, none⟩), s71, rfl, by simp only [Act.put, List.setIfInBounds_toArray, List.set_cons_zero, List.set_cons_succ], K, fun _ => rfl, k9.out, fun _ => rfl, k14.out, o15_12.out⟩
                refine StepsI.cons (i := 14) rfl ?_ ?_
                · rintro L a W ⟨c4, c9, c12, c13, c14, c15, s62, s67, s70, s71, rfl, rfl, K, k4, k9, k13, k14, o15_12⟩ h0 hd KK hK
                  obtain rfl : c14 = false := h0
                  obtain rfl : c13 = true := hd ⟨13, .data⟩ (by simp) rfl
                  have e13 := k13.out rfl
                  subst e13
                  subst hA
                  simp only [Act.put, List.setIfInBounds_toArray, List.set_cons_zero, List.set_cons_succ]
                  clear hd
                  go_simp
                  exact hK.out _ _ ⟨c4, c9, c12, true, true, c15, s62, s67, .pointer (some ⟨g, k * 10, none⟩), .pointer (some ⟨g, k * 10 + 4, none⟩), rfl, by simp only [Act.put, List.setIfInBounds_toArray, List.set_cons_zero, List.set_cons_succ], K, k4.out, k9.out, fun _ => rfl, fun _ => rfl, o15_12.out⟩
                refine StepsI.cons (i := 15) rfl ?_ ?_
                · rintro L a W ⟨c4, c9, c12, c13, c14, c15, s62, s67, s70, s71, rfl, rfl, K, k4, k9, k13, k14, o15_12⟩ h0 hd KK hK
                  obtain rfl : c15 = false := h0
                  obtain rfl : c9 = true := hd ⟨9, .data⟩ (by simp) rfl
                  obtain rfl : c14 = true := hd ⟨14, .data⟩ (by simp) rfl
                  obtain rfl : c12 = true := hd ⟨12, .phase⟩ (by simp) rfl
                  have e9 := k9.out rfl
                  subst e9
                  have e14 := k14.out rfl
                  subst e14
                  subst hA
                  simp only [Act.put, List.setIfInBounds_toArray, List.set_cons_zero, List.set_cons_succ]
                  clear hd
                  rw [if_pos (by rfl)]
                  refine wp_store_cells _ _ _ rfl rfl g (k * 10 + 4) #[.int .i64 yc, .int .i64 ym, .int .i64 yh] rfl rfl (K.out.there 4 (by omega)) (by kernel_rfl) (by simp [Value.oneCell']) ?_
                  exact hK.out _ _ ⟨c4, true, true, c13, true, true, s62, .agg #[.int .i64 yc, .int .i64 ym, .int .i64 yh], s70, .pointer (some ⟨g, k * 10 + 4, none⟩), rfl, by simp only [Act.put, List.setIfInBounds_toArray, List.set_cons_zero, List.set_cons_succ], K.out.b, k4.out, fun _ => rfl, k13.out, fun _ => rfl, fun _ => rfl⟩
                exact StepsI.nil
    · obtain rfl : j = l.length := by omega
      obtain ⟨sa, rfl⟩ : ∃ x, x = a := ⟨_, rfl⟩
      have GO : Hid (resGo zs zs [] l = (0, out)) := by unfold Hid; rw [← SS.out.1, List.drop_length]; rfl
      have RO : Hid (∀ W, RowC W g out → RdC W (.slice (some ⟨g, 0, none⟩) zs.length cap1) out) := fun W h => by
        have := h.reads (cap := cap1) (by rw [SS.out.2.1]; exact n1) n2
        rwa [SS.out.2.1] at this
      have q0 : wr.cell? ⟨qb, 0, none⟩ = some (.string pn) := q_q.1 0 _ rfl
      have q1 : wr.cell? ⟨qb, 1, none⟩ = some (.int .i64 pr) := q_q.1 1 _ rfl
      have q2 : wr.cell? ⟨qb, 2, none⟩ = some (.int .i64 po) := q_q.1 2 _ rfl
      have q3 : wr.cell? ⟨qb, 3, none⟩ = some (.slice (some ⟨g, 0, none⟩) zs.length cap1) := q_q.1 3 _ rfl
      go_wp2_with (fail)
      refine (pod_is pn pr po HM.out _ (HL.out.later HB) (RO.out _ SS.out.2.2.1)).mono ?_
      rintro e w4 ⟨rfl, hw4⟩
      have K4 : Hid (KR w [(w.heap.size, [.string pn, .int .i64 pr, .int .i64 po, .slice sa zs.length cap]), (w.heap.size + 1, [.string ⟨#[]⟩, .int .i64 0, .int .i64 0, .slice none 0 0]), (qb, [.string pn, .int .i64 pr, .int .i64 po, .slice (some ⟨g, 0, none⟩) zs.length cap1])] g out (.slice sa zs.length cap) zs w4) := ⟨SS.out.2.2.2.2.later hw4, HL.out.later (HB.trans (hw4.mono hs)), SS.out.2.2.1.later hw4, HZ.out.later (HB.trans (hw4.mono hs))⟩
      obtain ⟨g2, hg2⟩ : ∃ b, podB pn pr po out = b := ⟨_, rfl⟩
      rw [hg2]
      have G2 : Hid (podB pn pr po out = g2) := hg2
      clear hg2 hw4 SS q0 q1 q2 q3 q_p q_r q_q HB hs p0 p1 p2 p3 pz
      have x_r := K4.out.1.get 1 rfl
      have HB := K4.out.1.2
      have hs := HB.size
      cases g2 with
      | false =>
        have X : Hid (R = (2, [])) := by unfold Hid; rw [HR.out]; exact resV_pod GG.out GO.out G2.out
        have r0 : w4.cell? ⟨w.heap.size + 1, 0, none⟩ = some (.string ⟨#[]⟩) := x_r.1 0 _ rfl
        have r1 : w4.cell? ⟨w.heap.size + 1, 1, none⟩ = some (.int .i64 0) := x_r.1 1 _ rfl
        have r2 : w4.cell? ⟨w.heap.size + 1, 2, none⟩ = some (.int .i64 0) := x_r.1 2 _ rfl
        have r3 : w4.cell? ⟨w.heap.size + 1, 3, none⟩ = some (.slice none 0 0) := x_r.1 3 _ rfl
        have rF0 : w4.frozen? ⟨w.heap.size + 1, 0, none⟩ = false := x_r.2.1 0 (by simp)
        have rF1 : w4.frozen? ⟨w.heap.size + 1, 1, none⟩ = false := x_r.2.1 1 (by simp)
        have rF2 : w4.frozen? ⟨w.heap.size + 1, 2, none⟩ = false := x_r.2.1 2 (by simp)
        have rF3 : w4.frozen? ⟨w.heap.size + 1, 3, none⟩ = false := x_r.2.1 3 (by simp)
        have rz := x_r.2.2
        clear K4
        go_wp2
        refine bodyPost_ret (v := .tuple #[.agg #[.string ⟨#[]⟩, .int .i64 0, .int .i64 0, .slice none 0 0], .int .i64 2]) (by simp [results, Tryd.results29, go_sem, r0, r1, r2, r3]) rfl ?_
        exact ⟨_, by rw [X.out, ← resP_no (by decide)], by rw [X.out]; exact RdC.nil _, by go_grown⟩
      | true =>
      obtain ⟨ci1, hc1⟩ : ∃ c, classI out = c := ⟨_, rfl⟩
      obtain ⟨ci2, hc2⟩ : ∃ c, classI zs = c := ⟨_, rfl⟩
      obtain ⟨d, hd⟩ : ∃ d, (ci1 != ci2) = d := ⟨_, rfl⟩
      have CA : Hid (∀ W, KR w [(w.heap.size, [.string pn, .int .i64 pr, .int .i64 po, .slice sa zs.length cap]), (w.heap.size + 1, [.string ⟨#[]⟩, .int .i64 0, .int .i64 0, .slice none 0 0]), (qb, [.string pn, .int .i64 pr, .int .i64 po, .slice (some ⟨g, 0, none⟩) zs.length cap1])] g out (.slice sa zs.length cap) zs W → Calls Tryd.prog 20 #[.agg #[.string pn, .int .i64 pr, .int .i64 po, .slice (some ⟨g, 0, none⟩) zs.length cap1]] W fun e w' => e = .returned (.int .i64 ci1) ∧ Below W.heap.size W w') := fun W h => by
        have := class_is pn pr po W h.2.1 (RO.out _ h.2.2.1)
        rwa [hc1] at this
      have CB : Hid (∀ W, KR w [(w.heap.size, [.string pn, .int .i64 pr, .int .i64 po, .slice sa zs.length cap]), (w.heap.size + 1, [.string ⟨#[]⟩, .int .i64 0, .int .i64 0, .slice none 0 0]), (qb, [.string pn, .int .i64 pr, .int .i64 po, .slice (some ⟨g, 0, none⟩) zs.length cap1])] g out (.slice sa zs.length cap) zs W → Calls Tryd.prog 20 #[.agg #[.string pn, .int .i64 pr, .int .i64 po, .slice sa zs.length cap]] W fun e w' => e = .returned (.int .i64 ci2) ∧ Below W.heap.size W w') := fun W h => by
        have := class_is pn pr po W h.2.1 h.2.2.2
        rwa [hc2] at this
      have CC : Hid (classI out = ci1 ∧ classI zs = ci2) := ⟨hc1, hc2⟩
      clear hc1 hc2 x_r HB hs
      go_upto_region 21 with (fail)
      refine wp_region_noPanic ?_
      refine wp_region_held_drew (S := fun w' => Cs w' qb [.string pn, .int .i64 pr, .int .i64 po, .slice (some ⟨g, 0, none⟩) zs.length cap1] ∧ Cs w' w.heap.size [.string pn, .int .i64 pr, .int .i64 po, .slice sa zs.length cap]) (by kernel_rfl) ?_ (fun hHeld => ?_)
      · exact ⟨K4.out.drew.1.get 2 rfl, K4.out.drew.1.get 0 rfl⟩
      refine wpAnyH_take (i := 0) (v := ?_) rfl (by kernel_rfl) (by kernel_rfl) (by kernel_rfl) (fun _ _ _ h => h) (Or.inl ⟨by rfl, ?_⟩) (by assumption) ?_
      rotate_left
      · (intro wS hSw; have g1 := hSw.1.1 0 _ rfl; have g2 := hSw.1.1 1 _ rfl; have g3 := hSw.1.1 2 _ rfl; have g4 := hSw.1.1 3 _ rfl; have g5 := hSw.2.1 0 _ rfl; have g6 := hSw.2.1 1 _ rfl; have g7 := hSw.2.1 2 _ rfl; have g8 := hSw.2.1 3 _ rfl; go_simp; try with_reducible rfl)
      change wpAnyH _ _ _ _ _ _ _ (Act.put _ (some 77) _) _
      simp only [Act.put, List.setIfInBounds_toArray, List.set_cons_zero, List.set_cons_succ]
      refine wpAnyH_take (i := 2) (v := ?_) rfl (by kernel_rfl) (by kernel_rfl) (by kernel_rfl) (fun _ _ _ h => h) (Or.inl ⟨by rfl, ?_⟩) (by assumption) ?_
      rotate_left
      · (intro wS hSw; have g1 := hSw.1.1 0 _ rfl; have g2 := hSw.1.1 1 _ rfl; have g3 := hSw.1.1 2 _ rfl; have g4 := hSw.1.1 3 _ rfl; have g5 := hSw.2.1 0 _ rfl; have g6 := hSw.2.1 1 _ rfl; have g7 := hSw.2.1 2 _ rfl; have g8 := hSw.2.1 3 _ rfl; go_simp; try with_reducible rfl)
      change wpAnyH _ _ _ _ _ _ _ (Act.put _ (some 79) _) _
      simp only [Act.put, List.setIfInBounds_toArray, List.set_cons_zero, List.set_cons_succ]
      refine wpAnyH_named ?_
      intro A hA
      clear hHeld
      refine wpAnyH_inv (I := fun L a W => ∃ (c1 c3 c4 : Bool) (s78 s80 s81 : Value), L = #[true, c1, true, c3, c4] ∧ a = (((A.put (some 78) s78).put (some 80) s80).put (some 81) s81) ∧ Hid (KR w [(w.heap.size, [.string pn, .int .i64 pr, .int .i64 po, .slice sa zs.length cap]), (w.heap.size + 1, [.string ⟨#[]⟩, .int .i64 0, .int .i64 0, .slice none 0 0]), (qb, [.string pn, .int .i64 pr, .int .i64 po, .slice (some ⟨g, 0, none⟩) zs.length cap1])] g out (.slice sa zs.length cap) zs W) ∧ Hid (c1 = true → s78 = .int .i64 ci1) ∧ Hid (c3 = true → s80 = .int .i64 ci2) ∧ Hid (c4 = true → s81 = .bool d)) ?hS ?hz (by kernel_rfl) ?hsteps ?hend _ _ _ _ (by decide) ?h0
      case hS => rintro L a W ⟨c1, c3, c4, s78, s80, s81, -, -, K, -⟩; exact (fun h => h) (⟨K.out.1.get 2 rfl, K.out.1.get 0 rfl⟩)
      case hz => rintro L a W ⟨c1, c3, c4, s78, s80, s81, rfl, -⟩; rfl
      case h0 => exact ⟨false, false, false, A.eval (.tmp 78), A.eval (.tmp 80), A.eval (.tmp 81), rfl, by simp only [put_self], K4.out.drew, fun h => Bool.noConfusion h, fun h => Bool.noConfusion h, fun h => Bool.noConfusion h⟩
      case hend =>
        rintro L a W ⟨c1, c3, c4, s78, s80, s81, rfl, rfl, K, k1, k3, k4⟩ hall
        obtain rfl : c1 = true := hall 1
        obtain rfl : c3 = true := hall 3
        obtain rfl : c4 = true := hall 4
        obtain rfl := k1.out rfl
        obtain rfl := k3.out rfl
        obtain rfl := k4.out rfl
        clear k1 k3 k4
        refine NoPanic.normal ?_
        subst hA
        simp only [Act.put, List.setIfInBounds_toArray, List.set_cons_zero, List.set_cons_succ]
        have K5 := K
        clear K K4 CA CB
        have x_r := K5.out.1.get 1 rfl
        have x_q := K5.out.1.get 2 rfl
        have HB := K5.out.1.2
        have hs := HB.size
        have r0 : W.cell? ⟨w.heap.size + 1, 0, none⟩ = some (.string ⟨#[]⟩) := x_r.1 0 _ rfl
        have r1 : W.cell? ⟨w.heap.size + 1, 1, none⟩ = some (.int .i64 0) := x_r.1 1 _ rfl
        have r2 : W.cell? ⟨w.heap.size + 1, 2, none⟩ = some (.int .i64 0) := x_r.1 2 _ rfl
        have r3 : W.cell? ⟨w.heap.size + 1, 3, none⟩ = some (.slice none 0 0) := x_r.1 3 _ rfl
        have rF0 : W.frozen? ⟨w.heap.size + 1, 0, none⟩ = false := x_r.2.1 0 (by simp)
        have rF1 : W.frozen? ⟨w.heap.size + 1, 1, none⟩ = false := x_r.2.1 1 (by simp)
        have rF2 : W.frozen? ⟨w.heap.size + 1, 2, none⟩ = false := x_r.2.1 2 (by simp)
        have rF3 : W.frozen? ⟨w.heap.size + 1, 3, none⟩ = false := x_r.2.1 3 (by simp)
        have rz := x_r.2.2
        cases d with
        | true =>
          have X : Hid (R = (28, [])) := by unfold Hid; rw [HR.out]; exact resV_class GG.out GO.out G2.out (by rw [CC.out.1, CC.out.2]; simpa using hd)
          clear K5
          go_wp2
          refine bodyPost_ret (v := .tuple #[.agg #[.string ⟨#[]⟩, .int .i64 0, .int .i64 0, .slice none 0 0], .int .i64 28]) (by simp [results, Tryd.results29, go_sem, r0, r1, r2, r3]) rfl ?_
          exact ⟨_, by rw [X.out, ← resP_no (by decide)], by rw [X.out]; exact RdC.nil _, by go_grown⟩
        | false =>
          have X : Hid (R = (0, out)) := by unfold Hid; rw [HR.out]; exact resV_ok GG.out GO.out G2.out (by rw [CC.out.1, CC.out.2]; simpa using hd)
          have q0 : W.cell? ⟨qb, 0, none⟩ = some (.string pn) := x_q.1 0 _ rfl
          have q1 : W.cell? ⟨qb, 1, none⟩ = some (.int .i64 pr) := x_q.1 1 _ rfl
          have q2 : W.cell? ⟨qb, 2, none⟩ = some (.int .i64 po) := x_q.1 2 _ rfl
          have q3 : W.cell? ⟨qb, 3, none⟩ = some (.slice (some ⟨g, 0, none⟩) zs.length cap1) := x_q.1 3 _ rfl
          have RC : RowC ((((W.setCell ⟨w.heap.size + 1, 0, none⟩ (.string pn)).setCell ⟨w.heap.size + 1, 1, none⟩ (.int .i64 pr)).setCell ⟨w.heap.size + 1, 2, none⟩ (.int .i64 po)).setCell ⟨w.heap.size + 1, 3, none⟩ (.slice (some ⟨g, 0, none⟩) zs.length cap1)) g out := (((K5.out.2.2.1.beside _ _ (show g ≠ w.heap.size + 1 by omega)).beside _ _ (show g ≠ w.heap.size + 1 by omega)).beside _ _ (show g ≠ w.heap.size + 1 by omega)).beside _ _ (show g ≠ w.heap.size + 1 by omega)
          have RD : Hid (RdC ((((W.setCell ⟨w.heap.size + 1, 0, none⟩ (.string pn)).setCell ⟨w.heap.size + 1, 1, none⟩ (.int .i64 pr)).setCell ⟨w.heap.size + 1, 2, none⟩ (.int .i64 po)).setCell ⟨w.heap.size + 1, 3, none⟩ (.slice (some ⟨g, 0, none⟩) zs.length cap1)) (.slice (some ⟨g, 0, none⟩) zs.length cap1) out) := RO.out _ RC
          clear RC K5
          go_wp2
          refine bodyPost_ret (v := .tuple #[.agg #[.string pn, .int .i64 pr, .int .i64 po, .slice (some ⟨g, 0, none⟩) zs.length cap1], .int .i64 0]) (by simp [results, Tryd.results29, go_sem, r0, r1, r2, r3]) rfl ?_
          exact ⟨_, by rw [X.out]; rfl, by rw [X.out]; exact RD.out, by go_grown⟩
      case hsteps =>
        refine StepsI.skip (i := 0) (by rintro L a W ⟨c1, c3, c4, s78, s80, s81, rfl, -⟩; rfl) ?_
        refine StepsI.cons (i := 1) rfl ?_ ?_
        · rintro L a W ⟨c1, c3, c4, s78, s80, s81, rfl, rfl, K, k1, k3, k4⟩ h0 hd KK hK
          obtain rfl : c1 = false := h0
          subst hA
          simp only [Act.put, List.setIfInBounds_toArray, List.set_cons_zero, List.set_cons_succ]
          clear hd
          go_simp
          refine (CA.out _ K.out).mono ?_
          rintro e w2 ⟨rfl, hw2⟩
          (try go_wp2_with (fail))
          exact hK.out _ _ ⟨true, c3, c4, .int .i64 ci1, s80, s81, rfl, by simp only [Act.put, List.setIfInBounds_toArray, List.set_cons_zero, List.set_cons_succ], K.out.later hw2, fun _ => rfl, k3.out, k4.out⟩
        refine StepsI.skip (i := 2) (by rintro L a W ⟨c1, c3, c4, s78, s80, s81, rfl, -⟩; rfl) ?_
        refine StepsI.cons (i := 3) rfl ?_ ?_
        · rintro L a W ⟨c1, c3, c4, s78, s80, s81, rfl, rfl, K, k1, k3, k4⟩ h0 hd KK hK
          obtain rfl : c3 = false := h0
          subst hA
          simp only [Act.put, List.setIfInBounds_toArray, List.set_cons_zero, List.set_cons_succ]
          clear hd
          go_simp
          refine (CB.out _ K.out).mono ?_
          rintro e w2 ⟨rfl, hw2⟩
          (try go_wp2_with (fail))
          exact hK.out _ _ ⟨c1, true, c4, s78, .int .i64 ci2, s81, rfl, by simp only [Act.put, List.setIfInBounds_toArray, List.set_cons_zero, List.set_cons_succ], K.out.later hw2, k1.out, fun _ => rfl, k4.out⟩
        refine StepsI.cons (i := 4) rfl ?_ ?_
        · rintro L a W ⟨c1, c3, c4, s78, s80, s81, rfl, rfl, K, k1, k3, k4⟩ h0 hd KK hK
          obtain rfl : c4 = false := h0
          obtain rfl : c1 = true := hd ⟨1, .data⟩ (by simp) rfl
          obtain rfl : c3 = true := hd ⟨3, .data⟩ (by simp) rfl
          have e1 := k1.out rfl
          subst e1
          have e3 := k3.out rfl
          subst e3
          subst hA
          simp only [Act.put, List.setIfInBounds_toArray, List.set_cons_zero, List.set_cons_succ]
          clear hd
          go_simp
          exact hK.out _ _ ⟨true, true, true, .int .i64 ci1, .int .i64 ci2, .bool d, rfl, by simp only [Act.put, List.setIfInBounds_toArray, List.set_cons_zero, List.set_cons_succ], K, fun _ => rfl, fun _ => rfl, fun _ => rfl⟩
        exact StepsI.nil

end Go.Proofs.YtfgbppngnafpoaaDoor.Sp
