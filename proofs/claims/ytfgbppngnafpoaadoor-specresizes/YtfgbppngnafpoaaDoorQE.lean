/-
  What comes of a resize at this program: the document's own answer. Conditions: the containers and the changes read as lists; the names' lengths fit the machine.
-/
import Derived.Test.YtfgbppngnafpoaaDoorPU
import Derived.Test.YtfgbppngnafpoaaDoorQC
import Derived.Test.YtfgbppngnafpoaaDoorQD
namespace Go.Proofs.YtfgbppngnafpoaaDoor.Sp
open Go.RowKit

/-- What holds while the two classes are told. -/
def KRr (w : World) (bs : List (Nat × List Value)) (g : Nat) (out : List Ct) (v : Value) (zs : List Ct) (W : World) : Prop := Lies w bs W ∧ RowC W g out ∧ RdC W v zs
theorem KRr.later {w W w1 : World} {bs : List (Nat × List Value)} {g : Nat} {out zs : List Ct} {v : Value} (h : KRr w bs g out v zs W) (hb : Below W.heap.size W w1) : KRr w bs g out v zs w1 := ⟨h.1.later hb, h.2.1.later hb, h.2.2.later hb⟩
theorem KRr.drew {w W : World} {bs : List (Nat × List Value)} {g : Nat} {out zs : List Ct} {v : Value} (h : KRr w bs g out v zs W) : KRr w bs g out v zs W.drew := ⟨h.1.drew, h.2.1.drew, h.2.2.later (Below.refl _ _).drew⟩
theorem limits_ge {c : Ct} (h : c.ok = true) : 0 ≤ c.lc ∧ 0 ≤ c.lm := by
  unfold Ct.ok ctB at h
  rw [Bool.and_eq_true, Bool.and_eq_true, Bool.and_eq_true] at h
  have := of_decide_eq_true h.1.2
  unfold Rt at this
  omega
theorem turn_alike {lc lm yc ym : Int} (h0 : 0 ≤ lc) (h1 : 0 ≤ lm) : turnB lc lm yc ym = (((decide (0 < lc)) != (yc != 0)) || ((decide (0 < lm)) != (ym != 0))) := by
  have e : ∀ a : Int, 0 ≤ a → (a == 0) = !(decide (0 < a)) := fun a ha => by
    by_cases z : a = 0
    · subst z; rfl
    · have : 0 < a := by omega
      simp [z, this]
  unfold turnB
  rw [e _ h0, e _ h1]
  cases decide (0 < lc) <;> cases decide (0 < lm) <;> cases hy : (yc == 0) <;> cases hm : (ym == 0) <;> simp [bne, hy, hm]
theorem seen_next {l : List Ch} {j : Nat} {x : Ch} (h : l[j]? = some x) : x.n :: ((l.take j).map Ch.n).reverse = ((l.take (j + 1)).map Ch.n).reverse := by
  rw [List.take_add_one, h, Option.toList_some, List.map_append, List.reverse_append]
  rfl
theorem seen_yes {l : List Ch} {j q : Nat} {y : Ch} {n : ByteArray} (h : l[q]? = some y) (hq : q < j) (e : eqS y.n n = true) : (((l.take j).map Ch.n).reverse).any (eqS n) = true := by
  rw [List.any_reverse, List.any_map, List.any_eq_true]
  exact ⟨y, List.mem_of_getElem? (i := q) (by rw [List.getElem?_take, if_pos hq, h]), by rw [Function.comp, eqS_comm]; exact e⟩
theorem seen_no {l : List Ch} {j : Nat} {n : ByteArray} (h : ∀ i, i < j → ∀ y : Ch, l[i]? = some y → eqS y.n n = false) : (((l.take j).map Ch.n).reverse).any (eqS n) = false := by
  rw [List.any_reverse, List.any_map, List.any_eq_false]
  intro y hy
  obtain ⟨i, hi⟩ := List.getElem?_of_mem hy
  rw [List.getElem?_take] at hi
  split at hi
  · rename_i c
    rw [Function.comp, eqS_comm, h i c y hi]
    exact Bool.false_ne_true
  · cases hi

set_option maxHeartbeats 4000000 in
set_option maxRecDepth 100000 in
theorem refResize_is {v u : Value} {zs : List Ct} {l : List Ch} (pn : ByteArray) (pr po : Int) (hm : pn.size ≤ maxLen) (w : World) (h : RdC w v zs) (k : RdX w u l) :
    Calls Tryd.prog 30 #[.agg #[.string pn, .int .i64 pr, .int .i64 po, v], u] w fun e w' => ∃ v', e = .returned (resP (resV pn pr po zs l).1 pn pr po v') ∧ Rzd w w' (resV pn pr po zs l) v' := by
  obtain ⟨R, hR⟩ : ∃ R, R = resV pn pr po zs l := ⟨_, rfl⟩
  rw [← hR]
  have HR : Hid (R = resV pn pr po zs l) := hR
  have HZ : Hid (RdC w v zs) := h
  have HM : Hid (pn.size ≤ maxLen) := hm
  clear hR hm
  obtain ⟨a, cap, rfl, h1, h2, h3⟩ := h
  have H3 : Hid (∀ (j : Nat) (c : Ct), zs[j]? = some c → c.n.size ≤ maxLen ∧ ∃ b off : Nat, a = some ⟨b, off, none⟩ ∧ Ten w b (off + j * 10) c) := h3
  obtain ⟨a1, cap2, rfl, k1, k2, k3⟩ := k
  have K3 : Hid (∀ (j : Nat) (c : Ch), l[j]? = some c → c.n.size ≤ maxLen ∧ ∃ b off : Nat, a1 = some ⟨b, off, none⟩ ∧ Svn w b (off + j * 7) c) := k3
  clear h3 k3
  have zl : zs.length ≤ maxLen := by omega
  have ll : l.length ≤ maxLen := by omega
  unfold maxLen at zl ll
  go_enter Tryd.func30, Tryd.ntmps30
  go_wp2_with (fail)
  refine (refPod_is pn pr po HM.out _ ((HZ.out.alloc _).alloc _)).mono ?_
  rintro e w1 ⟨rfl, hw1⟩
  have HBw1 : Below w.heap.size w w1 := Below.trans (by go_grown) (hw1.mono (by first | omega | (simp; done) | (simp; omega)))
  have p_p : Cs w1 (w.heap.size) [.string pn, .int .i64 pr, .int .i64 po, .slice a zs.length cap] := Cs.later hw1 (by repeat (first | assumption | (refine Cs.new _ _ _ _ ?_; simp; done) | refine Cs.alloc ?_ _ | refine Cs.drew ?_ | (refine Cs.beside ?_ _ _ (by omega))))
  have p_r : Cs w1 (w.heap.size + 1) [.string ⟨#[]⟩, .int .i64 0, .int .i64 0, .slice none 0 0] := Cs.later hw1 (by repeat (first | assumption | (refine Cs.new _ _ _ _ ?_; simp; done) | refine Cs.alloc ?_ _ | refine Cs.drew ?_ | (refine Cs.beside ?_ _ _ (by omega))))
  have q_p := p_p
  have p0 : w1.cell? ⟨w.heap.size, 0, none⟩ = some (.string pn) := p_p.1 0 _ rfl
  have p1 : w1.cell? ⟨w.heap.size, 1, none⟩ = some (.int .i64 pr) := p_p.1 1 _ rfl
  have p2 : w1.cell? ⟨w.heap.size, 2, none⟩ = some (.int .i64 po) := p_p.1 2 _ rfl
  have p3 : w1.cell? ⟨w.heap.size, 3, none⟩ = some (.slice a zs.length cap) := p_p.1 3 _ rfl
  have pz : w.heap.size < w1.heap.size := p_p.2.2
  clear p_p
  have q_r := p_r
  have r0 : w1.cell? ⟨w.heap.size + 1, 0, none⟩ = some (.string ⟨#[]⟩) := p_r.1 0 _ rfl
  have rF0 : w1.frozen? ⟨w.heap.size + 1, 0, none⟩ = false := p_r.2.1 0 (by simp)
  have r1 : w1.cell? ⟨w.heap.size + 1, 1, none⟩ = some (.int .i64 0) := p_r.1 1 _ rfl
  have rF1 : w1.frozen? ⟨w.heap.size + 1, 1, none⟩ = false := p_r.2.1 1 (by simp)
  have r2 : w1.cell? ⟨w.heap.size + 1, 2, none⟩ = some (.int .i64 0) := p_r.1 2 _ rfl
  have rF2 : w1.frozen? ⟨w.heap.size + 1, 2, none⟩ = false := p_r.2.1 2 (by simp)
  have r3 : w1.cell? ⟨w.heap.size + 1, 3, none⟩ = some (.slice none 0 0) := p_r.1 3 _ rfl
  have rF3 : w1.frozen? ⟨w.heap.size + 1, 3, none⟩ = false := p_r.2.1 3 (by simp)
  have rz : w.heap.size + 1 < w1.heap.size := p_r.2.2
  clear p_r
  have hsw1 := hw1.size
  (try simp at hsw1)
  clear hw1
  obtain ⟨g1, hg1⟩ : ∃ g, podB pn pr po zs = g := ⟨_, rfl⟩
  rw [hg1]
  have G1 : Hid (podB pn pr po zs = g1) := hg1
  clear hg1
  cases g1 with
  | false =>
    have X : Hid (R = (2, [])) := by unfold Hid; rw [HR.out, resV_arg (fun h => by rw [G1.out] at h; exact Bool.noConfusion h.1)]
    go_wp2
    refine bodyPost_ret (v := .tuple #[.agg #[.string ⟨#[]⟩, .int .i64 0, .int .i64 0, .slice none 0 0], .int .i64 2]) (by simp [results, Tryd.results30, go_sem, r0, r1, r2, r3]) rfl ?_
    exact ⟨_, by rw [X.out, ← resP_no (by decide)], by rw [X.out]; exact RdC.nil _, by go_grown⟩
  | true =>
  by_cases l0 : l.length = 0
  · have X : Hid (R = (2, [])) := by unfold Hid; rw [HR.out, resV_arg (by omega)]
    have l0' : ((l.length : Int) == 0) = true := by simp [l0]
    clear l0
    go_wp2
    refine bodyPost_ret (v := .tuple #[.agg #[.string ⟨#[]⟩, .int .i64 0, .int .i64 0, .slice none 0 0], .int .i64 2]) (by simp [results, Tryd.results30, go_sem, r0, r1, r2, r3]) rfl ?_
    exact ⟨_, by rw [X.out, ← resP_no (by decide)], by rw [X.out]; exact RdC.nil _, by go_grown⟩
  have l0' : ((l.length : Int) == 0) = false := beq_eq_false_iff_ne.2 (by omega)
  have GG : Hid (podB pn pr po zs = true ∧ 0 < l.length) := ⟨G1.out, by omega⟩
  have zh : 1 ≤ zs.length ∧ zs.length ≤ 6 := (pod_parts G1.out).2.1
  have OKS : Hid (∀ (i : Nat) (c : Ct), zs[i]? = some c → c.ok = true) := fun i c hc => (csB_iff.1 (pod_parts G1.out).2.2.1 i c hc).1
  obtain ⟨-, b, off, rfl, -⟩ := H3.out 0 zs[0] (List.getElem?_eq_getElem (by omega))
  have HT : Hid (∀ (j : Nat) (c : Ct), zs[j]? = some c → c.n.size ≤ maxLen ∧ Ten w b (off + j * 10) c) := fun j c hc => by
    obtain ⟨k, b', off', e, T⟩ := H3.out j c hc
    injection e with e
    injection e with e1 e2
    subst e1 e2
    exact ⟨k, T⟩
  clear l0 G1 H3
  obtain ⟨i0, hi, hz0, hz1, hz2⟩ := info_parts ctInfo
  obtain ⟨news, hnews⟩ : ∃ news, news = (zs.map Ct.l).flatten := ⟨_, rfl⟩
  have EN : Hid (news = (zs.map Ct.l).flatten) := hnews
  have all10 : Hid (∀ x ∈ zs.map Ct.l, x.length = 10) := fun x hx => by obtain ⟨c, _, rfl⟩ := List.mem_map.1 hx; rfl
  have nl : news.length = zs.length * 10 := by
    rw [hnews, List.length_flatten, List.map_map]
    have : (List.length ∘ Ct.l) = fun _ => 10 := by funext c; rfl
    rw [this, List.map_const', List.sum_replicate_nat]
  clear hnews
  have q_q0 : Cs (w1.alloc (.cells #[.string pn, .int .i64 pr, .int .i64 po, .slice (some ⟨b, off, none⟩) zs.length cap] 33)) w1.heap.size [.string pn, .int .i64 pr, .int .i64 po, .slice (some ⟨b, off, none⟩) zs.length cap] := (by repeat (first | assumption | (refine Cs.new _ _ _ _ ?_; simp; done) | refine Cs.alloc ?_ _ | refine Cs.drew ?_ | (refine Cs.beside ?_ _ _ (by omega))))
  have ow0 := World.ownsRow_made (w1.alloc (.cells #[.string pn, .int .i64 pr, .int .i64 po, .slice (some ⟨b, off, none⟩) zs.length cap] 33)) #[] 0 (Nat.le_refl _) (Nat.zero_le _) (by decide) (e := 26) (size := 10)
  rw [show (w1.alloc (.cells #[.string pn, .int .i64 pr, .int .i64 po, .slice (some ⟨b, off, none⟩) zs.length cap] 33)).heap.size = w1.heap.size + 1 by simp] at ow0
  go_wp2_with (first
    | (at_builtin; refine wpList_append_own _ rfl _ _ 31 rfl (w1.heap.size + 1) 26 i0 (.agg #[.string ⟨#[]⟩, .int .i64 0, .int .i64 0, .int .i64 0, .int .i64 0, .int .i64 0, .int .i64 0, .bool false, .bool false, .bool false]) 10 72 Tryd.underlying31 hi hz0 hz1 hz2 rfl (by decide) _ _ _ rfl ow0 ⟨b, off, none⟩ zs.length cap news rfl ?c1 ?c2 ?c3 ?c4 ?c5 ?c6 ?_)
    | fail)
  case c1 => exact nl
  case c2 =>
    intro j u hj
    rw [EN.out] at hj
    obtain ⟨xs, q1, q2⟩ := flat_get (by decide) all10.out hj
    rw [List.getElem?_map] at q1
    cases hc : zs[j / 10]? with
    | none => rw [hc] at q1; cases q1
    | some c =>
      rw [hc] at q1
      injection q1 with q1
      subst q1
      have := ((HT.out _ c hc).2.later HBw1).at_ q2
      rw [show off + j / 10 * 10 + j % 10 = off + j by omega] at this
      rw [Addr.add_lit]
      exact Lib.cell?_alloc_some _ (Lib.cell?_alloc_some _ this)
  case c3 =>
    intro u hu
    rw [EN.out] at hu
    obtain ⟨xs, hx, hu⟩ := List.mem_flatten.1 hu
    obtain ⟨c, _, rfl⟩ := List.mem_map.1 hx
    simp [Ct.l] at hu
    rcases hu with rfl | rfl | rfl | rfl | rfl | rfl | rfl | rfl | rfl | rfl <;> rfl
  case c4 => unfold maxLen; omega
  case c5 => omega
  case c6 => simp
  intro v' w2 hown hgrow hnil
  have HB2 : Below w.heap.size w w2 := Below.grown (show Below w.heap.size w _ by go_grown) hgrow (by simp; omega) (by intro k hk; simp [Value.ownBlock] at hk; omega)
  have q_p2 : Cs w2 w.heap.size [.string pn, .int .i64 pr, .int .i64 po, .slice (some ⟨b, off, none⟩) zs.length cap] := Cs.grown (by repeat (first | assumption | (refine Cs.new _ _ _ _ ?_; simp; done) | refine Cs.alloc ?_ _ | refine Cs.drew ?_ | (refine Cs.beside ?_ _ _ (by omega)))) hgrow (by intro k; simp [Value.ownBlock] at k; omega)
  have q_r2 : Cs w2 (w.heap.size + 1) [.string ⟨#[]⟩, .int .i64 0, .int .i64 0, .slice none 0 0] := Cs.grown (by repeat (first | assumption | (refine Cs.new _ _ _ _ ?_; simp; done) | refine Cs.alloc ?_ _ | refine Cs.drew ?_ | (refine Cs.beside ?_ _ _ (by omega)))) hgrow (by intro k; simp [Value.ownBlock] at k; omega)
  have q_q2 : Cs w2 w1.heap.size [.string pn, .int .i64 pr, .int .i64 po, .slice (some ⟨b, off, none⟩) zs.length cap] := Cs.grown (q_q0.alloc _) hgrow (by intro k; simp [Value.ownBlock] at k)
  obtain ⟨g, cap1, rfl, hg, n1, n2⟩ : ∃ g cap', v' = .slice (some ⟨g, 0, none⟩) zs.length cap' ∧ w1.heap.size + 1 ≤ g ∧ zs.length ≤ cap' ∧ cap' ≤ maxLen := by
    obtain ⟨-, ⟨rfl, e⟩ | ⟨g, cap', cur, rfl, h1, -, h2, h3, -⟩⟩ := hown
    · exact absurd rfl hnil
    · exact ⟨g, cap', rfl, h1, h2, h3⟩
  have RC : RowC w2 g zs := by
    refine ⟨(World.ownsRow.lt hown g rfl).2, fun i c hc => ?_⟩
    have hi' : i < zs.length := (List.getElem?_eq_some_iff.1 hc).1
    have cell : ∀ q v, q < 10 → c.l[q]? = some v → w2.cell? ⟨g, i * 10 + q, none⟩ = some v := fun q v hq hv => by
      rw [World.ownsRow.cellAt hown (i * 10 + q) (by omega), EN.out]
      exact flat_at all10.out (by rw [List.getElem?_map, hc]; rfl) hv
    refine ⟨(HT.out i c hc).1, ⟨?_, ?_, ?_, ?_, ?_, ?_, ?_, ?_, ?_, ?_⟩, fun k _ => World.ownsRow.frozenAt hown _⟩
    · exact cell 0 _ (by omega) rfl
    · exact cell 1 _ (by omega) rfl
    · exact cell 2 _ (by omega) rfl
    · exact cell 3 _ (by omega) rfl
    · exact cell 4 _ (by omega) rfl
    · exact cell 5 _ (by omega) rfl
    · exact cell 6 _ (by omega) rfl
    · exact cell 7 _ (by omega) rfl
    · exact cell 8 _ (by omega) rfl
    · exact cell 9 _ (by omega) rfl
  have S0 : Hid (RowC (w2.setCell ⟨w1.heap.size, 3, none⟩ (.slice (some ⟨g, 0, none⟩) zs.length cap1)) g zs ∧
    Lies w [(w.heap.size, [.string pn, .int .i64 pr, .int .i64 po, .slice (some ⟨b, off, none⟩) zs.length cap]), (w.heap.size + 1, [.string ⟨#[]⟩, .int .i64 0, .int .i64 0, .slice none 0 0]), (w1.heap.size, [.string pn, .int .i64 pr, .int .i64 po, .slice (some ⟨g, 0, none⟩) zs.length cap1])] (w2.setCell ⟨w1.heap.size, 3, none⟩ (.slice (some ⟨g, 0, none⟩) zs.length cap1))) := by
    refine ⟨RC.beside _ _ (show g ≠ w1.heap.size by omega), ?_⟩
    refine ⟨fun x hx => ?_, HB2.setCell (show w.heap.size ≤ w1.heap.size by omega) _⟩
    simp at hx
    rcases hx with rfl | rfl | rfl
    · exact Cs.beside q_p2 _ _ (by omega)
    · exact Cs.beside q_r2 _ _ (by omega)
    · exact Cs.set q_q2 3 _ (by simp)
  have q3 : w2.cell? ⟨w1.heap.size, 3, none⟩ = some (.slice (some ⟨b, off, none⟩) zs.length cap) := q_q2.1 3 _ rfl
  have qF3 : w2.frozen? ⟨w1.heap.size, 3, none⟩ = false := q_q2.2.1 3 (by simp)
  have qz := q_q2.2.2
  clear hown hgrow hnil nl EN all10 RC q_p2 q_r2 q_q2 q_q0 q_p p0 p1 p2 p3 pz q_r r0 r1 r2 r3 rF0 rF1 rF2 rF3 rz HB2 ow0
  go_wp2
  clear q3 qF3 qz
  have qbz : w.heap.size + 2 ≤ w1.heap.size := by omega
  clear HBw1 hsw1
  generalize w2.setCell ⟨w1.heap.size, 3, none⟩ (.slice (some ⟨g, 0, none⟩) zs.length cap1) = W3 at S0 ⊢
  generalize w1.heap.size = qb at *
  go_loopw [30] (fun f wr => ∃ (j : Nat) (out : List Ct), f = .int .i64 j ∧ j ≤ l.length ∧ Hid (resGo zs out ((l.take j).map Ch.n).reverse (l.drop j) = resGo zs zs [] l ∧ out.length = zs.length ∧ RowC wr g out ∧ Lies w [(w.heap.size, [.string pn, .int .i64 pr, .int .i64 po, .slice (some ⟨b, off, none⟩) zs.length cap]), (w.heap.size + 1, [.string ⟨#[]⟩, .int .i64 0, .int .i64 0, .slice none 0 0]), (qb, [.string pn, .int .i64 pr, .int .i64 po, .slice (some ⟨g, 0, none⟩) zs.length cap1])] wr)) (fun f _ => l.length - (intOf f).toNat)
  case atStart => exact ⟨0, zs, rfl, by omega, by rw [List.drop_zero]; rfl, rfl, S0.out.1, S0.out.2⟩
  case round =>
    clear S0
    obtain ⟨j, out, rfl, jl, SS⟩ := hrel
    have HB := SS.out.2.2.2.2
    have hs := HB.size
    have q_p := SS.out.2.2.2.get 0 rfl
    have q_r := SS.out.2.2.2.get 1 rfl
    have q_q := SS.out.2.2.2.get 2 rfl
    have p0 : wr.cell? ⟨w.heap.size, 0, none⟩ = some (.string pn) := q_p.1 0 _ rfl
    have p1 : wr.cell? ⟨w.heap.size, 1, none⟩ = some (.int .i64 pr) := q_p.1 1 _ rfl
    have p2 : wr.cell? ⟨w.heap.size, 2, none⟩ = some (.int .i64 po) := q_p.1 2 _ rfl
    have p3 : wr.cell? ⟨w.heap.size, 3, none⟩ = some (.slice (some ⟨b, off, none⟩) zs.length cap) := q_p.1 3 _ rfl
    have pz := q_p.2.2
    by_cases cj : j < l.length
    · obtain ⟨⟨n, xc, xm, xh, yc, ym, yh⟩, hdj⟩ : ∃ d, l[j]? = some d := ⟨l[j], List.getElem?_eq_getElem cj⟩
      obtain ⟨-, bx, offx, rfl, T⟩ := K3.out j _ hdj
      have DR : Hid (l.drop j = ⟨n, xc, xm, xh, yc, ym, yh⟩ :: l.drop (j + 1)) := by
        unfold Hid
        rw [List.drop_eq_getElem_cons cj, (List.getElem?_eq_some_iff.1 hdj).2]
      have SN : Hid (n :: ((l.take j).map Ch.n).reverse = ((l.take (j + 1)).map Ch.n).reverse) := seen_next hdj
      obtain ⟨c0, c1, c2, c3, c4, c5, c6⟩ := T.later HB
      simp only at c0 c1 c2 c3 c4 c5 c6
      have j0 : (0 : Int) ≤ (j : Int) := by omega
      have j1 : (j : Int) < (l.length : Int) := by omega
      clear T hdj
      go_wp2_with (fail)
      refine (refFind_is pn pr po n _ ((HZ.out.later HB).alloc _)).mono ?_
      rintro e w4 ⟨rfl, hw4⟩
      have gw : g < wr.heap.size := SS.out.2.2.1.1
      have S4 : Hid (RowC w4 g out ∧ Lies w [(wr.heap.size, [.string n, .int .i64 xc, .int .i64 xm, .int .i64 xh, .int .i64 yc, .int .i64 ym, .int .i64 yh]), (w.heap.size, [.string pn, .int .i64 pr, .int .i64 po, .slice (some ⟨b, off, none⟩) zs.length cap]), (w.heap.size + 1, [.string ⟨#[]⟩, .int .i64 0, .int .i64 0, .slice none 0 0]), (qb, [.string pn, .int .i64 pr, .int .i64 po, .slice (some ⟨g, 0, none⟩) zs.length cap1])] w4) :=
        ⟨(SS.out.2.2.1.alloc _).later hw4, (SS.out.2.2.2.new [.string n, .int .i64 xc, .int .i64 xm, .int .i64 xh, .int .i64 yc, .int .i64 ym, .int .i64 yh] _).later hw4⟩
      have OL : Hid (resGo zs out ((l.take j).map Ch.n).reverse (⟨n, xc, xm, xh, yc, ym, yh⟩ :: l.drop (j + 1)) = resGo zs zs [] l ∧ out.length = zs.length) := ⟨by rw [← DR.out]; exact SS.out.1, SS.out.2.1⟩
      obtain ⟨o, ho⟩ : ∃ o, fnd n zs = o := ⟨_, rfl⟩
      rw [ho]
      have HO : Hid (fnd n zs = o) := ho
      clear ho hw4 SS HB hs q_p q_r q_q p0 p1 p2 p3 pz c0 c1 c2 c3 c4 c5 c6 DR
      have HB := S4.out.2.2
      have hs := HB.size
      cases o with
      | none =>
        have X : Hid (R = (21, [])) := by unfold Hid; rw [HR.out]; exact resV_err GG.out (by rw [← OL.out.1, resGo_none HO.out]) (by decide)
        rw [show fi none = -1 from rfl]
        have x_r := S4.out.2.get 2 rfl
        have r0 : w4.cell? ⟨w.heap.size + 1, 0, none⟩ = some (.string ⟨#[]⟩) := x_r.1 0 _ rfl
        have r1 : w4.cell? ⟨w.heap.size + 1, 1, none⟩ = some (.int .i64 0) := x_r.1 1 _ rfl
        have r2 : w4.cell? ⟨w.heap.size + 1, 2, none⟩ = some (.int .i64 0) := x_r.1 2 _ rfl
        have r3 : w4.cell? ⟨w.heap.size + 1, 3, none⟩ = some (.slice none 0 0) := x_r.1 3 _ rfl
        have rF0 : w4.frozen? ⟨w.heap.size + 1, 0, none⟩ = false := x_r.2.1 0 (by simp)
        have rF1 : w4.frozen? ⟨w.heap.size + 1, 1, none⟩ = false := x_r.2.1 1 (by simp)
        have rF2 : w4.frozen? ⟨w.heap.size + 1, 2, none⟩ = false := x_r.2.1 2 (by simp)
        have rF3 : w4.frozen? ⟨w.heap.size + 1, 3, none⟩ = false := x_r.2.1 3 (by simp)
        have rz := x_r.2.2
        clear S4 OL HO
        go_wp2
        refine bodyPost_ret (v := .tuple #[.agg #[.string ⟨#[]⟩, .int .i64 0, .int .i64 0, .slice none 0 0], .int .i64 21]) (by simp [results, Tryd.results30, go_sem, r0, r1, r2, r3]) rfl ?_
        exact ⟨_, by rw [X.out, ← resP_no (by decide)], by rw [X.out]; exact RdC.nil _, by go_grown⟩
      | some k =>
        rw [show fi (some k) = (k : Int) from rfl]
        have kz := fnd_lt HO.out
        have i0 : (0 : Int) ≤ (k : Int) := by omega
        have in0 : ¬ (k : Int) < 0 := by omega
        have iz : (k : Int) < (zs.length : Int) := by omega
        have jc : (j : Int) ≤ (cap2 : Int) := by omega
        obtain ⟨wo, rfl⟩ : ∃ wo, wo = wr := ⟨_, rfl⟩
        go_wp2
        go_loopw [46] (fun f wt => ∃ q : Nat, f = .int .i64 q ∧ q ≤ j ∧ Hid ((∀ i, i < q → ∀ y : Ch, l[i]? = some y → eqS y.n n = false) ∧ RowC wt g out ∧ Lies w [(wo.heap.size, [.string n, .int .i64 xc, .int .i64 xm, .int .i64 xh, .int .i64 yc, .int .i64 ym, .int .i64 yh]), (w.heap.size, [.string pn, .int .i64 pr, .int .i64 po, .slice (some ⟨b, off, none⟩) zs.length cap]), (w.heap.size + 1, [.string ⟨#[]⟩, .int .i64 0, .int .i64 0, .slice none 0 0]), (qb, [.string pn, .int .i64 pr, .int .i64 po, .slice (some ⟨g, 0, none⟩) zs.length cap1])] wt)) (fun f _ => j - (intOf f).toNat)
        case atStart => exact ⟨0, rfl, by omega, fun i hi => absurd hi (by omega), S4.out⟩
        case round =>
          clear S4 HB hs
          obtain ⟨q, rfl, ql, HQ⟩ := hrel
          have HB := HQ.out.2.2.2
          have hs := HB.size
          have x_x := HQ.out.2.2.get 0 rfl
          have x_r := HQ.out.2.2.get 2 rfl
          have c0 : wr.cell? ⟨wo.heap.size, 0, none⟩ = some (.string n) := x_x.1 0 _ rfl
          have cz := x_x.2.2
          by_cases cq : q < j
          · obtain ⟨⟨n2, xc2, xm2, xh2, yc2, ym2, yh2⟩, hdq⟩ : ∃ d, l[q]? = some d := ⟨l[q]'(by omega), List.getElem?_eq_getElem _⟩
            obtain ⟨-, b', off', eb, U⟩ := K3.out q _ hdq
            injection eb with eb
            injection eb with eb1 eb2
            subst eb1 eb2
            obtain ⟨d0, d1, d2, d3, d4, d5, d6⟩ := U.later HB
            simp only at d0 d1 d2 d3 d4 d5 d6
            have q0 : (0 : Int) ≤ (q : Int) := by omega
            have q1 : (q : Int) < (j : Int) := by omega
            obtain ⟨g', hg'⟩ : ∃ g', eqS n2 n = g' := ⟨_, rfl⟩
            have t0 : (n2.toList == n.toList) = g' := by rw [eqS_l]; exact hg'
            have EG : Hid (eqS n2 n = g') := hg'
            have DQ : Hid (l[q]? = some ⟨n2, xc2, xm2, xh2, yc2, ym2, yh2⟩) := hdq
            clear U hdq hg'
            cases g' with
            | true =>
              have X : Hid (R = (22, [])) := by unfold Hid; rw [HR.out]; exact resV_err GG.out (by rw [← OL.out.1, resGo_seen HO.out (seen_yes DQ.out cq EG.out)]) (by decide)
              have r0 : wr.cell? ⟨w.heap.size + 1, 0, none⟩ = some (.string ⟨#[]⟩) := x_r.1 0 _ rfl
              have r1 : wr.cell? ⟨w.heap.size + 1, 1, none⟩ = some (.int .i64 0) := x_r.1 1 _ rfl
              have r2 : wr.cell? ⟨w.heap.size + 1, 2, none⟩ = some (.int .i64 0) := x_r.1 2 _ rfl
              have r3 : wr.cell? ⟨w.heap.size + 1, 3, none⟩ = some (.slice none 0 0) := x_r.1 3 _ rfl
              have rF0 : wr.frozen? ⟨w.heap.size + 1, 0, none⟩ = false := x_r.2.1 0 (by simp)
              have rF1 : wr.frozen? ⟨w.heap.size + 1, 1, none⟩ = false := x_r.2.1 1 (by simp)
              have rF2 : wr.frozen? ⟨w.heap.size + 1, 2, none⟩ = false := x_r.2.1 2 (by simp)
              have rF3 : wr.frozen? ⟨w.heap.size + 1, 3, none⟩ = false := x_r.2.1 3 (by simp)
              have rz := x_r.2.2
              clear HQ OL HO DQ EG
              go_wp2
              refine bodyPost_ret (v := .tuple #[.agg #[.string ⟨#[]⟩, .int .i64 0, .int .i64 0, .slice none 0 0], .int .i64 22]) (by simp [results, Tryd.results30, go_sem, r0, r1, r2, r3, rz]) rfl ?_
              exact ⟨_, by rw [X.out, ← resP_no (by decide)], by rw [X.out]; exact RdC.nil _, by go_grown⟩
            | false =>
              have HQ' : Hid ((∀ i, i < q + 1 → ∀ y : Ch, l[i]? = some y → eqS y.n n = false) ∧ RowC (wr.alloc (.cells #[.string n2, .int .i64 xc2, .int .i64 xm2, .int .i64 xh2, .int .i64 yc2, .int .i64 ym2, .int .i64 yh2] 56)) g out ∧ Lies w [(wo.heap.size, [.string n, .int .i64 xc, .int .i64 xm, .int .i64 xh, .int .i64 yc, .int .i64 ym, .int .i64 yh]), (w.heap.size, [.string pn, .int .i64 pr, .int .i64 po, .slice (some ⟨b, off, none⟩) zs.length cap]), (w.heap.size + 1, [.string ⟨#[]⟩, .int .i64 0, .int .i64 0, .slice none 0 0]), (qb, [.string pn, .int .i64 pr, .int .i64 po, .slice (some ⟨g, 0, none⟩) zs.length cap1])] (wr.alloc (.cells #[.string n2, .int .i64 xc2, .int .i64 xm2, .int .i64 xh2, .int .i64 yc2, .int .i64 ym2, .int .i64 yh2] 56))) := ⟨fun i hi d hd => by
                by_cases e : i = q
                · subst e
                  rw [DQ.out] at hd
                  injection hd with hd
                  subst hd
                  exact EG.out
                · exact HQ.out.1 i (by omega) d hd, HQ.out.2.1.alloc _, HQ.out.2.2.alloc _⟩
              clear HQ DQ EG x_x x_r
              go_wp2
              go_roundw
              case rel => exact ⟨q + 1, by go_num, by omega, HQ'⟩
              case measure => simp [intOf]; omega
          · obtain rfl : q = j := by omega
            have HS : Hid ((((l.take q).map Ch.n).reverse).any (eqS n) = false) := seen_no HQ.out.1
            obtain ⟨⟨m, rc, rm, rh, lc, lm, lh, x, y, z⟩, hk1⟩ : ∃ d, zs[k]? = some d := ⟨zs[k], List.getElem?_eq_getElem kz⟩
            obtain ⟨-, U⟩ := HT.out k _ hk1
            obtain ⟨d0, d1, d2, d3, d4, d5, d6, d7, d8, d9⟩ := U.later HB
            simp only at d0 d1 d2 d3 d4 d5 d6 d7 d8 d9
            have x_p := HQ.out.2.2.get 1 rfl
            have x_q := HQ.out.2.2.get 3 rfl
            have c1 : wr.cell? ⟨wo.heap.size, 1, none⟩ = some (.int .i64 xc) := x_x.1 1 _ rfl
            have c2 : wr.cell? ⟨wo.heap.size, 2, none⟩ = some (.int .i64 xm) := x_x.1 2 _ rfl
            have c3 : wr.cell? ⟨wo.heap.size, 3, none⟩ = some (.int .i64 xh) := x_x.1 3 _ rfl
            have c4 : wr.cell? ⟨wo.heap.size, 4, none⟩ = some (.int .i64 yc) := x_x.1 4 _ rfl
            have c5 : wr.cell? ⟨wo.heap.size, 5, none⟩ = some (.int .i64 ym) := x_x.1 5 _ rfl
            have c6 : wr.cell? ⟨wo.heap.size, 6, none⟩ = some (.int .i64 yh) := x_x.1 6 _ rfl
            have p3 : wr.cell? ⟨w.heap.size, 3, none⟩ = some (.slice (some ⟨b, off, none⟩) zs.length cap) := x_p.1 3 _ rfl
            have pz := x_p.2.2
            have lge := limits_ge (OKS.out k _ hk1)
            obtain ⟨e1, t1⟩ : ∃ e, decide (0 < lc) = e := ⟨_, rfl⟩
            obtain ⟨e2, t2⟩ : ∃ e, (yc != 0) = e := ⟨_, rfl⟩
            obtain ⟨e3, t3⟩ : ∃ e, decide (0 < lm) = e := ⟨_, rfl⟩
            obtain ⟨e4, t4⟩ : ∃ e, (ym != 0) = e := ⟨_, rfl⟩
            obtain ⟨t, ht⟩ : ∃ t, t = ((e1 != e2) || (e3 != e4)) := ⟨_, rfl⟩
            have TE : Hid (t = ((e1 != e2) || (e3 != e4))) := ht
            have TT : Hid (turnAt zs k ⟨n, xc, xm, xh, yc, ym, yh⟩ = t) := by
              unfold Hid turnAt
              rw [hk1, ht, ← t1, ← t2, ← t3, ← t4]
              exact turn_alike lge.1 lge.2
            have SA : Hid (RowC (wr.alloc (.cells #[.int .i64 lc, .int .i64 lm, .int .i64 lh] 23)) g out ∧ Lies w [(wo.heap.size, [.string n, .int .i64 xc, .int .i64 xm, .int .i64 xh, .int .i64 yc, .int .i64 ym, .int .i64 yh]), (w.heap.size, [.string pn, .int .i64 pr, .int .i64 po, .slice (some ⟨b, off, none⟩) zs.length cap]), (w.heap.size + 1, [.string ⟨#[]⟩, .int .i64 0, .int .i64 0, .slice none 0 0]), (qb, [.string pn, .int .i64 pr, .int .i64 po, .slice (some ⟨g, 0, none⟩) zs.length cap1])] (wr.alloc (.cells #[.int .i64 lc, .int .i64 lm, .int .i64 lh] 23))) := ⟨HQ.out.2.1.alloc _, HQ.out.2.2.alloc _⟩
            clear U hk1 lge ht HQ x_p x_q x_r x_x
            go_upto_region 18 with (fail)
            go_cut [80] (fun s80 wc => s80 = .bool t ∧ wc = wr.alloc (.cells #[.int .i64 lc, .int .i64 lm, .int .i64 lh] 23))
            case first =>
              cases e1 <;> cases e2
              all_goals
                obtain rfl := TE.out
                go_wp2_with (fail)
                go_meet
                case rel => exact ⟨rfl, rfl⟩
            case rest =>
              obtain ⟨rfl, rfl⟩ := hcut
              clear c0 c1 c2 c3 c4 c5 c6 cz d0 d1 d2 d3 d4 d5 d6 d7 d8 d9 p3 pz HB hs t1 t2 t3 t4 TE
              generalize wr.alloc (.cells #[.int .i64 lc, .int .i64 lm, .int .i64 lh] 23) = W5 at SA ⊢
              have HB := SA.out.2.2
              have hs := HB.size
              cases t with
              | true =>
                have X : Hid (R = (28, [])) := by unfold Hid; rw [HR.out]; exact resV_err GG.out (by rw [← OL.out.1, resGo_turn HO.out HS.out TT.out]) (by decide)
                have x_r := SA.out.2.get 2 rfl
                have r0 : W5.cell? ⟨w.heap.size + 1, 0, none⟩ = some (.string ⟨#[]⟩) := x_r.1 0 _ rfl
                have r1 : W5.cell? ⟨w.heap.size + 1, 1, none⟩ = some (.int .i64 0) := x_r.1 1 _ rfl
                have r2 : W5.cell? ⟨w.heap.size + 1, 2, none⟩ = some (.int .i64 0) := x_r.1 2 _ rfl
                have r3 : W5.cell? ⟨w.heap.size + 1, 3, none⟩ = some (.slice none 0 0) := x_r.1 3 _ rfl
                have rF0 : W5.frozen? ⟨w.heap.size + 1, 0, none⟩ = false := x_r.2.1 0 (by simp)
                have rF1 : W5.frozen? ⟨w.heap.size + 1, 1, none⟩ = false := x_r.2.1 1 (by simp)
                have rF2 : W5.frozen? ⟨w.heap.size + 1, 2, none⟩ = false := x_r.2.1 2 (by simp)
                have rF3 : W5.frozen? ⟨w.heap.size + 1, 3, none⟩ = false := x_r.2.1 3 (by simp)
                have rz := x_r.2.2
                clear SA OL HO
                go_wp2
                refine bodyPost_ret (v := .tuple #[.agg #[.string ⟨#[]⟩, .int .i64 0, .int .i64 0, .slice none 0 0], .int .i64 28]) (by simp [results, Tryd.results30, go_sem, r0, r1, r2, r3]) rfl ?_
                exact ⟨_, by rw [X.out, ← resP_no (by decide)], by rw [X.out]; exact RdC.nil _, by go_grown⟩
              | false =>
                have NE : Hid (resGo zs (out.modify k (fun c => c.put ⟨n, xc, xm, xh, yc, ym, yh⟩)) ((l.take (q + 1)).map Ch.n).reverse (l.drop (q + 1)) = resGo zs zs [] l ∧ (out.modify k (fun c => c.put ⟨n, xc, xm, xh, yc, ym, yh⟩)).length = zs.length) :=
                  ⟨by rw [← OL.out.1, resGo_on HO.out HS.out TT.out, SN.out], by rw [List.length_modify]; exact OL.out.2⟩
                obtain ⟨⟨m3, rc3, rm3, rh3, lc3, lm3, lh3, x3, y3, z3⟩, hdd⟩ : ∃ d, out[k]? = some d := ⟨out[k]'(by rw [OL.out.2]; exact kz), List.getElem?_eq_getElem _⟩
                obtain ⟨-, ⟨u0, u1, u2, u3, u4, u5, u6, u7, u8, u9⟩, uf⟩ := SA.out.1.2 k _ hdd
                simp only at u0 u1 u2 u3 u4 u5 u6 u7 u8 u9
                have f1 := uf 1 (by omega)
                have f2 := uf 2 (by omega)
                have f3 := uf 3 (by omega)
                have f4 := uf 4 (by omega)
                have f5 := uf 5 (by omega)
                have f6 := uf 6 (by omega)
                have gz := SA.out.1.1
                have x_x := SA.out.2.get 0 rfl
                have x_q := SA.out.2.get 3 rfl
                have c0 : W5.cell? ⟨wo.heap.size, 0, none⟩ = some (.string n) := x_x.1 0 _ rfl
                have c1 : W5.cell? ⟨wo.heap.size, 1, none⟩ = some (.int .i64 xc) := x_x.1 1 _ rfl
                have c2 : W5.cell? ⟨wo.heap.size, 2, none⟩ = some (.int .i64 xm) := x_x.1 2 _ rfl
                have c3 : W5.cell? ⟨wo.heap.size, 3, none⟩ = some (.int .i64 xh) := x_x.1 3 _ rfl
                have c4 : W5.cell? ⟨wo.heap.size, 4, none⟩ = some (.int .i64 yc) := x_x.1 4 _ rfl
                have c5 : W5.cell? ⟨wo.heap.size, 5, none⟩ = some (.int .i64 ym) := x_x.1 5 _ rfl
                have c6 : W5.cell? ⟨wo.heap.size, 6, none⟩ = some (.int .i64 yh) := x_x.1 6 _ rfl
                have q3 : W5.cell? ⟨qb, 3, none⟩ = some (.slice (some ⟨g, 0, none⟩) zs.length cap1) := x_q.1 3 _ rfl
                have qz := x_q.2.2
                have xg : g ≠ wo.heap.size := by omega
                have S8 : Hid (RowC ((((((W5.setCell ⟨g, k * 10 + 1, none⟩ (.int .i64 xc)).setCell ⟨g, k * 10 + 2, none⟩ (.int .i64 xm)).setCell ⟨g, k * 10 + 3, none⟩ (.int .i64 xh)).setCell ⟨g, k * 10 + 4, none⟩ (.int .i64 yc)).setCell ⟨g, k * 10 + 5, none⟩ (.int .i64 ym)).setCell ⟨g, k * 10 + 6, none⟩ (.int .i64 yh)) g (out.modify k (fun c => c.put ⟨n, xc, xm, xh, yc, ym, yh⟩)) ∧
                    Lies w [(w.heap.size, [.string pn, .int .i64 pr, .int .i64 po, .slice (some ⟨b, off, none⟩) zs.length cap]), (w.heap.size + 1, [.string ⟨#[]⟩, .int .i64 0, .int .i64 0, .slice none 0 0]), (qb, [.string pn, .int .i64 pr, .int .i64 po, .slice (some ⟨g, 0, none⟩) zs.length cap1])] ((((((W5.setCell ⟨g, k * 10 + 1, none⟩ (.int .i64 xc)).setCell ⟨g, k * 10 + 2, none⟩ (.int .i64 xm)).setCell ⟨g, k * 10 + 3, none⟩ (.int .i64 xh)).setCell ⟨g, k * 10 + 4, none⟩ (.int .i64 yc)).setCell ⟨g, k * 10 + 5, none⟩ (.int .i64 ym)).setCell ⟨g, k * 10 + 6, none⟩ (.int .i64 yh))) := by
                  refine ⟨RowC.put SA.out.1 ⟨n, xc, xm, xh, yc, ym, yh⟩, fun x hx => ?_, by go_grown⟩
                  have := SA.out.2.1 x (List.mem_cons_of_mem _ hx)
                  have hxg : x.1 ≠ g := by
                    simp at hx
                    rcases hx with rfl | rfl | rfl
                    · show w.heap.size ≠ g
                      omega
                    · show w.heap.size + 1 ≠ g
                      omega
                    · show qb ≠ g
                      omega
                  exact (((((this.beside _ _ hxg).beside _ _ hxg).beside _ _ hxg).beside _ _ hxg).beside _ _ hxg).beside _ _ hxg
                clear SA OL HS TT HO hdd uf x_x x_q
                go_wp2
                go_roundw
                case rel => exact ⟨q + 1, out.modify k (fun c => c.put ⟨n, xc, xm, xh, yc, ym, yh⟩), by go_num, by omega, NE.out.1, NE.out.2, S8.out.1, S8.out.2⟩
                case measure => simp [intOf]; omega
    · obtain rfl : j = l.length := by omega
      have GO : Hid (resGo zs zs [] l = (0, out)) := by unfold Hid; rw [← SS.out.1, List.drop_length]; rfl
      have RO : Hid (∀ W, RowC W g out → RdC W (.slice (some ⟨g, 0, none⟩) zs.length cap1) out) := fun W h => by
        have := h.reads (cap := cap1) (by rw [SS.out.2.1]; exact n1) n2
        rwa [SS.out.2.1] at this
      have q0 : wr.cell? ⟨qb, 0, none⟩ = some (.string pn) := q_q.1 0 _ rfl
      have q1 : wr.cell? ⟨qb, 1, none⟩ = some (.int .i64 pr) := q_q.1 1 _ rfl
      have q2 : wr.cell? ⟨qb, 2, none⟩ = some (.int .i64 po) := q_q.1 2 _ rfl
      have q3 : wr.cell? ⟨qb, 3, none⟩ = some (.slice (some ⟨g, 0, none⟩) zs.length cap1) := q_q.1 3 _ rfl
      go_wp2_with (fail)
      refine (refPod_is pn pr po HM.out _ (RO.out _ SS.out.2.2.1)).mono ?_
      rintro e w4 ⟨rfl, hw4⟩
      have K4 : Hid (KRr w [(w.heap.size, [.string pn, .int .i64 pr, .int .i64 po, .slice (some ⟨b, off, none⟩) zs.length cap]), (w.heap.size + 1, [.string ⟨#[]⟩, .int .i64 0, .int .i64 0, .slice none 0 0]), (qb, [.string pn, .int .i64 pr, .int .i64 po, .slice (some ⟨g, 0, none⟩) zs.length cap1])] g out (.slice (some ⟨b, off, none⟩) zs.length cap) zs w4) := ⟨SS.out.2.2.2.later hw4, SS.out.2.2.1.later hw4, HZ.out.later (HB.trans (hw4.mono hs))⟩
      obtain ⟨g2, hg2⟩ : ∃ b, podB pn pr po out = b := ⟨_, rfl⟩
      rw [hg2]
      have G2 : Hid (podB pn pr po out = g2) := hg2
      clear hg2 hw4 SS q0 q1 q2 q3 q_p q_r q_q HB hs p0 p1 p2 p3 pz
      have x_r := K4.out.1.get 1 rfl
      have HB := K4.out.1.2
      have hs := HB.size
      cases g2 with
      | false =>
        have X : Hid (R = (2, [])) := by unfold Hid; rw [HR.out]; exact resV_pod GG.out GO.out G2.out
        have r0 : w4.cell? ⟨w.heap.size + 1, 0, none⟩ = some (.string ⟨#[]⟩) := x_r.1 0 _ rfl
        have r1 : w4.cell? ⟨w.heap.size + 1, 1, none⟩ = some (.int .i64 0) := x_r.1 1 _ rfl
        have r2 : w4.cell? ⟨w.heap.size + 1, 2, none⟩ = some (.int .i64 0) := x_r.1 2 _ rfl
        have r3 : w4.cell? ⟨w.heap.size + 1, 3, none⟩ = some (.slice none 0 0) := x_r.1 3 _ rfl
        have rF0 : w4.frozen? ⟨w.heap.size + 1, 0, none⟩ = false := x_r.2.1 0 (by simp)
        have rF1 : w4.frozen? ⟨w.heap.size + 1, 1, none⟩ = false := x_r.2.1 1 (by simp)
        have rF2 : w4.frozen? ⟨w.heap.size + 1, 2, none⟩ = false := x_r.2.1 2 (by simp)
        have rF3 : w4.frozen? ⟨w.heap.size + 1, 3, none⟩ = false := x_r.2.1 3 (by simp)
        have rz := x_r.2.2
        clear K4
        go_wp2
        refine bodyPost_ret (v := .tuple #[.agg #[.string ⟨#[]⟩, .int .i64 0, .int .i64 0, .slice none 0 0], .int .i64 2]) (by simp [results, Tryd.results30, go_sem, r0, r1, r2, r3]) rfl ?_
        exact ⟨_, by rw [X.out, ← resP_no (by decide)], by rw [X.out]; exact RdC.nil _, by go_grown⟩
      | true =>
      obtain ⟨ci1, hc1⟩ : ∃ c, classI out = c := ⟨_, rfl⟩
      obtain ⟨ci2, hc2⟩ : ∃ c, classI zs = c := ⟨_, rfl⟩
      obtain ⟨d, hd⟩ : ∃ d, (ci1 != ci2) = d := ⟨_, rfl⟩
      have CA : Hid (∀ W, KRr w [(w.heap.size, [.string pn, .int .i64 pr, .int .i64 po, .slice (some ⟨b, off, none⟩) zs.length cap]), (w.heap.size + 1, [.string ⟨#[]⟩, .int .i64 0, .int .i64 0, .slice none 0 0]), (qb, [.string pn, .int .i64 pr, .int .i64 po, .slice (some ⟨g, 0, none⟩) zs.length cap1])] g out (.slice (some ⟨b, off, none⟩) zs.length cap) zs W → Calls Tryd.prog 21 #[.agg #[.string pn, .int .i64 pr, .int .i64 po, .slice (some ⟨g, 0, none⟩) zs.length cap1]] W fun e w' => e = .returned (.int .i64 ci1) ∧ Below W.heap.size W w') := fun W h => by
        have := refClass_is pn pr po W (RO.out _ h.2.1)
        rwa [hc1] at this
      have CB : Hid (∀ W, KRr w [(w.heap.size, [.string pn, .int .i64 pr, .int .i64 po, .slice (some ⟨b, off, none⟩) zs.length cap]), (w.heap.size + 1, [.string ⟨#[]⟩, .int .i64 0, .int .i64 0, .slice none 0 0]), (qb, [.string pn, .int .i64 pr, .int .i64 po, .slice (some ⟨g, 0, none⟩) zs.length cap1])] g out (.slice (some ⟨b, off, none⟩) zs.length cap) zs W → Calls Tryd.prog 21 #[.agg #[.string pn, .int .i64 pr, .int .i64 po, .slice (some ⟨b, off, none⟩) zs.length cap]] W fun e w' => e = .returned (.int .i64 ci2) ∧ Below W.heap.size W w') := fun W h => by
        have := refClass_is pn pr po W h.2.2
        rwa [hc2] at this
      have CC : Hid (classI out = ci1 ∧ classI zs = ci2) := ⟨hc1, hc2⟩
      clear hc1 hc2 x_r HB hs
      go_upto_region 25 with (fail)
      refine wp_region_noPanic ?_
      refine wp_region_held_drew (S := fun w' => Cs w' qb [.string pn, .int .i64 pr, .int .i64 po, .slice (some ⟨g, 0, none⟩) zs.length cap1] ∧ Cs w' w.heap.size [.string pn, .int .i64 pr, .int .i64 po, .slice (some ⟨b, off, none⟩) zs.length cap]) (by kernel_rfl) ?_ (fun hHeld => ?_)
      · exact ⟨K4.out.drew.1.get 2 rfl, K4.out.drew.1.get 0 rfl⟩
      refine wpAnyH_take (i := 0) (v := ?_) rfl (by kernel_rfl) (by kernel_rfl) (by kernel_rfl) (fun _ _ _ h => h) (Or.inl ⟨by rfl, ?_⟩) (by assumption) ?_
      rotate_left
      · (intro wS hSw; have g1 := hSw.1.1 0 _ rfl; have g2 := hSw.1.1 1 _ rfl; have g3 := hSw.1.1 2 _ rfl; have g4 := hSw.1.1 3 _ rfl; have g5 := hSw.2.1 0 _ rfl; have g6 := hSw.2.1 1 _ rfl; have g7 := hSw.2.1 2 _ rfl; have g8 := hSw.2.1 3 _ rfl; go_simp; try with_reducible rfl)
      change wpAnyH _ _ _ _ _ _ _ (Act.put _ (some 101) _) _
      simp only [Act.put, List.setIfInBounds_toArray, List.set_cons_zero, List.set_cons_succ]
      refine wpAnyH_take (i := 2) (v := ?_) rfl (by kernel_rfl) (by kernel_rfl) (by kernel_rfl) (fun _ _ _ h => h) (Or.inl ⟨by rfl, ?_⟩) (by assumption) ?_
      rotate_left
      · (intro wS hSw; have g1 := hSw.1.1 0 _ rfl; have g2 := hSw.1.1 1 _ rfl; have g3 := hSw.1.1 2 _ rfl; have g4 := hSw.1.1 3 _ rfl; have g5 := hSw.2.1 0 _ rfl; have g6 := hSw.2.1 1 _ rfl; have g7 := hSw.2.1 2 _ rfl; have g8 := hSw.2.1 3 _ rfl; go_simp; try with_reducible rfl)
      change wpAnyH _ _ _ _ _ _ _ (Act.put _ (some 103) _) _
      simp only [Act.put, List.setIfInBounds_toArray, List.set_cons_zero, List.set_cons_succ]
      refine wpAnyH_named ?_
      intro A hA
      clear hHeld
      refine wpAnyH_inv (I := fun L a W => ∃ (c1 c3 c4 : Bool) (s102 s104 s105 : Value), L = #[true, c1, true, c3, c4] ∧ a = (((A.put (some 102) s102).put (some 104) s104).put (some 105) s105) ∧ Hid (KRr w [(w.heap.size, [.string pn, .int .i64 pr, .int .i64 po, .slice (some ⟨b, off, none⟩) zs.length cap]), (w.heap.size + 1, [.string ⟨#[]⟩, .int .i64 0, .int .i64 0, .slice none 0 0]), (qb, [.string pn, .int .i64 pr, .int .i64 po, .slice (some ⟨g, 0, none⟩) zs.length cap1])] g out (.slice (some ⟨b, off, none⟩) zs.length cap) zs W) ∧ Hid (c1 = true → s102 = .int .i64 ci1) ∧ Hid (c3 = true → s104 = .int .i64 ci2) ∧ Hid (c4 = true → s105 = .bool d)) ?hS ?hz (by kernel_rfl) ?hsteps ?hend _ _ _ _ (by decide) ?h0
      case hS => rintro L a W ⟨c1, c3, c4, s102, s104, s105, -, -, K, -⟩; exact (fun h => h) (⟨K.out.1.get 2 rfl, K.out.1.get 0 rfl⟩)
      case hz => rintro L a W ⟨c1, c3, c4, s102, s104, s105, rfl, -⟩; rfl
      case h0 => exact ⟨false, false, false, A.eval (.tmp 102), A.eval (.tmp 104), A.eval (.tmp 105), rfl, by simp only [put_self], K4.out.drew, fun h => Bool.noConfusion h, fun h => Bool.noConfusion h, fun h => Bool.noConfusion h⟩
      case hend =>
        rintro L a W ⟨c1, c3, c4, s102, s104, s105, rfl, rfl, K, k1, k3, k4⟩ hall
        obtain rfl : c1 = true := hall 1
        obtain rfl : c3 = true := hall 3
        obtain rfl : c4 = true := hall 4
        obtain rfl := k1.out rfl
        obtain rfl := k3.out rfl
        obtain rfl := k4.out rfl
        clear k1 k3 k4
        refine NoPanic.normal ?_
        subst hA
        simp only [Act.put, List.setIfInBounds_toArray, List.set_cons_zero, List.set_cons_succ]
        have K5 := K
        clear K K4 CA CB
        have x_r := K5.out.1.get 1 rfl
        have x_q := K5.out.1.get 2 rfl
        have HB := K5.out.1.2
        have hs := HB.size
        have r0 : W.cell? ⟨w.heap.size + 1, 0, none⟩ = some (.string ⟨#[]⟩) := x_r.1 0 _ rfl
        have r1 : W.cell? ⟨w.heap.size + 1, 1, none⟩ = some (.int .i64 0) := x_r.1 1 _ rfl
        have r2 : W.cell? ⟨w.heap.size + 1, 2, none⟩ = some (.int .i64 0) := x_r.1 2 _ rfl
        have r3 : W.cell? ⟨w.heap.size + 1, 3, none⟩ = some (.slice none 0 0) := x_r.1 3 _ rfl
        have rF0 : W.frozen? ⟨w.heap.size + 1, 0, none⟩ = false := x_r.2.1 0 (by simp)
        have rF1 : W.frozen? ⟨w.heap.size + 1, 1, none⟩ = false := x_r.2.1 1 (by simp)
        have rF2 : W.frozen? ⟨w.heap.size + 1, 2, none⟩ = false := x_r.2.1 2 (by simp)
        have rF3 : W.frozen? ⟨w.heap.size + 1, 3, none⟩ = false := x_r.2.1 3 (by simp)
        have rz := x_r.2.2
        cases d with
        | true =>
          have X : Hid (R = (28, [])) := by unfold Hid; rw [HR.out]; exact resV_class GG.out GO.out G2.out (by rw [CC.out.1, CC.out.2]; simpa using hd)
          clear K5
          go_wp2
          refine bodyPost_ret (v := .tuple #[.agg #[.string ⟨#[]⟩, .int .i64 0, .int .i64 0, .slice none 0 0], .int .i64 28]) (by simp [results, Tryd.results30, go_sem, r0, r1, r2, r3]) rfl ?_
          exact ⟨_, by rw [X.out, ← resP_no (by decide)], by rw [X.out]; exact RdC.nil _, by go_grown⟩
        | false =>
          have X : Hid (R = (0, out)) := by unfold Hid; rw [HR.out]; exact resV_ok GG.out GO.out G2.out (by rw [CC.out.1, CC.out.2]; simpa using hd)
          have q0 : W.cell? ⟨qb, 0, none⟩ = some (.string pn) := x_q.1 0 _ rfl
          have q1 : W.cell? ⟨qb, 1, none⟩ = some (.int .i64 pr) := x_q.1 1 _ rfl
          have q2 : W.cell? ⟨qb, 2, none⟩ = some (.int .i64 po) := x_q.1 2 _ rfl
          have q3 : W.cell? ⟨qb, 3, none⟩ = some (.slice (some ⟨g, 0, none⟩) zs.length cap1) := x_q.1 3 _ rfl
          have RC : RowC ((((W.setCell ⟨w.heap.size + 1, 0, none⟩ (.string pn)).setCell ⟨w.heap.size + 1, 1, none⟩ (.int .i64 pr)).setCell ⟨w.heap.size + 1, 2, none⟩ (.int .i64 po)).setCell ⟨w.heap.size + 1, 3, none⟩ (.slice (some ⟨g, 0, none⟩) zs.length cap1)) g out := (((K5.out.2.1.beside _ _ (show g ≠ w.heap.size + 1 by omega)).beside _ _ (show g ≠ w.heap.size + 1 by omega)).beside _ _ (show g ≠ w.heap.size + 1 by omega)).beside _ _ (show g ≠ w.heap.size + 1 by omega)
          have RD : Hid (RdC ((((W.setCell ⟨w.heap.size + 1, 0, none⟩ (.string pn)).setCell ⟨w.heap.size + 1, 1, none⟩ (.int .i64 pr)).setCell ⟨w.heap.size + 1, 2, none⟩ (.int .i64 po)).setCell ⟨w.heap.size + 1, 3, none⟩ (.slice (some ⟨g, 0, none⟩) zs.length cap1)) (.slice (some ⟨g, 0, none⟩) zs.length cap1) out) := RO.out _ RC
          clear RC K5
          go_wp2
          refine bodyPost_ret (v := .tuple #[.agg #[.string pn, .int .i64 pr, .int .i64 po, .slice (some ⟨g, 0, none⟩) zs.length cap1], .int .i64 0]) (by simp [results, Tryd.results30, go_sem, r0, r1, r2, r3]) rfl ?_
          exact ⟨_, by rw [X.out]; rfl, by rw [X.out]; exact RD.out, by go_grown⟩
      case hsteps =>
        refine StepsI.skip (i := 0) (by rintro L a W ⟨c1, c3, c4, s102, s104, s105, rfl, -⟩; rfl) ?_
        refine StepsI.cons (i := 1) rfl ?_ ?_
        · rintro L a W ⟨c1, c3, c4, s102, s104, s105, rfl, rfl, K, k1, k3, k4⟩ h0 hd KK hK
          obtain rfl : c1 = false := h0
          subst hA
          simp only [Act.put, List.setIfInBounds_toArray, List.set_cons_zero, List.set_cons_succ]
          clear hd
          go_simp
          refine (CA.out _ K.out).mono ?_
          rintro e w2 ⟨rfl, hw2⟩
          (try go_wp2_with (fail))
          exact hK.out _ _ ⟨true, c3, c4, .int .i64 ci1, s104, s105, rfl, by simp only [Act.put, List.setIfInBounds_toArray, List.set_cons_zero, List.set_cons_succ], K.out.later hw2, fun _ => rfl, k3.out, k4.out⟩
        refine StepsI.skip (i := 2) (by rintro L a W ⟨c1, c3, c4, s102, s104, s105, rfl, -⟩; rfl) ?_
        refine StepsI.cons (i := 3) rfl ?_ ?_
        · rintro L a W ⟨c1, c3, c4, s102, s104, s105, rfl, rfl, K, k1, k3, k4⟩ h0 hd KK hK
          obtain rfl : c3 = false := h0
          subst hA
          simp only [Act.put, List.setIfInBounds_toArray, List.set_cons_zero, List.set_cons_succ]
          clear hd
          go_simp
          refine (CB.out _ K.out).mono ?_
          rintro e w2 ⟨rfl, hw2⟩
          (try go_wp2_with (fail))
          exact hK.out _ _ ⟨c1, true, c4, s102, .int .i64 ci2, s105, rfl, by simp only [Act.put, List.setIfInBounds_toArray, List.set_cons_zero, List.set_cons_succ], K.out.later hw2, k1.out, fun _ => rfl, k4.out⟩
        refine StepsI.cons (i := 4) rfl ?_ ?_
        · rintro L a W ⟨c1, c3, c4, s102, s104, s105, rfl, rfl, K, k1, k3, k4⟩ h0 hd KK hK
          obtain rfl : c4 = false := h0
          obtain rfl : c1 = true := hd ⟨1, .data⟩ (by simp) rfl
          obtain rfl : c3 = true := hd ⟨3, .data⟩ (by simp) rfl
          have e1 := k1.out rfl
          subst e1
          have e3 := k3.out rfl
          subst e3
          subst hA
          simp only [Act.put, List.setIfInBounds_toArray, List.set_cons_zero, List.set_cons_succ]
          clear hd
          go_simp
          exact hK.out _ _ ⟨true, true, true, .int .i64 ci1, .int .i64 ci2, .bool d, rfl, by simp only [Act.put, List.setIfInBounds_toArray, List.set_cons_zero, List.set_cons_succ], K, fun _ => rfl, fun _ => rfl, fun _ => rfl⟩
        exact StepsI.nil

end Go.Proofs.YtfgbppngnafpoaaDoor.Sp
