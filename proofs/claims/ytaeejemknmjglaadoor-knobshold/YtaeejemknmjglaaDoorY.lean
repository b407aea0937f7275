/-
  A region that draws its order, walked by one condition on what has come up, the frame and the world: one step for each operation, whatever the orders are. No condition on the program.
-/
import Derived.Deep.RegionHeld3
import Derived.Deep.MidRow
import Derived.Test.YtaeejemknmjglaaDoorG
namespace Go.Proofs.YtaeejemknmjglaaDoor
open Go.RowKit

section
variable {P : Program} {ops : Array Oper} {Q : Exit → Act → World → Prop} {S : World → Prop} {I : Array Bool → Act → World → Prop}

/-- Each of these operations, where it may come up, leads from the condition to the condition. -/
def StepsI (P : Program) (ops : Array Oper) (Q : Exit → Act → World → Prop) (I : Array Bool → Act → World → Prop) (rs : List Nat) : Prop :=
  ∀ i ∈ rs, ∀ L a w, I L a w → L.getD i true = false → (∀ o, ops[i]? = some o → ∀ e ∈ o.after, Region.binds .any e = true → L.getD e.on false = true) →
    wpOp P ops Q i (fun a' w' => I (L.setIfInBounds i true) a' w') a w

theorem StepsI.nil : StepsI P ops Q I [] := fun _ h => by cases h
theorem StepsI.cons {i : Nat} {o : Oper} {rs : List Nat} (ho : ops[i]? = some o)
    (h : ∀ L a w, I L a w → L.getD i true = false → (∀ e ∈ o.after, Region.binds .any e = true → L.getD e.on false = true) →
      ∀ K' : Act → World → Prop, Shut (∀ a w, I (L.setIfInBounds i true) a w → K' a w) → if Region.wanted o (yielded ops a.tmps) = true then Oper.wp P o a w K' Q else K' (a.put o.dst undef) w)
    (hs : StepsI P ops Q I rs) : StepsI P ops Q I (i :: rs) := fun j hj => by
  rcases List.mem_cons.1 hj with rfl | hj
  · exact fun L a w hI h0 hd => wpOp_step ho (fun K' hK => h L a w hI h0 (hd o ho) K' hK)
  · exact hs j hj
theorem StepsI.skip {i : Nat} {rs : List Nat} (h : ∀ L a w, I L a w → L.getD i true = true) (hs : StepsI P ops Q I rs) : StepsI P ops Q I (i :: rs) := fun j hj => by
  rcases List.mem_cons.1 hj with rfl | hj
  · exact fun L a w hI h0 _ => absurd (h L a w hI) (by rw [h0]; simp)
  · exact hs j hj

/-- Every edge that binds leads back. -/
def backB (ops : Array Oper) : Bool := (List.range ops.size).all fun i => match ops[i]? with
  | some o => o.after.all fun e => !Region.binds .any e || decide (e.on < i)
  | none => true

theorem all_listed {L : Array Bool} (hb : backB ops = true) (hz : L.size = ops.size) (hr : Region.ready .any ops L = []) : ∀ i, L.getD i true = true := by
  intro i
  induction i using Nat.strongRecOn with
  | _ i ih =>
    cases h : L.getD i true with
    | true => rfl
    | false =>
      have hi : i < L.size := by
        rcases Nat.lt_or_ge i L.size with h' | h'
        · exact h'
        · simp [Array.getElem?_eq_none h'] at h
      have hi' : i < ops.size := by omega
      have hm : i ∈ Region.ready .any ops L := by
        refine mem_ready.2 ⟨h, ops[i], by simp [hi'], fun e he hbe => ?_⟩
        have h1 := List.all_eq_true.1 hb i (List.mem_range.2 hi')
        simp only [Array.getElem?_eq_getElem hi', Array.all_eq_true_iff_forall_mem] at h1
        have h2 := h1 e he
        simp [hbe] at h2
        have h3 := ih e.on h2
        have : e.on < L.size := by omega
        simpa [this] using h3
      rw [hr] at hm
      cases hm

theorem count_set_lt {L : Array Bool} {i : Nat} (h : L.getD i true = false) : (L.setIfInBounds i true).toList.count false < L.toList.count false := by
  have hi : i < L.size := by
    rcases Nat.lt_or_ge i L.size with h' | h'
    · exact h'
    · simp [Array.getElem?_eq_none h'] at h
  obtain ⟨l⟩ := L
  have hi' : i < l.length := hi
  have hv : l[i] = false := by simpa [hi'] using h
  have hp : 0 < l.count false := List.count_pos_iff.2 (hv ▸ List.getElem_mem hi')
  simp only [List.setIfInBounds_toArray]
  rw [List.count_set hi']
  simp [hv]
  omega

theorem wpAnyH_inv (hS : ∀ L a w, I L a w → S w) (hz : ∀ L a w, I L a w → L.size = ops.size) (hb : backB ops = true)
    (hsteps : StepsI P ops Q I (List.range ops.size)) (hend : ∀ L a w, I L a w → (∀ i, L.getD i true = true) → Q .normal a w) :
    ∀ (fuel : Nat) (L : Array Bool) (a : Act) (w : World), L.toList.count false ≤ fuel → I L a w → wpAnyH P .any ops Q S fuel L a w := by
  intro fuel
  induction fuel with
  | zero =>
    intro L a w hc hI
    have hr : Region.ready .any ops L = [] := by
      cases hr : Region.ready .any ops L with
      | nil => rfl
      | cons i r =>
        have hm : i ∈ Region.ready .any ops L := by rw [hr]; simp
        have := count_set_lt (mem_ready.1 hm).1
        omega
    exact ⟨hr, hend L a w hI (all_listed hb (hz L a w hI) hr)⟩
  | succ fuel ih =>
    intro L a w hc hI
    refine ⟨fun hr => hend L a w hI (all_listed hb (hz L a w hI) hr), fun i hi => ?_⟩
    obtain ⟨h0, o, ho, hd⟩ := mem_ready.1 hi
    have hlt : i < ops.size := (Array.getElem?_eq_some_iff.1 ho).1
    refine wpOp_mono (fun a' w' hI' => ⟨hS _ _ _ hI', ih _ a' w' ?_ hI'⟩) (hsteps i (List.mem_range.2 hlt) L a w hI h0 (fun o' ho' => by rw [ho] at ho'; injection ho' with e; subst e; exact hd))
    have := count_set_lt h0
    omega

/-- The frame under a name. -/
theorem wpAnyH_named {fuel : Nat} {L : Array Bool} {a : Act} {w : World} (h : ∀ a0, a0 = a → wpAnyH P .any ops Q S fuel L a0 w) : wpAnyH P .any ops Q S fuel L a w := h a rfl

theorem put_self (a : Act) (t : Nat) : a.put (some t) (a.eval (.tmp t)) = a := by
  obtain ⟨⟨l⟩, d⟩ := a
  simp only [Act.put, Act.eval, List.setIfInBounds_toArray, Act.mk.injEq, and_true]
  congr 1
  apply List.ext_getElem?
  intro i
  rw [List.getElem?_set]
  by_cases h : t = i
  · subst h
    by_cases h2 : t < l.length
    · simp [h2]
    · simp [h2]
  · simp [h]
/-- One operation of a plain region, guarded or not. -/
theorem wpList_one {op : Oper} {rest : List Oper} {a : Act} {w : World}
    (h : ∀ K' : Act → World → Prop, Shut (∀ a w, wpList P ops Q rest a w → K' a w) → if Region.wanted op (yielded ops a.tmps) = true then Oper.wp P op a w K' Q else K' (a.put op.dst undef) w) : wpList P ops Q (op :: rest) a w := by
  have := h (wpList P ops Q rest) (fun _ _ h => h)
  unfold wpList
  split
  · rename_i hw; rw [if_pos hw] at this; exact .inl this
  · rename_i hw; rw [if_neg hw] at this; exact this
end

/-! ### A variable that a region makes and writes -/
theorem size_cells (b : Nat) : ∀ (vs : List Value) (o : Nat) (w : World), (w.setCells b o vs).heap.size = w.heap.size
  | [], _, _ => rfl
  | v :: r, o, w => by rw [World.setCells, size_cells b r]; simp
theorem below_cells {B : Nat} {a : World} (b : Nat) (hb : B ≤ b) : ∀ (vs : List Value) (o : Nat) {w : World}, Below B a w → Below B a (w.setCells b o vs) := by
  intro vs
  induction vs with
  | nil => intro o w h; exact h
  | cons v vs ih => intro o w h; exact ih (o + 1) (h.setCell hb v)
theorem cell_cells {w : World} {b o : Nat} {v : Value} (b' : Nat) (vs : List Value) (h : w.cell? ⟨b, o, none⟩ = some v) (hb : b ≠ b') : (w.setCells b' 0 vs).cell? ⟨b, o, none⟩ = some v := by
  rw [World.cell?_setCells_out b' vs 0 w ⟨b, o, none⟩ (fun e _ => absurd e hb)]; exact h
theorem there_later {w w1 : World} {b n : Nat} (h : w.there b 0 n) (hb : Below w.heap.size w w1) (hz : b < w.heap.size) : w1.there b 0 n := fun j hj => by
  obtain ⟨h1, h2⟩ := h j hj
  obtain ⟨v, hv⟩ := Option.isSome_iff_exists.1 h1
  exact ⟨by rw [(bcell hb).1 _ _ hz, hv]; rfl, (hb.frozen (p := ⟨b, 0 + j, none⟩) hz).trans h2⟩
theorem range_later {w w1 : World} {b : Nat} {vs : List Value} (h : w.rangeAt b 0 vs) (hb : Below w.heap.size w w1) (hz : b < w.heap.size) : w1.rangeAt b 0 vs := fun j v hv => by
  rw [(bcell hb).1 _ _ hz]; exact h j v hv

/-- A pointer's block. -/
def blkOf : Value → Nat
  | .pointer (some p) => p.block
  | _ => 0
/-- c: it is made; cs: it is written. -/
def MadeL (B n : Nat) (c cs : Bool) (s : Value) (vs : List Value) (W : World) : Prop :=
  (c = false → cs = false) ∧ (c = true → ∃ p, s = .pointer (some ⟨p, 0, none⟩) ∧ B ≤ p ∧ p < W.heap.size ∧ W.there p 0 n ∧ (cs = true → W.rangeAt p 0 vs))
section
variable {B n : Nat} {c cs : Bool} {s : Value} {vs : List Value} {W w1 : World}
theorem MadeL.not (B n : Nat) (s : Value) (vs : List Value) (W : World) : MadeL B n false false s vs W := ⟨fun _ => rfl, fun h => Bool.noConfusion h⟩
theorem MadeL.later (h : MadeL B n c cs s vs W) (hb : Below W.heap.size W w1) : MadeL B n c cs s vs w1 := ⟨h.1, fun hc => by
  obtain ⟨p, e, h0, h1, hG, h2⟩ := h.2 hc
  have := hb.size
  exact ⟨p, e, h0, by omega, there_later hG hb h1, fun hs => range_later (h2 hs) hb h1⟩⟩
theorem MadeL.alloc (h : MadeL B n c cs s vs W) (o : Obj) : MadeL B n c cs s vs (W.alloc o) := h.later ((Below.refl _ _).alloc (Nat.le_refl _) o)
theorem MadeL.new {z : Array Value} (h : MadeL B n false cs s vs W) (hB : B ≤ W.heap.size) (t : TypeId) (hz : z.size = n) : MadeL B n true cs (.pointer (some ⟨W.heap.size, 0, none⟩)) vs (W.alloc (.cells z t)) :=
  ⟨fun h => Bool.noConfusion h, fun _ => ⟨W.heap.size, rfl, hB, by simp, fun j hj => ⟨by rw [World.cell?_alloc_at _ _ _ _ rfl]; simp; omega, by simp [go_sem]⟩, fun hc => by rw [h.1 rfl] at hc; exact Bool.noConfusion hc⟩⟩
theorem MadeL.ne (h : MadeL B n true cs s vs W) : (.pointer (some ⟨W.heap.size, 0, Option.none⟩)) ≠ s := by
  obtain ⟨p, rfl, -, h1, -⟩ := h.2 rfl
  intro e
  injection e with e; injection e with e; injection e with e _ _
  omega
theorem MadeL.put (h : MadeL B n true false s vs W) (hn : vs.length = n) : MadeL B n true true s vs (W.setCells (blkOf s) 0 vs) := ⟨fun h => Bool.noConfusion h, fun _ => by
  obtain ⟨q, rfl, h0, h1, hG, -⟩ := h.2 rfl
  exact ⟨q, rfl, h0, by rw [size_cells]; exact h1, World.there_setCells hG q 0 vs, fun _ => World.rangeAt_setCells_same W q 0 vs (by rw [hn]; exact hG)⟩⟩
theorem MadeL.beside {B' n' : Nat} {cs' : Bool} {s' : Value} {vs' : List Value} (h : MadeL B n true cs s vs W) (h' : MadeL B' n' true cs' s' vs' W) (us : List Value) (hn : s' ≠ s) : MadeL B n true cs s vs (W.setCells (blkOf s') 0 us) := ⟨fun h => Bool.noConfusion h, fun _ => by
  obtain ⟨q, rfl, h0, h1, hG, h2⟩ := h.2 rfl
  obtain ⟨p, rfl, -⟩ := h'.2 rfl
  have ne : q ≠ p := fun e => hn (by rw [e])
  exact ⟨q, rfl, h0, by rw [size_cells]; exact h1, World.there_setCells hG p 0 us, fun hc => World.rangeAt_setCells_apart (h2 hc) p 0 us (Or.inl ne)⟩⟩
theorem MadeL.ge (h : MadeL B n true cs s vs W) : B ≤ blkOf s := by
  obtain ⟨q, rfl, h0, -⟩ := h.2 rfl
  exact h0
theorem MadeL.store {P : Program} {op : Oper} {a : Act} {K : Act → World → Prop} {Q : Exit → Act → World → Prop} (h : MadeL B n true cs s vs W) (ty : TypeId) (x y : Operand) (ho : op.op = .store ty x y) (hd : op.dst = none)
    (hx : a.eval x = s) (hy : a.eval y = .agg vs.toArray) (hn : vs.length = n) (hi : (P.info? ty).map (·.size) = some n) (h1 : ∀ v ∈ vs, v.oneCell' = true) (hk : K a (W.setCells (blkOf s) 0 vs)) : op.wp P a W K Q := by
  have hk : K (a.put op.dst undef) (W.setCells (blkOf s) 0 vs) := by rw [hd]; exact hk
  obtain ⟨q, rfl, -, -, hG, -⟩ := h.2 rfl
  refine wp_store_mid _ x y ho q 0 vs.toArray hx hy (by rw [List.size_toArray, hn]; exact hG) (by rw [List.size_toArray, hn]; exact hi) (all_oneCell_toArray h1) ?_
  rw [List.toList_toArray]
  exact hk
end

end Go.Proofs.YtaeejemknmjglaaDoor
