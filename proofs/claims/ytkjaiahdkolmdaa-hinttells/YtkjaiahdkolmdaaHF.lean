/-
  A range over a function whose iterator keeps blocks of its own while the rounds run (it ranges over a function itself): the contract that such an iterator can pay, and the law of the statement under it. Conditions: the loop is within no round.
-/
import Derived.Test.YtkjaiahdkolmdaaMC
namespace Go.Proofs.Ytkjaiahdkolmdaa.Mk
open Go.RowKit Go.Shelf

theorem below_gr {W W' : World} (h : Below W.heap.size W W') {row : Option Nat} : W.grownBy W' row := ⟨h.os, h.tape, h.output, h.size, fun k hk _ => h.block k hk⟩
/-- Blocks of a kind that lie in a world are kept. -/
def KeepsL (K : Nat → Prop) (A C : World) : Prop := ∀ b, K b → b < A.heap.size → C.heap[b]? = A.heap[b]?
theorem KeepsL.refl (K : Nat → Prop) (A : World) : KeepsL K A A := fun _ _ _ => rfl
theorem KeepsL.trans {K : Nat → Prop} {A C D : World} (h : KeepsL K A C) (k : KeepsL K C D) (s : A.heap.size ≤ C.heap.size) : KeepsL K A D := fun b hb hl => (k b hb (by omega)).trans (h b hb hl)
theorem KeepsL.grown {K : Nat → Prop} {A C : World} {row : Option Nat} (hg : A.grownBy C row) (hr : ∀ r, row = some r → ¬ K r) : KeepsL K A C := fun b hb hl => hg.block b hl fun e => hr b e.symm hb
/-- An invariant that is told which blocks the other side keeps for itself, and abides what that side does. -/
def Framed {β : Type} (B : Nat) (J : (Nat → Prop) → β → World → Prop) : Prop :=
  ∀ (K K' : Nat → Prop) (s : β) (W W' : World) (row : Option Nat), J K s W → W.grownBy W' row → (∀ r, row = some r → K r ∨ (B ≤ r ∧ ∃ o : Obj, W.heap[r]? = some o ∧ o.isCells = false)) →
    (∀ k, K' k → K k ∨ (W.heap.size ≤ k ∧ k < W'.heap.size)) → J K' s W'
section
variable {β : Type} {B : Nat} {J : (Nat → Prop) → β → World → Prop}
/-- New blocks: they may be the other side's. -/
theorem Framed.more (h : Framed B J) {K K' : Nat → Prop} {s : β} {W W' : World} (hj : J K s W) (hb : Below W.heap.size W W') (hk : ∀ k, K' k → K k ∨ (W.heap.size ≤ k ∧ k < W'.heap.size)) : J K' s W' :=
  h K K' s W W' none hj (below_gr hb) (fun r e => by cases e) hk
theorem Framed.own (h : Framed B J) {K : Nat → Prop} : OwnFrom B (fun (s : β) W => J K s W) := fun s W W' row hj hg hr => h K K s W W' row hj hg (fun r e => .inr (hr r e)) fun _ hk => .inl hk
end
/-- The contract: with every invariant of that kind. K0: the blocks that it keeps from the start. -/
def SeqFr {α : Type} (n : Nat) (P : Program) (g : Nat) (lb : Array Value) (encs : α → Array Value) (K0 : Nat → Prop) (S Sp : List α → Prop) (w : World) : Prop :=
  ∀ (l : Nat) (J : (Nat → Prop) → List α → World → Prop) (Jx : List α → World → Prop) (W : World), Below w.heap.size w W → Framed W.heap.size J → OwnFrom W.heap.size Jx →
    (∀ (K : Nat → Prop) (pre : List α) (x : α) (W1 : World), J K pre W1 → YieldAt Fence.wide (n - 1) P l (encs x) W1 fun e W' =>
      (e = .returned (.bool true) ∧ J K (pre ++ [x]) W' ∧ KeepsFrom W.heap.size W1 W' ∧ KeepsL K W1 W') ∨ (e = .returned (.bool false) ∧ Jx (pre ++ [x]) W' ∧ KeepsFrom W.heap.size W1 W')) →
    J K0 [] W →
    CallsIn Fence.wide n P g (#[.func (.yield l) #[] #[]] ++ lb) W fun e W' => (∃ v, e = .returned v) ∧ ((∃ K xs, S xs ∧ J K xs W') ∨ (∃ pre, Sp pre ∧ Jx pre W'))
/-- How the body of a round may be left. -/
def frPost {α : Type} (B : Nat) (K : Nat → Prop) (I : (Nat → Prop) → List α → World → Prop) (Ix : Code → List α → World → Prop) (xs : List α) (W : World) : Exit → Act → World → Prop
  | .normal, _, W' => KeepsFrom B W W' ∧ KeepsL K W W' ∧ I K xs W'
  | .ret, _, W' => KeepsFrom B W W' ∧ Ix .ret xs W'
  | .exit id, _, W' => KeepsFrom B W W' ∧ Ix (.exit id) xs W'
  | .goto t, _, W' => KeepsFrom B W W' ∧ Ix (.goto t) xs W'
  | .panic _, _, _ => False
  | .outgrown, _, _ => False

theorem putObj_grown (W : World) (l : Nat) (o : Obj) : W.grownBy (W.putObj l o) (some l) := grownBy_putObj' W l o

/-- The record of the loop lies at h + 1, the block for deferred calls at h: both lie as they lay while the other side works. -/
theorem book_kept {h : Nat} {X Y : World} {K : Nat → Prop} {row : Option Nat} {o : Obj} {j : Nat} (hj : j = h ∨ j = h + 1) (hx : X.heap[j]? = some o) (hg : X.grownBy Y row)
    (hd : ∀ b, K b → b ≠ h ∧ b ≠ h + 1) (hr : ∀ r, row = some r → K r ∨ (h + 2 ≤ r ∧ ∃ o : Obj, X.heap[r]? = some o ∧ o.isCells = false)) : Y.heap[j]? = some o := by
  refine (hg.block j (Array.getElem?_eq_some_iff.1 hx).1 fun e => ?_).trans hx
  rcases hr j e.symm with k | ⟨k, -⟩
  · have := hd j k
    rcases hj with rfl | rfl
    · exact this.1 rfl
    · exact this.2 rfl
  · omega

set_option maxHeartbeats 1000000 in
/-- 'for .. := range g { .. }' where g's contract is of that kind. -/
theorem wpIn_fr {α : Type} {P : Program} {g : Operand} {ps : Array Tmp} {assign body : Code} {Q : Exit → Act → World → Prop} {a : Act} {w : World} {n : Nat} (h1 : 1 ≤ n)
    {gf : Nat} {lb : Array Value} (hg : a.eval g = .func (.func gf) #[] lb) (eg : ∀ args w, (callFunc gf args).run P w = .ok (.enter gf args) w)
    {encs : α → Array Value} {K0 : Nat → Prop} {S Sp : List α → Prop} {w0 : World} (hseq : SeqFr (n - 1) P gf lb encs K0 S Sp w0) (hb0 : Below w0.heap.size w0 w)
    (hK0 : ∀ b, K0 b → b < w.heap.size) (hps : ∀ x, (encs x).size = ps.size)
    (I : (Nat → Prop) → List α → World → Prop) (Ix : Code → List α → World → Prop) (hI : Framed w.heap.size I) (hIx : ∀ c, OwnFrom w.heap.size (Ix c)) (h0 : I K0 [] w) (a₁ : α → Act)
    (hassign : ∀ (l : Nat) (x : α) (W : World) (K : Act → World → Prop), K (a₁ x) W →
      assign.wpIn (Fence.wide.inRound l) (n - 1 - 1) P (Exit.then K (fun _ _ _ => False)) { tmps := (ps.zip (encs x)).foldl (fun t (p, v) => t.setIfInBounds p v) a.tmps, defers := [] } W)
    (hbody : ∀ (l : Nat) (K : Nat → Prop) (pre : List α) (x : α) (W : World), I K pre W → w.heap.size < W.heap.size → body.wpIn (Fence.wide.inRound l) (n - 1 - 1) P (frPost w.heap.size K I Ix (pre ++ [x]) W) (a₁ x) W)
    (hdone : ∀ (D : Nat) (K : Nat → Prop) (xs : List α) (W : World), w.heap.size ≤ D → S xs → I K xs W → W.heap[D]? = some (.deferred (some [])) → Q .normal { a with defers := { target := .collected D, args := #[] } :: a.defers } W)
    (hstop : ∀ (D : Nat) (c : Code) (pre : List α) (W : World), w.heap.size ≤ D → Sp pre → Ix c pre W → W.heap[D]? = some (.deferred (some [])) → c.wpIn Fence.wide n P Q { a with defers := { target := .collected D, args := #[] } :: a.defers } W) :
    (Code.rangeFunc g ps assign body).wpIn Fence.wide n P Q a w := by
  refine wpIn_rangeFunc fun fn hfn => ?_
  -- the record of the loop, by its state and its pending jump
  let rc : LoopState → Option Code → Obj := fun st pe => .loop { state := st, pending := pe, fn, tmps := a.tmps, params := ps, assign, body, defers := w.heap.size }
  obtain ⟨V, hV⟩ : ∃ V, V = (w.alloc (.deferred (some []))).alloc (rc .ready none) := ⟨_, rfl⟩
  have sV : V.heap.size = w.heap.size + 2 := by rw [hV]; simp
  have bV : Below w.heap.size w V := by rw [hV]; exact ((Below.refl _ w).alloc (Nat.le_refl _) _).alloc (by simp) _
  have rV : V.heap[w.heap.size + 1]? = some (rc .ready none) := by
    have := World.alloc_heap_new (w.alloc (.deferred (some []))) (rc .ready none)
    rwa [World.size_alloc, ← hV] at this
  have dV : V.heap[w.heap.size]? = some (.deferred (some [])) := by
    rw [hV]
    exact (Below.heap_alloc _ _ _ (by simp)).trans (World.alloc_heap_new w _)
  have iV : I K0 [] V := hI.more h0 bV fun _ hk => .inl hk
  refine ⟨w.heap.size + 1, [{ target := .collected w.heap.size, args := #[] }], V, { target := .fn (.func gf) lb, args := #[.func (.yield (w.heap.size + 1)) #[] #[]] }, V, gf,
    #[.func (.yield (w.heap.size + 1)) #[] #[]] ++ lb, V, ?_, ?_, ?_, ?_, fun _ => h1, ?_⟩
  · rw [hV]
    exact run_enterLoop_outer _ _ _ _ _
  · simp only [resolve, hg]
    simp [go_sem]
  · intro f' _
    trivial
  · simp [invoke, go_sem, eg]
  -- the iterator's contract, beside the caller's invariant the two blocks of the loop
  have up : ∀ {X : World} {K : Nat → Prop} {row : Option Nat}, (∀ r, row = some r → K r ∨ (V.heap.size ≤ r ∧ ∃ o : Obj, X.heap[r]? = some o ∧ o.isCells = false)) →
      (∀ r, row = some r → K r ∨ (w.heap.size ≤ r ∧ ∃ o : Obj, X.heap[r]? = some o ∧ o.isCells = false)) := fun hr r e => by
    rcases hr r e with k | ⟨k, o⟩
    · exact .inl k
    · exact .inr ⟨by omega, o⟩
  refine (hseq (w.heap.size + 1)
    (fun K pre W => I K pre W ∧ W.heap[w.heap.size + 1]? = some (rc .ready none) ∧ W.heap[w.heap.size]? = some (.deferred (some [])) ∧ ∀ b, K b → b ≠ w.heap.size ∧ b ≠ w.heap.size + 1)
    (fun pre W => ∃ c, Ix c pre W ∧ W.heap[w.heap.size + 1]? = some (rc .done (some c)) ∧ W.heap[w.heap.size]? = some (.deferred (some [])))
    V (hb0.trans (bV.mono hb0.size)) ?_ ?_ ?_ ⟨iV, rV, dV, fun b hb => by have := hK0 b hb; omega⟩).mono ?_
  · rintro K K' s X Y row ⟨hi, hl, hk, hd⟩ hg' hr hk'
    have hr2 : ∀ r, row = some r → K r ∨ (w.heap.size + 2 ≤ r ∧ ∃ o : Obj, X.heap[r]? = some o ∧ o.isCells = false) := by rw [← sV]; exact hr
    refine ⟨hI K K' s X Y row hi hg' (up hr) hk', book_kept (.inr rfl) hl hg' hd hr2, book_kept (.inl rfl) hk hg' hd hr2, fun b hb => ?_⟩
    rcases hk' b hb with e | ⟨e, -⟩
    · exact hd b e
    · have := (Array.getElem?_eq_some_iff.1 hl).1
      omega
  · rintro s X Y row ⟨c, hc, hl, hk⟩ hg' hr
    have hr2 : ∀ r, row = some r → False ∨ (w.heap.size + 2 ≤ r ∧ ∃ o : Obj, X.heap[r]? = some o ∧ o.isCells = false) := fun r e => .inr (by rw [← sV]; exact hr r e)
    exact ⟨c, hIx c s X Y row hc hg' (fun r e => by obtain ⟨k, o⟩ := hr r e; exact ⟨by omega, o⟩), book_kept (K := fun _ => False) (.inr rfl) hl hg' (fun _ h => h.elim) hr2, book_kept (K := fun _ => False) (.inl rfl) hk hg' (fun _ h => h.elim) hr2⟩
  · -- one round
    rintro K pre x W ⟨hi, hl, hk, hd⟩
    have lt := (Array.getElem?_eq_some_iff.1 hl).1
    have hy := run_yield (P := P) (args := encs x) hl (hps x)
    refine ⟨fn, _, assign, body, hy, roundIn_of_wpIn hfn (hassign _ x W _ ?_)⟩
    clear hy
    refine ⟨_, run_beginRound hl rfl, ?_⟩
    obtain ⟨X, hX⟩ : ∃ X, X = W.putObj (w.heap.size + 1) (rc .busy none) := ⟨_, rfl⟩
    have lX : X.heap[w.heap.size + 1]? = some (rc .busy none) := by rw [hX]; exact World.putObj_heap_same lt
    have oX : ∀ k, k ≠ w.heap.size + 1 → X.heap[k]? = W.heap[k]? := fun k hk => by rw [hX]; exact World.putObj_heap_other hk
    have iX : I K pre X := by
      rw [hX]
      exact hI.own.putObj _ hi (by omega) hl rfl
    have sX : X.heap.size = W.heap.size := by rw [hX]; simp
    show body.wpIn _ _ _ _ _ (W.putObj (w.heap.size + 1) (rc .busy none))
    rw [← hX]
    refine wpIn_mono (hbody _ K pre x X iX (by omega)) ?_
    rintro e a3 Y hp
    have fin : ∀ (jump : Option Code), KeepsFrom w.heap.size X Y →
        (Instr.endRound (w.heap.size + 1) jump).run P Y = .ok (.bool jump.isNone) (Y.putObj (w.heap.size + 1) (rc (if jump.isNone then .ready else .done) jump)) ∧
        Y.heap[w.heap.size + 1]? = some (rc .busy none) ∧
        (Y.putObj (w.heap.size + 1) (rc (if jump.isNone then .ready else .done) jump)).heap[w.heap.size + 1]? = some (rc (if jump.isNone then .ready else .done) jump) ∧
        (Y.putObj (w.heap.size + 1) (rc (if jump.isNone then .ready else .done) jump)).heap[w.heap.size]? = some (.deferred (some [])) := fun jump hk3 => by
      have lY := hk3.same _ _ (by omega) lX rfl
      have dY := hk3.same _ _ (Nat.le_refl _) ((oX _ (by omega)).trans hk) rfl
      exact ⟨run_endRound (P := P) jump lY, lY, World.putObj_heap_same (Array.getElem?_eq_some_iff.1 lY).1, (World.putObj_heap_other (by omega)).trans dY⟩
    have keep : ∀ (o : Obj), KeepsFrom w.heap.size X Y → KeepsFrom V.heap.size W (Y.putObj (w.heap.size + 1) o) := fun o hk3 => by
      have sz := hk3.size
      refine ⟨by rw [World.putObj_size]; omega, fun k o hb ho hc => ?_⟩
      rw [World.putObj_heap_other (by omega)]
      exact hk3.same k o (by omega) ((oX k (by omega)).trans ho) hc
    have leave : ∀ (c : Code), KeepsFrom w.heap.size X Y → Ix c (pre ++ [x]) Y → ∃ v W', (Instr.endRound (w.heap.size + 1) (some c)).run P Y = .ok v W' ∧ v = .bool false ∧
        (∃ c, Ix c (pre ++ [x]) W' ∧ W'.heap[w.heap.size + 1]? = some (rc .done (some c)) ∧ W'.heap[w.heap.size]? = some (.deferred (some []))) ∧ KeepsFrom V.heap.size W W' := fun c hk3 hi3 => by
      obtain ⟨hr, hl3, hl4, hk4⟩ := fin (some c) hk3
      exact ⟨_, _, hr, rfl, ⟨c, (hIx _).putObj _ hi3 (by omega) hl3 rfl, hl4, hk4⟩, keep _ hk3⟩
    cases e with
    | normal =>
      obtain ⟨hk3, hkl, hi3⟩ := hp
      obtain ⟨hr, hl3, hl4, hk4⟩ := fin none hk3
      have sz := hk3.size
      refine ⟨_, _, hr, .inl ⟨rfl, ⟨hI.own.putObj _ hi3 (by omega) hl3 rfl, hl4, hk4, hd⟩, keep _ hk3, fun b hb hlt => ?_⟩⟩
      rw [World.putObj_heap_other (hd b hb).2, hkl b hb (by omega), oX b (hd b hb).2]
    | ret =>
      obtain ⟨v, W', hr, hv, q⟩ := leave .ret hp.1 hp.2
      exact ⟨v, W', hr, .inr ⟨by rw [hv], q⟩⟩
    | exit id =>
      obtain ⟨v, W', hr, hv, q⟩ := leave (.exit id) hp.1 hp.2
      exact ⟨v, W', hr, .inr ⟨by rw [hv], q⟩⟩
    | goto t =>
      obtain ⟨v, W', hr, hv, q⟩ := leave (.goto t) hp.1 hp.2
      exact ⟨v, W', hr, .inr ⟨by rw [hv], q⟩⟩
    | panic ch => exact hp.elim
    | outgrown => exact hp.elim
  · -- behind the iterator
    rintro e Y ⟨⟨v, rfl⟩, (⟨K, xs, hS, hi, hl, hk, -⟩ | ⟨pre, hSp, c, hi, hl, hk⟩)⟩
    · exact ⟨none, _, run_endLoop (P := P) hl (by simp), hdone _ K xs _ (Nat.le_refl _) hS (hI.own.putObj _ hi (by omega) hl rfl) ((World.putObj_heap_other (by omega)).trans hk)⟩
    · exact ⟨some c, _, run_endLoop (P := P) hl (by simp), hstop _ c pre _ (Nat.le_refl _) hSp ((hIx c).putObj _ hi (by omega) hl rfl) ((World.putObj_heap_other (by omega)).trans hk)⟩

end Go.Proofs.Ytkjaiahdkolmdaa.Mk
