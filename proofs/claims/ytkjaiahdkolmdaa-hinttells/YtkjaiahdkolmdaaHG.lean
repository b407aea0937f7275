/-
  The iterator over all masks that have the held nodes and are enough, at this program. Conditions: none on the arguments.
-/
import Derived.Test.YtkjaiahdkolmdaaHE
namespace Go.Proofs.Ytkjaiahdkolmdaa.Mk
open Go.RowKit Go.Shelf

attribute [local go_sem] Oper.semAt_some

/-- What the iterator keeps: five boxes. -/
structure HWs (W : World) (lo hi : Nat) (R : Bool) (F : Nat → Nat → Int) (K : Nat → Int) (nodes held : Int) (b9 b5 b6 b7 b4 : Nat) : Prop where
  c9 : Cs W b9 [.bool R]
  c5 : Cs W b5 [.int .i64 nodes]
  c6 : Cs W b6 [.int .i64 held]
  c7 : Cs W b7 (kL K)
  c4 : Cs W b4 (frL F)
  r9 : lo ≤ b9 ∧ b9 < hi
  r5 : lo ≤ b5 ∧ b5 < hi
  r6 : lo ≤ b6 ∧ b6 < hi
  r7 : lo ≤ b7 ∧ b7 < hi
  r4 : lo ≤ b4 ∧ b4 < hi
  le : hi ≤ W.heap.size
theorem HWs.same {W W' : World} {lo hi : Nat} {R : Bool} {F : Nat → Nat → Int} {K : Nat → Int} {nodes held : Int} {b9 b5 b6 b7 b4 : Nat} (h : HWs W lo hi R F K nodes held b9 b5 b6 b7 b4)
    (e : ∀ b, lo ≤ b → b < hi → W'.heap[b]? = W.heap[b]?) (s : W.heap.size ≤ W'.heap.size) : HWs W' lo hi R F K nodes held b9 b5 b6 b7 b4 :=
  have l := h.le
  ⟨h.c9.same (e _ h.r9.1 h.r9.2) (by have := h.r9; omega), h.c5.same (e _ h.r5.1 h.r5.2) (by have := h.r5; omega), h.c6.same (e _ h.r6.1 h.r6.2) (by have := h.r6; omega),
   h.c7.same (e _ h.r7.1 h.r7.2) (by have := h.r7; omega), h.c4.same (e _ h.r4.1 h.r4.2) (by have := h.r4; omega), h.r9, h.r5, h.r6, h.r7, h.r4, by omega⟩
theorem HWs.later {W W' : World} {lo hi : Nat} {R : Bool} {F : Nat → Nat → Int} {K : Nat → Int} {nodes held : Int} {b9 b5 b6 b7 b4 : Nat} (h : HWs W lo hi R F K nodes held b9 b5 b6 b7 b4)
    (hb : Below W.heap.size W W') : HWs W' lo hi R F K nodes held b9 b5 b6 b7 b4 := h.same (fun b _ h2 => hb.block b (Nat.lt_of_lt_of_le h2 h.le)) hb.size
def itV (b9 b5 b6 b7 b4 : Nat) : Value := .func (.func 28) #[] #[.pointer (some ⟨b9, 0, none⟩), .pointer (some ⟨b5, 0, none⟩), .pointer (some ⟨b6, 0, none⟩), .pointer (some ⟨b7, 0, none⟩), .pointer (some ⟨b4, 0, none⟩)]
def rightH (F : Nat → Nat → Int) (K : Nat → Int) (nodes held : Int) : Bool := okB F K && okK nodes && okM held
def HPost (w : World) (R : Bool) (F : Nat → Nat → Int) (K : Nat → Int) (nodes held : Int) (e : Ending) (w' : World) : Prop :=
  Below w.heap.size w w' ∧ ∃ b9 b5 b6 b7 b4, e = .returned (.func (.func 28) #[] #[.pointer (some ⟨b9, 0, none⟩), .pointer (some ⟨b5, 0, none⟩), .pointer (some ⟨b6, 0, none⟩), .pointer (some ⟨b7, 0, none⟩), .pointer (some ⟨b4, 0, none⟩)]) ∧
    HWs w' w.heap.size w'.heap.size R F K nodes held b9 b5 b6 b7 b4

set_option maxRecDepth 100000 in
set_option maxHeartbeats 2000000 in
theorem hintsWith_is (F : Nat → Nat → Int) (K : Nat → Int) (nodes held : Int) (w : World) :
    Calls Try.prog 18 #[frV F, .int .i64 nodes, .int .i64 held, ndV K] w fun e w' => HPost w (rightH F K nodes held) F K nodes held e w' := by
  have A1 : Hid (∀ w, Calls Try.prog 24 #[frV F, ndV K] w fun e w' => e = .returned (.bool (okB F K)) ∧ Below w.heap.size w w') := rightBlocks_is F K
  have A2 : Hid (∀ w, Calls Try.prog 27 #[.int .i64 nodes] w fun e w' => e = .returned (.bool (okK nodes)) ∧ w' = w) := rightNodes_is nodes
  have A3 : Hid (∀ w, Calls Try.prog 20 #[.int .i64 held] w fun e w' => e = .returned (.bool (okM held)) ∧ w' = w) := rightMask_is held
  obtain ⟨R, hR⟩ : ∃ R, R = rightH F K nodes held := ⟨_, rfl⟩
  rw [← hR]
  have HR : Hid (R = (okB F K && okK nodes && okM held)) := hR
  clear hR
  generalize okB F K = x at *
  generalize okK nodes = y at *
  generalize okM held = z at *
  go_enter Try.func18, Try.ntmps18
  go_wp2_with (fail)
  have q4 : Cs ((((w.alloc (.cells (frL F).toArray 24)).alloc (.cells #[.int .i64 nodes] 3)).alloc (.cells #[.int .i64 held] 3)).alloc (.cells (kL K).toArray 25)) w.heap.size (frL F) := (((Cs.new _ _ _ _ rfl).alloc _).alloc _).alloc _
  have q5 : Cs ((((w.alloc (.cells (frL F).toArray 24)).alloc (.cells #[.int .i64 nodes] 3)).alloc (.cells #[.int .i64 held] 3)).alloc (.cells (kL K).toArray 25)) (w.heap.size + 1) [.int .i64 nodes] := ((Cs.new _ _ _ _ (by simp)).alloc _).alloc _
  have q6 : Cs ((((w.alloc (.cells (frL F).toArray 24)).alloc (.cells #[.int .i64 nodes] 3)).alloc (.cells #[.int .i64 held] 3)).alloc (.cells (kL K).toArray 25)) (w.heap.size + 2) [.int .i64 held] := (Cs.new _ _ _ _ (by simp)).alloc _
  have q7 : Cs ((((w.alloc (.cells (frL F).toArray 24)).alloc (.cells #[.int .i64 nodes] 3)).alloc (.cells #[.int .i64 held] 3)).alloc (.cells (kL K).toArray 25)) (w.heap.size + 3) (kL K) := Cs.new _ _ _ _ (by simp)
  have g0 : Below w.heap.size w ((((w.alloc (.cells (frL F).toArray 24)).alloc (.cells #[.int .i64 nodes] 3)).alloc (.cells #[.int .i64 held] 3)).alloc (.cells (kL K).toArray 25)) := by go_grown
  refine (A1.out _).mono ?_
  rintro e w1 ⟨rfl, hb⟩
  replace q4 := Cs.later hb q4
  replace q5 := Cs.later hb q5
  replace q6 := Cs.later hb q6
  replace q7 := Cs.later hb q7
  have g1 := g0.trans (hb.mono g0.size)
  have s1 := hb.size
  simp at s1
  clear A1 g0 hb
  have d5 := q5.1 0 _ rfl
  have d6 := q6.1 0 _ rfl
  have z4 := q4.2.2
  have z5 := q5.2.2
  have z6 := q6.2.2
  have z7 := q7.2.2
  have FIN : Hid (∀ v : Bool, R = v → HPost w R F K nodes held (.returned (.func (.func 28) #[] #[.pointer (some ⟨w1.heap.size, 0, none⟩), .pointer (some ⟨w.heap.size + 1, 0, none⟩), .pointer (some ⟨w.heap.size + 2, 0, none⟩), .pointer (some ⟨w.heap.size + 3, 0, none⟩), .pointer (some ⟨w.heap.size, 0, none⟩)])) ((w1.alloc (.cells #[.bool v] 4)))) := fun v hv => by
    have s2 : (w1.alloc (.cells #[.bool v] 4)).heap.size = w1.heap.size + 1 := by simp
    refine ⟨g1.alloc g1.size _, _, _, _, _, _, rfl, ⟨?_, q5.alloc _, q6.alloc _, q7.alloc _, q4.alloc _, ?_, ?_, ?_, ?_, ?_, Nat.le_refl _⟩⟩
    · rw [hv]; exact Cs.new _ _ _ _ rfl
    · have := g1.size; omega
    · omega
    · omega
    · omega
    · omega
  cases x with
  | false =>
    have HE : Hid (R = false) := HR.out
    have F1 := FIN.out false HE.out
    have HF : Hid _ := F1
    clear FIN A2 A3 HR q4 q5 q6 q7 g1 F1 HE
    go_wp2
    go_ret
    exact HF.out
  | true =>
    go_wp2_with (fail)
    refine (A2.out _).mono ?_
    rintro e w2 ⟨rfl, hw⟩
    rw [hw]
    clear hw A2
    cases y with
    | false =>
      have HE : Hid (R = false) := HR.out
      have F1 := FIN.out false HE.out
      have HF : Hid _ := F1
      clear FIN A3 HR q4 q5 q6 q7 g1 F1 HE
      go_wp2
      go_ret
      exact HF.out
    | true =>
      go_wp2_with (fail)
      refine (A3.out _).mono ?_
      rintro e w2 ⟨rfl, hw⟩
      rw [hw]
      clear hw A3
      have HE : Hid (R = z) := HR.out
      have F1 := FIN.out z HE.out
      have HF : Hid _ := F1
      clear FIN HR q4 q5 q6 q7 g1 F1 HE
      go_wp2
      go_ret
      exact HF.out

end Go.Proofs.Ytkjaiahdkolmdaa.Mk
