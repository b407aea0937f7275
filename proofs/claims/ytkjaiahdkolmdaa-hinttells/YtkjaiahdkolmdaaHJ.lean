/-
  The hint, with held nodes and without, and the iterator that the callers have, at this program. Conditions: none on the arguments.
-/
import Derived.Test.YtkjaiahdkolmdaaHI
namespace Go.Proofs.Ytkjaiahdkolmdaa.Mk
open Go.RowKit Go.Shelf

attribute [local go_sem] Oper.semAt_some

/-- What lies below a bound abides what an iterator does that keeps blocks beyond it. -/
theorem low_framed {β : Type} {lo B : Nat} {Q : β → World → Prop} (hQ : ∀ s X Y, Q s X → Below lo X Y → Q s Y) (hB : lo ≤ B) : Framed B (fun Kc s V => (∀ b, Kc b → lo ≤ b) ∧ lo ≤ V.heap.size ∧ Q s V) := by
  rintro Kc Kc' s X Y row ⟨hk, hl, hq⟩ hg hr hk'
  refine ⟨fun b hb => ?_, Nat.le_trans hl hg.size, hQ s X Y hq ⟨hg.os, hg.tape, hg.output, hg.size, fun k h => hg.block k (by omega) fun e => ?_⟩⟩
  · rcases hk' b hb with e | e
    · exact hk b e
    · omega
  · rcases hr k e.symm with e | e
    · have := hk k e
      omega
    · omega
theorem low_own {β : Type} {lo B : Nat} {Q : β → World → Prop} (hQ : ∀ s X Y, Q s X → Below lo X Y → Q s Y) (hB : lo ≤ B) : OwnFrom B (fun s V => lo ≤ V.heap.size ∧ Q s V) := by
  rintro s X Y row ⟨hl, hq⟩ hg hr
  refine ⟨Nat.le_trans hl hg.size, hQ s X Y hq ⟨hg.os, hg.tape, hg.output, hg.size, fun k h => hg.block k (by omega) fun e => ?_⟩⟩
  have := (hr k e.symm).1
  omega
theorem boxed_low {W W' : World} {lo B : Nat} {t : TypeId} {v : Value} (h : Boxed W B t v) (hb : Below lo W W') (hl : B < lo) : Boxed W' B t v := (hb.block B hl).trans h
theorem boxed_put {W : World} {B D : Nat} {t : TypeId} {v : Value} {o : Obj} (h : Boxed W B t v) (hd : D ≠ B) : Boxed (W.putObj D o) B t v := (World.putObj_heap_other (Ne.symm hd)).trans h
def headI (l : List Nat) : Int := (l.headD 0 : Nat)
def anyL (l : List Nat) : Bool := !l.isEmpty

set_option maxRecDepth 100000 in
set_option maxHeartbeats 2000000 in
theorem with_in (n : Nat) (hn : 6 ≤ n) (F : Nat → Nat → Int) (K : Nat → Int) (nodes held : Int) (w : World) :
    CallsIn Fence.wide n Try.prog 8 #[frV F, .int .i64 nodes, .int .i64 held, ndV K] w fun e w' =>
      e = .returned (.tuple #[.int .i64 (headI (comes (rightH F K nodes held) F K nodes held)), .bool (anyL (comes (rightH F K nodes held) F K nodes held))]) ∧ Below w.heap.size w w' := by
  have h1 : 1 ≤ n := by omega
  obtain ⟨R, hR⟩ : ∃ R, R = rightH F K nodes held := ⟨_, rfl⟩
  have HW : Hid (∀ w, Calls Try.prog 18 #[frV F, .int .i64 nodes, .int .i64 held, ndV K] w fun e w' => HPost w R F K nodes held e w') := fun w => by rw [hR]; exact hintsWith_is F K nodes held w
  have ST := fun lo hi b9 b5 b6 b7 b4 w h => hintsWith1_fr (n - 1) (by omega) lo hi R F K nodes held b9 b5 b6 b7 b4 w h hR
  rw [← hR]
  clear hR
  obtain ⟨L, hL⟩ : ∃ L, L = comes R F K nodes held := ⟨_, rfl⟩
  rw [← hL] at ST ⊢
  clear hL
  refine callsIn_of_wp_marks Try.func8 rfl trivial ?_ rfl
  simp only [Try.ntmps8, List.size_toArray, List.length_cons, List.length_nil, Nat.reduceAdd, Nat.reduceSub, Array.replicate_succ, Array.replicate_zero, List.push_toArray, List.append_toArray, List.nil_append, List.cons_append]
  gi_wp2_with (fail)
  refine ⟨trivial, (callsIn_wide.2 (HW.out _)).mono ?_⟩
  rintro e w' ⟨hb, b9, b5, b6, b7, b4, rfl, hH⟩
  have r8 : Boxed (((w.alloc (.cells (frL F).toArray 24)).alloc (.cells (kL K).toArray 25)).alloc (.cells #[.int .i64 0] 3)) (w.heap.size + 1 + 1) 3 (.int .i64 0) := by
    have := Boxed.new ((w.alloc (.cells (frL F).toArray 24)).alloc (.cells (kL K).toArray 25)) 3 (.int .i64 0)
    simpa using this
  have r9 : Boxed ((((w.alloc (.cells (frL F).toArray 24)).alloc (.cells (kL K).toArray 25)).alloc (.cells #[.int .i64 0] 3)).alloc (.cells #[.bool false] 4)) (w.heap.size + 1 + 1 + 1) 4 (.bool false) := by
    have := Boxed.new (((w.alloc (.cells (frL F).toArray 24)).alloc (.cells (kL K).toArray 25)).alloc (.cells #[.int .i64 0] 3)) 4 (.bool false)
    simpa using this
  have r8' := r8.alloc (.cells #[.bool false] 4)
  have g0 : Below w.heap.size w ((((w.alloc (.cells (frL F).toArray 24)).alloc (.cells (kL K).toArray 25)).alloc (.cells #[.int .i64 0] 3)).alloc (.cells #[.bool false] 4)) := by go_grown
  have s0 : ((((w.alloc (.cells (frL F).toArray 24)).alloc (.cells (kL K).toArray 25)).alloc (.cells #[.int .i64 0] 3)).alloc (.cells #[.bool false] 4)).heap.size = w.heap.size + 4 := by simp
  obtain ⟨W1, hW1⟩ : ∃ W1, W1 = ((((w.alloc (.cells (frL F).toArray 24)).alloc (.cells (kL K).toArray 25)).alloc (.cells #[.int .i64 0] 3)).alloc (.cells #[.bool false] 4)) := ⟨_, rfl⟩
  have hb' : Below W1.heap.size W1 w' := by rw [hW1]; exact hb
  have hH' : HWs w' W1.heap.size w'.heap.size R F K nodes held b9 b5 b6 b7 b4 := by rw [hW1]; exact hH
  rw [← hW1] at r8' r9 g0 s0
  clear hW1 r8 hb hH HW
  have r8 := boxed_low r8' hb' (by omega)
  replace r9 := boxed_low r9 hb' (by omega)
  have g1 : Below w.heap.size w w' := g0.trans (hb'.mono g0.size)
  have s1 := hb'.size
  have SW : Hid (W1.heap.size = w.heap.size + 4) := s0
  clear r8' g0 s0
  gi_wp2_with (fail)
  refine wpIn_fr h1 (gf := 28) (lb := #[.pointer (some ⟨b9, 0, none⟩), .pointer (some ⟨b5, 0, none⟩), .pointer (some ⟨b6, 0, none⟩), .pointer (some ⟨b7, 0, none⟩), .pointer (some ⟨b4, 0, none⟩)]) rfl (enters_of Try.func28 (by kernel_rfl) rfl)
    (ST _ _ b9 b5 b6 b7 b4 _ hH') (Below.refl _ _) (fun b hb => hb.2) (fun _ => rfl)
    (fun Kc pre V => (∀ b, Kc b → W1.heap.size ≤ b) ∧ W1.heap.size ≤ V.heap.size ∧ (pre = [] ∧ Boxed V (w.heap.size + 1 + 1) 3 (.int .i64 0) ∧ Boxed V (w.heap.size + 1 + 1 + 1) 4 (.bool false) ∧ Below w.heap.size w V))
    (fun c pre V => W1.heap.size ≤ V.heap.size ∧ (c = .ret ∧ ∃ x, pre = [x] ∧ Boxed V (w.heap.size + 1 + 1) 3 (.int .i64 (x : Int)) ∧ Boxed V (w.heap.size + 1 + 1 + 1) 4 (.bool true) ∧ Below w.heap.size w V))
    (low_framed (fun s X Y h hb => ⟨h.1, boxed_low h.2.1 hb (by have := SW.out; omega), boxed_low h.2.2.1 hb (by have := SW.out; omega), h.2.2.2.trans (hb.mono (by have := SW.out; omega))⟩) s1)
    (fun c => low_own (fun s X Y h hb => ⟨h.1, h.2.choose, h.2.choose_spec.1, boxed_low h.2.choose_spec.2.1 hb (by have := SW.out; omega), boxed_low h.2.choose_spec.2.2.1 hb (by have := SW.out; omega), h.2.choose_spec.2.2.2.trans (hb.mono (by have := SW.out; omega))⟩) s1)
    ⟨fun b hb => hb.1, s1, rfl, r8, r9, g1⟩
    (fun x => { tmps := #[frV F, .int .i64 nodes, .int .i64 held, ndV K, .pointer (some ⟨w.heap.size, 0, none⟩), undef, undef, .pointer (some ⟨w.heap.size + 1, 0, none⟩), .pointer (some ⟨w.heap.size + 1 + 1, 0, none⟩), .pointer (some ⟨w.heap.size + 1 + 1 + 1, 0, none⟩), .int .i64 (x : Int), frV F, .int .i64 nodes, .int .i64 held, ndV K, .func (.func 28) #[] #[.pointer (some ⟨b9, 0, none⟩), .pointer (some ⟨b5, 0, none⟩), .pointer (some ⟨b6, 0, none⟩), .pointer (some ⟨b7, 0, none⟩), .pointer (some ⟨b4, 0, none⟩)], .int .i64 (x : Int), undef], defers := [] }) ?assign ?body ?done ?stop
  case assign =>
    intro l x W K hK
    gi_wp2
    exact hK
  case body =>
    rintro l Kc pre x V ⟨hk, hl, rfl, q8, q9, hB⟩ hsz
    have c8 := q8.cell
    have c9 := q9.cell
    have f8 := q8.frozen
    have f9 := q9.frozen
    have sw := SW.out
    have z8 := q8.lt
    have z9 := q9.lt
    have k1 : KeepsFrom w'.heap.size V ((V.setCell ⟨w.heap.size + 1 + 1, 0, none⟩ (.int .i64 (x : Int))).setCell ⟨w.heap.size + 1 + 1 + 1, 0, none⟩ (.bool true)) := ((KeepsOthers.setCell _ _ _).trans (KeepsOthers.setCell _ _ _)).from _
    have q8' := (q8.set (.int .i64 (x : Int))).other (B' := w.heap.size + 1 + 1 + 1) (by omega) (.bool true)
    have q9' := (q9.other (B' := w.heap.size + 1 + 1) (by omega) (.int .i64 (x : Int))).set (.bool true)
    have hB' := (hB.setCell (p := ⟨w.heap.size + 1 + 1, 0, none⟩) (by show w.heap.size ≤ w.heap.size + 1 + 1; omega) (.int .i64 (x : Int))).setCell (p := ⟨w.heap.size + 1 + 1 + 1, 0, none⟩) (by show w.heap.size ≤ w.heap.size + 1 + 1 + 1; omega) (.bool true)
    have E1 : Hid _ := k1
    have E2 : Hid _ := Nat.le_trans hl k1.size
    have E3 : Hid _ := q8'
    have E4 : Hid _ := q9'
    have E5 : Hid _ := hB'
    clear k1 q8' q9' hB' q8 q9 hB hl hk hsz sw s1 g1 r8 r9 hH' hb' ST
    gi_wp2
    exact ⟨E1.out, E2.out, rfl, x, rfl, E3.out, E4.out, E5.out⟩
  case done =>
    rintro D Kc ys V hD rfl ⟨hk, hl, rfl, q8, q9, hB⟩ hK
    have c8 := q8.cell
    have c9 := q9.cell
    have f8 := q8.frozen
    have f9 := q9.frozen
    have z8 := q8.lt
    have z9 := q9.lt
    have sw := SW.out
    have k1 := (KeepsOthers.setCell V ⟨w.heap.size + 1 + 1, 0, none⟩ (.int .i64 0)).trans (KeepsOthers.setCell _ ⟨w.heap.size + 1 + 1 + 1, 0, none⟩ (.bool false))
    have hK' := k1.same D _ hK rfl
    have q8' := (q8.set (.int .i64 0)).other (B' := w.heap.size + 1 + 1 + 1) (by omega) (.bool false)
    have q9' := (q9.other (B' := w.heap.size + 1 + 1) (by omega) (.int .i64 0)).set (.bool false)
    have hB' := (hB.setCell (p := ⟨w.heap.size + 1 + 1, 0, none⟩) (by show w.heap.size ≤ w.heap.size + 1 + 1; omega) (.int .i64 0)).setCell (p := ⟨w.heap.size + 1 + 1 + 1, 0, none⟩) (by show w.heap.size ≤ w.heap.size + 1 + 1 + 1; omega) (.bool false)
    have E3 : Hid _ := q8'
    have E4 : Hid _ := q9'
    have E5 : Hid _ := hB'
    have E6 : Hid _ := hK'
    have hD' : Hid (w'.heap.size ≤ D ∧ w.heap.size + 4 ≤ w'.heap.size) := ⟨hD, by omega⟩
    clear k1 q8' q9' hB' q8 q9 hB hl hk sw hK' hK
    gi_wp2
    refine ⟨by simp, .inl ⟨_, _, rfl, run_takeDeferred E6.out, ?_⟩⟩
    have hd := hD'.out
    have h8 : D ≠ w.heap.size + 1 + 1 := by omega
    have h9 : D ≠ w.heap.size + 1 + 1 + 1 := by omega
    have e3 := E3.out
    have e4 := E4.out
    have e5 := E5.out
    have e6 := E6.out
    clear E3 E4 E5 E6
    generalize (V.setCell ⟨w.heap.size + 1 + 1, 0, none⟩ (.int .i64 0)).setCell ⟨w.heap.size + 1 + 1 + 1, 0, none⟩ (.bool false) = U at *
    have e8 := (boxed_put (o := .deferred none) e3 h8).cell
    have e9 := (boxed_put (o := .deferred none) e4 h9).cell
    refine ⟨.tuple #[.int .i64 0, .bool false], ?_, rfl, e5.trans (belowK_b (w := w) (Nat.le_refl _) U D _ _ (by omega) e6 rfl rfl)⟩
    simp [results, Try.results8, go_sem, e8, e9]
  case stop =>
    rintro D c pre V hD hpre ⟨hl, rfl, x, rfl, q8, q9, hB⟩ hK
    gi_wp2
    refine ⟨by simp, .inl ⟨_, _, rfl, run_takeDeferred hK, ?_⟩⟩
    have sw := SW.out
    have h8 : D ≠ w.heap.size + 1 + 1 := by omega
    have h9 : D ≠ w.heap.size + 1 + 1 + 1 := by omega
    have e8 := (boxed_put (o := .deferred none) q8 h8).cell
    have e9 := (boxed_put (o := .deferred none) q9 h9).cell
    refine ⟨.tuple #[.int .i64 (x : Int), .bool true], ?_, ?_, hB.trans (belowK_b (w := w) (Nat.le_refl _) V D _ _ (by omega) hK rfl rfl)⟩
    · simp [results, Try.results8, go_sem, e8, e9]
    · obtain ⟨m, rfl⟩ := hpre
      rfl

theorem with_hint (F : Nat → Nat → Int) (K : Nat → Int) (nodes held : Int) (w : World) :
    Calls Try.prog 8 #[frV F, .int .i64 nodes, .int .i64 held, ndV K] w fun e w' =>
      e = .returned (.tuple #[.int .i64 (headI (comes (rightH F K nodes held) F K nodes held)), .bool (anyL (comes (rightH F K nodes held) F K nodes held))]) ∧ Below w.heap.size w w' := callsIn_wide.1 (with_in 6 (Nat.le_refl _) F K nodes held w)

set_option maxRecDepth 100000 in
set_option maxHeartbeats 2000000 in
theorem hint_is (F : Nat → Nat → Int) (K : Nat → Int) (nodes : Int) (w : World) :
    Calls Try.prog 7 #[frV F, .int .i64 nodes, ndV K] w fun e w' =>
      e = .returned (.tuple #[.int .i64 (headI (comes (rightH F K nodes 0) F K nodes 0)), .bool (anyL (comes (rightH F K nodes 0) F K nodes 0))]) ∧ Below w.heap.size w w' := by
  have C : Hid (∀ w, Calls Try.prog 8 #[frV F, .int .i64 nodes, .int .i64 0, ndV K] w fun e w' =>
      e = .returned (.tuple #[.int .i64 (headI (comes (rightH F K nodes 0) F K nodes 0)), .bool (anyL (comes (rightH F K nodes 0) F K nodes 0))]) ∧ Below w.heap.size w w') := fun w => with_hint F K nodes 0 w
  generalize headI (comes (rightH F K nodes 0) F K nodes 0) = a at *
  generalize anyL (comes (rightH F K nodes 0) F K nodes 0) = b at *
  go_enter Try.func7, Try.ntmps7
  go_wp2_with (fail)
  refine (C.out _).mono ?_
  rintro e w1 ⟨rfl, hb⟩
  have HB : Below w.heap.size w w1 := Below.trans (show Below w.heap.size w _ by go_grown) (hb.mono (by simp; omega))
  clear C hb
  go_wp2
  go_returns
  exact ⟨rfl, HB⟩

set_option maxRecDepth 100000 in
set_option maxHeartbeats 2000000 in
theorem hints_is (F : Nat → Nat → Int) (K : Nat → Int) (nodes : Int) (w : World) :
    Calls Try.prog 23 #[frV F, .int .i64 nodes, ndV K] w fun e w' => ∃ lo, w.heap.size ≤ lo ∧ Below w.heap.size w w' ∧ ∃ b9 b5 b6 b7 b4, e = .returned (.func (.func 28) #[] #[.pointer (some ⟨b9, 0, none⟩), .pointer (some ⟨b5, 0, none⟩), .pointer (some ⟨b6, 0, none⟩), .pointer (some ⟨b7, 0, none⟩), .pointer (some ⟨b4, 0, none⟩)]) ∧
      HWs w' lo w'.heap.size (rightH F K nodes 0) F K nodes 0 b9 b5 b6 b7 b4 := by
  have C : Hid (∀ w, Calls Try.prog 18 #[frV F, .int .i64 nodes, .int .i64 0, ndV K] w fun e w' => HPost w (rightH F K nodes 0) F K nodes 0 e w') := fun w => hintsWith_is F K nodes 0 w
  generalize rightH F K nodes 0 = R at *
  obtain ⟨P, hP⟩ : ∃ P : Ending → World → Prop, P = fun e w' => ∃ lo, w.heap.size ≤ lo ∧ Below w.heap.size w w' ∧ ∃ b9 b5 b6 b7 b4, e = .returned (.func (.func 28) #[] #[.pointer (some ⟨b9, 0, none⟩), .pointer (some ⟨b5, 0, none⟩), .pointer (some ⟨b6, 0, none⟩), .pointer (some ⟨b7, 0, none⟩), .pointer (some ⟨b4, 0, none⟩)]) ∧ HWs w' lo w'.heap.size R F K nodes 0 b9 b5 b6 b7 b4 := ⟨_, rfl⟩
  rw [← hP]
  have HP : Hid (∀ e w', (∃ lo, w.heap.size ≤ lo ∧ Below w.heap.size w w' ∧ ∃ b9 b5 b6 b7 b4, e = .returned (.func (.func 28) #[] #[.pointer (some ⟨b9, 0, none⟩), .pointer (some ⟨b5, 0, none⟩), .pointer (some ⟨b6, 0, none⟩), .pointer (some ⟨b7, 0, none⟩), .pointer (some ⟨b4, 0, none⟩)]) ∧ HWs w' lo w'.heap.size R F K nodes 0 b9 b5 b6 b7 b4) → P e w') := fun e w' h => by rw [hP]; exact h
  clear hP
  go_enter Try.func23, Try.ntmps23
  go_wp2_with (fail)
  refine (C.out _).mono ?_
  rintro e w1 ⟨hb, b9, b5, b6, b7, b4, rfl, hH⟩
  have HB : Below w.heap.size w w1 := Below.trans (show Below w.heap.size w _ by go_grown) (hb.mono (by simp; omega))
  have F1 := HP.out _ _ ⟨_, (by simp; omega), HB, b9, b5, b6, b7, b4, rfl, hH⟩
  have HF : Hid _ := F1
  clear C hb hH F1 HP HB
  go_wp2
  exact HF.out

end Go.Proofs.Ytkjaiahdkolmdaa.Mk
