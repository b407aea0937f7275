/-
  What is free on a mask's nodes, added up, at this program. Conditions: the numbers are right.
-/
import Derived.Test.YtkjaiahdkolmdaaHC
namespace Go.Proofs.Ytkjaiahdkolmdaa.Mk
open Go.RowKit Go.Shelf

attribute [local go_sem] Oper.semAt_some

theorem cs_own {β : Type} (b : Nat) (v : Value) (vs : List Value) : Own (fun (_ : β) W => Cs W b (v :: vs)) := fun s X Y row hs hg hrow =>
  hs.grown hg (fun e' => by
    obtain ⟨o, ho, hc⟩ := hrow b e'.symm
    obtain ⟨o', ho', hc'⟩ := cells_of_cell (hs.1 0 v rfl)
    rw [ho] at ho'
    cases ho'
    rw [hc] at hc'
    cases hc')

set_option maxRecDepth 100000 in
set_option maxHeartbeats 2000000 in
theorem freeOn_in (n : Nat) (hn : 3 ≤ n) (s : Nat → Int) (hS : okS s = true) (m : Int) (w : World) :
    CallsIn Fence.wide n Try.prog 25 #[spV s, .int .i64 m] w fun e W' => e = .returned (.int .i64 (sumN s (low m))) ∧ Below w.heap.size w W' := by
  have h1 : 1 ≤ n := by omega
  have ST := fun (Bn : Nat) (w : World) => nodes_stops (n - 1) (by omega) Bn m w
  have SB : Hid (∀ l : List (Fin 8), 0 ≤ sumL s l ∧ sumL s l ≤ l.length * 1073741824) := sumL_le (okS_all hS)
  have SA : Hid (∀ i, i < 8 → 0 ≤ s i ∧ s i ≤ 1073741824) := okS_all hS
  have HR : Hid (sumL s (nd (low m)) = sumN s (low m)) := rfl
  generalize sumN s (low m) = R at *
  clear hS
  refine callsIn_of_wp_marks Try.func25 rfl trivial ?_ rfl
  simp only [Try.ntmps25, List.size_toArray, List.length_cons, List.length_nil, Nat.reduceAdd, Nat.reduceSub, Array.replicate_succ, Array.replicate_zero, List.push_toArray, List.append_toArray, List.nil_append, List.cons_append]
  gi_wp2_with (fail)
  refine ⟨trivial, (callsIn_wide.2 (nodes_is m _)).mono ?_⟩
  rintro e w' ⟨rfl, rfl⟩
  gi_wp2_with (fail)
  have bF : Cs (w.alloc (.cells (spL s).toArray 23)) w.heap.size (spL s) := Cs.new _ _ _ _ rfl
  have bS := Boxed.new (w.alloc (.cells (spL s).toArray 23)) 3 (.int .i64 0)
  have bM := Boxed.new ((w.alloc (.cells (spL s).toArray 23)).alloc (.cells #[.int .i64 0] 3)) 3 (.int .i64 m)
  simp only [World.size_alloc] at bS bM
  have hB0 : Below w.heap.size w (((w.alloc (.cells (spL s).toArray 23)).alloc (.cells #[.int .i64 0] 3)).alloc (.cells #[.int .i64 m] 3)) := (((Below.refl _ w).alloc (Nat.le_refl _) _).alloc (by simp) _).alloc (by simp; omega) _
  refine wpIn_rangeFunc_ownG rfl h1 (gf := 31) (lb := #[.pointer (some ⟨w.heap.size + 1 + 1, 0, none⟩)]) rfl trivial (enters_of Try.func31 (by kernel_rfl) rfl)
    (ST (w.heap.size + 1 + 1) _ (by simp) bM.cell) Keep1.trans (keep1_b (by simp)) (Below.refl _ _) (fun _ => rfl)
    (fun pre W => (Cs W w.heap.size (spL s) ∧ Boxed W (w.heap.size + 1) 3 (.int .i64 (sumL s pre)) ∧ Boxed W (w.heap.size + 1 + 1) 3 (.int .i64 m)) ∧ Below w.heap.size w W)
    (fun _ _ _ => False)
    (OwnFrom.and (OwnFrom.and (Own.from (cs_own _ _ _) _) (OwnFrom.and (Own.from (boxed_own _ _ (fun pre : List (Fin 8) => .int .i64 (sumL s pre))) _) (Own.from (boxed_own _ _ _) _))) (ownFrom_below (Nat.le_refl _) (by simp; omega)))
    (fun _ _ _ _ _ hs _ _ => hs)
    ⟨⟨(bF.alloc _).alloc _, bS.alloc _, bM⟩, hB0⟩
    (fun x => { tmps := #[spV s, .int .i64 m, .pointer (some ⟨w.heap.size, 0, none⟩), undef, .int .i64 0, .pointer (some ⟨w.heap.size + 1, 0, none⟩), encN x, .int .i64 m, .func (.func 31) #[] #[.pointer (some ⟨w.heap.size + 1 + 1, 0, none⟩)], encN x, undef, undef, undef, undef, undef, undef], defers := [] }) ?assign ?body ?done ?stop
  case assign =>
    intro l x W K hK
    gi_wp2
    exact hK
  case body =>
    rintro l pre x W ⟨⟨qF, hv, hm⟩, hB⟩ hlt
    have hc := hv.cell
    have hf := hv.frozen
    have hs := hB.size
    have hlm := hm.lt
    have hlv := hv.lt
    have hd : 1 ≤ n - 1 - 1 := by omega
    have hmx : Try.prog.follows .mixedOrders = true := by kernel_rfl
    have cx := qF.1 x.1 _ (spL_at s x.2)
    have x0 : (0 : Int) ≤ (x.1 : Int) := by omega
    have x1 : (x.1 : Int) < 8 := by omega
    have a1 := SB.out pre
    have a2 := SA.out x.1 x.2
    have HX : Hid (sumL s (pre ++ [x]) = sumL s pre + s x.1) := sumL_snoc s pre x
    obtain ⟨S, hS⟩ : ∃ S, S = sumL s pre := ⟨_, rfl⟩
    obtain ⟨v, hv'⟩ : ∃ v, v = s x.1 := ⟨_, rfl⟩
    rw [← hS] at hc hv HX a1
    rw [← hv'] at cx HX a2
    have b1 : 0 ≤ S + v := by omega
    have b2 : S + v ≤ 8589934592 := by
      have : (pre.length : Int) < 8 := by exact_mod_cast hlt
      omega
    have WR : Hid (IntKind.i64.wrap (S + v) = S + v) := by
      exact IntWalk.i64_in (S + v) (by omega)
    have R1 : Boxed (W.setCell ⟨w.heap.size + 1, 0, none⟩ (.int .i64 (S + v))) (w.heap.size + 1) 3 (.int .i64 (sumL s (pre ++ [x]))) := by rw [HX.out]; exact hv.set (.int .i64 (S + v))
    have R2 := hm.other (B' := w.heap.size + 1) (by omega) (.int .i64 (S + v))
    have R3 := qF.beside (b' := w.heap.size + 1) 0 (.int .i64 (S + v)) (by omega)
    have R4 : Keep1 (w.heap.size + 1 + 1) W (W.setCell ⟨w.heap.size + 1, 0, none⟩ (.int .i64 (S + v))) := Eq.trans R2 hm.symm
    have R5 := hB.setCell (p := ⟨w.heap.size + 1, 0, none⟩) (Nat.le_succ _) (.int .i64 (S + v))
    have FIN : Hid (KeepsFrom (((w.alloc (.cells (spL s).toArray 23)).alloc (.cells #[.int .i64 0] 3)).alloc (.cells #[.int .i64 m] 3)).heap.size W ((W.setCell ⟨w.heap.size + 1, 0, none⟩ (.int .i64 (S + v))).drew) ∧ Keep1 (w.heap.size + 1 + 1) W ((W.setCell ⟨w.heap.size + 1, 0, none⟩ (.int .i64 (S + v))).drew) ∧ (Cs ((W.setCell ⟨w.heap.size + 1, 0, none⟩ (.int .i64 (S + v))).drew) w.heap.size (spL s) ∧ Boxed ((W.setCell ⟨w.heap.size + 1, 0, none⟩ (.int .i64 (S + v))).drew) (w.heap.size + 1) 3 (.int .i64 (sumL s (pre ++ [x]))) ∧ Boxed ((W.setCell ⟨w.heap.size + 1, 0, none⟩ (.int .i64 (S + v))).drew) (w.heap.size + 1 + 1) 3 (.int .i64 m)) ∧ Below w.heap.size w ((W.setCell ⟨w.heap.size + 1, 0, none⟩ (.int .i64 (S + v))).drew)) :=
      ⟨((KeepsOthers.setCell _ _ _).trans (KeepsOthers.drew _)).from _, R4, ⟨R3, R1, R2⟩, Below.drew R5⟩
    clear R1 R2 R3 R4 R5 HX a1 a2 hv hm hB hS hv' SB SA qF
    gi_wp2_with (fail)
    gi_region_with_o (fail)
    all_goals
      rw [WR.out]
      gi_wp2
      exact FIN.out
  case done =>
    rintro D ys W hD rfl ⟨⟨qF, hv, hm⟩, hB⟩ hK
    have hc := hv.cell
    rw [HR.out] at hc
    gi_wp2
    refine ⟨by simp, .inl ⟨_, _, rfl, run_takeDeferred hK, ?_⟩⟩
    exact ⟨_, results_tmp rfl _ _ _, rfl, hB.trans (belowK_b (w := w) (Nat.le_refl _) W D _ _ (by simp at hD; omega) hK rfl rfl)⟩
  case stop =>
    rintro D c pre W hD hpre h hK
    exact h.elim
theorem freeOn_is (s : Nat → Int) (hS : okS s = true) (m : Int) (w : World) :
    Calls Try.prog 25 #[spV s, .int .i64 m] w fun e W' => e = .returned (.int .i64 (sumN s (low m))) ∧ Below w.heap.size w W' := callsIn_wide.1 (freeOn_in 3 (Nat.le_refl _) s hS m w)

end Go.Proofs.Ytkjaiahdkolmdaa.Mk
