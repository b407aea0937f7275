/-
  The law's own lists of what an iterator of package mask hands on (of a mask's nodes, of masks), up to so many, at this program. Conditions: where it is said, so many is no number below 0.
-/
import Derived.Maps.AppendAt
import Derived.Test.YtcendnbeiifobaaDoorMC
namespace Go.Proofs.YtcendnbeiifobaaDoor.Mk
open Go.RowKit Go.Shelf

attribute [local go_sem] Oper.semAt_some

theorem ownsRow_weak {W : World} {base n₀ : Nat} {T : TypeId} {s n : Nat} {v : Value} {xs : List Value} (h : W.ownsRow base T s v n xs) (hb : n₀ ≤ base) : W.ownsRow n₀ T s v n xs := by
  obtain ⟨hl, h | ⟨g, cap, cur, e, h1, h2⟩⟩ := h
  · exact ⟨hl, .inl h⟩
  · exact ⟨hl, .inr ⟨g, cap, cur, e, by omega, h2⟩⟩
/-- Behind 'out = append(out, ..)' with the new slice stored in its box. -/
theorem appended3 {W w1 : World} {n₀ b₃ B : Nat} {t e : TypeId} {size : Nat} {v v' : Value} {k m : Nat} {xs ys : List Value} {tmp : Obj}
    (hv : Boxed W B t v) (hte : t ≠ e) (hrow : W.ownsRow b₃ e size v k xs) (hn₀ : n₀ ≤ W.heap.size) (hB : n₀ ≤ B) (h3 : n₀ ≤ b₃)
    (hown' : w1.ownsRow b₃ e size v' m ys) (hgrow : (W.alloc tmp).grownBy w1 v.ownBlock) :
    (Boxed w1 B t v ∧ Boxed (w1.setCell ⟨B, 0, none⟩ v') B t v' ∧ (w1.setCell ⟨B, 0, none⟩ v').ownsRow b₃ e size v' m ys ∧ KeepsOthers W (w1.setCell ⟨B, 0, none⟩ v') ∧ Below n₀ W (w1.setCell ⟨B, 0, none⟩ v')) ∧
    ∀ j, j < b₃ → j ≠ B → j < W.heap.size → (w1.setCell ⟨B, 0, none⟩ v').heap[j]? = W.heap[j]? := by
  obtain ⟨a1, a2, -, a4, a5⟩ := hv.appended hte (ownsRow_weak hrow h3) hn₀ hB (ownsRow_weak hown' h3) hgrow
  refine ⟨⟨a1, a2, hown'.kept (grownBy_setCell' w1 B v') (.inr (a1.not_row hte hown').symm), a4, a5⟩, fun j h1 h2 h4 => ?_⟩
  refine (Below.heap_setCell w1 ⟨B, 0, none⟩ v' j h2).trans ((hgrow.block j (by simp; omega) fun e => ?_).trans (Below.heap_alloc W tmp j h4))
  have := (World.ownsRow.lt (hrow.alloc tmp) j e.symm).1
  omega
theorem prefix_take {α : Type} {pre xs : List α} {k : Nat} (h : pre <+: xs) (hk : pre.dropLast.length = k) : pre.dropLast = xs.take k := by
  have := List.prefix_iff_eq_take.1 ((List.dropLast_prefix pre).trans h)
  rw [hk] at this
  exact this
theorem own_slice {W : World} {base : Nat} {T : TypeId} {s n : Nat} {v : Value} {xs : List Value} (h : W.ownsRow base T s v n xs) : ∃ a cap, v = .slice a n cap := by
  obtain ⟨-, ⟨rfl, rfl⟩ | ⟨g, cap, cur, e, -⟩⟩ := h
  · exact ⟨none, 0, rfl⟩
  · exact ⟨_, cap, e⟩
theorem intInfo : (Tryd.prog.info? 3).map (fun i => (i.zero, i.size, i.bytes)) = some (some (.int .i64 0), 1, 8) := by kernel_rfl

abbrev encN (x : Fin 8) : Value := .int .i64 (x.1 : Int)

set_option maxRecDepth 100000 in
set_option maxHeartbeats 2000000 in
theorem lawnodes_in (n : Nat) (hn : 3 ≤ n) (m : Int) (k : Nat) (w : World) :
    CallsIn Fence.wide n Tryd.prog 20 #[.int .i64 m, .int .i64 k] w fun e W' => ∃ v, e = .returned v ∧
      W'.ownsRow (w.heap.size + 3) 3 1 v ((nd (low m)).take k).length (((nd (low m)).take k).map encN) ∧ Below w.heap.size w W' := by
  have h1 : 1 ≤ n := by omega
  obtain ⟨i0, hi, hz0, hz1, hz2⟩ := info_parts intInfo
  obtain ⟨xs, hxs⟩ : ∃ xs, xs = nd (low m) := ⟨_, rfl⟩
  have ST := fun (Bn : Nat) (w : World) => nodes_stops (n - 1) (by omega) Bn m w
  rw [← hxs] at ST ⊢
  clear hxs
  refine callsIn_of_wp_marks Tryd.func20 rfl trivial ?_ rfl
  simp only [Tryd.ntmps20, List.size_toArray, List.length_cons, List.length_nil, Nat.reduceAdd, Nat.reduceSub, Array.replicate_succ, Array.replicate_zero, List.push_toArray, List.append_toArray, List.nil_append, List.cons_append]
  gi_wp2_with (fail)
  refine ⟨trivial, (callsIn_wide.2 (nodes_is m _)).mono ?_⟩
  rintro e w' ⟨rfl, rfl⟩
  gi_wp2_with (fail)
  have bK := Boxed.new w 3 (.int .i64 (k : Int))
  have bL := Boxed.new (w.alloc (.cells #[.int .i64 (k : Int)] 3)) 26 (.slice none 0 0)
  have bM := Boxed.new ((w.alloc (.cells #[.int .i64 (k : Int)] 3)).alloc (.cells #[.slice none 0 0] 26)) 3 (.int .i64 m)
  simp only [World.size_alloc] at bL bM
  have hB0 : Below w.heap.size w (((w.alloc (.cells #[.int .i64 (k : Int)] 3)).alloc (.cells #[.slice none 0 0] 26)).alloc (.cells #[.int .i64 m] 3)) := (((Below.refl _ w).alloc (Nat.le_refl _) _).alloc (by simp) _).alloc (by simp; omega) _
  refine wpIn_rangeFunc_ownG rfl h1 (gf := 34) (lb := #[.pointer (some ⟨w.heap.size + 1 + 1, 0, none⟩)]) rfl trivial (enters_of Tryd.func34 (by kernel_rfl) rfl)
    (ST (w.heap.size + 1 + 1) _ (by simp) bM.cell) Keep1.trans (keep1_b (by simp)) (Below.refl _ _) (fun _ => rfl)
    (fun pre W => (pre.length ≤ k ∧ (∃ v, Boxed W (w.heap.size + 1) 26 v ∧ W.ownsRow (w.heap.size + 3) 3 1 v pre.length (pre.map encN) ∧ True) ∧ Boxed W w.heap.size 3 (.int .i64 (k : Int)) ∧ Boxed W (w.heap.size + 1 + 1) 3 (.int .i64 m)) ∧ Below w.heap.size w W)
    (fun c pre W => ((c = .exit 0 ∧ pre.dropLast.length = k) ∧ (∃ v, Boxed W (w.heap.size + 1) 26 v ∧ W.ownsRow (w.heap.size + 3) 3 1 v pre.dropLast.length (pre.dropLast.map encN) ∧ True)) ∧ Below w.heap.size w W)
    (OwnFrom.and (OwnFrom.and (ownFrom_pure _ _) (OwnFrom.and (Own.from (holdsRow_own _ _ _ _ _ (fun pre : List (Fin 8) => pre.length) (fun pre => pre.map encN) (fun _ _ => True)) _) (OwnFrom.and (Own.from (boxed_own _ _ _) _) (Own.from (boxed_own _ _ _) _)))) (ownFrom_below (Nat.le_refl _) (by simp; omega)))
    (fun c => OwnFrom.and (OwnFrom.and (ownFrom_pure _ _) (Own.from (holdsRow_own _ _ _ _ _ (fun pre : List (Fin 8) => pre.dropLast.length) (fun pre => pre.dropLast.map encN) (fun _ _ => True)) _)) (ownFrom_below (Nat.le_refl _) (by simp; omega)))
    ⟨⟨Nat.zero_le _, ⟨_, bL.alloc _, World.ownsRow_nil _ _ _ _, trivial⟩, (bK.alloc _).alloc _, bM⟩, hB0⟩
    (fun x => { tmps := #[.int .i64 m, .int .i64 (k : Int), undef, .pointer (some ⟨w.heap.size, 0, none⟩), .slice none 0 0, .pointer (some ⟨w.heap.size + 1, 0, none⟩), encN x, .int .i64 m, .func (.func 34) #[] #[.pointer (some ⟨w.heap.size + 1 + 1, 0, none⟩)], encN x, undef, undef, undef, undef, undef, undef, undef, undef, undef], defers := [] }) ?assign ?body ?done ?stop
  case assign =>
    intro l x W K hK
    gi_wp2
    exact hK
  case body =>
    rintro l pre x W ⟨⟨hp, ⟨v, hv, hrow, -⟩, hk, hm⟩, hB⟩ hlt
    obtain ⟨a, cap, rfl⟩ := own_slice hrow
    have hc := hv.cell
    have hkc := hk.cell
    have hlm := hm.lt
    have hs := hB.size
    by_cases e : pre.length = k
    · have e1 : (k : Int) ≤ (pre.length : Int) := by omega
      gi_wp2
      exact ⟨KeepsFrom.refl _ _, ⟨⟨rfl, by simp [e]⟩, _, hv, by simpa using hrow, trivial⟩, hB⟩
    · have e1 : (pre.length : Int) < (k : Int) := by omega
      have e2 : pre.length < k := by omega
      clear e
      gi_wp2_with (first
        | (gi_at_builtin; refine wpListIn_append_own _ rfl _ _ 26 rfl (w.heap.size + 3) 3 i0 (.int .i64 0) 1 8 Tryd.underlying26 hi hz0 hz1 hz2 rfl (by decide) _ _ _ rfl (hrow.alloc _) ⟨W.heap.size, 0, none⟩ 1 1 [encN x] rfl rfl (cell_one_new _ _ _) (by simp [Value.oneCell']) (by unfold maxLen; omega) (by omega) (by simp; omega) ?_; intro v' w1 hown' hgrow _; obtain ⟨g', cap', rfl⟩ := ownsRow_succ hown'; obtain ⟨⟨hv1, hv2, hr2, hk2, hb2⟩, hsame⟩ := appended3 (n₀ := w.heap.size) hv (by decide) hrow hB.size (by omega) (by omega) hown' hgrow; have hc1 := hv1.cell; have hf1 := hv1.frozen)
        | fail)
      exact ⟨hk2.from _, hsame _ (by omega) (by omega) hlm, ⟨by simp; omega, ⟨_, hv2, by simpa using hr2, trivial⟩, (hsame _ (by omega) (by omega) hk.lt).trans hk, (hsame _ (by omega) (by omega) hlm).trans hm⟩, hB.trans hb2⟩
  case done =>
    rintro D ys W hD rfl ⟨⟨hp, ⟨v, hv, hrow, -⟩, hk, hm⟩, hB⟩ hK
    have hc := hv.cell
    gi_wp2
    refine ⟨by simp, .inl ⟨_, _, rfl, run_takeDeferred hK, ?_⟩⟩
    refine ⟨_, results_tmp rfl _ _ _, v, rfl, ?_, hB.trans (belowK_b (w := w) (Nat.le_refl _) W D _ _ (by simp at hD; omega) hK rfl rfl)⟩
    rw [List.take_of_length_le hp]
    exact ownsRow_putObj hrow _ hK rfl
  case stop =>
    rintro D c pre W hD hpre ⟨⟨⟨rfl, hl⟩, ⟨v, hv, hrow, -⟩⟩, hB⟩ hK
    have hc := hv.cell
    gi_wp2
    refine ⟨by simp, .inl ⟨_, _, rfl, run_takeDeferred hK, ?_⟩⟩
    refine ⟨_, results_tmp rfl _ _ _, v, rfl, ?_, hB.trans (belowK_b (w := w) (Nat.le_refl _) W D _ _ (by simp at hD; omega) hK rfl rfl)⟩
    rw [← prefix_take hpre hl]
    exact ownsRow_putObj hrow _ hK rfl

abbrev encM (x : Nat) : Value := .int .i64 (x : Int)

set_option maxRecDepth 100000 in
set_option maxHeartbeats 2000000 in
theorem lawmasks_in (n : Nat) (hn : 3 ≤ n) (m : Int) (k : Nat) (w : World) :
    CallsIn Fence.wide n Tryd.prog 25 #[.int .i64 m, .int .i64 k] w fun e W' => ∃ v, e = .returned v ∧
      W'.ownsRow (w.heap.size + 3) 3 1 v ((fullM (held m)).take k).length (((fullM (held m)).take k).map encM) ∧ Below w.heap.size w W' := by
  have h1 : 1 ≤ n := by omega
  obtain ⟨i0, hi, hz0, hz1, hz2⟩ := info_parts intInfo
  have fe : ∀ (b : Nat) (w : World), Sem.run Tryd.prog (binOp BinOp.eql 42 (Value.func (Fn.func 39) #[] #[.pointer (some ⟨b, 0, none⟩)]) Value.nilFunc) w = .ok (.bool false) w := fun _ _ => by kernel_rfl
  obtain ⟨xs, hxs⟩ : ∃ xs, xs = fullM (held m) := ⟨_, rfl⟩
  have ST := fun (Bn : Nat) (w : World) => masks_stops (n - 1) (by omega) Bn (held m) (held_le m) w
  rw [← hxs] at ST ⊢
  clear hxs
  refine callsIn_of_wp_marks Tryd.func25 rfl trivial ?_ rfl
  simp only [Tryd.ntmps25, List.size_toArray, List.length_cons, List.length_nil, Nat.reduceAdd, Nat.reduceSub, Array.replicate_succ, Array.replicate_zero, List.push_toArray, List.append_toArray, List.nil_append, List.cons_append]
  gi_wp2_with (fail)
  refine ⟨trivial, (callsIn_wide.2 (masks_is m _)).mono ?_⟩
  rintro e w' ⟨rfl, rfl⟩
  gi_wp2_with (fail)
  have bK := Boxed.new w 3 (.int .i64 (k : Int))
  have bL := Boxed.new (w.alloc (.cells #[.int .i64 (k : Int)] 3)) 26 (.slice none 0 0)
  have bM := Boxed.new ((w.alloc (.cells #[.int .i64 (k : Int)] 3)).alloc (.cells #[.slice none 0 0] 26)) 3 (.int .i64 (held m : Int))
  simp only [World.size_alloc] at bL bM
  have hB0 : Below w.heap.size w (((w.alloc (.cells #[.int .i64 (k : Int)] 3)).alloc (.cells #[.slice none 0 0] 26)).alloc (.cells #[.int .i64 (held m : Int)] 3)) := (((Below.refl _ w).alloc (Nat.le_refl _) _).alloc (by simp) _).alloc (by simp; omega) _
  refine wpIn_rangeFunc_ownG rfl h1 (gf := 39) (lb := #[.pointer (some ⟨w.heap.size + 1 + 1, 0, none⟩)]) rfl trivial (enters_of Tryd.func39 (by kernel_rfl) rfl)
    (ST (w.heap.size + 1 + 1) _ (by simp) bM.cell) Keep1.trans (keep1_b (by simp)) (Below.refl _ _) (fun _ => rfl)
    (fun pre W => (pre.length ≤ k ∧ (∃ v, Boxed W (w.heap.size + 1) 26 v ∧ W.ownsRow (w.heap.size + 3) 3 1 v pre.length (pre.map encM) ∧ True) ∧ Boxed W w.heap.size 3 (.int .i64 (k : Int)) ∧ Boxed W (w.heap.size + 1 + 1) 3 (.int .i64 (held m : Int))) ∧ Below w.heap.size w W)
    (fun c pre W => ((c = .exit 0 ∧ pre.dropLast.length = k) ∧ (∃ v, Boxed W (w.heap.size + 1) 26 v ∧ W.ownsRow (w.heap.size + 3) 3 1 v pre.dropLast.length (pre.dropLast.map encM) ∧ True)) ∧ Below w.heap.size w W)
    (OwnFrom.and (OwnFrom.and (ownFrom_pure _ _) (OwnFrom.and (Own.from (holdsRow_own _ _ _ _ _ (fun pre : List Nat => pre.length) (fun pre => pre.map encM) (fun _ _ => True)) _) (OwnFrom.and (Own.from (boxed_own _ _ _) _) (Own.from (boxed_own _ _ _) _)))) (ownFrom_below (Nat.le_refl _) (by simp; omega)))
    (fun c => OwnFrom.and (OwnFrom.and (ownFrom_pure _ _) (Own.from (holdsRow_own _ _ _ _ _ (fun pre : List Nat => pre.dropLast.length) (fun pre => pre.dropLast.map encM) (fun _ _ => True)) _)) (ownFrom_below (Nat.le_refl _) (by simp; omega)))
    ⟨⟨Nat.zero_le _, ⟨_, bL.alloc _, World.ownsRow_nil _ _ _ _, trivial⟩, (bK.alloc _).alloc _, bM⟩, hB0⟩
    (fun x => { tmps := #[.int .i64 m, .int .i64 (k : Int), undef, .pointer (some ⟨w.heap.size, 0, none⟩), .slice none 0 0, .pointer (some ⟨w.heap.size + 1, 0, none⟩), .func (.func 39) #[] #[.pointer (some ⟨w.heap.size + 1 + 1, 0, none⟩)], encM x, .int .i64 m, .func (.func 39) #[] #[.pointer (some ⟨w.heap.size + 1 + 1, 0, none⟩)], .func (.func 39) #[] #[.pointer (some ⟨w.heap.size + 1 + 1, 0, none⟩)], .bool false, .func (.func 39) #[] #[.pointer (some ⟨w.heap.size + 1 + 1, 0, none⟩)], encM x, undef, undef, undef, undef, undef, undef, undef, undef, undef], defers := [] }) ?assign ?body ?done ?stop
  case assign =>
    intro l x W K hK
    gi_wp2
    exact hK
  case body =>
    rintro l pre x W ⟨⟨hp, ⟨v, hv, hrow, -⟩, hk, hm⟩, hB⟩ hlt
    obtain ⟨a, cap, rfl⟩ := own_slice hrow
    have hc := hv.cell
    have hkc := hk.cell
    have hlm := hm.lt
    have hs := hB.size
    by_cases e : pre.length = k
    · have e1 : (k : Int) ≤ (pre.length : Int) := by omega
      gi_wp2
      exact ⟨KeepsFrom.refl _ _, ⟨⟨rfl, by simp [e]⟩, _, hv, by simpa using hrow, trivial⟩, hB⟩
    · have e1 : (pre.length : Int) < (k : Int) := by omega
      have e2 : pre.length < k := by omega
      clear e
      gi_wp2_with (first
        | (gi_at_builtin; refine wpListIn_append_own _ rfl _ _ 26 rfl (w.heap.size + 3) 3 i0 (.int .i64 0) 1 8 Tryd.underlying26 hi hz0 hz1 hz2 rfl (by decide) _ _ _ rfl (hrow.alloc _) ⟨W.heap.size, 0, none⟩ 1 1 [encM x] rfl rfl (cell_one_new _ _ _) (by simp [Value.oneCell']) (by unfold maxLen; omega) (by omega) (by simp; omega) ?_; intro v' w1 hown' hgrow _; obtain ⟨g', cap', rfl⟩ := ownsRow_succ hown'; obtain ⟨⟨hv1, hv2, hr2, hk2, hb2⟩, hsame⟩ := appended3 (n₀ := w.heap.size) hv (by decide) hrow hB.size (by omega) (by omega) hown' hgrow; have hc1 := hv1.cell; have hf1 := hv1.frozen)
        | fail)
      exact ⟨hk2.from _, hsame _ (by omega) (by omega) hlm, ⟨by simp; omega, ⟨_, hv2, by simpa using hr2, trivial⟩, (hsame _ (by omega) (by omega) hk.lt).trans hk, (hsame _ (by omega) (by omega) hlm).trans hm⟩, hB.trans hb2⟩
  case done =>
    rintro D ys W hD rfl ⟨⟨hp, ⟨v, hv, hrow, -⟩, hk, hm⟩, hB⟩ hK
    have hc := hv.cell
    gi_wp2
    refine ⟨by simp, .inl ⟨_, _, rfl, run_takeDeferred hK, ?_⟩⟩
    refine ⟨_, results_tmp rfl _ _ _, v, rfl, ?_, hB.trans (belowK_b (w := w) (Nat.le_refl _) W D _ _ (by simp at hD; omega) hK rfl rfl)⟩
    rw [List.take_of_length_le hp]
    exact ownsRow_putObj hrow _ hK rfl
  case stop =>
    rintro D c pre W hD hpre ⟨⟨⟨rfl, hl⟩, ⟨v, hv, hrow, -⟩⟩, hB⟩ hK
    have hc := hv.cell
    gi_wp2
    refine ⟨by simp, .inl ⟨_, _, rfl, run_takeDeferred hK, ?_⟩⟩
    refine ⟨_, results_tmp rfl _ _ _, v, rfl, ?_, hB.trans (belowK_b (w := w) (Nat.le_refl _) W D _ _ (by simp at hD; omega) hK rfl rfl)⟩
    rw [← prefix_take hpre hl]
    exact ownsRow_putObj hrow _ hK rfl

end Go.Proofs.YtcendnbeiifobaaDoor.Mk
