/-
  The law's own list of a table's rows, up to so many (Rows), at this program. Conditions: the table is one, or none.
-/
import Derived.Test.YtpefjcgccbfgbaaNP
import Derived.Maps.AppendAt
namespace Go.Proofs.Ytpefjcgccbfgbaa.Bk
open Go.RowKit Go.Shelf

attribute [local go_sem] Oper.semAt_some

theorem ownsRow_weak {W : World} {base n₀ : Nat} {T : TypeId} {s n : Nat} {v : Value} {xs : List Value} (h : W.ownsRow base T s v n xs) (hb : n₀ ≤ base) : W.ownsRow n₀ T s v n xs := by
  obtain ⟨hl, h | ⟨g, cap, cur, e, h1, h2⟩⟩ := h
  · exact ⟨hl, .inl h⟩
  · exact ⟨hl, .inr ⟨g, cap, cur, e, by omega, h2⟩⟩
/-- Behind 'out = append(out, ..)' with the new slice stored in its box. -/
theorem appended3 {W w1 : World} {n₀ b₃ B : Nat} {t e : TypeId} {size : Nat} {v v' : Value} {k m : Nat} {xs ys : List Value} {tmp : Obj}
    (hv : Boxed W B t v) (hte : t ≠ e) (hrow : W.ownsRow b₃ e size v k xs) (hn₀ : n₀ ≤ W.heap.size) (hB : n₀ ≤ B) (h3 : n₀ ≤ b₃)
    (hown' : w1.ownsRow b₃ e size v' m ys) (hgrow : (W.alloc tmp).grownBy w1 v.ownBlock) :
    (Boxed w1 B t v ∧ Boxed (w1.setCell ⟨B, 0, none⟩ v') B t v' ∧ (w1.setCell ⟨B, 0, none⟩ v').ownsRow b₃ e size v' m ys ∧ KeepsOthers W (w1.setCell ⟨B, 0, none⟩ v') ∧ Below n₀ W (w1.setCell ⟨B, 0, none⟩ v')) ∧
    ∀ j, j < b₃ → j ≠ B → j < W.heap.size → (w1.setCell ⟨B, 0, none⟩ v').heap[j]? = W.heap[j]? := by
  obtain ⟨a1, a2, -, a4, a5⟩ := hv.appended hte (ownsRow_weak hrow h3) hn₀ hB (ownsRow_weak hown' h3) hgrow
  refine ⟨⟨a1, a2, hown'.kept (grownBy_setCell' w1 B v') (.inr (a1.not_row hte hown').symm), a4, a5⟩, fun j h1 h2 h4 => ?_⟩
  refine (Below.heap_setCell w1 ⟨B, 0, none⟩ v' j h2).trans ((hgrow.block j (by simp; omega) fun e => ?_).trans (Below.heap_alloc W tmp j h4))
  have := (World.ownsRow.lt (hrow.alloc tmp) j e.symm).1
  omega
theorem prefix_take {α : Type} {pre xs : List α} {k : Nat} (h : pre <+: xs) (hk : pre.dropLast.length = k) : pre.dropLast = xs.take k := by
  have := List.prefix_iff_eq_take.1 ((List.dropLast_prefix pre).trans h)
  rw [hk] at this
  exact this
theorem own_slice {W : World} {base : Nat} {T : TypeId} {s n : Nat} {v : Value} {xs : List Value} (h : W.ownsRow base T s v n xs) : ∃ a cap, v = .slice a n cap := by
  obtain ⟨-, ⟨rfl, rfl⟩ | ⟨g, cap, cur, e, -⟩⟩ := h
  · exact ⟨none, 0, rfl⟩
  · exact ⟨_, cap, e⟩
theorem cs_own {β : Type} (b : Nat) (u : Value) (vs : List Value) : Own (fun (_ : β) W => Cs W b (u :: vs)) := fun _ W W' row hs hg hr => by
  refine hs.grown hg fun e => ?_
  obtain ⟨o, ho, hc⟩ := hr b e.symm
  obtain ⟨o', ho', hc'⟩ := cells_of_cell (hs.1 0 u rfl)
  rw [show W.heap[b]? = some o' from ho'] at ho
  cases ho
  rw [hc'] at hc
  cases hc
theorem ownFrom_size {β : Type} (B n : Nat) : OwnFrom B (fun (_ : β) (W : World) => n ≤ W.heap.size) := fun _ _ _ _ hs hg _ => Nat.le_trans hs hg.size
theorem rowFlat_snoc (pre : List Rw) (x : Rw) : ((pre ++ [x]).map rowL).flatten = (pre.map rowL).flatten ++ rowL x := by simp

set_option maxRecDepth 100000 in
set_option maxHeartbeats 4000000 in
theorem lawrows_in (n : Nat) (hn : 3 ≤ n) (tv : Value) (ls : List Rw) (k : Nat) (hk : k ≤ 1000) (hl : ls.length ≤ 1099511627776) (w : World)
    (HA : ∀ w1, Below w.heap.size w w1 → Calls Try.prog 31 #[tv] w1 fun e w' => AllPost w1 ls e w') :
    CallsIn Fence.wide n Try.prog 15 #[tv, .int .i64 k] w fun e W' => ∃ v, e = .returned v ∧ OwnW W' w.heap.size v (ls.take k) ∧ Below w.heap.size w W' := by
  have h1 : 1 ≤ n := by omega
  obtain ⟨i0, hi, hz0, hz1, hz2⟩ := info_parts rowInfo
  have C1 := HA ((w.alloc (.cells #[.int .i64 (k : Int)] 3)).alloc (.cells #[.slice none 0 0] 41)) (((Below.refl _ w).alloc (Nat.le_refl _) _).alloc (by simp) _)
  have bK := (Boxed.new w 3 (.int .i64 (k : Int))).alloc (.cells #[.slice none 0 0] 41)
  have bL := Boxed.new (w.alloc (.cells #[.int .i64 (k : Int)] 3)) 41 (.slice none 0 0)
  simp only [World.size_alloc] at bL
  have hB0 : Below w.heap.size w ((w.alloc (.cells #[.int .i64 (k : Int)] 3)).alloc (.cells #[.slice none 0 0] 41)) := ((Below.refl _ w).alloc (Nat.le_refl _) _).alloc (by simp) _
  clear HA
  refine callsIn_of_wp_marks Try.func15 rfl trivial ?_ rfl
  simp only [Try.ntmps15, List.size_toArray, List.length_cons, List.length_nil, Nat.reduceAdd, Nat.reduceSub, Array.replicate_succ, Array.replicate_zero, List.push_toArray, List.append_toArray, List.nil_append, List.cons_append]
  gi_wp2_with (fail)
  refine ⟨trivial, (callsIn_wide.2 C1).mono ?_⟩
  rintro e w1 ⟨Bn, g, rv, rfl, hc, hR, hI, ⟨hg1, hg2⟩, ⟨hb1, hb2⟩, hw1⟩
  have fe : ∀ b w, Sem.run Try.prog (binOp .eql 77 (.func (.func 41) #[] #[.pointer (some ⟨b, 0, none⟩)]) .nilFunc) w = .ok (.bool false) w := by intro b w; kernel_rfl
  have bK1 : Boxed w1 w.heap.size 3 (.int .i64 (k : Int)) := (hw1.block _ (by simp; omega)).trans bK
  have bL1 : Boxed w1 (w.heap.size + 1) 41 (.slice none 0 0) := (hw1.block _ (by simp)).trans bL
  have hB1 : Below w.heap.size w w1 := hB0.trans (hw1.mono (by simp; omega))
  have hg3 : w.heap.size + 2 ≤ g := by simpa using hg1
  have hs1 : w.heap.size + 2 ≤ w1.heap.size := by omega
  clear C1 bK bL hB0 hw1 hg1 hb1
  gi_wp2_with (fail)
  refine wpIn_rangeFunc_ownH rfl h1 (gf := 41) (lb := #[.pointer (some ⟨Bn, 0, none⟩)]) rfl trivial (enters_of Try.func41 (by kernel_rfl) rfl)
    (all_stops (n - 1) (by omega) Bn g rv ls w1 hb2 hc hR hI hg2) Keep1.trans (keep1_b hg2) (Below.refl _ _) (fun _ => rfl)
    (fun pre W => (pre.length ≤ k ∧ (∃ v, Boxed W (w.heap.size + 1) 41 v ∧ W.ownsRow w1.heap.size 66 11 v pre.length (pre.map rowL).flatten ∧ True) ∧ Boxed W w.heap.size 3 (.int .i64 (k : Int)) ∧ w1.heap.size ≤ W.heap.size) ∧ Below w.heap.size w W)
    (fun c pre W => ((c = .exit 0 ∧ pre.dropLast.length = k) ∧ (∃ v, Boxed W (w.heap.size + 1) 41 v ∧ W.ownsRow w1.heap.size 66 11 v pre.dropLast.length (pre.dropLast.map rowL).flatten ∧ True)) ∧ Below w.heap.size w W)
    (OwnFrom.and (OwnFrom.and (ownFrom_pure _ _) (OwnFrom.and (Own.from (holdsRow_own _ _ _ _ _ (fun pre : List Rw => pre.length) (fun pre => (pre.map rowL).flatten) (fun _ _ => True)) _) (OwnFrom.and (Own.from (boxed_own _ _ _) _) (ownFrom_size _ _)))) (ownFrom_below (Nat.le_refl _) (by omega)))
    (fun c => OwnFrom.and (OwnFrom.and (ownFrom_pure _ _) (Own.from (holdsRow_own _ _ _ _ _ (fun pre : List Rw => pre.dropLast.length) (fun pre => (pre.dropLast.map rowL).flatten) (fun _ _ => True)) _)) (ownFrom_below (Nat.le_refl _) (by omega)))
    ⟨⟨Nat.zero_le _, ⟨_, bL1, World.ownsRow_nil _ _ _ _, trivial⟩, bK1, Nat.le_refl _⟩, hB1⟩
    (fun x a' W => ∃ Bo Bs, Cs W Bo [.string x.p, .string x.c, .int .i64 x.k] ∧ Cs W Bs (spL x.s) ∧ a' = { tmps := #[tv, .int .i64 (k : Int), undef, .pointer (some ⟨w.heap.size, 0, none⟩), .slice none 0 0, .pointer (some ⟨w.heap.size + 1, 0, none⟩), .func (.func 41) #[] #[.pointer (some ⟨Bn, 0, none⟩)], .pointer (some ⟨Bo, 0, none⟩), .pointer (some ⟨Bs, 0, none⟩), tv, .func (.func 41) #[] #[.pointer (some ⟨Bn, 0, none⟩)], .func (.func 41) #[] #[.pointer (some ⟨Bn, 0, none⟩)], .bool false, .func (.func 41) #[] #[.pointer (some ⟨Bn, 0, none⟩)], ownV x.p x.c x.k, spV x.s, undef, undef, undef, undef, undef, undef, undef, undef, undef, undef, undef], defers := [] })
    (fun x a' _ W W' row ⟨Bo, Bs, h1, h2, h3⟩ hg hr => ⟨Bo, Bs, (Own.from (cs_own (β := Unit) _ _ _) _) () W W' row h1 hg hr, (Own.from (cs_own (β := Unit) _ _ _) _) () W W' row h2 hg hr, h3⟩) ?assign ?body ?done ?stop
  case assign =>
    rintro l pre x W K ⟨⟨hp, ⟨v, hv, hrow, -⟩, hkk, hsz⟩, hB⟩ hK
    gi_wp2
    refine hK _ _ (((KeepsOthers.alloc _ _).trans (KeepsOthers.alloc _ _)).from _) ((keep1_alloc (by omega) _).trans (keep1_alloc (by simp; omega) _)) ⟨⟨hp, ⟨v, (hv.alloc _).alloc _, (World.ownsRow.alloc (World.ownsRow.alloc hrow _) _), trivial⟩, (hkk.alloc _).alloc _, by simp; omega⟩, (hB.alloc hB.size _).alloc (Nat.le_trans hB.size (by simp)) _⟩ ⟨W.heap.size, W.heap.size + 1, Cs.alloc (Cs.new _ _ _ _ rfl) _, Cs.new _ _ _ _ (by simp), ?_⟩
    rfl
  case body =>
    rintro l pre x a' W hll ⟨r, hr⟩ ⟨⟨hp, ⟨v, hv, hrow, -⟩, hkk, hsz⟩, hB⟩ ⟨Bo, Bs, qo, qs, rfl⟩ hlt
    obtain ⟨a, cap, rfl⟩ := own_slice hrow
    have hc := hv.cell
    have hkc := hkk.cell
    have hs := hB.size
    have o0 := qo.1 0 _ rfl
    have o1 := qo.1 1 _ rfl
    have o2 := qo.1 2 _ rfl
    have s0 := qs.1 0 _ rfl
    have s1 := qs.1 1 _ rfl
    have s2 := qs.1 2 _ rfl
    have s3 := qs.1 3 _ rfl
    have s4 := qs.1 4 _ rfl
    have s5 := qs.1 5 _ rfl
    have s6 := qs.1 6 _ rfl
    have s7 := qs.1 7 _ rfl
    have zo := qo.2.2
    have zq := qs.2.2
    have zl := hv.lt
    by_cases e : pre.length = k
    · have e1 : (k : Int) ≤ (pre.length : Int) := by omega
      gi_wp2
      exact ⟨KeepsFrom.refl _ _, ⟨⟨rfl, by simp [e]⟩, _, hv, by simpa using hrow, trivial⟩, hB⟩
    · have e1 : (pre.length : Int) < (k : Int) := by omega
      have e2 : pre.length < k := by omega
      clear e
      gi_wp2_with (first
        | (gi_at_builtin; refine wpListIn_append_own _ rfl _ _ 41 rfl w1.heap.size 66 i0 (.agg #[.string ⟨#[]⟩, .string ⟨#[]⟩, .int .i64 0, .int .i64 0, .int .i64 0, .int .i64 0, .int .i64 0, .int .i64 0, .int .i64 0, .int .i64 0, .int .i64 0]) 11 104 Try.underlying41 hi hz0 hz1 hz2 rfl (by decide) _ _ _ rfl (hrow.alloc _) ⟨W.heap.size, 0, none⟩ 1 1 (rowL x) rfl rfl (rowL_new W x _) (rowL_one x) (by unfold maxLen; omega) (by omega) (by simp; omega) ?_; intro v' w4 hown' hgrow _; obtain ⟨g', cap', rfl⟩ := ownsRow_succ hown'; obtain ⟨⟨hv1, hv2, hr2, hk2, hb2⟩, hsame⟩ := appended3 (n₀ := w.heap.size) hv (by decide) hrow hB.size (by omega) (by omega) hown' hgrow; have hc1 := hv1.cell; have hf1 := hv1.frozen)
        | fail)
      exact ⟨hk2.from _, hsame _ (by omega) (by omega) (by omega), ⟨by simp; omega, ⟨_, hv2, by rw [rowFlat_snoc]; simpa using hr2, trivial⟩, (hsame _ (by omega) (by omega) (by omega)).trans hkk, Nat.le_trans hsz hb2.size⟩, hB.trans hb2⟩
  case done =>
    rintro D ys W hD rfl ⟨⟨hp, ⟨v, hv, hrow, -⟩, hkk, hsz⟩, hB⟩ hK
    have hc := hv.cell
    gi_wp2
    refine ⟨by simp, .inl ⟨_, _, rfl, run_takeDeferred hK, ?_⟩⟩
    refine ⟨_, results_tmp rfl _ _ _, v, rfl, ?_, hB.trans (belowK_b (w := w) (Nat.le_refl _) W D _ _ (by omega) hK rfl rfl)⟩
    rw [List.take_of_length_le hp]
    exact ownsRow_weak (ownsRow_putObj hrow _ hK rfl) (by omega)
  case stop =>
    rintro D c pre W hD hpre ⟨⟨⟨rfl, hl⟩, ⟨v, hv, hrow, -⟩⟩, hB⟩ hK
    have hc := hv.cell
    gi_wp2
    refine ⟨by simp, .inl ⟨_, _, rfl, run_takeDeferred hK, ?_⟩⟩
    refine ⟨_, results_tmp rfl _ _ _, v, rfl, ?_, hB.trans (belowK_b (w := w) (Nat.le_refl _) W D _ _ (by omega) hK rfl rfl)⟩
    rw [← prefix_take hpre hl]
    exact ownsRow_weak (ownsRow_putObj hrow _ hK rfl) (by omega)

theorem lawrows_is {b m : Nat} {zs : List Zn} {ls : List Rw} (k : Nat) (hk : k ≤ 1000) (w : World) (h : Tb w b m zs ls) (hs : ls.Pairwise fun r q => befR r q = true) (hl : ls.length ≤ 1099511627776) :
    Calls Try.prog 15 #[tbV b, .int .i64 k] w fun e W' => ∃ v, e = .returned v ∧ RdW W' v (ls.take k) ∧ Below w.heap.size w W' :=
  (callsIn_wide.1 (lawrows_in 3 (by omega) (tbV b) ls k hk hl w fun w1 hb => all_is w1 (Tb.later hb h) hs hl)).mono fun e W' ⟨v, he, ho, hb⟩ => ⟨v, he, ho.read fun r hr => (h.map.good r (List.mem_of_mem_take hr)).1, hb⟩
theorem lawrows_nil (k : Nat) (hk : k ≤ 1000) (w : World) : Calls Try.prog 15 #[.pointer none, .int .i64 k] w fun e W' => ∃ v, e = .returned v ∧ RdW W' v [] ∧ Below w.heap.size w W' :=
  (callsIn_wide.1 (lawrows_in 3 (by omega) (.pointer none) [] k hk (by simp) w fun w1 _ => all_nil w1)).mono fun e W' ⟨v, he, ho, hb⟩ => ⟨v, he, by rw [List.take_nil] at ho; exact ho.read fun r hr => absurd hr (by simp), hb⟩

end Go.Proofs.Ytpefjcgccbfgbaa.Bk
