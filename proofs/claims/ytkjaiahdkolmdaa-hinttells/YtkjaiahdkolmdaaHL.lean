/-
  The law's own list of hints, up to so many, at this program. Conditions: so many is no number below 0, and 300 at the most.
-/
import Derived.Test.YtkjaiahdkolmdaaHJ
namespace Go.Proofs.Ytkjaiahdkolmdaa.Mk
open Go.RowKit Go.Shelf

attribute [local go_sem] Oper.semAt_some

/-- One more element onto a row of one's own, in a round: where it lies then. -/
theorem append_at {F : Fence} {n : Nat} {P : Program} (w : World) {ops : Array Oper} {rest : List Oper} {o : Oper} {a : Act} {Q : Exit → Act → World → Prop}
    (hg : o.guard = none) (s x : Operand) (t : TypeId) (hop : o.op = Op.call { callee := Callee.builtin Builtin.append, args := #[s, x], argTypes := #[t, t] })
    (base : Nat) (e : TypeId) (i : TypeInfo) (z : Value) (size bytes : Nat) (h1 : P.underlying t = some (.slice e)) (h2 : P.info? e = some i) (h3 : i.zero = some z) (h4 : i.size = size) (h5 : i.bytes = bytes) (h6 : z.cells.size = size) (h7 : 0 < size)
    (v : Value) (k : Nat) (xs : List Value) (hs : a.eval s = v) (hown : w.ownsRow base e size v k xs) (ad : Addr) (m c : Nat) (news : List Value) (hx : a.eval x = .slice (some ad) m c) (hn : news.length = m * size)
    (hc : ∀ j u, news[j]? = some u → w.cell? (ad.add j) = some u) (h1c : ∀ u ∈ news, u.oneCell' = true) (b1 : k + m ≤ maxLen) (b2 : (k + m) * bytes ≤ 140737488355328) (b3 : base ≤ w.heap.size)
    (hK : ∀ v' w', w'.ownsRow base e size v' (k + m) (xs ++ news) → w.grownBy w' v.ownBlock → (v'.ownBlock = v.ownBlock ∨ v'.ownBlock = some w.heap.size) → wpListIn F n P ops Q rest (a.put o.dst v') w') :
    wpListIn F n P ops Q (o :: rest) a w := by
  obtain ⟨v', w', hrun, r1, r2, -, r4⟩ := run_append_own_at (P := P) w base t o.type e i z size bytes h1 h2 h3 h4 h5 h6 h7 v k xs hown ad m c news hn hc h1c b1 b2 b3
  have hk := hK v' w' r1 r2 r4
  refine wpListIn_plain hg fun K hK' => ?_
  unfold Oper.wpIn
  constructor
  · simp [Oper.about, hop, resolve, Target.leads, Sem.run_pure]
  · rw [Oper.semAt_plain F _ _ (by rw [hop]; intro c hc'; cases hc')]
    simp [execOp, hop, resolve, invoke, builtin, hs, hx, hrun, Result.andThen]
    exact hK' _ _ hk
/-- A list that grows in a box, beside blocks of the other side's. -/
def Grows (W : World) (lo L : Nat) (T e : TypeId) (K : Nat → Prop) (xs : List Value) : Prop :=
  ∃ v, Boxed W L T v ∧ W.ownsRow lo e 1 v xs.length xs ∧ L < lo ∧ lo ≤ W.heap.size ∧ ∀ b, K b → lo ≤ b ∧ b < W.heap.size ∧ v.ownBlock ≠ some b
theorem grows_framed {β : Type} {lo L B : Nat} {T e : TypeId} {f : β → List Value} (hB : lo ≤ B) : Framed B (fun K (s : β) W => Grows W lo L T e K (f s)) := by
  rintro K K' s X Y row ⟨v, hb, ho, hl, hs, hk⟩ hg hr hk'
  have nl : some L ≠ row := fun e => by
    rcases hr L e.symm with h | ⟨h, -⟩
    · have := (hk L h).1
      omega
    · omega
  have nv : v.ownBlock = none ∨ v.ownBlock ≠ row := by
    rcases ho.2 with ⟨rfl, _⟩ | ⟨g, cap, cur, rfl, _, hgb, _⟩
    · exact .inl rfl
    · refine .inr fun e => ?_
      rcases hr g (by rw [← e]; rfl) with h | ⟨-, o, h1, h2⟩
      · exact (hk g h).2.2 rfl
      · rw [hgb] at h1
        cases h1
        cases h2
  refine ⟨v, hb.kept hg nl, ho.kept hg nv, hl, Nat.le_trans hs hg.size, fun b h => ?_⟩
  rcases hk' b h with h | ⟨h1, h2⟩
  · have := hk b h
    exact ⟨this.1, Nat.lt_of_lt_of_le this.2.1 hg.size, this.2.2⟩
  · exact ⟨by omega, h2, fun e => by have := (World.ownsRow.lt ho b e).2; omega⟩

theorem grows_append {V w1 : World} {lo L : Nat} {T e : TypeId} {K : Nat → Prop} {v v' y : Value} {xs : List Value} {tmp : Obj} (hT : T ≠ e) (hv : Boxed V L T v) (hrow : V.ownsRow lo e 1 v xs.length xs) (hl : L < lo) (hs : lo ≤ V.heap.size)
    (hd : ∀ b, K b → lo ≤ b ∧ b < V.heap.size ∧ v.ownBlock ≠ some b) (hown : w1.ownsRow lo e 1 v' (xs.length + 1) (xs ++ [y])) (hgrow : (V.alloc tmp).grownBy w1 v.ownBlock) (hat : v'.ownBlock = v.ownBlock ∨ v'.ownBlock = some (V.alloc tmp).heap.size) :
    Boxed w1 L T v ∧ Grows (w1.setCell ⟨L, 0, none⟩ v') lo L T e K (xs ++ [y]) ∧ KeepsL K V (w1.setCell ⟨L, 0, none⟩ v') ∧ KeepsOthers V (w1.setCell ⟨L, 0, none⟩ v') ∧ (∀ j, j < lo → j ≠ L → (w1.setCell ⟨L, 0, none⟩ v').heap[j]? = V.heap[j]?) ∧ lo ≤ (w1.setCell ⟨L, 0, none⟩ v').heap.size ∧ ∀ n, n ≤ L → Below n V (w1.setCell ⟨L, 0, none⟩ v') := by
  have sA : (V.alloc tmp).heap.size = V.heap.size + 1 := by simp
  have s1 := hgrow.size
  have bl : ∀ j, j < V.heap.size → v.ownBlock ≠ some j → w1.heap[j]? = V.heap[j]? := fun j h1 h2 => (hgrow.block j (by omega) (fun e => h2 e.symm)).trans (Below.heap_alloc V tmp j h1)
  have lv : ∀ g, v.ownBlock = some g → lo ≤ g ∧ g < V.heap.size := fun g e => World.ownsRow.lt hrow g e
  have b1 : Boxed w1 L T v := (bl L (by omega) (fun e => by have := (lv L e).1; omega)).trans hv
  have nl : v'.ownBlock ≠ some L := (b1.not_row hT hown).symm
  have sz : (w1.setCell ⟨L, 0, none⟩ v').heap.size = w1.heap.size := by
    show (w1.heap.modify _ _).size = _
    rw [Array.size_modify]
  have same : ∀ j, j < lo → j ≠ L → (w1.setCell ⟨L, 0, none⟩ v').heap[j]? = V.heap[j]? := fun j h1 h2 => (Below.heap_setCell w1 ⟨L, 0, none⟩ v' j (by show j ≠ L; exact h2)).trans (bl j (by omega) (fun e => by have := (lv j e).1; omega))
  refine ⟨b1, ⟨v', b1.set v', ?_, hl, by omega, fun b hb => ?_⟩, fun b hb hlt => ?_, ?_, same, by omega, fun n hn => ⟨hgrow.os, hgrow.tape, hgrow.output, by omega, fun j hj => same j (by omega) (by omega)⟩⟩
  · rw [List.length_append, List.length_singleton]
    exact hown.kept (grownBy_setCell' w1 L v') (.inr nl)
  · obtain ⟨h1, h2, h3⟩ := hd b hb
    refine ⟨h1, by omega, fun e => ?_⟩
    · rcases hat with h | h
      · exact h3 (h.symm.trans e)
      · rw [h] at e
        injection e with e
        omega
  · obtain ⟨h1, h2, h3⟩ := hd b hb
    exact (Below.heap_setCell w1 ⟨L, 0, none⟩ v' b (by show b ≠ L; omega)).trans (bl b hlt h3)
  · refine ((KeepsOthers.alloc V tmp).trans (KeepsOthers.of_grownBy hgrow fun j o hj ho => ?_)).trans (KeepsOthers.setCell _ _ _)
    rcases hrow.2 with ⟨rfl, _⟩ | ⟨g, cap, cur, rfl, _, hgb, _⟩
    · cases hj
    · have hgj : g = j := by simpa [Value.ownBlock] using hj
      subst hgj
      have hlt := (lv g rfl).2
      rw [Below.heap_alloc V tmp g hlt, hgb] at ho
      cases ho
      rfl

set_option maxRecDepth 100000 in
set_option maxHeartbeats 2000000 in
theorem lawhints_in (n : Nat) (hn : 6 ≤ n) (F : Nat → Nat → Int) (K : Nat → Int) (nodes : Int) (k : Nat) (hk : k ≤ 300) (w : World) :
    CallsIn Fence.wide n Try.prog 10 #[frV F, .int .i64 nodes, ndV K, .int .i64 (k : Int)] w fun e W' => ∃ v, e = .returned v ∧
      W'.ownsRow w.heap.size 3 1 v ((comes (rightH F K nodes 0) F K nodes 0).take k).length (((comes (rightH F K nodes 0) F K nodes 0).take k).map encM) ∧ Below w.heap.size w W' := by
  have h1 : 1 ≤ n := by omega
  obtain ⟨i0, hi, hz0, hz1, hz2⟩ := info_parts intInfo
  have fe : ∀ (b9 b5 b6 b7 b4 : Nat) (w : World), Sem.run Try.prog (binOp BinOp.eql 47 (.func (.func 28) #[] #[.pointer (some ⟨b9, 0, none⟩), .pointer (some ⟨b5, 0, none⟩), .pointer (some ⟨b6, 0, none⟩), .pointer (some ⟨b7, 0, none⟩), .pointer (some ⟨b4, 0, none⟩)]) Value.nilFunc) w = .ok (.bool false) w := fun _ _ _ _ _ _ => by kernel_rfl
  obtain ⟨R, hR⟩ : ∃ R, R = rightH F K nodes 0 := ⟨_, rfl⟩
  have HH : Hid (∀ w, Calls Try.prog 23 #[frV F, .int .i64 nodes, ndV K] w fun e w' => ∃ lo, w.heap.size ≤ lo ∧ Below w.heap.size w w' ∧ ∃ b9 b5 b6 b7 b4, e = .returned (.func (.func 28) #[] #[.pointer (some ⟨b9, 0, none⟩), .pointer (some ⟨b5, 0, none⟩), .pointer (some ⟨b6, 0, none⟩), .pointer (some ⟨b7, 0, none⟩), .pointer (some ⟨b4, 0, none⟩)]) ∧
      HWs w' lo w'.heap.size R F K nodes 0 b9 b5 b6 b7 b4) := fun w => by rw [hR]; exact hints_is F K nodes w
  have ST := fun lo hi b9 b5 b6 b7 b4 w h => hintsWith1_fr (n - 1) (by omega) lo hi R F K nodes 0 b9 b5 b6 b7 b4 w h hR
  rw [← hR]
  clear hR
  obtain ⟨xs, hxs⟩ : ∃ xs, xs = comes R F K nodes 0 := ⟨_, rfl⟩
  rw [← hxs] at ST ⊢
  clear hxs
  refine callsIn_of_wp_marks Try.func10 rfl trivial ?_ rfl
  simp only [Try.ntmps10, List.size_toArray, List.length_cons, List.length_nil, Nat.reduceAdd, Nat.reduceSub, Array.replicate_succ, Array.replicate_zero, List.push_toArray, List.append_toArray, List.nil_append, List.cons_append]
  have bM : Boxed ((((w.alloc (.cells (frL F).toArray 24)).alloc (.cells (kL K).toArray 25)).alloc (.cells #[.int .i64 (k : Int)] 3)).alloc (.cells #[.slice none 0 0] 34)) (w.heap.size + 1 + 1) 3 (.int .i64 (k : Int)) := by
    have := (Boxed.new ((w.alloc (.cells (frL F).toArray 24)).alloc (.cells (kL K).toArray 25)) 3 (.int .i64 (k : Int))).alloc (.cells #[.slice none 0 0] 34)
    simpa using this
  have bL : Boxed ((((w.alloc (.cells (frL F).toArray 24)).alloc (.cells (kL K).toArray 25)).alloc (.cells #[.int .i64 (k : Int)] 3)).alloc (.cells #[.slice none 0 0] 34)) (w.heap.size + 1 + 1 + 1) 34 (.slice none 0 0) := by
    have := Boxed.new (((w.alloc (.cells (frL F).toArray 24)).alloc (.cells (kL K).toArray 25)).alloc (.cells #[.int .i64 (k : Int)] 3)) 34 (.slice none 0 0)
    simpa using this
  have g0 : Below w.heap.size w ((((w.alloc (.cells (frL F).toArray 24)).alloc (.cells (kL K).toArray 25)).alloc (.cells #[.int .i64 (k : Int)] 3)).alloc (.cells #[.slice none 0 0] 34)) := by go_grown
  have s0 : ((((w.alloc (.cells (frL F).toArray 24)).alloc (.cells (kL K).toArray 25)).alloc (.cells #[.int .i64 (k : Int)] 3)).alloc (.cells #[.slice none 0 0] 34)).heap.size = w.heap.size + 1 + 1 + 1 + 1 := by simp
  gi_wp2_with (fail)
  refine ⟨trivial, (callsIn_wide.2 (HH.out _)).mono ?_⟩
  generalize ((((w.alloc (.cells (frL F).toArray 24)).alloc (.cells (kL K).toArray 25)).alloc (.cells #[.int .i64 (k : Int)] 3)).alloc (.cells #[.slice none 0 0] 34)) = W1 at *
  rintro e w' ⟨lo, hlo, hb, b9, b5, b6, b7, b4, rfl, hH⟩
  replace bM : Boxed w' (w.heap.size + 1 + 1) 3 (.int .i64 (k : Int)) := boxed_low bM hb (by omega)
  replace bL : Boxed w' (w.heap.size + 1 + 1 + 1) 34 (.slice none 0 0) := boxed_low bL hb (by omega)
  have g1 : Below w.heap.size w w' := g0.trans (hb.mono g0.size)
  have SW : Hid (w.heap.size + 1 + 1 + 1 < lo ∧ lo ≤ w'.heap.size ∧ w.heap.size ≤ w.heap.size + 1 + 1) := ⟨by omega, by have := hH.r9; omega, by omega⟩
  have fe' := fe b9 b5 b6 b7 b4
  clear HH hb g0 s0 hlo fe
  gi_wp2_with (fail)
  refine wpIn_fr h1 (gf := 28) (lb := #[.pointer (some ⟨b9, 0, none⟩), .pointer (some ⟨b5, 0, none⟩), .pointer (some ⟨b6, 0, none⟩), .pointer (some ⟨b7, 0, none⟩), .pointer (some ⟨b4, 0, none⟩)]) rfl (enters_of Try.func28 (by kernel_rfl) rfl)
    (ST _ _ b9 b5 b6 b7 b4 _ hH) (Below.refl _ _) (fun b hb => hb.2) (fun _ => rfl)
    (fun Kc pre V => Grows V lo (w.heap.size + 1 + 1 + 1) 34 3 Kc (pre.map encM) ∧ ((∀ b, Kc b → lo ≤ b) ∧ lo ≤ V.heap.size ∧ (pre.length ≤ k ∧ Boxed V (w.heap.size + 1 + 1) 3 (.int .i64 (k : Int)) ∧ Below w.heap.size w V)))
    (fun c pre V => (c = .exit 0 ∧ pre.dropLast.length = k) ∧ ((∃ v, Boxed V (w.heap.size + 1 + 1 + 1) 34 v ∧ V.ownsRow lo 3 1 v pre.dropLast.length (pre.dropLast.map encM) ∧ True) ∧ Below w.heap.size w V))
    (by
      have f1 := grows_framed (β := List Nat) (lo := lo) (L := w.heap.size + 1 + 1 + 1) (B := w'.heap.size) (T := 34) (e := 3) (f := fun pre => pre.map encM) SW.out.2.1
      have f2 := low_framed (β := List Nat) (lo := lo) (B := w'.heap.size) (Q := fun pre V => pre.length ≤ k ∧ Boxed V (w.heap.size + 1 + 1) 3 (.int .i64 (k : Int)) ∧ Below w.heap.size w V) (fun s X Y h hb => ⟨h.1, boxed_low h.2.1 hb (by have := SW.out; omega), h.2.2.trans (hb.mono (by have := SW.out; omega))⟩) SW.out.2.1
      exact fun Kc Kc' s X Y row h hg hr hk => ⟨f1 Kc Kc' s X Y row h.1 hg hr hk, f2 Kc Kc' s X Y row h.2 hg hr hk⟩)
    (fun c => OwnFrom.and (ownFrom_pure _ _) (OwnFrom.and (Own.from (holdsRow_own _ _ _ _ _ (fun pre : List Nat => pre.dropLast.length) (fun pre => pre.dropLast.map encM) (fun _ _ => True)) _) (ownFrom_below (Nat.le_refl _) (by have := SW.out; omega))))
    ⟨⟨_, bL, World.ownsRow_nil _ _ _ _, SW.out.1, SW.out.2.1, fun b hb => ⟨hb.1, hb.2, by simp [Value.ownBlock]⟩⟩, fun b hb => hb.1, SW.out.2.1, Nat.zero_le _, bM, g1⟩
    (fun x => { tmps := #[frV F, .int .i64 nodes, ndV K, .int .i64 (k : Int), .pointer (some ⟨w.heap.size, 0, none⟩), undef, .pointer (some ⟨w.heap.size + 1, 0, none⟩), .pointer (some ⟨w.heap.size + 1 + 1, 0, none⟩), .slice none 0 0, .pointer (some ⟨w.heap.size + 1 + 1 + 1, 0, none⟩), .func (.func 28) #[] #[.pointer (some ⟨b9, 0, none⟩), .pointer (some ⟨b5, 0, none⟩), .pointer (some ⟨b6, 0, none⟩), .pointer (some ⟨b7, 0, none⟩), .pointer (some ⟨b4, 0, none⟩)], .int .i64 (x : Int), frV F, .int .i64 nodes, ndV K, .func (.func 28) #[] #[.pointer (some ⟨b9, 0, none⟩), .pointer (some ⟨b5, 0, none⟩), .pointer (some ⟨b6, 0, none⟩), .pointer (some ⟨b7, 0, none⟩), .pointer (some ⟨b4, 0, none⟩)], .func (.func 28) #[] #[.pointer (some ⟨b9, 0, none⟩), .pointer (some ⟨b5, 0, none⟩), .pointer (some ⟨b6, 0, none⟩), .pointer (some ⟨b7, 0, none⟩), .pointer (some ⟨b4, 0, none⟩)], .bool false, .func (.func 28) #[] #[.pointer (some ⟨b9, 0, none⟩), .pointer (some ⟨b5, 0, none⟩), .pointer (some ⟨b6, 0, none⟩), .pointer (some ⟨b7, 0, none⟩), .pointer (some ⟨b4, 0, none⟩)], .int .i64 (x : Int), undef, undef, undef, undef, undef, undef, undef, undef, undef], defers := [] }) ?assign ?body ?done ?stop
  case assign =>
    intro l x W K hK
    gi_wp2
    exact hK
  case body =>
    rintro l Kc pre x V ⟨⟨v, hv, hrow, hl, hs, hd⟩, hkl, -, hp, hm, hB⟩ hsz
    have hrow' := hrow
    rw [List.length_map] at hrow
    obtain ⟨a, cap, rfl⟩ := own_slice hrow
    have hc := hv.cell
    have hkc := hm.cell
    have hlm := hm.lt
    have hlv := hv.lt
    have sw := SW.out
    have sB := hB.size
    by_cases e : pre.length = k
    · have e1 : (k : Int) ≤ (pre.length : Int) := by omega
      have Q1 : Hid _ := hv
      have Q2 : Hid _ := hrow
      have Q3 : Hid _ := hB
      clear hv hrow hB hd hkl
      gi_wp2
      exact ⟨KeepsFrom.refl _ _, ⟨rfl, by simp [e]⟩, ⟨_, Q1.out, by rw [List.dropLast_concat]; exact Q2.out, trivial⟩, Q3.out⟩
    · have e1 : (pre.length : Int) < (k : Int) := by omega
      have e2 : pre.length < k := by omega
      clear e
      gi_wp2_with (first
        | (gi_at_builtin; refine append_at _ rfl _ _ 34 rfl lo 3 i0 (.int .i64 0) 1 8 Try.underlying34 hi hz0 hz1 hz2 rfl (by decide) _ _ _ rfl (hrow.alloc _) ⟨V.heap.size, 0, none⟩ 1 1 [encM x] rfl rfl (cell_one_new _ _ _) (by simp [Value.oneCell']) (by unfold maxLen; omega) (by omega) (by simp; omega) ?_; intro v' w1 hown' hgrow hat; obtain ⟨g', cap', rfl⟩ := ownsRow_succ hown'; have hown2 : w1.ownsRow lo 3 1 (.slice (some ⟨g', 0, none⟩) (pre.length + 1) cap') ((pre.map encM).length + 1) (pre.map encM ++ [encM x]) := (by rw [List.length_map]; exact hown'); obtain ⟨hv1, G1, G2, G3, G4, G5, G6⟩ := grows_append (K := Kc) (by decide) hv hrow' hl hs hd hown2 hgrow hat; have hc1 := hv1.cell; have hf1 := hv1.frozen; have hz1 := hv1.lt)
        | fail)
      have Q1 : Hid _ := hm
      have Q2 : Hid _ := hB
      have e3 : ¬ (k : Int) ≤ (pre.length : Int) := by omega
      have Q3 : Hid (∀ b, Kc b → lo ≤ b) := hkl
      clear hv hrow hrow' hB hd hkl hm hown' hown2 hgrow hat hv1
      gi_wp2
      refine ⟨G3.from _, G2, by rw [List.map_append]; exact G1, Q3.out, G5, by rw [List.length_append, List.length_singleton]; omega, (G4 _ (by omega) (by omega)).trans Q1.out, ?_⟩
      exact Q2.out.trans (G6 _ (by omega))
  case done =>
    rintro D Kc ys V hD rfl ⟨⟨v, hv, hrow, hl, hs, hd⟩, hkl, -, hp, hm, hB⟩ hK
    have hc := hv.cell
    gi_wp2
    refine ⟨by simp, .inl ⟨_, _, rfl, run_takeDeferred hK, ?_⟩⟩
    refine ⟨_, results_tmp rfl _ _ _, v, rfl, ?_, hB.trans (belowK_b (w := w) (Nat.le_refl _) V D _ _ (by have := SW.out; omega) hK rfl rfl)⟩
    rw [List.take_of_length_le hp]
    rw [List.length_map] at hrow
    exact ownsRow_weak (ownsRow_putObj hrow _ hK rfl) (by have := SW.out; omega)
  case stop =>
    rintro D c pre V hD hpre ⟨⟨rfl, hl⟩, ⟨v, hv, hrow, -⟩, hB⟩ hK
    have hc := hv.cell
    gi_wp2
    refine ⟨by simp, .inl ⟨_, _, rfl, run_takeDeferred hK, ?_⟩⟩
    refine ⟨_, results_tmp rfl _ _ _, v, rfl, ?_, hB.trans (belowK_b (w := w) (Nat.le_refl _) V D _ _ (by have := SW.out; omega) hK rfl rfl)⟩
    rw [← prefix_take hpre hl]
    exact ownsRow_weak (ownsRow_putObj hrow _ hK rfl) (by have := SW.out; omega)
theorem lawhints_is (F : Nat → Nat → Int) (K : Nat → Int) (nodes : Int) (k : Nat) (hk : k ≤ 300) (w : World) :
    Calls Try.prog 10 #[frV F, .int .i64 nodes, ndV K, .int .i64 (k : Int)] w fun e W' => ∃ v, e = .returned v ∧
      W'.ownsRow w.heap.size 3 1 v ((comes (rightH F K nodes 0) F K nodes 0).take k).length (((comes (rightH F K nodes 0) F K nodes 0).take k).map encM) ∧ Below w.heap.size w W' := callsIn_wide.1 (lawhints_in 6 (Nat.le_refl _) F K nodes k hk w)

end Go.Proofs.Ytkjaiahdkolmdaa.Mk
