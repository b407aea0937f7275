/-
  The iterator over the masks of the first nodes, the empty one ahead of all, at this program. Conditions: so many nodes, 8 at the most.
-/
import Derived.Test.YtkjaiahdkolmdaaHD
namespace Go.Proofs.Ytkjaiahdkolmdaa.Mk
open Go.RowKit Go.Shelf

attribute [local go_sem] Oper.semAt_some

theorem round_any {m m' l l' : Nat} {f : FuncId} {P : Program} {tmps : Array Value} {assign body : Code} {w : World} {R : Ending → World → Prop}
    (h : RoundIn Fence.wide m P l f tmps assign body w R) : RoundIn (Fence.wide.inRound l') m' P l f tmps assign body w R := ⟨h.1, fun c cs _ => h.2 c cs (fun d e => by cases e)⟩
theorem own_at {α β : Type} {B B' : Nat} {I : β → World → Prop} (h : OwnFrom B I) (hB : B ≤ B') (f : α → β) : OwnFrom B' (fun s W => I (f s) W) := fun s W W' row hs hg hr => h (f s) W W' row hs hg (fun r e => ⟨Nat.le_trans hB (hr r e).1, (hr r e).2⟩)
theorem keepsFrom_le {B B' : Nat} {W W' : World} (h : KeepsFrom B W W') (hB : B ≤ B') : KeepsFrom B' W W' := ⟨h.size, fun k o hk => h.same k o (Nat.le_trans hB hk)⟩

set_option maxHeartbeats 1000000 in
theorem masksOf_is (n : Int) (w : World) :
    Calls Try.prog 29 #[.int .i64 n] w fun e w' => e = .returned (.func (.func 34) #[] #[.pointer (some ⟨w.heap.size, 0, none⟩)]) ∧ w' = w.alloc (.cells #[.int .i64 n] 3) := by
  go_enter Try.func29, Try.ntmps29
  go_wp2
  go_ret
  exact ⟨rfl, rfl⟩

theorem held_of {k : Nat} (h : k ≤ 8) : held (k : Int) = k := by unfold held; omega

set_option maxRecDepth 100000 in
set_option maxHeartbeats 2000000 in
theorem masksOf1_fr (n : Nat) (hn : 3 ≤ n) (k : Nat) (hk8 : k ≤ 8) (Bn : Nat) (w : World) (hBn : Bn < w.heap.size) (hc : w.cell? ⟨Bn, 0, none⟩ = some (.int .i64 k)) :
    SeqFr n Try.prog 34 #[.pointer (some ⟨Bn, 0, none⟩)] (fun x : Nat => #[Value.int .i64 (x : Int)]) (fun b => b = Bn) (fun ys => ys = 0 :: fullM k) (fun pre => pre <+: 0 :: fullM k) w := by
  intro l J Jx W hW hJ hJx hY h0
  have h1 : 1 ≤ n := by omega
  have c0 : W.cell? ⟨Bn, 0, none⟩ = some (.int .i64 k) := (hW.cell hBn).trans hc
  have hBW : Bn < W.heap.size := Nat.lt_of_lt_of_le hBn hW.size
  have MK : Hid (∀ w, Calls Try.prog 35 #[.int .i64 k] w fun e w' => e = .returned (.func (.func 39) #[] #[.pointer (some ⟨w.heap.size, 0, none⟩)]) ∧ w' = w.alloc (.cells #[.int .i64 k] 3)) := fun w => by
    have := masks_is k w
    rwa [held_of hk8] at this
  obtain ⟨xs, hxs⟩ : ∃ xs, xs = fullM k := ⟨_, rfl⟩
  have ST := fun (Bm : Nat) (w : World) => masks_stops (n - 1) (by omega) Bm k hk8 w
  rw [← hxs] at ST ⊢
  clear hxs
  have bY := Boxed.new W 50 (.func (.yield l) #[] #[])
  have g0 : Below W.heap.size W (W.alloc (.cells #[.func (.yield l) #[] #[]] 50)) := (Below.refl _ _).alloc (Nat.le_refl _) _
  have j1 : J (fun b => b = Bn ∨ b = W.heap.size) [] (W.alloc (.cells #[.func (.yield l) #[] #[]] 50)) := hJ.more h0 g0 fun b hb => by
    rcases hb with e | e
    · exact .inl e
    · exact .inr ⟨by omega, by simp; omega⟩
  have c1 : (W.alloc (.cells #[.func (.yield l) #[] #[]] 50)).cell? ⟨Bn, 0, none⟩ = some (.int .i64 k) := (g0.cell hBW).trans c0
  have s1 : (W.alloc (.cells #[.func (.yield l) #[] #[]] 50)).heap.size = W.heap.size + 1 := by simp
  obtain ⟨fn, tmps, assign, body, hy, hR⟩ := hY _ [] 0 _ j1
  replace hy : Sem.run Try.prog (Instr.yield l #[.int .i64 0]) _ = _ := hy
  refine callsIn_of_wp_marks Try.func34 rfl trivial ?_ rfl
  simp only [Try.ntmps34, List.size_toArray, List.length_cons, List.length_nil, Nat.reduceAdd, Nat.reduceSub, Array.replicate_succ, Array.replicate_zero, List.push_toArray, List.append_toArray, List.nil_append, List.cons_append]
  gi_wp2_with (fail)
  generalize W.alloc (.cells #[.func (.yield l) #[] #[]] 50) = W1 at *
  have cy := bY.cell
  have ly := bY.lt
  gi_wp2
  refine hR.mono ?_
  rintro e W2 (⟨rfl, j2, k2, l2⟩ | ⟨rfl, hx, -⟩)
  · have sW2 := k2.size
    have bY2 : Boxed W2 W.heap.size 50 (.func (.yield l) #[] #[]) := (l2 W.heap.size (.inr rfl) (by omega)).trans bY
    have c2 : W2.cell? ⟨Bn, 0, none⟩ = some (.int .i64 k) := by
      rw [World.cell?_of_block (l2 Bn (.inl rfl) (by omega))]
      exact c1
    clear hy bY cy ly j1 c1
    gi_wp2_with (fail)
    refine ⟨trivial, (callsIn_wide.2 (MK.out _)).mono ?_⟩
    rintro e w' ⟨rfl, rfl⟩
    gi_wp2_with (fail)
    have bM := Boxed.new W2 3 (.int .i64 (k : Int))
    have j3 : J (fun b => b = W.heap.size ∨ b = W2.heap.size) [0] (W2.alloc (.cells #[.int .i64 (k : Int)] 3)) := hJ.more j2 ((Below.refl _ _).alloc (Nat.le_refl _) _) fun b hb => by
      rcases hb with e | e
      · exact .inl (.inr e)
      · exact .inr ⟨by omega, by simp; omega⟩
    refine wpIn_rangeFunc_ownG rfl h1 (gf := 39) (lb := #[.pointer (some ⟨W2.heap.size, 0, none⟩)]) rfl trivial (enters_of Try.func39 (by kernel_rfl) rfl)
      (ST W2.heap.size _ (by simp) bM.cell) Keep1.trans (keep1_b (by simp)) (Below.refl _ _) (fun _ => rfl)
      (fun pre V => J (fun b => b = W.heap.size ∨ b = W2.heap.size) (0 :: pre) V ∧ (Boxed V W.heap.size 50 (.func (.yield l) #[] #[]) ∧ Boxed V W2.heap.size 3 (.int .i64 (k : Int))))
      (fun c pre V => c = .ret ∧ Jx (0 :: pre) V)
      (OwnFrom.and (own_at (hJ.own (K := fun b => b = W.heap.size ∨ b = W2.heap.size)) (by simp; omega) (fun pre => 0 :: pre)) (OwnFrom.and (Own.from (boxed_own _ _ (fun _ => .func (.yield l) #[] #[])) _) (Own.from (boxed_own _ _ (fun _ => .int .i64 (k : Int))) _)))
      (fun c => OwnFrom.and (ownFrom_pure _ _) (own_at hJx (by simp; omega) (fun pre => 0 :: pre)))
      ⟨j3, bY2.alloc _, bM⟩
      (fun x => { tmps := #[.func (.yield l) #[] #[], .pointer (some ⟨Bn, 0, none⟩), .pointer (some ⟨W.heap.size, 0, none⟩), .int .i64 (x : Int), .func (.yield l) #[] #[], .bool true, .bool false, .int .i64 k, .func (.func 39) #[] #[.pointer (some ⟨W2.heap.size, 0, none⟩)], .int .i64 (x : Int), undef, undef, undef, undef], defers := [] }) ?assign ?body ?done ?stop
    case assign =>
      intro l x W K hK
      gi_wp2
      exact hK
    case body =>
      rintro l' pre x V ⟨hj, hy, hm⟩ hlt
      obtain ⟨fn, tmps, assign, body, hyl, hR⟩ := hY _ (0 :: pre) x V hj
      have HR : Hid (RoundIn (Fence.wide.inRound l') (n - 1 - 1 - 1) Try.prog l fn tmps assign body V _) := round_any hR
      replace hyl : Sem.run Try.prog (Instr.yield l #[.int .i64 (x : Int)]) _ = _ := hyl
      have cy := hy.cell
      have ly := hy.lt
      have lm := hm.lt
      clear hR hY
      gi_wp2_with (fail)
      refine ⟨fun h => (by cases h), HR.out.mono ?_⟩
      clear HR hyl
      rintro e V2 (⟨rfl, j2, k2, l2⟩ | ⟨rfl, hx, k2⟩)
      · gi_wp2
        have m2 : Boxed V2 W2.heap.size 3 (.int .i64 (k : Int)) := (l2 W2.heap.size (.inr rfl) lm).trans hm
        exact ⟨keepsFrom_le k2 (by simp; omega), (l2 W2.heap.size (.inr rfl) lm), j2, (l2 W.heap.size (.inl rfl) ly).trans hy, m2⟩
      · gi_wp2
        exact ⟨keepsFrom_le k2 (by simp; omega), rfl, hx⟩
    case done =>
      rintro D ys V hD rfl ⟨hj, hy, hm⟩ hK
      gi_wp2
      refine ⟨by simp, .inl ⟨_, _, rfl, run_takeDeferred hK, ?_⟩⟩
      exact ⟨_, results_none rfl _ _ _, ⟨_, rfl⟩, .inl ⟨_, _, rfl, hJ.own.putObj _ hj (by simp at hD; omega) hK rfl⟩⟩
    case stop =>
      rintro D c pre V hD hpre ⟨rfl, hx⟩ hK
      gi_wp2
      refine ⟨by simp, .inl ⟨_, _, rfl, run_takeDeferred hK, ?_⟩⟩
      exact ⟨_, results_none rfl _ _ _, ⟨_, rfl⟩, .inr ⟨_, (List.prefix_cons_inj 0).2 hpre, hJx.putObj _ hx (by simp at hD; omega) hK rfl⟩⟩
  · gi_wp2
    exact ⟨_, results_none rfl _ _ _, ⟨_, rfl⟩, .inr ⟨_, ⟨xs, rfl⟩, hx⟩⟩

end Go.Proofs.Ytkjaiahdkolmdaa.Mk
