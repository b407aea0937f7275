/-
  The iterator over all masks that have the held nodes and are enough: what comes, in order, at this program. Conditions: none on the arguments.
-/
import Derived.Test.YtkjaiahdkolmdaaHG
import Derived.WalkMore
namespace Go.Proofs.Ytkjaiahdkolmdaa.Mk
open Go.RowKit Go.Shelf

attribute [local go_sem] Oper.semAt_some

/-- What comes. -/
def comes (R : Bool) (F : Nat → Nat → Int) (K : Nat → Int) (nodes held : Int) : List Nat := if R = true then hintL F K nodes.toNat held.toNat else []
theorem fullM_lt : ∀ k : Fin 9, ∀ x ∈ fullM k.1, x < 256 := by decide +kernel
theorem comes_is {F : Nat → Nat → Int} {K : Nat → Int} {k h : Nat} (hk : k ≤ 8) : hintL F K k h = (0 :: fullM k).filter fun x : Nat => isH F K h (low (x : Int)) := by
  unfold hintL
  refine List.filter_congr fun x hx => ?_
  rw [low_of]
  rcases List.mem_cons.1 hx with rfl | hx
  · omega
  · exact fullM_lt ⟨k, by omega⟩ x hx
theorem snoc_yes {α : Type} {p : α → Bool} {pre : List α} {x : α} (h : p x = true) : (pre ++ [x]).filter p = pre.filter p ++ [x] := by rw [List.filter_append, List.filter_cons_of_pos h]; rfl
theorem snoc_no {α : Type} {p : α → Bool} {pre : List α} {x : α} (h : p x = false) : (pre ++ [x]).filter p = pre.filter p := by rw [List.filter_append, List.filter_cons_of_neg (by rw [h]; simp)]; exact List.append_nil _

/-- The state of the loop within the iterator. -/
theorem inv_framed {B0 B lo hi By : Nat} {R : Bool} {F : Nat → Nat → Int} {K : Nat → Int} {nodes held : Int} {b9 b5 b6 b7 b4 : Nat} {J : (Nat → Prop) → List Nat → World → Prop} {p : Nat → Bool} {T : TypeId} {v : Value}
    (hJ : Framed B0 J) (hB : B0 ≤ B) (hhi : hi ≤ By) (hBy : By < B) :
    Framed B (fun Kc (pre : List Nat) V => J (fun b => Kc b ∨ ((lo ≤ b ∧ b < hi) ∨ b = By)) (pre.filter p) V ∧ HWs V lo hi R F K nodes held b9 b5 b6 b7 b4 ∧ Boxed V By T v ∧ ∀ b, Kc b → ¬ ((lo ≤ b ∧ b < hi) ∨ b = By)) := by
  rintro Kc Kc' s X Y row ⟨hj, hw, hb, hd⟩ hg hr hk
  have hrow : ∀ r, row = some r → ¬ ((lo ≤ r ∧ r < hi) ∨ r = By) := fun r e => by
    rcases hr r e with k | ⟨k, -⟩
    · exact hd r k
    · omega
  have h1 := hw.le
  have h2 := hb.lt
  refine ⟨hJ _ _ _ X Y row hj hg (fun r e => ?_) (fun k hk' => ?_), hw.same (fun b h1 h2 => hg.block b (by have := hw.le; omega) (fun e => hrow b e.symm (.inl ⟨h1, h2⟩))) hg.size, hb.kept hg (fun e => hrow By e.symm (.inr rfl)), fun b hb' => ?_⟩
  · rcases hr r e with k | ⟨k, o⟩
    · exact .inl (.inl k)
    · exact .inr ⟨by omega, o⟩
  · rcases hk' with e | e
    · rcases hk k e with e | e
      · exact .inl (.inl e)
      · exact .inr e
    · exact .inl (.inr e)
  · rcases hk b hb' with e | e
    · exact hd b e
    · omega

set_option maxRecDepth 100000 in
set_option maxHeartbeats 2000000 in
theorem hintsWith1_fr (n : Nat) (hn : 4 ≤ n) (lo hi : Nat) (R : Bool) (F : Nat → Nat → Int) (K : Nat → Int) (nodes held : Int) (b9 b5 b6 b7 b4 : Nat) (w : World) (hH : HWs w lo hi R F K nodes held b9 b5 b6 b7 b4) (hR : R = rightH F K nodes held) :
    SeqFr n Try.prog 28 #[.pointer (some ⟨b9, 0, none⟩), .pointer (some ⟨b5, 0, none⟩), .pointer (some ⟨b6, 0, none⟩), .pointer (some ⟨b7, 0, none⟩), .pointer (some ⟨b4, 0, none⟩)] (fun x : Nat => #[Value.int .i64 (x : Int)]) (fun b => lo ≤ b ∧ b < hi)
      (fun ys => ys = comes R F K nodes held) (fun pre => pre <+: comes R F K nodes held) w := by
  intro l J Jx W hW hJ hJx hY h0
  have h1 : 1 ≤ n := by omega
  have H0 : HWs W lo hi R F K nodes held b9 b5 b6 b7 b4 := hH.later hW
  have hle := H0.le
  have g0 : Below W.heap.size W (W.alloc (.cells #[.func (.yield l) #[] #[]] 50)) := (Below.refl _ _).alloc (Nat.le_refl _) _
  have H1 := H0.later g0
  have bY := Boxed.new W 50 (.func (.yield l) #[] #[])
  have j1 : J (fun b => (lo ≤ b ∧ b < hi) ∨ b = W.heap.size) [] (W.alloc (.cells #[.func (.yield l) #[] #[]] 50)) := hJ.more h0 g0 fun b hb => by
    rcases hb with e | e
    · exact .inl e
    · exact .inr ⟨by omega, by simp; omega⟩
  have s1 : (W.alloc (.cells #[.func (.yield l) #[] #[]] 50)).heap.size = W.heap.size + 1 := by simp
  cases R with
  | false =>
    clear hR
    refine callsIn_of_wp_marks Try.func28 rfl trivial ?_ rfl
    simp only [Try.ntmps28, List.size_toArray, List.length_cons, List.length_nil, Nat.reduceAdd, Nat.reduceSub, Array.replicate_succ, Array.replicate_zero, List.push_toArray, List.append_toArray, List.nil_append, List.cons_append]
    gi_wp2_with (fail)
    refine wpIn_wide.2 ?_
    generalize W.alloc (.cells #[.func (.yield l) #[] #[]] 50) = W1 at *
    have S1 : Hid (W1.heap.size = W.heap.size + 1) := s1
    clear s1
    have c9 := H1.c9.1 0 _ rfl
    have c5 := H1.c5.1 0 _ rfl
    have z9 := H1.c9.2.2
    have z5 := H1.c5.2.2
    have HC : Hid ((∃ K' xs, xs = comes false F K nodes held ∧ J K' xs W1) ∨ ∃ pre, pre <+: comes false F K nodes held ∧ Jx pre W1) := .inl ⟨_, _, rfl, j1⟩
    clear hY bY H1 j1 hJ hJx h0
    go_step3
    go_wp2
    exact ⟨_, results_none rfl _ _ _, ⟨_, rfl⟩, HC.out⟩
  | true =>
    obtain ⟨k, hk, rfl⟩ : ∃ k : Nat, k ≤ 8 ∧ nodes = (k : Int) := by
      have hR' := hR.symm
      unfold rightH at hR'
      simp only [Bool.and_eq_true] at hR'
      have := of_decide_eq_true hR'.1.2
      exact ⟨nodes.toNat, by omega, by omega⟩
    obtain ⟨h, hh, rfl⟩ : ∃ h : Nat, h < 256 ∧ held = (h : Int) := by
      have hR' := hR.symm
      unfold rightH at hR'
      simp only [Bool.and_eq_true] at hR'
      have := of_decide_eq_true hR'.2
      exact ⟨held.toNat, by omega, by omega⟩
    have HS : Hid (okS (F 0) = true ∧ okS (F 1) = true) := by
      have hR' := hR.symm
      unfold rightH at hR'
      simp only [Bool.and_eq_true] at hR'
      have := okB_yes hR'.1.1
      exact ⟨this.2.1, this.2.2.2⟩
    have HC : Hid (comes true F K k h = (0 :: fullM k).filter fun x : Nat => isH F K h (low (x : Int))) := by
      show (if true = true then hintL F K (k : Int).toNat (h : Int).toNat else []) = _
      rw [if_pos rfl, Int.toNat_natCast, Int.toNat_natCast]
      exact comes_is hk
    have MK : Hid (∀ w, Calls Try.prog 29 #[.int .i64 k] w fun e w' => e = .returned (.func (.func 34) #[] #[.pointer (some ⟨w.heap.size, 0, none⟩)]) ∧ w' = w.alloc (.cells #[.int .i64 k] 3)) := masksOf_is k
    have UN : Hid (∀ (x : Nat) w, Calls Try.prog 30 #[.int .i64 h, .int .i64 x] w fun e w' => e = .returned (.bool (underB h (low x))) ∧ w' = w) := fun x w => by
      have := under_is h x w
      rwa [low_of hh] at this
    have FO : Hid (∀ (s : Nat → Int) (x : Nat) w, okS s = true → Calls Try.prog 25 #[spV s, .int .i64 x] w fun e w' => e = .returned (.int .i64 (sumN s (low x))) ∧ Below w.heap.size w w') := fun s x w hs => freeOn_is s hs x w
    have ST := fun (Bm : Nat) (w : World) => masksOf1_fr (n - 1) (by omega) k hk Bm w
    rw [HC.out]
    obtain ⟨p, hp⟩ : ∃ p : Nat → Bool, p = fun x : Nat => isH F K h (low (x : Int)) := ⟨_, rfl⟩
    have HP : Hid (∀ x : Nat, p x = (underB h (low x) && (decide (K 0 ≤ sumN (F 0) (low x)) && decide (K 1 ≤ sumN (F 1) (low x))))) := fun x => by rw [hp]; rfl
    rw [← hp]
    clear hp
    clear hR HC hH hk hh H0 h0
    refine callsIn_of_wp_marks Try.func28 rfl trivial ?_ rfl
    simp only [Try.ntmps28, List.size_toArray, List.length_cons, List.length_nil, Nat.reduceAdd, Nat.reduceSub, Array.replicate_succ, Array.replicate_zero, List.push_toArray, List.append_toArray, List.nil_append, List.cons_append]
    gi_wp2_with (fail)
    refine wpIn_wide.2 ?_
    generalize W.alloc (.cells #[.func (.yield l) #[] #[]] 50) = W1 at *
    have S1 : Hid (W1.heap.size = W.heap.size + 1) := s1
    clear s1
    have c9 := H1.c9.1 0 _ rfl
    have c5 := H1.c5.1 0 _ rfl
    have z9 := H1.c9.2.2
    have z5 := H1.c5.2.2
    go_step3
    go_wp2
    go_step3
    go_wp2_with (fail)
    refine (MK.out _).mono ?_
    rintro e w' ⟨rfl, rfl⟩
    go_wp2_with (fail)
    refine wpIn_wide (n := n).1 ?_
    have s1 := S1.out
    have bM := Boxed.new W1 3 (.int .i64 (k : Int))
    have g2 : Below W1.heap.size W1 (W1.alloc (.cells #[.int .i64 (k : Int)] 3)) := (Below.refl _ _).alloc (Nat.le_refl _) _
    have s2 : (W1.alloc (.cells #[.int .i64 (k : Int)] 3)).heap.size = W1.heap.size + 1 := by simp
    have j2 : J (fun b => b = W1.heap.size ∨ ((lo ≤ b ∧ b < hi) ∨ b = W.heap.size)) [] (W1.alloc (.cells #[.int .i64 (k : Int)] 3)) := hJ.more j1 g2 fun b hb => by
      rcases hb with e | e
      · exact .inr ⟨by omega, by omega⟩
      · exact .inl e
    have X0 : ∀ w : World, Sem.run Try.prog (Instr.index 25 (.agg #[.int .i64 (K 0), .int .i64 (K 1)]) (.int .i64 0)) w = .ok (.int .i64 (K 0)) w := fun w => by kernel_rfl
    have X1 : ∀ w : World, Sem.run Try.prog (Instr.index 25 (.agg #[.int .i64 (K 0), .int .i64 (K 1)]) (.int .i64 1)) w = .ok (.int .i64 (K 1)) w := fun w => by kernel_rfl
    obtain ⟨I, hI⟩ : ∃ I, I = fun (Kc : Nat → Prop) (pre : List Nat) (V : World) => J (fun b => Kc b ∨ ((lo ≤ b ∧ b < hi) ∨ b = W.heap.size)) (pre.filter p) V ∧ HWs V lo hi true F K k h b9 b5 b6 b7 b4 ∧ Boxed V W.heap.size 50 (.func (.yield l) #[] #[]) ∧ ∀ b, Kc b → ¬ ((lo ≤ b ∧ b < hi) ∨ b = W.heap.size) := ⟨_, rfl⟩
    obtain ⟨Ix, hIx⟩ : ∃ Ix, Ix = fun (c : Code) (pre : List Nat) (V : World) => c = .ret ∧ Jx (pre.filter p) V := ⟨_, rfl⟩
    have FI : Framed (W1.alloc (.cells #[.int .i64 (k : Int)] 3)).heap.size I := by rw [hI]; exact inv_framed hJ (by omega) hle (by omega)
    have FX : ∀ c, OwnFrom (W1.alloc (.cells #[.int .i64 (k : Int)] 3)).heap.size (Ix c) := fun c => by rw [hIx]; exact OwnFrom.and (ownFrom_pure _ _) (own_at (B := W.heap.size) hJx (by omega) (fun pre : List Nat => pre.filter p))
    have I0 : I (fun b => b = W1.heap.size) [] (W1.alloc (.cells #[.int .i64 (k : Int)] 3)) := by
      rw [hI]
      exact ⟨j2, H1.later g2, bY.alloc _, fun b hb => by have := bY.lt; omega⟩
    have IY : Hid (∀ Kc pre V, I Kc pre V → J (fun b => Kc b ∨ ((lo ≤ b ∧ b < hi) ∨ b = W.heap.size)) (pre.filter p) V ∧ HWs V lo hi true F K k h b9 b5 b6 b7 b4 ∧ Boxed V W.heap.size 50 (.func (.yield l) #[] #[]) ∧ ∀ b, Kc b → ¬ ((lo ≤ b ∧ b < hi) ∨ b = W.heap.size)) := fun Kc pre V hi => by rw [hI] at hi; exact hi
    have IM : Hid (∀ Kc pre V, (J (fun b => Kc b ∨ ((lo ≤ b ∧ b < hi) ∨ b = W.heap.size)) (pre.filter p) V ∧ HWs V lo hi true F K k h b9 b5 b6 b7 b4 ∧ Boxed V W.heap.size 50 (.func (.yield l) #[] #[]) ∧ ∀ b, Kc b → ¬ ((lo ≤ b ∧ b < hi) ∨ b = W.heap.size)) → I Kc pre V) := fun Kc pre V hi => by rw [hI]; exact hi
    have XY : Hid (∀ c pre V, Ix c pre V → c = .ret ∧ Jx (pre.filter p) V) := fun c pre V h => by rw [hIx] at h; exact h
    have XM : Hid (∀ pre V, Jx (pre.filter p) V → Ix .ret pre V) := fun pre V h => by rw [hIx]; exact ⟨rfl, h⟩
    have SZ : Hid ((W1.alloc (.cells #[.int .i64 (k : Int)] 3)).heap.size = W.heap.size + 2 ∧ hi ≤ W.heap.size) := ⟨by omega, hle⟩
    clear hI hIx j2 H1 bY j1 g0 g2 c9 c5 z9 z5 MK s1 s2 S1 hle
    refine wpIn_fr h1 (gf := 34) (lb := #[.pointer (some ⟨W1.heap.size, 0, none⟩)]) rfl (enters_of Try.func34 (by kernel_rfl) rfl)
      (ST W1.heap.size _ (by simp) bM.cell) (Below.refl _ _) (fun b hb => by rw [hb]; simp) (fun _ => rfl) I Ix FI FX I0
      (fun x => { tmps := #[.func (.yield l) #[] #[], .pointer (some ⟨b9, 0, none⟩), .pointer (some ⟨b5, 0, none⟩), .pointer (some ⟨b6, 0, none⟩), .pointer (some ⟨b7, 0, none⟩), .pointer (some ⟨b4, 0, none⟩), .pointer (some ⟨W.heap.size, 0, none⟩), .int .i64 (x : Int), undef, undef, .bool true, .bool false, .int .i64 k, .func (.func 34) #[] #[.pointer (some ⟨W1.heap.size, 0, none⟩)], .int .i64 (x : Int), undef, undef, undef, undef, undef, undef, undef, undef, undef, undef, undef, undef, undef, undef, undef, undef, undef, undef, undef, undef, undef], defers := [] }) ?assign ?body ?done ?stop
    case assign =>
      intro l x W K hK
      gi_wp2
      exact hK
    case body =>
      intro l' Kc pre x V hI hsz
      obtain ⟨hj, hw, hy, hd⟩ := IY.out _ _ _ hI
      have PX := HP.out x
      obtain ⟨b, hb⟩ : ∃ b, b = low (x : Int) := ⟨_, rfl⟩
      have U := UN.out x
      have F0 := fun (s : Nat → Int) (w : World) => FO.out s x w
      rw [← hb] at PX U F0
      have HF : Hid (∀ (s : Nat → Int) (w : World), okS s = true → CallsIn (Fence.wide.inRound l') (n - 1 - 1 - 1) Try.prog 25 #[spV s, .int .i64 x] w fun e w' => e = .returned (.int .i64 (sumN s b)) ∧ Below w.heap.size w w') := fun s w h => CallsIn.inRound l' (callsIn_wide.2 (F0 s w h))
      have GO : Hid (p x = true → ∀ V2, Below V.heap.size V V2 → J (fun b => Kc b ∨ ((lo ≤ b ∧ b < hi) ∨ b = W.heap.size)) (pre.filter p) V2) := fun _ V2 hb2 => hJ.more hj hb2 fun _ h => .inl h
      have NO : Hid (p x = false → ∀ (a' : Act) (V2 : World), Below V.heap.size V V2 → frPost (W1.alloc (.cells #[.int .i64 (k : Int)] 3)).heap.size Kc I Ix (pre ++ [x]) V .normal a' V2) := fun hp a' V2 hb2 =>
        ⟨⟨hb2.size, fun k o _ ho _ => (hb2.block k (Array.getElem?_eq_some_iff.1 ho).1).trans ho⟩, KeepsL.grown (below_gr hb2 (row := none)) (fun r e => by cases e), FI.more (IM.out _ _ _ (by rw [snoc_no hp]; exact ⟨hj, hw, hy, hd⟩)) hb2 fun _ h => .inl h⟩
      have YE : Hid (p x = true → ∀ V2, Below V.heap.size V V2 → ∃ fn tmps assign body, (Instr.yield l #[.int .i64 (x : Int)]).run Try.prog V2 = .ok (.round l fn tmps assign body) V2 ∧
          RoundIn (Fence.wide.inRound l') (n - 1 - 1 - 1) Try.prog l fn tmps assign body V2 fun e V3 => ∃ g, e = .returned (.bool g) ∧ ∀ a', frPost (W1.alloc (.cells #[.int .i64 (k : Int)] 3)).heap.size Kc I Ix (pre ++ [x]) V (if g = true then .normal else .ret) a' V3) := fun hp V2 hb2 => by
        obtain ⟨fn, tmps, assign, body, hyl, hR⟩ := hY _ (pre.filter p) x V2 (GO.out hp V2 hb2)
        refine ⟨fn, tmps, assign, body, hyl, (round_any hR).mono ?_⟩
        have hw2 := hw.later hb2
        have hy2 : Boxed V2 W.heap.size 50 (.func (.yield l) #[] #[]) := (hb2.block _ hy.lt).trans hy
        have kb : KeepsFrom (W1.alloc (.cells #[.int .i64 (k : Int)] 3)).heap.size V V2 := ⟨hb2.size, fun k o _ ho _ => (hb2.block k (Array.getElem?_eq_some_iff.1 ho).1).trans ho⟩
        have kl : KeepsL Kc V V2 := KeepsL.grown (below_gr hb2 (row := none)) (fun r e => by cases e)
        have sz := SZ.out
        rintro e V3 (⟨rfl, j3, k3, l3⟩ | ⟨rfl, hx, k3⟩)
        · have s3 := k3.size
          refine ⟨true, rfl, fun a' => ⟨kb.trans (keepsFrom_le k3 (by omega)), kl.trans (fun b hb hl => l3 b (.inl hb) hl) hb2.size, IM.out _ _ _ ?_⟩⟩
          rw [snoc_yes hp]
          exact ⟨j3, hw2.same (fun b h1 h2 => l3 b (.inr (.inl ⟨h1, h2⟩)) (by have := hw2.le; omega)) s3, (l3 W.heap.size (.inr (.inr rfl)) hy2.lt).trans hy2, hd⟩
        · exact ⟨false, rfl, fun a' => ⟨kb.trans (keepsFrom_le k3 (by omega)), XM.out _ _ (by rw [snoc_yes hp]; exact hx)⟩⟩
      have U' : Hid (∀ w, CallsIn (Fence.wide.inRound l') (n - 1 - 1 - 1) Try.prog 30 #[.int .i64 h, .int .i64 x] w fun e w' => e = .returned (.bool (underB h b)) ∧ w' = w) := fun w => CallsIn.inRound l' (callsIn_wide.2 (U w))
      have HPX : Hid (p x = (underB h b && (decide (K 0 ≤ sumN (F 0) b) && decide (K 1 ≤ sumN (F 1) b)))) := PX
      have c6 := hw.c6.1 0 _ rfl
      have z6 := hw.c6.2.2
      have yb := hy
      have cw := hw
      clear PX U F0 hb hI hj hy hd hw FI I0 hY HP UN FO IY IM XY XM hJ hJx hW ST bM GO
      generalize underB h b = u at *
      generalize p x = px at *
      cases u with
      | false =>
        have N := NO.out HPX.out
        have HN : Hid _ := N
        clear NO YE HPX N HF
        gi_wp2_with (fail)
        refine ⟨trivial, fun h => (by cases h), (U'.out _).mono ?_⟩
        rintro e w' ⟨rfl, hw'⟩
        rw [hw']
        clear U' hw'
        gi_wp2
        exact HN.out _ _ (Below.refl _ _)
      | true =>
        have c7 := cw.c7.1 0 _ rfl
        have c7' := cw.c7.1 1 _ rfl
        have z7 := cw.c7.2.2
        gi_wp2_with (fail)
        refine ⟨trivial, fun h => (by cases h), (U'.out _).mono ?_⟩
        rintro e w' ⟨rfl, hw'⟩
        rw [hw']
        clear U' hw'
        gi_wp2
        gi_loopw [20] (fun f wr => ∃ j : Nat, j ≤ 2 ∧ f = .int .i64 j ∧ Hid ((0 < j → K 0 ≤ sumN (F 0) b) ∧ (1 < j → K 1 ≤ sumN (F 1) b)) ∧ Below V.heap.size V wr) (fun f _ => 2 - (intOf f).toNat)
        case atStart => exact ⟨0, by omega, rfl, ⟨fun h => by omega, fun h => by omega⟩, Below.refl _ _⟩
        case round =>
          obtain ⟨j, jl, rfl, HO, HB⟩ := hrel
          have hs := HB.size
          rcases (show j = 0 ∨ j = 1 ∨ j = 2 by omega) with rfl | rfl | rfl
          · clear jl
            have q4 := Cs.later HB cw.c4
            have d0 := q4.1 0 _ rfl
            have d1 := q4.1 1 _ rfl
            have d2 := q4.1 2 _ rfl
            have d3 := q4.1 3 _ rfl
            have d4 := q4.1 4 _ rfl
            have d5 := q4.1 5 _ rfl
            have d6 := q4.1 6 _ rfl
            have d7 := q4.1 7 _ rfl
            have z4 := q4.2.2
            have C := HF.out (F 0) wr HS.out.1
            obtain ⟨S, hS⟩ : ∃ S, S = sumN (F 0) b := ⟨_, rfl⟩
            rw [← hS] at C
            by_cases le : K 0 ≤ S
            · have hO : Hid ((0 < 1 → K 0 ≤ sumN (F 0) b) ∧ (1 < 1 → K 1 ≤ sumN (F 1) b)) := ⟨fun _ => by rw [← hS]; exact le, fun h => by omega⟩
              have e0 : ¬ S < K 0 := by omega
              clear hS le q4 HO
              gi_wp2_with (fail)
              refine ⟨trivial, fun h => (by cases h), C.mono ?_⟩
              rintro e w2 ⟨rfl, hb⟩
              have HB2 : Below V.heap.size V w2 := HB.trans (hb.mono HB.size)
              clear C hb HB d0 d1 d2 d3 d4 d5 d6 d7 z4
              gi_wp2
              go_roundw
              case rel => exact ⟨1, by omega, rfl, hO, HB2⟩
              case measure => simp [intOf]
            · have PF : px = false := by
                rw [HPX.out, Bool.true_and]
                rw [← hS, decide_eq_false le, Bool.false_and]
              have N9 := NO.out PF
              have HN : Hid _ := N9
              have e0 : S < K 0 := by omega
              clear hS le q4 HO NO YE HPX N9 PF
              gi_wp2_with (fail)
              refine ⟨trivial, fun h => (by cases h), C.mono ?_⟩
              rintro e w2 ⟨rfl, hb⟩
              have HB2 : Below V.heap.size V w2 := HB.trans (hb.mono HB.size)
              clear C hb HB
              gi_wp2
              exact HN.out _ _ HB2
          · clear jl
            have q4 := Cs.later HB cw.c4
            have d0 := q4.1 8 _ rfl
            have d1 := q4.1 9 _ rfl
            have d2 := q4.1 10 _ rfl
            have d3 := q4.1 11 _ rfl
            have d4 := q4.1 12 _ rfl
            have d5 := q4.1 13 _ rfl
            have d6 := q4.1 14 _ rfl
            have d7 := q4.1 15 _ rfl
            have z4 := q4.2.2
            have C := HF.out (F 1) wr HS.out.2
            obtain ⟨S, hS⟩ : ∃ S, S = sumN (F 1) b := ⟨_, rfl⟩
            rw [← hS] at C
            by_cases le : K 1 ≤ S
            · have hO : Hid ((0 < 2 → K 0 ≤ sumN (F 0) b) ∧ (1 < 2 → K 1 ≤ sumN (F 1) b)) := ⟨fun _ => HO.out.1 (by omega), fun h => by rw [← hS]; exact le⟩
              have e0 : ¬ S < K 1 := by omega
              clear hS le q4 HO
              gi_wp2_with (fail)
              refine ⟨trivial, fun h => (by cases h), C.mono ?_⟩
              rintro e w2 ⟨rfl, hb⟩
              have HB2 : Below V.heap.size V w2 := HB.trans (hb.mono HB.size)
              clear C hb HB d0 d1 d2 d3 d4 d5 d6 d7 z4
              gi_wp2
              go_roundw
              case rel => exact ⟨2, by omega, rfl, hO, HB2⟩
              case measure => simp [intOf]
            · have PF : px = false := by
                rw [HPX.out, Bool.true_and]
                rw [← hS, decide_eq_false le, Bool.and_false]
              have N9 := NO.out PF
              have HN : Hid _ := N9
              have e0 : S < K 1 := by omega
              clear hS le q4 HO NO YE HPX N9 PF
              gi_wp2_with (fail)
              refine ⟨trivial, fun h => (by cases h), C.mono ?_⟩
              rintro e w2 ⟨rfl, hb⟩
              have HB2 : Below V.heap.size V w2 := HB.trans (hb.mono HB.size)
              clear C hb HB
              gi_wp2
              exact HN.out _ _ HB2
          · have PT : px = true := by
              rw [HPX.out, decide_eq_true (HO.out.1 (by omega)), decide_eq_true (HO.out.2 (by omega))]
              rfl
            obtain ⟨fn, tmps, assign, body, hyl, hR⟩ := YE.out PT wr HB
            have HR : Hid (RoundIn (Fence.wide.inRound l') (n - 1 - 1 - 1) Try.prog l fn tmps assign body wr fun e V3 => ∃ g, e = .returned (.bool g) ∧ ∀ a', frPost (W1.alloc (.cells #[.int .i64 (k : Int)] 3)).heap.size Kc I Ix (pre ++ [x]) V (if g = true then .normal else .ret) a' V3) := hR
            have yr : Boxed wr W.heap.size 50 (.func (.yield l) #[] #[]) := (HB.block _ yb.lt).trans yb
            have cy := yr.cell
            have zy := yr.lt
            clear NO YE HPX HO PT hR HF
            gi_wp2_with (fail)
            refine ⟨fun h => (by cases h), RoundIn.mono HR.out ?_⟩
            clear HR hyl
            rintro e V3 ⟨g, rfl, hg⟩
            have HG : Hid _ := hg
            clear hg
            cases g with
            | true =>
              gi_wp2
              exact HG.out _
            | false =>
              gi_wp2
              exact HG.out _
    case done =>
      rintro D Kc ys V hD rfl hi hK
      have hj := (IY.out _ _ _ hi).1
      gi_wp2
      refine ⟨by simp, .inl ⟨_, _, rfl, run_takeDeferred hK, ?_⟩⟩
      exact ⟨_, results_none rfl _ _ _, ⟨_, rfl⟩, .inl ⟨_, _, rfl, hJ.own.putObj _ hj (by have := SZ.out; omega) hK rfl⟩⟩
    case stop =>
      rintro D c pre V hD hpre hx hK
      obtain ⟨rfl, hx'⟩ := XY.out _ _ _ hx
      gi_wp2
      refine ⟨by simp, .inl ⟨_, _, rfl, run_takeDeferred hK, ?_⟩⟩
      exact ⟨_, results_none rfl _ _ _, ⟨_, rfl⟩, .inr ⟨_, hpre.filter p, hJx.putObj _ hx' (by have := SZ.out; omega) hK rfl⟩⟩

end Go.Proofs.Ytkjaiahdkolmdaa.Mk
