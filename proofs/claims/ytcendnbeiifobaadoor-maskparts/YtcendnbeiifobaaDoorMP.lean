/-
  The statement MaskParts as a contract at this program. Conditions: the mask and the node are bytes.
-/
import Derived.Test.YtcendnbeiifobaaDoorMO
namespace Go.Proofs.YtcendnbeiifobaaDoor.Mk
open Go.RowKit Go.Shelf

attribute [local go_sem] Oper.semAt_some

theorem parts : ∀ b : Fin 256, ∀ t : Fin 8, hasB (withB b.1 (t.1 : Int)) (t.1 : Int) = true ∧ hasB (lessB b.1 (t.1 : Int)) (t.1 : Int) = false ∧ cnt (withB b.1 (t.1 : Int)) = cnt (lessB b.1 (t.1 : Int)) + 1 ∧
    underB (lessB b.1 (t.1 : Int)) b.1 = true ∧ underB b.1 (withB b.1 (t.1 : Int)) = true ∧ aheadB (lessB b.1 (t.1 : Int)) (withB b.1 (t.1 : Int)) = true ∧
    ((withB b.1 (t.1 : Int) = b.1 ∧ lessB b.1 (t.1 : Int) ≠ b.1) ∨ (withB b.1 (t.1 : Int) ≠ b.1 ∧ lessB b.1 (t.1 : Int) = b.1)) := by decide +kernel
theorem of_nodes : ∀ b : Fin 256, ofL (ndI b.1) = b.1 := by decide +kernel

set_option maxHeartbeats 4000000 in
set_option maxRecDepth 100000 in
theorem maskParts_any (m n : Int) (hm : 0 ≤ m ∧ m ≤ 255) (hn : 0 ≤ n ∧ n ≤ 255) (w : World) :
    Calls Tryd.prog 6 #[.int .u8 m, .int .u8 n] w fun e w' => e = .returned (.bool true) ∧ Below w.heap.size w w' := by
  obtain ⟨b, b8, rfl⟩ : ∃ b : Nat, b < 256 ∧ m = b := ⟨m.toNat, by omega, by omega⟩
  obtain ⟨t, t8, ht⟩ : ∃ t : Nat, t < 8 ∧ n % 8 = (t : Int) := ⟨(n % 8).toNat, by omega, by omega⟩
  have tw : wrap64 (t : Int) = (t : Int) := wrap_small (by omega)
  obtain ⟨P1, P2, P3, P4, P5, P6, P7⟩ := parts ⟨b, b8⟩ ⟨t, t8⟩
  dsimp only at P1 P2 P3 P4 P5 P6 P7
  obtain ⟨A, hA⟩ : ∃ A, A = withB b (t : Int) := ⟨_, rfl⟩
  obtain ⟨B, hB⟩ : ∃ B, B = lessB b (t : Int) := ⟨_, rfl⟩
  have A8 : A < 256 := by rw [hA]; exact withB_lt b8 _
  have B8 : B < 256 := by rw [hB]; exact lessB_lt b8 _
  obtain ⟨u, hu⟩ : ∃ u, u = cnt B := ⟨_, rfl⟩
  have u8 : u ≤ 8 := by rw [hu]; exact cnt_le _
  rw [← hA, ← hB] at P3 P6 P7
  rw [← hA] at P1 P5
  rw [← hB] at P2 P4
  rw [← hu] at P3
  have C1 : Hid (∀ w, Calls Tryd.prog 12 #[.int .i64 b, .int .i64 t] w fun e w' => e = .returned (.int .i64 A) ∧ w' = w) := fun w => by
    have := with_is b t w
    rwa [low_of b8, ← hA] at this
  have C2 : Hid (∀ w, Calls Tryd.prog 14 #[.int .i64 b, .int .i64 t] w fun e w' => e = .returned (.int .i64 B) ∧ w' = w) := fun w => by
    have := less_is b t w
    rwa [low_of b8, ← hB] at this
  have C3 : Hid (∀ w, Calls Tryd.prog 11 #[.int .i64 A, .int .i64 t] w fun e w' => e = .returned (.bool true) ∧ w' = w) := fun w => by
    have := has_is A t w
    rwa [low_of A8, P1] at this
  have C4 : Hid (∀ w, Calls Tryd.prog 11 #[.int .i64 B, .int .i64 t] w fun e w' => e = .returned (.bool false) ∧ w' = w) := fun w => by
    have := has_is B t w
    rwa [low_of B8, P2] at this
  have C5 : Hid (∀ w, Calls Tryd.prog 15 #[.int .i64 A] w fun e w' => e = .returned (.int .i64 ((u : Int) + 1)) ∧ w' = w) := fun w => by
    have := count_is A w
    rw [low_of A8, P3] at this
    exact this
  have C6 : Hid (∀ w, Calls Tryd.prog 15 #[.int .i64 B] w fun e w' => e = .returned (.int .i64 u) ∧ w' = w) := fun w => by
    have := count_is B w
    rwa [low_of B8, ← hu] at this
  have C7 : Hid (∀ w, Calls Tryd.prog 16 #[.int .i64 B, .int .i64 b] w fun e w' => e = .returned (.bool true) ∧ w' = w) := fun w => by
    have := under_is B b w
    rwa [low_of B8, low_of b8, P4] at this
  have C8 : Hid (∀ w, Calls Tryd.prog 16 #[.int .i64 b, .int .i64 A] w fun e w' => e = .returned (.bool true) ∧ w' = w) := fun w => by
    have := under_is b A w
    rwa [low_of A8, low_of b8, P5] at this
  have C9 : Hid (∀ w, Calls Tryd.prog 17 #[.int .i64 B, .int .i64 A] w fun e w' => e = .returned (.bool true) ∧ w' = w) := fun w => by
    have := ahead_is B A w
    rwa [low_of A8, low_of B8, P6] at this
  have C10 : Hid (∀ w, Calls Tryd.prog 15 #[.int .i64 b] w fun e w' => e = .returned (.int .i64 (nd b).length) ∧ w' = w) := fun w => by
    have := count_is b w
    rwa [low_of b8] at this
  have C11 : Hid (∀ w v, RdI w v (ndI b) → Calls Tryd.prog 24 #[v] w fun e w' => e = .returned (.int .i64 b) ∧ w' = w) := fun w v h => by
    have := of_is w h
    rwa [of_nodes ⟨b, b8⟩] at this
  have ST : Hid (∀ (Bn : Nat) (w : World), Bn < w.heap.size → w.cell? ⟨Bn, 0, none⟩ = some (.int .i64 b) → SeqStopsK Fence.wide (3 - 1) Tryd.prog 34 #[.pointer (some ⟨Bn, 0, none⟩)] (fun x : Fin 8 => #[Value.int .i64 (x.1 : Int)]) (Keep1 Bn) (fun ys => ys = nd b) (fun pre => pre <+: nd b) 8 w) := fun Bn w h1 h2 => by
    have := nodes_stops (3 - 1) (by omega) Bn b w h1 h2
    rwa [low_of b8] at this
  have P8 : Hid ((A = b ∧ B ≠ b) ∨ (A ≠ b ∧ B = b)) := P7
  have AB : Hid (B ≠ A) := by
    rcases P7 with ⟨h1, h2⟩ | ⟨h1, h2⟩
    · rw [h1]; exact h2
    · rw [h2]; exact fun e => h1 e.symm
  have NL : Hid ((nd b).length ≤ 8) := cnt_le b
  clear P1 P2 P3 P4 P5 P6 P7 hA hB hu hm
  obtain ⟨i0, hi, hz0, hz1, hz2⟩ := info_parts intInfo
  have h1 : 1 ≤ 3 := by omega
  refine (callsIn_wide (n := 3)).1 ?_
  refine callsIn_of_wp_marks Tryd.func6 rfl trivial ?_ rfl
  refine wpIn_wide.2 ?_
  simp only [Tryd.ntmps6, List.size_toArray, List.length_cons, List.length_nil, Nat.reduceAdd, Nat.reduceSub, Array.replicate_succ, Array.replicate_zero, List.push_toArray, List.append_toArray, List.nil_append, List.cons_append]
  rcases P8.out with ⟨h, -⟩ | ⟨-, h⟩
  · subst h
    have q1 : ((B : Int) == (A : Int)) = false := by have := AB.out; simp; omega
    have q2 : ¬ (B : Int) = (A : Int) := by have := AB.out; omega
    have q3 : ((A : Int) == (B : Int)) = false := by have := AB.out; simp; omega
    have q4 : ¬ (A : Int) = (B : Int) := by have := AB.out; omega
    go_wp2_with (fail)
    refine (first_is _).mono ?_
    rintro e w1 ⟨rfl, HB1⟩
    go_wp2_with (fail)
    refine (C1.out _).mono ?_
    rintro e w3 ⟨rfl, hw⟩
    rw [hw]
    clear hw
    go_wp2_with (fail)
    refine (C2.out _).mono ?_
    rintro e w3 ⟨rfl, hw⟩
    rw [hw]
    clear hw
    go_wp2_with (fail)
    refine (C3.out _).mono ?_
    rintro e w3 ⟨rfl, hw⟩
    rw [hw]
    clear hw
    go_wp2_with (fail)
    refine (C4.out _).mono ?_
    rintro e w3 ⟨rfl, hw⟩
    rw [hw]
    clear hw
    go_wp2_with (fail)
    refine (C5.out _).mono ?_
    rintro e w3 ⟨rfl, hw⟩
    rw [hw]
    clear hw
    go_wp2_with (fail)
    refine (C6.out _).mono ?_
    rintro e w3 ⟨rfl, hw⟩
    rw [hw]
    clear hw
    go_wp2_with (fail)
    refine (C7.out _).mono ?_
    rintro e w3 ⟨rfl, hw⟩
    rw [hw]
    clear hw
    go_wp2_with (fail)
    refine (C8.out _).mono ?_
    rintro e w3 ⟨rfl, hw⟩
    rw [hw]
    clear hw
    go_wp2_with (fail)
    refine (nodes_is A _).mono ?_
    rintro e w' ⟨rfl, rfl⟩
    clear C1 C2 C3 C4 C5 C6 C7 C8 tw
    go_wp2_with (fail)
    have bL := Boxed.new w1 26 (.slice none 0 0)
    have bM := Boxed.new (w1.alloc (.cells #[.slice none 0 0] 26)) 3 (.int .i64 A)
    simp only [World.size_alloc] at bM
    have hs1 := HB1.size
    have hB0 : Below w.heap.size w ((w1.alloc (.cells #[.slice none 0 0] 26)).alloc (.cells #[.int .i64 A] 3)) := (HB1.alloc HB1.size _).alloc (by simp; omega) _
    refine wpIn_wide (n := 3).1 ?_
    refine wpIn_rangeFunc_ownG rfl h1 (gf := 34) (lb := #[.pointer (some ⟨w1.heap.size + 1, 0, none⟩)]) rfl trivial (enters_of Tryd.func34 (by kernel_rfl) rfl)
      (ST.out (w1.heap.size + 1) _ (by simp) bM.cell) Keep1.trans (keep1_b (by simp)) (Below.refl _ _) (fun _ => rfl)
      (fun pre W => ((∃ v, Boxed W w1.heap.size 26 v ∧ W.ownsRow (w1.heap.size + 2) 3 1 v pre.length (pre.map encN) ∧ True) ∧ Boxed W (w1.heap.size + 1) 3 (.int .i64 A)) ∧ Below w.heap.size w W)
      (fun _ _ _ => False)
      (OwnFrom.and (OwnFrom.and (Own.from (holdsRow_own _ _ _ _ _ (fun pre : List (Fin 8) => pre.length) (fun pre => pre.map encN) (fun _ _ => True)) _) (Own.from (boxed_own _ _ _) _)) (ownFrom_below (Nat.le_refl _) (by simp; omega)))
      (fun _ _ _ _ _ hs _ _ => hs)
      ⟨⟨⟨_, bL.alloc _, World.ownsRow_nil _ _ _ _, trivial⟩, bM⟩, hB0⟩
      (fun x => { tmps := #[Value.int IntKind.u8 ↑A, Value.int IntKind.u8 n, undef, undef, Value.bool false, Value.int IntKind.i64 ↑A, Value.int IntKind.i64 ↑t, Value.int IntKind.i64 ↑A, Value.int IntKind.i64 ↑B, Value.pointer (some { block := w1.heap.size, off := 0 }), encN x, Value.bool true, Value.bool false, Value.int IntKind.u8 ↑A, Value.int IntKind.i64 ↑A, Value.int IntKind.u8 n, Value.int IntKind.u8 ↑t, Value.int IntKind.i64 ↑t, Value.int IntKind.i64 ↑A, Value.int IntKind.i64 ↑t, Value.int IntKind.i64 ↑A, Value.int IntKind.i64 ↑A, Value.int IntKind.i64 ↑t, Value.int IntKind.i64 ↑B, Value.int IntKind.i64 ↑A, Value.int IntKind.i64 ↑t, Value.bool true, Value.bool false, Value.bool false, Value.int IntKind.i64 ↑B, Value.int IntKind.i64 ↑t, Value.bool false, Value.bool false, Value.bool false, Value.int IntKind.i64 ↑A, Value.int IntKind.i64 (↑u + 1), Value.int IntKind.i64 ↑B, Value.int IntKind.i64 ↑u, Value.int IntKind.i64 (↑u + 1), Value.bool false, Value.bool false, Value.bool false, Value.int IntKind.i64 ↑B, Value.int IntKind.i64 ↑A, Value.bool true, Value.bool false, Value.bool false, Value.bool false, Value.int IntKind.i64 ↑A, Value.int IntKind.i64 ↑A, Value.bool true, Value.bool false, Value.bool false, Value.bool false, Value.int IntKind.i64 ↑A, Value.int IntKind.i64 ↑A, Value.bool true, Value.int IntKind.i64 ↑B, Value.int IntKind.i64 ↑A, Value.bool false, Value.bool false, Value.bool false, Value.int IntKind.i64 ↑A, Value.func (Fn.func 34) #[] #[Value.pointer (some { block := w1.heap.size + 1, off := 0 })], encN x, undef, undef, undef, undef, undef, undef, undef, undef, undef, undef, undef, undef, undef, undef, undef, undef, undef, undef, undef, undef, undef, undef, undef, undef, undef], defers := [] }) ?assign ?body ?done ?stop
    case assign =>
      intro l x W K hK
      gi_wp2
      exact hK
    case body =>
      rintro l pre x W ⟨⟨⟨v, hv, hrow, -⟩, hm⟩, hB⟩ hlt
      obtain ⟨a, cap, rfl⟩ := own_slice hrow
      have hc := hv.cell
      have hlm := hm.lt
      have hs := hB.size
      clear C9 C10 C11 ST AB q1 q2 q3 q4
      gi_wp2_with (first
        | (gi_at_builtin; refine wpListIn_append_own _ rfl _ _ 26 rfl (w1.heap.size + 2) 3 i0 (.int .i64 0) 1 8 Tryd.underlying26 hi hz0 hz1 hz2 rfl (by decide) _ _ _ rfl (hrow.alloc _) ⟨W.heap.size, 0, none⟩ 1 1 [encN x] rfl rfl (cell_one_new _ _ _) (by simp [Value.oneCell']) (by unfold maxLen; omega) (by omega) (by simp; omega) ?_; intro v' w2 hown' hgrow _; obtain ⟨g', cap', rfl⟩ := ownsRow_succ hown'; obtain ⟨⟨hv1, hv2, hr2, hk2, hb2⟩, hsame⟩ := appended3 (n₀ := w.heap.size) hv (by decide) hrow hB.size (by omega) (by omega) hown' hgrow; have hc1 := hv1.cell; have hf1 := hv1.frozen)
        | fail)
      exact ⟨hk2.from _, hsame _ (by omega) (by omega) hlm, ⟨⟨⟨_, hv2, by simpa using hr2, trivial⟩, (hsame _ (by omega) (by omega) hlm).trans hm⟩, hB.trans hb2⟩⟩
    case done =>
      rintro D ys W hD rfl ⟨⟨⟨v, hv, hrow, -⟩, hm⟩, hB⟩ hK
      obtain ⟨a, cap, rfl⟩ := own_slice hrow
      have hc := hv.cell
      have HBW : Hid (Below w.heap.size w W) := hB
      have HK : Hid (W.heap[D]? = some (.deferred (some []))) := hK
      have RD : Hid (RdI W (.slice a (nd A).length cap) (ndI A)) := own_read (n := (nd A).length) (by rw [List.map_map]; exact hrow)
      clear hv hrow hm hB hK
      go_wp2_with (fail)
      go_quiet ((first | (go_at_call 24; exact Calls.quiet_of_same (C11.out _ _ RD.out)) | (go_at_call 15; exact Calls.quiet_of_same (C10.out _)) | (go_at_call 17; exact Calls.quiet_of_same (C9.out _))))
      go_wp2
      have hK2 : (W.drewN nq).heap[D]? = some (.deferred (some [])) := HK.out
      refine ⟨by simp, .inl ⟨_, _, rfl, run_takeDeferred hK2, ?_⟩⟩
      exact ⟨_, results_tmp rfl _ _ _, rfl, (below_drewN HBW.out nq).trans (belowK_b (w := w) (Nat.le_refl _) _ D _ _ (by simp at hD; omega) hK2 rfl rfl)⟩
    case stop =>
      rintro D c pre W _ _ h _
      exact h.elim
  · subst h
    have q1 : ((B : Int) == (A : Int)) = false := by have := AB.out; simp; omega
    have q2 : ¬ (B : Int) = (A : Int) := by have := AB.out; omega
    have q3 : ((A : Int) == (B : Int)) = false := by have := AB.out; simp; omega
    have q4 : ¬ (A : Int) = (B : Int) := by have := AB.out; omega
    go_wp2_with (fail)
    refine (first_is _).mono ?_
    rintro e w1 ⟨rfl, HB1⟩
    go_wp2_with (fail)
    refine (C1.out _).mono ?_
    rintro e w3 ⟨rfl, hw⟩
    rw [hw]
    clear hw
    go_wp2_with (fail)
    refine (C2.out _).mono ?_
    rintro e w3 ⟨rfl, hw⟩
    rw [hw]
    clear hw
    go_wp2_with (fail)
    refine (C3.out _).mono ?_
    rintro e w3 ⟨rfl, hw⟩
    rw [hw]
    clear hw
    go_wp2_with (fail)
    refine (C4.out _).mono ?_
    rintro e w3 ⟨rfl, hw⟩
    rw [hw]
    clear hw
    go_wp2_with (fail)
    refine (C5.out _).mono ?_
    rintro e w3 ⟨rfl, hw⟩
    rw [hw]
    clear hw
    go_wp2_with (fail)
    refine (C6.out _).mono ?_
    rintro e w3 ⟨rfl, hw⟩
    rw [hw]
    clear hw
    go_wp2_with (fail)
    refine (C7.out _).mono ?_
    rintro e w3 ⟨rfl, hw⟩
    rw [hw]
    clear hw
    go_wp2_with (fail)
    refine (C8.out _).mono ?_
    rintro e w3 ⟨rfl, hw⟩
    rw [hw]
    clear hw
    go_wp2_with (fail)
    refine (nodes_is B _).mono ?_
    rintro e w' ⟨rfl, rfl⟩
    clear C1 C2 C3 C4 C5 C6 C7 C8 tw
    go_wp2_with (fail)
    have bL := Boxed.new w1 26 (.slice none 0 0)
    have bM := Boxed.new (w1.alloc (.cells #[.slice none 0 0] 26)) 3 (.int .i64 B)
    simp only [World.size_alloc] at bM
    have hs1 := HB1.size
    have hB0 : Below w.heap.size w ((w1.alloc (.cells #[.slice none 0 0] 26)).alloc (.cells #[.int .i64 B] 3)) := (HB1.alloc HB1.size _).alloc (by simp; omega) _
    refine wpIn_wide (n := 3).1 ?_
    refine wpIn_rangeFunc_ownG rfl h1 (gf := 34) (lb := #[.pointer (some ⟨w1.heap.size + 1, 0, none⟩)]) rfl trivial (enters_of Tryd.func34 (by kernel_rfl) rfl)
      (ST.out (w1.heap.size + 1) _ (by simp) bM.cell) Keep1.trans (keep1_b (by simp)) (Below.refl _ _) (fun _ => rfl)
      (fun pre W => ((∃ v, Boxed W w1.heap.size 26 v ∧ W.ownsRow (w1.heap.size + 2) 3 1 v pre.length (pre.map encN) ∧ True) ∧ Boxed W (w1.heap.size + 1) 3 (.int .i64 B)) ∧ Below w.heap.size w W)
      (fun _ _ _ => False)
      (OwnFrom.and (OwnFrom.and (Own.from (holdsRow_own _ _ _ _ _ (fun pre : List (Fin 8) => pre.length) (fun pre => pre.map encN) (fun _ _ => True)) _) (Own.from (boxed_own _ _ _) _)) (ownFrom_below (Nat.le_refl _) (by simp; omega)))
      (fun _ _ _ _ _ hs _ _ => hs)
      ⟨⟨⟨_, bL.alloc _, World.ownsRow_nil _ _ _ _, trivial⟩, bM⟩, hB0⟩
      (fun x => { tmps := #[Value.int IntKind.u8 ↑B, Value.int IntKind.u8 n, undef, undef, Value.bool false, Value.int IntKind.i64 ↑B, Value.int IntKind.i64 ↑t, Value.int IntKind.i64 ↑A, Value.int IntKind.i64 ↑B, Value.pointer (some { block := w1.heap.size, off := 0 }), encN x, Value.bool true, Value.bool false, Value.int IntKind.u8 ↑B, Value.int IntKind.i64 ↑B, Value.int IntKind.u8 n, Value.int IntKind.u8 ↑t, Value.int IntKind.i64 ↑t, Value.int IntKind.i64 ↑B, Value.int IntKind.i64 ↑t, Value.int IntKind.i64 ↑A, Value.int IntKind.i64 ↑B, Value.int IntKind.i64 ↑t, Value.int IntKind.i64 ↑B, Value.int IntKind.i64 ↑A, Value.int IntKind.i64 ↑t, Value.bool true, Value.bool false, Value.bool false, Value.int IntKind.i64 ↑B, Value.int IntKind.i64 ↑t, Value.bool false, Value.bool false, Value.bool false, Value.int IntKind.i64 ↑A, Value.int IntKind.i64 (↑u + 1), Value.int IntKind.i64 ↑B, Value.int IntKind.i64 ↑u, Value.int IntKind.i64 (↑u + 1), Value.bool false, Value.bool false, Value.bool false, Value.int IntKind.i64 ↑B, Value.int IntKind.i64 ↑B, Value.bool true, Value.bool false, Value.bool false, Value.bool false, Value.int IntKind.i64 ↑B, Value.int IntKind.i64 ↑A, Value.bool true, Value.bool false, Value.bool false, Value.bool false, Value.int IntKind.i64 ↑A, Value.int IntKind.i64 ↑B, Value.bool false, Value.int IntKind.i64 ↑B, Value.int IntKind.i64 ↑B, Value.bool true, Value.bool false, Value.bool false, Value.int IntKind.i64 ↑B, Value.func (Fn.func 34) #[] #[Value.pointer (some { block := w1.heap.size + 1, off := 0 })], encN x, undef, undef, undef, undef, undef, undef, undef, undef, undef, undef, undef, undef, undef, undef, undef, undef, undef, undef, undef, undef, undef, undef, undef, undef, undef], defers := [] }) ?assign ?body ?done ?stop
    case assign =>
      intro l x W K hK
      gi_wp2
      exact hK
    case body =>
      rintro l pre x W ⟨⟨⟨v, hv, hrow, -⟩, hm⟩, hB⟩ hlt
      obtain ⟨a, cap, rfl⟩ := own_slice hrow
      have hc := hv.cell
      have hlm := hm.lt
      have hs := hB.size
      clear C9 C10 C11 ST AB q1 q2 q3 q4
      gi_wp2_with (first
        | (gi_at_builtin; refine wpListIn_append_own _ rfl _ _ 26 rfl (w1.heap.size + 2) 3 i0 (.int .i64 0) 1 8 Tryd.underlying26 hi hz0 hz1 hz2 rfl (by decide) _ _ _ rfl (hrow.alloc _) ⟨W.heap.size, 0, none⟩ 1 1 [encN x] rfl rfl (cell_one_new _ _ _) (by simp [Value.oneCell']) (by unfold maxLen; omega) (by omega) (by simp; omega) ?_; intro v' w2 hown' hgrow _; obtain ⟨g', cap', rfl⟩ := ownsRow_succ hown'; obtain ⟨⟨hv1, hv2, hr2, hk2, hb2⟩, hsame⟩ := appended3 (n₀ := w.heap.size) hv (by decide) hrow hB.size (by omega) (by omega) hown' hgrow; have hc1 := hv1.cell; have hf1 := hv1.frozen)
        | fail)
      exact ⟨hk2.from _, hsame _ (by omega) (by omega) hlm, ⟨⟨⟨_, hv2, by simpa using hr2, trivial⟩, (hsame _ (by omega) (by omega) hlm).trans hm⟩, hB.trans hb2⟩⟩
    case done =>
      rintro D ys W hD rfl ⟨⟨⟨v, hv, hrow, -⟩, hm⟩, hB⟩ hK
      obtain ⟨a, cap, rfl⟩ := own_slice hrow
      have hc := hv.cell
      have HBW : Hid (Below w.heap.size w W) := hB
      have HK : Hid (W.heap[D]? = some (.deferred (some []))) := hK
      have RD : Hid (RdI W (.slice a (nd B).length cap) (ndI B)) := own_read (n := (nd B).length) (by rw [List.map_map]; exact hrow)
      clear hv hrow hm hB hK
      go_wp2_with (fail)
      go_quiet ((first | (go_at_call 24; exact Calls.quiet_of_same (C11.out _ _ RD.out)) | (go_at_call 15; exact Calls.quiet_of_same (C10.out _)) | (go_at_call 17; exact Calls.quiet_of_same (C9.out _))))
      go_wp2
      have hK2 : (W.drewN nq).heap[D]? = some (.deferred (some [])) := HK.out
      refine ⟨by simp, .inl ⟨_, _, rfl, run_takeDeferred hK2, ?_⟩⟩
      exact ⟨_, results_tmp rfl _ _ _, rfl, (below_drewN HBW.out nq).trans (belowK_b (w := w) (Nat.le_refl _) _ D _ _ (by simp at hD; omega) hK2 rfl rfl)⟩
    case stop =>
      rintro D c pre W _ _ h _
      exact h.elim

end Go.Proofs.YtcendnbeiifobaaDoor.Mk
