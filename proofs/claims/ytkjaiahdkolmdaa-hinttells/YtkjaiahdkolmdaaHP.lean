/-
  All masks of the first nodes that are enough, at this program: the document's. Conditions: what is free and needed is right; 8 nodes at the most.
-/
import Derived.Test.YtkjaiahdkolmdaaHO
import Derived.Test.YtkjaiahdkolmdaaHJ
import Derived.Test.YtkjaiahdkolmdaaMI
namespace Go.Proofs.Ytkjaiahdkolmdaa.Mk
open Go.RowKit

set_option maxHeartbeats 4000000 in
set_option maxRecDepth 100000 in
theorem rhints_is (F : Nat → Nat → Int) (K : Nat → Int) (k : Nat) (hk : k ≤ 8) (hok : okB F K = true) (w : World) :
    Calls Try.prog 16 #[frV F, .int .i64 (k : Int), ndV K] w fun e w' => ∃ v, e = .returned v ∧ w'.ownsRow w.heap.size 3 1 v (((0 :: fullM k).filter (enB F K)).length) (((0 :: fullM k).filter (enB F K)).map encM) ∧ Below w.heap.size w w' := by
  obtain ⟨i0, hi, hz0, hz1, hz2⟩ := info_parts intInfo
  have FL : (fullM k).length ≤ 255 := by
    rw [fullM_len ⟨k, by omega⟩]
    have := Nat.pow_le_pow_right (show 0 < 2 by omega) hk
    show 2 ^ k - 1 ≤ 255
    omega
  have ML : Hid ((∀ x ∈ 0 :: fullM k, x < 256) ∧ True) := ⟨fun x hx => by
    rcases List.mem_cons.1 hx with rfl | hx
    · omega
    · exact fullM_lt ⟨k, by omega⟩ x hx, trivial⟩
  have OF0 : Hid (∀ (x : Nat) (w : World), x < 256 → Calls Try.prog 13 #[.int .i64 x] w fun e w' => e = .returned (setV x) ∧ Below w.heap.size w w') := fun x w h => by
    have := rof_v x w
    rwa [low_of h] at this
  have EN0 : Hid (∀ (x : Nat) (w : World), Calls Try.prog 12 #[frV F, setV x, ndV K] w fun e w' => e = .returned (.bool (enB F K x)) ∧ Below w.heap.size w w') := fun x w => renough_is F K x hok w
  have RM0 : Hid (∀ w, Calls Try.prog 26 #[.int .i64 k] w fun e w' => ∃ v, e = .returned v ∧ w'.ownsRow w.heap.size 3 1 v (fullM k).length ((fullM k).map encM) ∧ Below w.heap.size w w') := fun w => rmasks_is k hk w
  generalize fullM k = L at *
  obtain ⟨p, hp⟩ : ∃ p, p = enB F K := ⟨_, rfl⟩
  rw [← hp] at EN0 ⊢
  clear hp hk hok
  have g0 : Below w.heap.size w ((w.alloc (.cells (frL F).toArray 24)).alloc (.cells (kL K).toArray 25)) := by go_grown
  have q0 : Cs ((w.alloc (.cells (frL F).toArray 24)).alloc (.cells (kL K).toArray 25)) w.heap.size (frL F) := (Cs.new _ _ _ _ rfl).alloc _
  have q1 : Cs ((w.alloc (.cells (frL F).toArray 24)).alloc (.cells (kL K).toArray 25)) (w.heap.size + 1) (kL K) := Cs.new _ _ _ _ (by simp)
  go_enter Try.func16, Try.ntmps16
  go_upto_region 2 with (fail)
  have QZ : Hid (((w.alloc (.cells (frL F).toArray 24)).alloc (.cells (kL K).toArray 25)).heap.size = w.heap.size + 2) := by show ((w.alloc (.cells (frL F).toArray 24)).alloc (.cells (kL K).toArray 25)).heap.size = w.heap.size + 2; simp
  generalize ((w.alloc (.cells (frL F).toArray 24)).alloc (.cells (kL K).toArray 25)) = W0 at *
  have sW := g0.size
  go_cut [13, 14, 15] (fun s13 s14 s15 wc => s14 = .int .i64 ((0 :: L).length : Int) ∧ s15 = .int .i64 0 ∧ wc.ownsRow W0.heap.size 3 1 s13 (0 :: L).length ((0 :: L).map encM) ∧ Cs wc w.heap.size (frL F) ∧ Cs wc (w.heap.size + 1) (kL K) ∧ Below w.heap.size w wc)
  case first =>
    have ow := own_new W0 W0.heap.size 3 [.int .i64 0] 1 _ rfl rfl (Nat.le_refl _) (by unfold maxLen; omega)
    go_wp2_with (fail)
    refine (RM0.out _).mono ?_
    rintro e w1 ⟨v, rfl, own, hb⟩
    have gA : Below W0.heap.size W0 (W0.alloc (.cells #[.int .i64 0] 3)) := (Below.refl _ _).alloc (Nat.le_refl _) _
    replace ow : w1.ownsRow W0.heap.size 3 1 (.slice (some ⟨W0.heap.size, 0, none⟩) 1 1) 1 ([0].map encM) := own_later ow hb
    have sA : (W0.alloc (.cells #[.int .i64 0] 3)).heap.size = W0.heap.size + 1 := by simp
    have gB : Below W0.heap.size W0 w1 := gA.trans (hb.mono gA.size)
    replace q0 := Cs.later gB q0
    replace q1 := Cs.later gB q1
    have g1 := g0.trans (gB.mono g0.size)
    rw [sA] at own
    have s1 := g1.size
    have sB := gB.size
    clear RM0 hb g0 gA gB sA
    rcases own.2 with ⟨rfl, ez⟩ | ⟨g, cap, cur, rfl, hbg, hgb, hnc, hcm, hcs, htk⟩
    · have L0 : L = [] := List.eq_nil_of_length_eq_zero ez
      subst L0
      go_wp2
      go_meet
      case rel => exact ⟨rfl, rfl, ow, q0, q1, g1⟩
    · have own' : w1.ownsRow (W0.heap.size + 1) 3 1 (.slice (some ⟨g, 0, none⟩) L.length cap) L.length (L.map encM) := own
      clear own hgb hcs htk
      go_wp2_with (first
        | (at_builtin; refine wpList_append_own _ rfl _ _ 34 rfl W0.heap.size 3 i0 (.int .i64 0) 1 8 Try.underlying34 hi hz0 hz1 hz2 rfl (by decide) _ _ _ rfl ow ⟨g, 0, none⟩ L.length cap (L.map encM) rfl (by simp) (World.ownsRow.cells own' rfl) one_cells (by unfold maxLen; omega) (by omega) (by omega) ?_; intro v1 w4 own1 hgrow _; obtain ⟨g1', cap1, rfl, gb1, gc1, gm1⟩ := own_form own1 (by omega))
        | fail)
      replace hgrow : w1.grownBy w4 (some W0.heap.size) := hgrow
      have q0' : Cs w4 w.heap.size (frL F) := q0.grown hgrow (by show some w.heap.size ≠ some W0.heap.size; intro e; injection e with e; have := QZ.out; omega)
      have q1' : Cs w4 (w.heap.size + 1) (kL K) := q1.grown hgrow (by show some (w.heap.size + 1) ≠ some W0.heap.size; intro e; injection e with e; have := QZ.out; omega)
      have gC : Below w.heap.size w w4 := g1.grown hgrow (by omega) (fun k hk => by injection hk with hk; omega)
      have e5 : (1 : Int) + (L.length : Int) = ((0 :: L).length : Int) := by simp; omega
      rw [show 1 + L.length = (0 :: L).length by simp; omega] at own1 ⊢
      go_meet
      case rel => exact ⟨by rw [e5], rfl, own1, q0', q1', gC⟩
  case rest =>
    obtain ⟨rfl, rfl, own, q0, q1, HB⟩ := hcut
    obtain ⟨M, hM⟩ : ∃ M, M = 0 :: L := ⟨_, rfl⟩
    rw [← hM] at own ML ⊢
    have M0 : 0 < M.length := by rw [hM]; simp
    have M9 : M.length ≤ 256 := by rw [hM]; simp; omega
    have HM : Hid (M = 0 :: L) := hM
    clear hM FL RM0
    obtain ⟨g, cap, rfl, gb, gc, gm⟩ := own_form own M0
    obtain ⟨W1, hW1⟩ : ∃ W1, W1 = wc := ⟨_, rfl⟩
    rw [← hW1] at own q0 q1 HB ⊢
    clear hW1
    have gl := (World.ownsRow.lt own g rfl).2
    have s1 := HB.size
    go_wp2
    go_loopw [7, 15] (fun o f wr => ∃ j : Nat, f = .int .i64 j ∧ j ≤ M.length ∧ wr.ownsRow W1.heap.size 3 1 o ((M.take j).filter p).length (((M.take j).filter p).map encM) ∧ Below W1.heap.size W1 wr) (fun _ f _ => M.length - (intOf f).toNat)
    case atStart => exact ⟨0, rfl, by omega, World.ownsRow_nil _ _ _ _, Below.refl _ _⟩
    case round =>
      obtain ⟨j, rfl, jl, row, HC⟩ := hrel
      have sC := HC.size
      by_cases cj : j < M.length
      · obtain ⟨x, hx⟩ : ∃ x, M[j]? = some x := ⟨M[j], List.getElem?_eq_getElem cj⟩
        have x8 : x < 256 := ML.out.1 x (List.mem_of_getElem? hx)
        have cx : wr.cell? ⟨g, j, none⟩ = some (.int .i64 (x : Int)) := by
          have := World.ownsRow.cells (own_later own HC) rfl j (encM x) (by rw [List.getElem?_map, hx]; rfl)
          rw [Addr.add_lit] at this
          simpa using this
        have j0 : (0 : Int) ≤ (j : Int) := by omega
        have j1 : (j : Int) < (M.length : Int) := by omega
        have gl' : g < wr.heap.size := by omega
        have TK : M.take (j + 1) = M.take j ++ [x] := by rw [List.take_add_one, hx]; rfl
        have TY : Hid (p x = true → (M.take (j + 1)).filter p = (M.take j).filter p ++ [x]) := fun h => by rw [TK, snoc_yes h]
        have TN : Hid (p x = false → (M.take (j + 1)).filter p = (M.take j).filter p) := fun h => by rw [TK, snoc_no h]
        have RL : ((M.take j).filter p).length ≤ 255 := by
          have := List.length_filter_le p (M.take j)
          rw [List.length_take] at this
          omega
        have OF : Hid (∀ w, Calls Try.prog 13 #[.int .i64 x] w fun e w' => e = .returned (setV x) ∧ Below w.heap.size w w') := fun w => OF0.out x w x8
        have EN : Hid (∀ w, Calls Try.prog 12 #[frV F, setV x, ndV K] w fun e w' => e = .returned (.bool (p x)) ∧ Below w.heap.size w w') := fun w => EN0.out x w
        have q0' := Cs.later HC q0
        have q1' := Cs.later HC q1
        clear TK hx x8
        go_upto_region 5 with (fail)
        obtain ⟨W5, hW5⟩ : ∃ W5, W5 = wr := ⟨_, rfl⟩
        rw [← hW5] at row HC cx q0' q1' sC gl' ⊢
        clear hW5
        go_cut [23] (fun s23 wc => s23 = .bool (p x) ∧ Below W5.heap.size W5 wc)
        case first =>
          have F_0 : Hid (Below W5.heap.size W5 _) := Below.drew (Below.refl _ _)
          refine wp_region_noPanic ?_
          refine wp_region_held_drew (S := fun w' => Cs w' w.heap.size (frL F) ∧ Cs w' (w.heap.size + 1) (kL K)) (by kernel_rfl) ?_ (fun hHeld => ?_)
          · exact ⟨Cs.later F_0.out q0', Cs.later F_0.out q1'⟩
          refine wpAnyH_take (i := 0) (v := ?_) rfl (by kernel_rfl) (by kernel_rfl) (by kernel_rfl) (fun _ _ _ h => h) (Or.inl ⟨by rfl, ?_⟩) (by assumption) ?_
          rotate_left
          · (intro wS hSw; have c0 := hSw.1.1 0 _ rfl; have c1 := hSw.1.1 1 _ rfl; have c2 := hSw.1.1 2 _ rfl; have c3 := hSw.1.1 3 _ rfl; have c4 := hSw.1.1 4 _ rfl; have c5 := hSw.1.1 5 _ rfl; have c6 := hSw.1.1 6 _ rfl; have c7 := hSw.1.1 7 _ rfl; have c8 := hSw.1.1 8 _ rfl; have c9 := hSw.1.1 9 _ rfl; have c10 := hSw.1.1 10 _ rfl; have c11 := hSw.1.1 11 _ rfl; have c12 := hSw.1.1 12 _ rfl; have c13 := hSw.1.1 13 _ rfl; have c14 := hSw.1.1 14 _ rfl; have c15 := hSw.1.1 15 _ rfl; have zc := hSw.1.2.2; have k0 := hSw.2.1 0 _ rfl; have k1 := hSw.2.1 1 _ rfl; have zk := hSw.2.2.2; go_simp; try with_reducible rfl)
          change wpAnyH _ _ _ _ _ _ _ (Act.put _ (some 19) _) _
          simp only [Act.put, List.setIfInBounds_toArray, List.set_cons_zero, List.set_cons_succ]
          refine wpAnyH_take (i := 1) (v := ?_) rfl (by kernel_rfl) (by kernel_rfl) (by kernel_rfl) (fun _ _ _ h => h) (Or.inl ⟨by rfl, ?_⟩) (by assumption) ?_
          rotate_left
          · (intro wS hSw; have c0 := hSw.1.1 0 _ rfl; have c1 := hSw.1.1 1 _ rfl; have c2 := hSw.1.1 2 _ rfl; have c3 := hSw.1.1 3 _ rfl; have c4 := hSw.1.1 4 _ rfl; have c5 := hSw.1.1 5 _ rfl; have c6 := hSw.1.1 6 _ rfl; have c7 := hSw.1.1 7 _ rfl; have c8 := hSw.1.1 8 _ rfl; have c9 := hSw.1.1 9 _ rfl; have c10 := hSw.1.1 10 _ rfl; have c11 := hSw.1.1 11 _ rfl; have c12 := hSw.1.1 12 _ rfl; have c13 := hSw.1.1 13 _ rfl; have c14 := hSw.1.1 14 _ rfl; have c15 := hSw.1.1 15 _ rfl; have zc := hSw.1.2.2; have k0 := hSw.2.1 0 _ rfl; have k1 := hSw.2.1 1 _ rfl; have zk := hSw.2.2.2; go_simp; try with_reducible rfl)
          change wpAnyH _ _ _ _ _ _ _ (Act.put _ (some 20) _) _
          simp only [Act.put, List.setIfInBounds_toArray, List.set_cons_zero, List.set_cons_succ]
          refine wpAnyH_take (i := 3) (v := ?_) rfl (by kernel_rfl) (by kernel_rfl) (by kernel_rfl) (fun _ _ _ h => h) (Or.inl ⟨by rfl, ?_⟩) (by assumption) ?_
          rotate_left
          · (intro wS hSw; have c0 := hSw.1.1 0 _ rfl; have c1 := hSw.1.1 1 _ rfl; have c2 := hSw.1.1 2 _ rfl; have c3 := hSw.1.1 3 _ rfl; have c4 := hSw.1.1 4 _ rfl; have c5 := hSw.1.1 5 _ rfl; have c6 := hSw.1.1 6 _ rfl; have c7 := hSw.1.1 7 _ rfl; have c8 := hSw.1.1 8 _ rfl; have c9 := hSw.1.1 9 _ rfl; have c10 := hSw.1.1 10 _ rfl; have c11 := hSw.1.1 11 _ rfl; have c12 := hSw.1.1 12 _ rfl; have c13 := hSw.1.1 13 _ rfl; have c14 := hSw.1.1 14 _ rfl; have c15 := hSw.1.1 15 _ rfl; have zc := hSw.1.2.2; have k0 := hSw.2.1 0 _ rfl; have k1 := hSw.2.1 1 _ rfl; have zk := hSw.2.2.2; go_simp; try with_reducible rfl)
          change wpAnyH _ _ _ _ _ _ _ (Act.put _ (some 22) _) _
          simp only [Act.put, List.setIfInBounds_toArray, List.set_cons_zero, List.set_cons_succ]
          refine wpAnyH_ready (rs := [2]) (by kernel_rfl) (by simp) ?_
          refine AllReadyH.cons rfl (fun K hK => ?_) AllReadyH.nil
          go_simp
          refine (OF.out _).mono ?_
          rintro e v1 ⟨rfl, hv1⟩
          have F_1 : Hid (Below W5.heap.size W5 v1) := F_0.out.trans (hv1.mono F_0.out.size)
          clear hv1 F_0
          (try go_wp2_with (fail))
          refine hK.out _ _ ?_ (fun hHeld => ?_)
          · exact ⟨Cs.later F_1.out q0', Cs.later F_1.out q1'⟩
          clear hK K
          refine wpAnyH_ready (rs := [4]) (by kernel_rfl) (by simp) ?_
          refine AllReadyH.cons rfl (fun K hK => ?_) AllReadyH.nil
          go_simp
          refine (EN.out _).mono ?_
          rintro e v2 ⟨rfl, hv2⟩
          have F_2 : Hid (Below W5.heap.size W5 v2) := F_1.out.trans (hv2.mono F_1.out.size)
          clear hv2 F_1
          (try go_wp2_with (fail))
          refine hK.out _ _ ?_ (fun hHeld => ?_)
          · exact ⟨Cs.later F_2.out q0', Cs.later F_2.out q1'⟩
          clear hK K
          refine wpAnyH_done (by kernel_rfl) ?_ _
          refine NoPanic.normal ?_
          (try go_wp2)
          go_meet
          case rel => exact ⟨rfl, F_2.out⟩
        case rest =>
          obtain ⟨rfl, HW⟩ := hcut
          have row2 := own_later row HW
          have HC2 := HC.trans (HW.mono HC.size)
          have sC2 := HC2.size
          clear row HC HW cx q0' q1' OF EN sC gl'
          cases hp : p x with
          | false =>
            have T9 := TN.out hp
            have HT : Hid _ := T9
            clear TY TN T9 hp
            go_wp2
            go_roundw
            case rel => exact ⟨j + 1, by go_num, by omega, by rw [HT.out]; exact row2, HC2⟩
            case measure => simp [intOf]; omega
          | true =>
            have T9 := TY.out hp
            have HT : Hid _ := T9
            clear TY TN T9 hp
            obtain ⟨a, c, rfl⟩ := own_slice row2
            go_wp2_with (first
              | (at_builtin; refine wpList_append_own _ rfl _ _ 34 rfl W1.heap.size 3 i0 (.int .i64 0) 1 8 Try.underlying34 hi hz0 hz1 hz2 rfl (by decide) _ _ _ rfl (row2.alloc _) ⟨wc.heap.size, 0, none⟩ 1 1 [encM x] rfl rfl (cell_one_new _ _ _) (by simp [Value.oneCell']) (by unfold maxLen; omega) (by omega) (by simp; omega) ?_; intro v1 w4 own1 hgrow _)
              | fail)
            have HC4 : Below W1.heap.size W1 w4 := (HC2.alloc HC2.size (.cells #[encM x] 3)).grown hgrow (by simp; omega) (fun k hk => (World.ownsRow.lt row2 k hk).1)
            have own2 : w4.ownsRow W1.heap.size 3 1 v1 ((M.take (j + 1)).filter p).length (((M.take (j + 1)).filter p).map encM) := by
              rw [HT.out, List.length_append, List.length_singleton, List.map_append]
              exact own1
            clear row2 own1 hgrow HT
            go_wp2
            go_roundw
            case rel => exact ⟨j + 1, by go_num, by omega, own2, HC4⟩
            case measure => simp [intOf]; omega
      · obtain rfl : j = M.length := by omega
        rw [List.take_length] at row
        have HBB : Below w.heap.size w wr := HB.trans (HC.mono s1)
        have row3 : wr.ownsRow w.heap.size 3 1 _ (M.filter p).length ((M.filter p).map encM) := ownsRow_weak row s1
        clear row own q0 q1 HC
        go_wp2
        go_ret
        exact ⟨_, rfl, by rw [← HM.out]; exact row3, HBB⟩

end Go.Proofs.Ytkjaiahdkolmdaa.Mk
