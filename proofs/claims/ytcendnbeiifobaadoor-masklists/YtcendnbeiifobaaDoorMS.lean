/-
  The statement MaskLists as a contract at this program. Conditions: the slice reads as a list of numbers; how many are asked for is an int.
-/
import Derived.Test.YtcendnbeiifobaaDoorMT
import Derived.Test.YtcendnbeiifobaaDoorMI
namespace Go.Proofs.YtcendnbeiifobaaDoor.Mk
open Go.RowKit

theorem setL_zero : setL 0 = [.bool false, .bool false, .bool false, .bool false, .bool false, .bool false, .bool false, .bool false] := rfl
theorem withB_out {b : Nat} {i : Int} (h : ¬ (0 ≤ i ∧ i < 8)) : withB b i = b := by rw [withB, bitN_out h, Nat.or_zero]
abbrev mkI (k : Nat) : List Int := (fullM k).map fun x : Nat => (x : Int)
theorem lawmasks_read (m : Int) (k : Nat) (w : World) :
    Calls Tryd.prog 25 #[.int .i64 m, .int .i64 k] w fun e w' => ∃ v, e = .returned v ∧ RdI w' v ((mkI (held m)).take k) ∧ Below w.heap.size w w' :=
  (lawmasks_own m k w).mono fun e w' ⟨v, he, own, hb⟩ => ⟨v, he, own_read (by rw [← List.map_take, List.map_map]; exact own), hb⟩
theorem rmasks_read (k : Nat) (hk : k ≤ 8) (w : World) :
    Calls Tryd.prog 23 #[.int .i64 k] w fun e w' => ∃ v, e = .returned v ∧ RdI w' v (mkI k) ∧ Below w.heap.size w w' :=
  (rmasks_is k hk w).mono fun e w' ⟨v, he, own, hb⟩ => ⟨v, he, own_read (by rw [List.map_map]; exact own), hb⟩

theorem slice_to (a : Option Addr) (len cap e : Nat) (he : e ≤ len) (hc : len ≤ cap) (hm : cap ≤ maxLen) (w : World) :
    (Instr.slice 26 (.slice a len cap) none (some (.int .i64 (e : Int))) none).run Tryd.prog w = .ok (.slice a e cap) w := by
  have h0 : (0 : Int) ≤ (e : Int) := by omega
  have h1 : (e : Int) ≤ (cap : Int) := by omega
  have h2 : (cap : Int) ≤ 9223372036854775807 := by unfold maxLen at hm; omega
  cases a <;> simp [go_sem, h0, h1]
theorem RdI.first {W : World} {a : Option Addr} {cap : Nat} {zs : List Int} (h : RdI W (.slice a zs.length cap) zs) (k : Nat) : RdI W (.slice a (min k zs.length) cap) (zs.take k) := by
  have := h.take (k := min k zs.length) (by omega)
  rwa [← List.take_eq_take_min] at this

set_option maxHeartbeats 4000000 in
set_option maxRecDepth 100000 in
theorem maskLists_any {v : Value} {zs : List Int} (w : World) (h : RdI w v zs) (n most : Int) (_ : -9223372036854775808 ≤ most ∧ most ≤ 9223372036854775807) :
    Calls Tryd.prog 4 #[v, .int .i64 n, .int .i64 most] w fun e w' => e = .returned (.bool true) ∧ Below w.heap.size w w' := by
  have HZ : Hid (RdI w v zs) := h
  obtain ⟨a, cap, rfl, h1, h2, h3⟩ := h
  have H3 : Hid (∀ (j : Nat) (d : Int), zs[j]? = some d → ∃ b off : Nat, a = some ⟨b, off, none⟩ ∧ w.cell? ⟨b, off + j, none⟩ = some (.int .i64 d)) := h3
  have zl : zs.length ≤ maxLen := by omega
  unfold maxLen at zl
  clear h3
  by_cases hl : 300 < zs.length
  · have hl' : (300 : Int) < (zs.length : Int) := by omega
    clear HZ H3
    go_enter Tryd.func4, Tryd.ntmps4
    go_wp2_with (fail)
    refine (first_is _).mono ?_
    rintro e w1 ⟨rfl, hw1⟩
    go_wp2
    go_ret
    exact ⟨rfl, hw1⟩
  have hl' : ¬ (300 : Int) < (zs.length : Int) := by omega
  obtain ⟨k, hk⟩ : ∃ k : Nat, k = (max 0 (min most 300)).toNat := ⟨_, rfl⟩
  have KI : max 0 (min most 300) = (k : Int) := by omega
  obtain ⟨t, ht⟩ : ∃ t, t = held n := ⟨_, rfl⟩
  have t8 : t ≤ 8 := by rw [ht]; exact held_le n
  have TI : max 0 (min n 8) = (t : Int) := by rw [ht]; unfold held; omega
  obtain ⟨m, hm⟩ : ∃ m, m = ofL zs := ⟨_, rfl⟩
  have m8 : m < 256 := by rw [hm]; exact foldl_lt zs 0 (by omega)
  have HM : Hid ((zs.drop 0).foldl withB 0 = m) := hm.symm
  have C41 : Hid (∀ w, RdI w (.slice a zs.length cap) zs → Calls Tryd.prog 24 #[.slice a zs.length cap] w fun e w' => e = .returned (.int .i64 m) ∧ w' = w) := fun w h => by rw [hm]; exact of_is w h
  have C39 : Hid (∀ w, Calls Tryd.prog 23 #[.int .i64 t] w fun e w' => ∃ v, e = .returned v ∧ RdI w' v (mkI t) ∧ Below w.heap.size w w') := rmasks_read t t8
  have C44 : Hid (∀ w, Calls Tryd.prog 13 #[setV m] w fun e w' => e = .returned (.int .i64 m) ∧ Below w.heap.size w w') := rmask_is m m8
  have C49 : Hid (∀ w, Calls Tryd.prog 25 #[.int .i64 n, .int .i64 k] w fun e w' => ∃ v, e = .returned v ∧ RdI w' v ((mkI t).take k) ∧ Below w.heap.size w w') := fun w => by rw [ht]; exact lawmasks_read n k w
  have C61 : Hid (∀ w, Calls Tryd.prog 20 #[.int .i64 m, .int .i64 k] w fun e w' => ∃ v, e = .returned v ∧ RdI w' v ((ndI m).take k) ∧ Below w.heap.size w w') := fun w => by
    have := lawnodes_read m k w
    rwa [low_of m8] at this
  have C63 : Hid (∀ w, Calls Tryd.prog 9 #[setV m] w fun e w' => ∃ v, e = .returned v ∧ RdI w' v (ndI m) ∧ Below w.heap.size w w') := rnodes_read m
  have SM : Hid (∀ w u v (xs : List Int), RdI w u xs → RdI w v xs → Calls Tryd.prog 19 #[u, v] w fun e w' => e = .returned (.bool true) ∧ Below w.heap.size w w') := fun w u v xs h1 h2 => by
    have := same_is w h1 h2
    rw [decide_eq_true rfl] at this
    exact this
  clear hk ht hm m8 t8 hl
  generalize mkI t = ms at *
  generalize ndI m = ns at *
  go_enter Tryd.func4, Tryd.ntmps4
  go_wp2_with (fail)
  refine (first_is _).mono ?_
  rintro e w1 ⟨rfl, hw1⟩
  go_wp2
  have q1 : Cs (w1.alloc (.cells #[.bool false, .bool false, .bool false, .bool false, .bool false, .bool false, .bool false, .bool false] 24)) w1.heap.size (setL 0) := Cs.new _ _ _ _ rfl
  have HB1 : Below w.heap.size w (w1.alloc (.cells #[.bool false, .bool false, .bool false, .bool false, .bool false, .bool false, .bool false, .bool false] 24)) := hw1.alloc hw1.size _
  go_loopw [20] (fun f wr => ∃ j s : Nat, f = .int .i64 j ∧ j ≤ zs.length ∧ Hid (s < 256) ∧ Hid ((zs.drop j).foldl withB s = m) ∧ Cs wr w1.heap.size (setL s) ∧ Below w.heap.size w wr) (fun f _ => zs.length - (intOf f).toNat)
  case atStart => exact ⟨0, 0, rfl, by omega, by show 0 < 256; omega, HM, q1, HB1⟩
  case round =>
    clear q1 HB1 HM
    obtain ⟨j, s, rfl, jl, HS, HO, q1, HB⟩ := hrel
    have hs1 := hw1.size
    by_cases cj : j < zs.length
    · obtain ⟨d, hdj⟩ : ∃ d, zs[j]? = some d := ⟨zs[j], List.getElem?_eq_getElem cj⟩
      obtain ⟨b, off, rfl, cell⟩ := H3.out j d hdj
      have cw := cell_later HB cell
      have E := HO.out
      rw [List.drop_eq_getElem_cons cj, show zs[j] = d from (List.getElem?_eq_some_iff.1 hdj).2, List.foldl_cons] at E
      have j0 : (0 : Int) ≤ (j : Int) := by omega
      have j1 : (j : Int) < (zs.length : Int) := by omega
      by_cases hd : 0 ≤ d ∧ d < 8
      · obtain ⟨i, hi⟩ : ∃ i : Nat, d = i := ⟨d.toNat, by omega⟩
        subst hi
        have i8 : i < 8 := by omega
        have i0 : (0 : Int) ≤ (i : Int) := hd.1
        have i1 : (i : Int) < 8 := hd.2
        have HS' : Hid (withB s (i : Int) < 256) := withB_lt HS.out _
        have HE : Hid ((zs.drop (j + 1)).foldl withB (withB s (i : Int)) = m) := E
        have c1 := q1.1 i _ (setL_at s i8)
        have f1 := q1.2.1 i i8
        have q2 := q1.set i (.bool true) i8
        rw [set_with HS.out i8] at q2
        have HB' : Below w.heap.size w (wr.setCell ⟨w1.heap.size, i, none⟩ (.bool true)) := HB.setCell (p := ⟨w1.heap.size, i, none⟩) hs1 _
        clear C41 C39 C44 C49 C61 C63 SM HZ E HO hdj cell q1 HB hd
        go_wp2
        go_roundw
        case rel => exact ⟨j + 1, _, by go_num, by omega, HS', HE, q2, HB'⟩
        case measure => simp [intOf]; omega
      · rw [withB_out hd] at E
        have HE : Hid ((zs.drop (j + 1)).foldl withB s = m) := E
        clear C41 C39 C44 C49 C61 C63 SM HZ E HO hdj cell
        by_cases d1 : 0 ≤ d
        · have d2 : ¬ d < 8 := fun h => hd ⟨d1, h⟩
          clear hd
          go_wp2
          go_roundw
          case rel => exact ⟨j + 1, s, by go_num, by omega, HS, HE, q1, HB⟩
          case measure => simp [intOf]; omega
        · clear hd
          go_wp2
          go_roundw
          case rel => exact ⟨j + 1, s, by go_num, by omega, HS, HE, q1, HB⟩
          case measure => simp [intOf]; omega
    · obtain rfl : j = zs.length := by omega
      have E := HO.out
      rw [List.drop_length, List.foldl_nil] at E
      subst E
      have HM8 : Hid (s < 256) := HS
      clear HO HS jl cj H3
      go_wp2_with (fail)
      refine (C39.out _).mono ?_
      rintro e w2 ⟨v2, rfl, hv2, hw2⟩
      have HB2 := HB.trans (hw2.mono HB.size)
      have q2 := Cs.later hw2 q1
      obtain ⟨am, cm, rfl, m1, m2, -⟩ := id hv2
      have HV2 : Hid (RdI w2 (.slice am ms.length cm) ms) := hv2
      clear HB hw2 q1 hv2 C39
      go_wp2_with (fail)
      refine (C41.out _ (HZ.out.later HB2)).mono ?_
      rintro e w3 ⟨rfl, hw⟩
      rw [hw]
      clear hw C41 HZ
      have ML : ms.length ≤ maxLen := by omega
      unfold maxLen at ML
      obtain ⟨e1, he1⟩ : ∃ e1, e1 = min k ms.length := ⟨_, rfl⟩
      have M1 : min (k : Int) (ms.length : Int) = (e1 : Int) := by omega
      have sl1 : ∀ w : World, (Instr.slice 26 (.slice am ms.length cm) none (some (.int .i64 (e1 : Int))) none).run Tryd.prog w = .ok (.slice am e1 cm) w := slice_to am ms.length cm e1 (by omega) m1 m2
      have RT1 : Hid (∀ W, RdI W (.slice am ms.length cm) ms → RdI W (.slice am e1 cm) (ms.take k)) := fun W h => by rw [he1]; exact h.first k
      obtain ⟨e2, he2⟩ : ∃ e2, e2 = min k ns.length := ⟨_, rfl⟩
      have M2 : min (k : Int) (ns.length : Int) = (e2 : Int) := by omega
      have SL2 : Hid (∀ (an : Option Addr) (cn : Nat), ns.length ≤ cn → cn ≤ maxLen → ∀ w : World, (Instr.slice 26 (.slice an ns.length cn) none (some (.int .i64 (e2 : Int))) none).run Tryd.prog w = .ok (.slice an e2 cn) w) := fun an cn g1 g2 => slice_to an ns.length cn e2 (by omega) g1 g2
      have RT2 : Hid (∀ (an : Option Addr) (cn : Nat) W, RdI W (.slice an ns.length cn) ns → RdI W (.slice an e2 cn) (ns.take k)) := fun an cn W h => by rw [he2]; exact h.first k
      clear he1 he2
      go_upto_region 15 with (fail)
      have F_0 : Hid (Cs _ w1.heap.size (setL s) ∧ RdI _ (.slice am ms.length cm) ms ∧ Below w.heap.size w _) := ⟨Cs.drew q2, HV2.out.later (Below.drew (Below.refl _ _)), Below.drew HB2⟩
      refine wp_region_noPanic ?_
      refine wp_region_held_drew (S := fun w' => Cs w' w1.heap.size (setL s)) (by kernel_rfl) ?_ (fun hHeld => ?_)
      · exact F_0.out.1
      refine wpAnyH_take (i := 0) (v := ?_) rfl (by kernel_rfl) (by kernel_rfl) (by kernel_rfl) (fun _ _ _ h => h) (Or.inl ⟨by rfl, ?_⟩) (by assumption) ?_
      rotate_left
      · (intro wS hSw; have r0 := hSw.1 0 _ rfl; have r1 := hSw.1 1 _ rfl; have r2 := hSw.1 2 _ rfl; have r3 := hSw.1 3 _ rfl; have r4 := hSw.1 4 _ rfl; have r5 := hSw.1 5 _ rfl; have r6 := hSw.1 6 _ rfl; have r7 := hSw.1 7 _ rfl; have rz := hSw.2.2; go_simp; try with_reducible rfl)
      change wpAnyH _ _ _ _ _ _ _ (Act.put _ (some 42) _) _
      simp only [Act.put, List.setIfInBounds_toArray, List.set_cons_zero, List.set_cons_succ]
      refine wpAnyH_take (i := 1) (v := ?_) rfl (by kernel_rfl) (by kernel_rfl) (by kernel_rfl) (fun _ _ _ h => h) (Or.inl ⟨by rfl, ?_⟩) (by assumption) ?_
      rotate_left
      · (intro wS hSw; have r0 := hSw.1 0 _ rfl; have r1 := hSw.1 1 _ rfl; have r2 := hSw.1 2 _ rfl; have r3 := hSw.1 3 _ rfl; have r4 := hSw.1 4 _ rfl; have r5 := hSw.1 5 _ rfl; have r6 := hSw.1 6 _ rfl; have r7 := hSw.1 7 _ rfl; have rz := hSw.2.2; go_simp; try with_reducible rfl)
      change wpAnyH _ _ _ _ _ _ _ (Act.put _ (some 43) _) _
      simp only [Act.put, List.setIfInBounds_toArray, List.set_cons_zero, List.set_cons_succ]
      refine wpAnyH_ready (rs := [2]) (by kernel_rfl) (by simp) ?_
      refine AllReadyH.cons rfl (fun K hK => ?_) AllReadyH.nil
      go_simp
      refine (C44.out _).mono ?_
      rintro e v1 ⟨rfl, hv1⟩
      have F_1 : Hid (Cs v1 w1.heap.size (setL s) ∧ RdI v1 (.slice am ms.length cm) ms ∧ Below w.heap.size w v1) := ⟨Cs.later hv1 F_0.out.1, F_0.out.2.1.later hv1, F_0.out.2.2.trans (hv1.mono F_0.out.2.2.size)⟩
      clear hv1 F_0
      (try go_wp2_with (fail))
      refine hK.out _ _ ?_ (fun hHeld => ?_)
      · exact F_1.out.1
      clear hK K
      refine wpAnyH_take (i := 3) (v := ?_) rfl (by kernel_rfl) (by kernel_rfl) (by kernel_rfl) (fun _ _ _ h => h) (Or.inl ⟨by rfl, ?_⟩) (by assumption) ?_
      rotate_left
      · (intro wS hSw; have r0 := hSw.1 0 _ rfl; have r1 := hSw.1 1 _ rfl; have r2 := hSw.1 2 _ rfl; have r3 := hSw.1 3 _ rfl; have r4 := hSw.1 4 _ rfl; have r5 := hSw.1 5 _ rfl; have r6 := hSw.1 6 _ rfl; have r7 := hSw.1 7 _ rfl; have rz := hSw.2.2; go_simp; try with_reducible rfl)
      change wpAnyH _ _ _ _ _ _ _ (Act.put _ (some 45) _) _
      simp only [Act.put, List.setIfInBounds_toArray, List.set_cons_zero, List.set_cons_succ]
      refine wpAnyH_take (i := 4) (v := ?_) rfl (by kernel_rfl) (by kernel_rfl) (by kernel_rfl) (fun _ _ _ h => h) (Or.inl ⟨by rfl, ?_⟩) (by assumption) ?_
      rotate_left
      · (intro wS hSw; have r0 := hSw.1 0 _ rfl; have r1 := hSw.1 1 _ rfl; have r2 := hSw.1 2 _ rfl; have r3 := hSw.1 3 _ rfl; have r4 := hSw.1 4 _ rfl; have r5 := hSw.1 5 _ rfl; have r6 := hSw.1 6 _ rfl; have r7 := hSw.1 7 _ rfl; have rz := hSw.2.2; go_simp; try with_reducible rfl)
      change wpAnyH _ _ _ _ _ _ _ (Act.put _ (some 46) _) _
      simp only [Act.put, List.setIfInBounds_toArray, List.set_cons_zero, List.set_cons_succ]
      refine wpAnyH_take (i := 5) (v := ?_) rfl (by kernel_rfl) (by kernel_rfl) (by kernel_rfl) (fun _ _ _ h => h) (Or.inl ⟨by rfl, ?_⟩) (by assumption) ?_
      rotate_left
      · (intro wS hSw; have r0 := hSw.1 0 _ rfl; have r1 := hSw.1 1 _ rfl; have r2 := hSw.1 2 _ rfl; have r3 := hSw.1 3 _ rfl; have r4 := hSw.1 4 _ rfl; have r5 := hSw.1 5 _ rfl; have r6 := hSw.1 6 _ rfl; have r7 := hSw.1 7 _ rfl; have rz := hSw.2.2; go_simp; try with_reducible rfl)
      change wpAnyH _ _ _ _ _ _ _ (Act.put _ (some 47) _) _
      simp only [Act.put, List.setIfInBounds_toArray, List.set_cons_zero, List.set_cons_succ]
      refine wpAnyH_take (i := 6) (v := ?_) rfl (by kernel_rfl) (by kernel_rfl) (by kernel_rfl) (fun _ _ _ h => h) (Or.inl ⟨by rfl, ?_⟩) (by assumption) ?_
      rotate_left
      · (intro wS hSw; have r0 := hSw.1 0 _ rfl; have r1 := hSw.1 1 _ rfl; have r2 := hSw.1 2 _ rfl; have r3 := hSw.1 3 _ rfl; have r4 := hSw.1 4 _ rfl; have r5 := hSw.1 5 _ rfl; have r6 := hSw.1 6 _ rfl; have r7 := hSw.1 7 _ rfl; have rz := hSw.2.2; go_simp; try with_reducible rfl)
      change wpAnyH _ _ _ _ _ _ _ (Act.put _ (some 48) _) _
      simp only [Act.put, List.setIfInBounds_toArray, List.set_cons_zero, List.set_cons_succ]
      refine wpAnyH_take (i := 8) (v := ?_) rfl (by kernel_rfl) (by kernel_rfl) (by kernel_rfl) (fun _ _ _ h => h) (Or.inl ⟨by rfl, ?_⟩) (by assumption) ?_
      rotate_left
      · (intro wS hSw; have r0 := hSw.1 0 _ rfl; have r1 := hSw.1 1 _ rfl; have r2 := hSw.1 2 _ rfl; have r3 := hSw.1 3 _ rfl; have r4 := hSw.1 4 _ rfl; have r5 := hSw.1 5 _ rfl; have r6 := hSw.1 6 _ rfl; have r7 := hSw.1 7 _ rfl; have rz := hSw.2.2; go_simp; try with_reducible rfl)
      change wpAnyH _ _ _ _ _ _ _ (Act.put _ (some 50) _) _
      simp only [Act.put, List.setIfInBounds_toArray, List.set_cons_zero, List.set_cons_succ]
      refine wpAnyH_take (i := 9) (v := ?_) rfl (by kernel_rfl) (by kernel_rfl) (by kernel_rfl) (fun _ _ _ h => h) (Or.inl ⟨by rfl, ?_⟩) (by assumption) ?_
      rotate_left
      · (intro wS hSw; have r0 := hSw.1 0 _ rfl; have r1 := hSw.1 1 _ rfl; have r2 := hSw.1 2 _ rfl; have r3 := hSw.1 3 _ rfl; have r4 := hSw.1 4 _ rfl; have r5 := hSw.1 5 _ rfl; have r6 := hSw.1 6 _ rfl; have r7 := hSw.1 7 _ rfl; have rz := hSw.2.2; go_simp; try with_reducible rfl)
      change wpAnyH _ _ _ _ _ _ _ (Act.put _ (some 51) _) _
      simp only [Act.put, List.setIfInBounds_toArray, List.set_cons_zero, List.set_cons_succ]
      refine wpAnyH_take (i := 10) (v := ?_) rfl (by kernel_rfl) (by kernel_rfl) (by kernel_rfl) (fun _ _ _ h => h) (Or.inl ⟨by rfl, ?_⟩) (by assumption) ?_
      rotate_left
      · (intro wS hSw; have r0 := hSw.1 0 _ rfl; have r1 := hSw.1 1 _ rfl; have r2 := hSw.1 2 _ rfl; have r3 := hSw.1 3 _ rfl; have r4 := hSw.1 4 _ rfl; have r5 := hSw.1 5 _ rfl; have r6 := hSw.1 6 _ rfl; have r7 := hSw.1 7 _ rfl; have rz := hSw.2.2; go_simp; try with_reducible rfl)
      change wpAnyH _ _ _ _ _ _ _ (Act.put _ (some 52) _) _
      simp only [Act.put, List.setIfInBounds_toArray, List.set_cons_zero, List.set_cons_succ]
      refine wpAnyH_take (i := 11) (v := ?_) rfl (by kernel_rfl) (by kernel_rfl) (by kernel_rfl) (fun _ _ _ h => h) (Or.inl ⟨by rfl, ?_⟩) (by assumption) ?_
      rotate_left
      · (intro wS hSw; have r0 := hSw.1 0 _ rfl; have r1 := hSw.1 1 _ rfl; have r2 := hSw.1 2 _ rfl; have r3 := hSw.1 3 _ rfl; have r4 := hSw.1 4 _ rfl; have r5 := hSw.1 5 _ rfl; have r6 := hSw.1 6 _ rfl; have r7 := hSw.1 7 _ rfl; have rz := hSw.2.2; go_simp; try with_reducible rfl)
      change wpAnyH _ _ _ _ _ _ _ (Act.put _ (some 53) _) _
      simp only [Act.put, List.setIfInBounds_toArray, List.set_cons_zero, List.set_cons_succ]
      refine wpAnyH_take (i := 12) (v := ?_) rfl (by kernel_rfl) (by kernel_rfl) (by kernel_rfl) (fun _ _ _ h => h) (Or.inl ⟨by rfl, ?_⟩) (by assumption) ?_
      rotate_left
      · (intro wS hSw; have r0 := hSw.1 0 _ rfl; have r1 := hSw.1 1 _ rfl; have r2 := hSw.1 2 _ rfl; have r3 := hSw.1 3 _ rfl; have r4 := hSw.1 4 _ rfl; have r5 := hSw.1 5 _ rfl; have r6 := hSw.1 6 _ rfl; have r7 := hSw.1 7 _ rfl; have rz := hSw.2.2; go_simp; try with_reducible rfl)
      change wpAnyH _ _ _ _ _ _ _ (Act.put _ (some 54) _) _
      simp only [Act.put, List.setIfInBounds_toArray, List.set_cons_zero, List.set_cons_succ]
      refine wpAnyH_take (i := 13) (v := ?_) rfl (by kernel_rfl) (by kernel_rfl) (by kernel_rfl) (fun _ _ _ h => h) (Or.inl ⟨by rfl, ?_⟩) (by assumption) ?_
      rotate_left
      · (intro wS hSw; have r0 := hSw.1 0 _ rfl; have r1 := hSw.1 1 _ rfl; have r2 := hSw.1 2 _ rfl; have r3 := hSw.1 3 _ rfl; have r4 := hSw.1 4 _ rfl; have r5 := hSw.1 5 _ rfl; have r6 := hSw.1 6 _ rfl; have r7 := hSw.1 7 _ rfl; have rz := hSw.2.2; go_simp; try with_reducible rfl)
      change wpAnyH _ _ _ _ _ _ _ (Act.put _ (some 55) _) _
      simp only [Act.put, List.setIfInBounds_toArray, List.set_cons_zero, List.set_cons_succ]
      refine wpAnyH_ready (rs := [7]) (by kernel_rfl) (by simp) ?_
      refine AllReadyH.cons rfl (fun K hK => ?_) AllReadyH.nil
      go_simp
      refine (C49.out _).mono ?_
      rintro e v2 ⟨v1, rfl, hv9, hv2⟩
      have F_2 : Hid (Cs v2 w1.heap.size (setL s) ∧ RdI v2 (.slice am ms.length cm) ms ∧ RdI v2 v1 (ms.take k) ∧ Below w.heap.size w v2) := ⟨Cs.later hv2 F_1.out.1, F_1.out.2.1.later hv2, hv9, F_1.out.2.2.trans (hv2.mono F_1.out.2.2.size)⟩
      clear hv2 F_1
      (try go_wp2_with (fail))
      refine hK.out _ _ ?_ (fun hHeld => ?_)
      · exact F_2.out.1
      clear hK K
      refine wpAnyH_ready (rs := [14]) (by kernel_rfl) (by simp) ?_
      refine AllReadyH.cons rfl (fun K hK => ?_) AllReadyH.nil
      go_simp
      refine (SM.out _ _ _ _ F_2.out.2.2.1 (RT1.out _ F_2.out.2.1)).mono ?_
      rintro e v3 ⟨rfl, hv3⟩
      have F_3 : Hid (Cs v3 w1.heap.size (setL s) ∧ RdI v3 (.slice am ms.length cm) ms ∧ RdI v3 v1 (ms.take k) ∧ Below w.heap.size w v3) := ⟨Cs.later hv3 F_2.out.1, F_2.out.2.1.later hv3, F_2.out.2.2.1.later hv3, F_2.out.2.2.2.trans (hv3.mono F_2.out.2.2.2.size)⟩
      clear hv3 F_2
      (try go_wp2_with (fail))
      refine hK.out _ _ ?_ (fun hHeld => ?_)
      · exact F_3.out.1
      clear hK K
      refine wpAnyH_take (i := 15) (v := ?_) rfl (by kernel_rfl) (by kernel_rfl) (by kernel_rfl) (fun _ _ _ h => h) (Or.inl ⟨by rfl, ?_⟩) (by assumption) ?_
      rotate_left
      · (intro wS hSw; have r0 := hSw.1 0 _ rfl; have r1 := hSw.1 1 _ rfl; have r2 := hSw.1 2 _ rfl; have r3 := hSw.1 3 _ rfl; have r4 := hSw.1 4 _ rfl; have r5 := hSw.1 5 _ rfl; have r6 := hSw.1 6 _ rfl; have r7 := hSw.1 7 _ rfl; have rz := hSw.2.2; go_simp; try with_reducible rfl)
      change wpAnyH _ _ _ _ _ _ _ (Act.put _ (some 57) _) _
      simp only [Act.put, List.setIfInBounds_toArray, List.set_cons_zero, List.set_cons_succ]
      refine wpAnyH_take (i := 16) (v := ?_) rfl (by kernel_rfl) (by kernel_rfl) (by kernel_rfl) (fun _ _ _ h => h) (Or.inl ⟨by rfl, ?_⟩) (by assumption) ?_
      rotate_left
      · (intro wS hSw; have r0 := hSw.1 0 _ rfl; have r1 := hSw.1 1 _ rfl; have r2 := hSw.1 2 _ rfl; have r3 := hSw.1 3 _ rfl; have r4 := hSw.1 4 _ rfl; have r5 := hSw.1 5 _ rfl; have r6 := hSw.1 6 _ rfl; have r7 := hSw.1 7 _ rfl; have rz := hSw.2.2; go_simp; try with_reducible rfl)
      change wpAnyH _ _ _ _ _ _ _ (Act.put _ (some 58) _) _
      simp only [Act.put, List.setIfInBounds_toArray, List.set_cons_zero, List.set_cons_succ]
      refine wpAnyH_take (i := 17) (v := ?_) rfl (by kernel_rfl) (by kernel_rfl) (by kernel_rfl) (fun _ _ _ h => h) (Or.inl ⟨by rfl, ?_⟩) (by assumption) ?_
      rotate_left
      · (intro wS hSw; have r0 := hSw.1 0 _ rfl; have r1 := hSw.1 1 _ rfl; have r2 := hSw.1 2 _ rfl; have r3 := hSw.1 3 _ rfl; have r4 := hSw.1 4 _ rfl; have r5 := hSw.1 5 _ rfl; have r6 := hSw.1 6 _ rfl; have r7 := hSw.1 7 _ rfl; have rz := hSw.2.2; go_simp; try with_reducible rfl)
      change wpAnyH _ _ _ _ _ _ _ (Act.put _ (some 59) _) _
      simp only [Act.put, List.setIfInBounds_toArray, List.set_cons_zero, List.set_cons_succ]
      refine wpAnyH_take (i := 18) (v := ?_) rfl (by kernel_rfl) (by kernel_rfl) (by kernel_rfl) (fun _ _ _ h => h) (Or.inl ⟨by rfl, ?_⟩) (by assumption) ?_
      rotate_left
      · (intro wS hSw; have r0 := hSw.1 0 _ rfl; have r1 := hSw.1 1 _ rfl; have r2 := hSw.1 2 _ rfl; have r3 := hSw.1 3 _ rfl; have r4 := hSw.1 4 _ rfl; have r5 := hSw.1 5 _ rfl; have r6 := hSw.1 6 _ rfl; have r7 := hSw.1 7 _ rfl; have rz := hSw.2.2; go_simp; try with_reducible rfl)
      change wpAnyH _ _ _ _ _ _ _ (Act.put _ (some 60) _) _
      simp only [Act.put, List.setIfInBounds_toArray, List.set_cons_zero, List.set_cons_succ]
      refine wpAnyH_take (i := 20) (v := ?_) rfl (by kernel_rfl) (by kernel_rfl) (by kernel_rfl) (fun _ _ _ h => h) (Or.inl ⟨by rfl, ?_⟩) (by assumption) ?_
      rotate_left
      · (intro wS hSw; have r0 := hSw.1 0 _ rfl; have r1 := hSw.1 1 _ rfl; have r2 := hSw.1 2 _ rfl; have r3 := hSw.1 3 _ rfl; have r4 := hSw.1 4 _ rfl; have r5 := hSw.1 5 _ rfl; have r6 := hSw.1 6 _ rfl; have r7 := hSw.1 7 _ rfl; have rz := hSw.2.2; go_simp; try with_reducible rfl)
      change wpAnyH _ _ _ _ _ _ _ (Act.put _ (some 62) _) _
      simp only [Act.put, List.setIfInBounds_toArray, List.set_cons_zero, List.set_cons_succ]
      refine wpAnyH_take (i := 22) (v := ?_) rfl (by kernel_rfl) (by kernel_rfl) (by kernel_rfl) (fun _ _ _ h => h) (Or.inl ⟨by rfl, ?_⟩) (by assumption) ?_
      rotate_left
      · (intro wS hSw; have r0 := hSw.1 0 _ rfl; have r1 := hSw.1 1 _ rfl; have r2 := hSw.1 2 _ rfl; have r3 := hSw.1 3 _ rfl; have r4 := hSw.1 4 _ rfl; have r5 := hSw.1 5 _ rfl; have r6 := hSw.1 6 _ rfl; have r7 := hSw.1 7 _ rfl; have rz := hSw.2.2; go_simp; try with_reducible rfl)
      change wpAnyH _ _ _ _ _ _ _ (Act.put _ (some 64) _) _
      simp only [Act.put, List.setIfInBounds_toArray, List.set_cons_zero, List.set_cons_succ]
      refine wpAnyH_take (i := 23) (v := ?_) rfl (by kernel_rfl) (by kernel_rfl) (by kernel_rfl) (fun _ _ _ h => h) (Or.inl ⟨by rfl, ?_⟩) (by assumption) ?_
      rotate_left
      · (intro wS hSw; have r0 := hSw.1 0 _ rfl; have r1 := hSw.1 1 _ rfl; have r2 := hSw.1 2 _ rfl; have r3 := hSw.1 3 _ rfl; have r4 := hSw.1 4 _ rfl; have r5 := hSw.1 5 _ rfl; have r6 := hSw.1 6 _ rfl; have r7 := hSw.1 7 _ rfl; have rz := hSw.2.2; go_simp; try with_reducible rfl)
      change wpAnyH _ _ _ _ _ _ _ (Act.put _ (some 65) _) _
      simp only [Act.put, List.setIfInBounds_toArray, List.set_cons_zero, List.set_cons_succ]
      refine wpAnyH_ready (rs := [19]) (by kernel_rfl) (by simp) ?_
      refine AllReadyH.cons rfl (fun K hK => ?_) AllReadyH.nil
      go_simp
      refine (C61.out _).mono ?_
      rintro e v4 ⟨v3, rfl, hv9, hv4⟩
      have F_4 : Hid (Cs v4 w1.heap.size (setL s) ∧ RdI v4 (.slice am ms.length cm) ms ∧ RdI v4 v1 (ms.take k) ∧ RdI v4 v3 (ns.take k) ∧ Below w.heap.size w v4) := ⟨Cs.later hv4 F_3.out.1, F_3.out.2.1.later hv4, F_3.out.2.2.1.later hv4, hv9, F_3.out.2.2.2.trans (hv4.mono F_3.out.2.2.2.size)⟩
      clear hv4 F_3
      (try go_wp2_with (fail))
      refine hK.out _ _ ?_ (fun hHeld => ?_)
      · exact F_4.out.1
      clear hK K
      refine wpAnyH_ready (rs := [21]) (by kernel_rfl) (by simp) ?_
      refine AllReadyH.cons rfl (fun K hK => ?_) AllReadyH.nil
      go_simp
      refine (C63.out _).mono ?_
      rintro e v5 ⟨v4, rfl, ⟨an, cn, rfl, n1, n2, n3⟩, hv5⟩
      have F_5 : Hid (Cs v5 w1.heap.size (setL s) ∧ RdI v5 (.slice am ms.length cm) ms ∧ RdI v5 v1 (ms.take k) ∧ RdI v5 v3 (ns.take k) ∧ RdI v5 (.slice an ns.length cn) ns ∧ Below w.heap.size w v5) := ⟨Cs.later hv5 F_4.out.1, F_4.out.2.1.later hv5, F_4.out.2.2.1.later hv5, F_4.out.2.2.2.1.later hv5, ⟨an, cn, rfl, n1, n2, n3⟩, F_4.out.2.2.2.2.trans (hv5.mono F_4.out.2.2.2.2.size)⟩
      clear hv5 F_4
      (try go_wp2_with (fail))
      refine hK.out _ _ ?_ (fun hHeld => ?_)
      · exact F_5.out.1
      clear hK K
      have sl2 := SL2.out an cn n1 n2
      clear n3
      refine wpAnyH_ready (rs := [24]) (by kernel_rfl) (by simp) ?_
      refine AllReadyH.cons rfl (fun K hK => ?_) AllReadyH.nil
      go_simp
      refine (C63.out _).mono ?_
      rintro e v6 ⟨v5, rfl, ⟨an2, cn2, rfl, n4, n5, -⟩, hv6⟩
      have F_6 : Hid (Cs v6 w1.heap.size (setL s) ∧ RdI v6 (.slice am ms.length cm) ms ∧ RdI v6 v1 (ms.take k) ∧ RdI v6 v3 (ns.take k) ∧ RdI v6 (.slice an ns.length cn) ns ∧ Below w.heap.size w v6) := ⟨Cs.later hv6 F_5.out.1, F_5.out.2.1.later hv6, F_5.out.2.2.1.later hv6, F_5.out.2.2.2.1.later hv6, F_5.out.2.2.2.2.1.later hv6, F_5.out.2.2.2.2.2.trans (hv6.mono F_5.out.2.2.2.2.2.size)⟩
      clear hv6 F_5
      (try go_wp2_with (fail))
      refine hK.out _ _ ?_ (fun hHeld => ?_)
      · exact F_6.out.1
      clear hK K
      refine wpAnyH_take (i := 25) (v := ?_) rfl (by kernel_rfl) (by kernel_rfl) (by kernel_rfl) (fun _ _ _ h => h) (Or.inl ⟨by rfl, ?_⟩) (by assumption) ?_
      rotate_left
      · (intro wS hSw; have r0 := hSw.1 0 _ rfl; have r1 := hSw.1 1 _ rfl; have r2 := hSw.1 2 _ rfl; have r3 := hSw.1 3 _ rfl; have r4 := hSw.1 4 _ rfl; have r5 := hSw.1 5 _ rfl; have r6 := hSw.1 6 _ rfl; have r7 := hSw.1 7 _ rfl; have rz := hSw.2.2; go_simp; try with_reducible rfl)
      change wpAnyH _ _ _ _ _ _ _ (Act.put _ (some 67) _) _
      simp only [Act.put, List.setIfInBounds_toArray, List.set_cons_zero, List.set_cons_succ]
      refine wpAnyH_take (i := 26) (v := ?_) rfl (by kernel_rfl) (by kernel_rfl) (by kernel_rfl) (fun _ _ _ h => h) (Or.inl ⟨by rfl, ?_⟩) (by assumption) ?_
      rotate_left
      · (intro wS hSw; have r0 := hSw.1 0 _ rfl; have r1 := hSw.1 1 _ rfl; have r2 := hSw.1 2 _ rfl; have r3 := hSw.1 3 _ rfl; have r4 := hSw.1 4 _ rfl; have r5 := hSw.1 5 _ rfl; have r6 := hSw.1 6 _ rfl; have r7 := hSw.1 7 _ rfl; have rz := hSw.2.2; go_simp; try with_reducible rfl)
      change wpAnyH _ _ _ _ _ _ _ (Act.put _ (some 68) _) _
      simp only [Act.put, List.setIfInBounds_toArray, List.set_cons_zero, List.set_cons_succ]
      refine wpAnyH_take (i := 27) (v := ?_) rfl (by kernel_rfl) (by kernel_rfl) (by kernel_rfl) (fun _ _ _ h => h) (Or.inl ⟨by rfl, ?_⟩) (by assumption) ?_
      rotate_left
      · (intro wS hSw; have r0 := hSw.1 0 _ rfl; have r1 := hSw.1 1 _ rfl; have r2 := hSw.1 2 _ rfl; have r3 := hSw.1 3 _ rfl; have r4 := hSw.1 4 _ rfl; have r5 := hSw.1 5 _ rfl; have r6 := hSw.1 6 _ rfl; have r7 := hSw.1 7 _ rfl; have rz := hSw.2.2; go_simp; try with_reducible rfl)
      change wpAnyH _ _ _ _ _ _ _ (Act.put _ (some 69) _) _
      simp only [Act.put, List.setIfInBounds_toArray, List.set_cons_zero, List.set_cons_succ]
      refine wpAnyH_ready (rs := [28]) (by kernel_rfl) (by simp) ?_
      refine AllReadyH.cons rfl (fun K hK => ?_) AllReadyH.nil
      go_simp
      refine (SM.out _ _ _ _ F_6.out.2.2.2.1 (RT2.out _ _ _ F_6.out.2.2.2.2.1)).mono ?_
      rintro e v7 ⟨rfl, hv7⟩
      have F_7 : Hid (Cs v7 w1.heap.size (setL s) ∧ RdI v7 (.slice am ms.length cm) ms ∧ RdI v7 v1 (ms.take k) ∧ RdI v7 v3 (ns.take k) ∧ RdI v7 (.slice an ns.length cn) ns ∧ Below w.heap.size w v7) := ⟨Cs.later hv7 F_6.out.1, F_6.out.2.1.later hv7, F_6.out.2.2.1.later hv7, F_6.out.2.2.2.1.later hv7, F_6.out.2.2.2.2.1.later hv7, F_6.out.2.2.2.2.2.trans (hv7.mono F_6.out.2.2.2.2.2.size)⟩
      clear hv7 F_6
      (try go_wp2_with (fail))
      refine hK.out _ _ ?_ (fun hHeld => ?_)
      · exact F_7.out.1
      clear hK K
      refine wpAnyH_take (i := 29) (v := ?_) rfl (by kernel_rfl) (by kernel_rfl) (by kernel_rfl) (fun _ _ _ h => h) (Or.inl ⟨by rfl, ?_⟩) (by assumption) ?_
      rotate_left
      · (intro wS hSw; have r0 := hSw.1 0 _ rfl; have r1 := hSw.1 1 _ rfl; have r2 := hSw.1 2 _ rfl; have r3 := hSw.1 3 _ rfl; have r4 := hSw.1 4 _ rfl; have r5 := hSw.1 5 _ rfl; have r6 := hSw.1 6 _ rfl; have r7 := hSw.1 7 _ rfl; have rz := hSw.2.2; go_simp; try with_reducible rfl)
      change wpAnyH _ _ _ _ _ _ _ (Act.put _ (some 71) _) _
      simp only [Act.put, List.setIfInBounds_toArray, List.set_cons_zero, List.set_cons_succ]
      refine wpAnyH_take (i := 30) (v := ?_) rfl (by kernel_rfl) (by kernel_rfl) (by kernel_rfl) (fun _ _ _ h => h) (Or.inl ⟨by rfl, ?_⟩) (by assumption) ?_
      rotate_left
      · (intro wS hSw; have r0 := hSw.1 0 _ rfl; have r1 := hSw.1 1 _ rfl; have r2 := hSw.1 2 _ rfl; have r3 := hSw.1 3 _ rfl; have r4 := hSw.1 4 _ rfl; have r5 := hSw.1 5 _ rfl; have r6 := hSw.1 6 _ rfl; have r7 := hSw.1 7 _ rfl; have rz := hSw.2.2; go_simp; try with_reducible rfl)
      change wpAnyH _ _ _ _ _ _ _ (Act.put _ (some 6) _) _
      simp only [Act.put, List.setIfInBounds_toArray, List.set_cons_zero, List.set_cons_succ]
      refine wpAnyH_done (by kernel_rfl) ?_ _
      refine NoPanic.normal ?_
      have F9 := F_7.out.2.2.2.2.2
      go_wp2_with (fail)
      go_ret
      exact ⟨rfl, F9⟩

end Go.Proofs.YtcendnbeiifobaaDoor.Mk
