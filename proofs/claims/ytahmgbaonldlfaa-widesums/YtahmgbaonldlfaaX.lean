/-
  The walk of the statement WideSums: it returns true. Conditions: all words lie below 2^64.
-/
import Derived.Test.YtahmgbaonldlfaaK
import Derived.Test.YtahmgbaonldlfaaX0
import Derived.Deep.RegionHeld3
import Derived.Deep.RegionWith
import Derived.Deep.CutRange
import Derived.Deep.DeepCutAuto
namespace Go.Proofs.Ytahmgbaonldlfaa
open Go.RowKit

set_option maxHeartbeats 40000000 in
set_option maxRecDepth 100000 in
theorem sums_any (ah al bh bl u : Int) (w : World) (a0 : 0 ≤ al) (a1 : al < 18446744073709551616) (a2 : 0 ≤ ah) (a3 : ah < 18446744073709551616) (b0 : 0 ≤ bl) (b1 : bl < 18446744073709551616) (b2 : 0 ≤ bh) (b3 : bh < 18446744073709551616)
    (u0 : 0 ≤ u) (u1 : u < 18446744073709551616) :
    Calls Try.prog 4 #[.agg #[.int .u64 ah, .int .u64 al], .agg #[.int .u64 bh, .int .u64 bl], .int .u64 u] w fun e w' => e = .returned (.bool true) ∧ Below w.heap.size w w' := by
  go_enter Try.func4, Try.ntmps4
  go_wp2_with (fail)
  refine (first_any _).mono ?_
  rintro e w1 ⟨rfl, hw1⟩
  have C0 := cell_later hw1 (a := ⟨w.heap.size, 0, none⟩) (v := .int .u64 ah) (by simp [go_sem])
  have C1 := cell_later hw1 (a := ⟨w.heap.size, 1, none⟩) (v := .int .u64 al) (by simp [go_sem])
  have C2 := cell_later hw1 (a := ⟨w.heap.size + 1, 0, none⟩) (v := .int .u64 bh) (by simp [go_sem])
  have C3 := cell_later hw1 (a := ⟨w.heap.size + 1, 1, none⟩) (v := .int .u64 bl) (by simp [go_sem])
  obtain ⟨HB1, -, -, s1⟩ := aft hw1 (B := w.heap.size) (W0 := w) (by go_grown) (by first | omega | (simp; done) | (simp; omega))
  clear hw1
  (try simp at s1)
  have K1 : Hid (Kn w [(w.heap.size, ah, al), (w.heap.size + 1, bh, bl)] [] w1.drew) := Kn.two ⟨C0, C1, by simp; omega⟩ ⟨C2, C3, by simp; omega⟩ (by simp; omega) HB1.drew
  clear HB1
  go_wp2_with (fail)
  go_cut [7, 8] (fun s7 s8 wc => ∃ px py : Nat, s7 = .pointer (some ⟨px, 0, none⟩) ∧ s8 = .pointer (some ⟨py, 0, none⟩) ∧ Kn w [(w.heap.size, ah, al), (w.heap.size + 1, bh, bl)] [(px, (ah * 18446744073709551616 + al)), (py, (bh * 18446744073709551616 + bl))] wc)
  case first =>
    refine wp_region_noPanic ?_
    refine wp_region_held_drew (S := fun w' => Pair w' w.heap.size ah al ∧ Pair w' (w.heap.size + 1) bh bl) (by kernel_rfl) ?_ (fun hHeld => ?_)
    · exact ⟨⟨C0, C1, by simp; omega⟩, C2, C3, by simp; omega⟩
    refine wpAnyH_take (i := 0) (v := ?_) rfl (by kernel_rfl) (by kernel_rfl) (by kernel_rfl) (fun _ _ _ h => h) (Or.inl ⟨by rfl, ?_⟩) (by assumption) ?_
    rotate_left
    · (intro wS hSw; obtain ⟨⟨g0, g1, -⟩, g2, g3, -⟩ := hSw; go_simp; try with_reducible rfl)
    change wpAnyH _ _ _ _ _ _ _ (Act.put _ (some 22) _) _
    simp only [Act.put, List.setIfInBounds_toArray, List.set_cons_zero, List.set_cons_succ]
    refine wpAnyH_take (i := 2) (v := ?_) rfl (by kernel_rfl) (by kernel_rfl) (by kernel_rfl) (fun _ _ _ h => h) (Or.inl ⟨by rfl, ?_⟩) (by assumption) ?_
    rotate_left
    · (intro wS hSw; obtain ⟨⟨g0, g1, -⟩, g2, g3, -⟩ := hSw; go_simp; try with_reducible rfl)
    change wpAnyH _ _ _ _ _ _ _ (Act.put _ (some 24) _) _
    simp only [Act.put, List.setIfInBounds_toArray, List.set_cons_zero, List.set_cons_succ]
    refine wpAnyH_named ?_
    intro A hA
    clear hHeld
    refine wpAnyH_inv (I := fun L a W => ∃ (c1 c3 c4 c5 c6 c7 : Bool) (s23 s25 s7 s8 : Value), L = #[true, c1, true, c3, c4, c5, c6, c7] ∧ a = ((((A.put (some 23) s23).put (some 25) s25).put (some 7) s7).put (some 8) s8) ∧ Hid (Below w1.heap.size w1.drew W) ∧ Hid (c1 = true → s23 = dv (ah * 18446744073709551616 + al)) ∧ Hid (c3 = true → s25 = dv (bh * 18446744073709551616 + bl)) ∧ Hid (MadeL w1.heap.size 20 c4 c6 s7 (dl (wd (ah * 18446744073709551616 + al))) W) ∧ Hid (MadeL w1.heap.size 20 c5 c7 s8 (dl (wd (bh * 18446744073709551616 + bl))) W) ∧ Hid (c4 = true → c5 = true → s7 ≠ s8)) ?hS ?hz (by kernel_rfl) ?hsteps ?hend _ _ _ _ (by decide) ?h0
    case hS => rintro L a W ⟨c1, c3, c4, c5, c6, c7, s23, s25, s7, s8, -, -, K, -⟩; have hb := K.out; clear K; exact (fun h => h) (⟨(K1.out.later hb).1 (w.heap.size, ah, al) (by simp), (K1.out.later hb).1 (w.heap.size + 1, bh, bl) (by simp)⟩)
    case hz => rintro L a W ⟨c1, c3, c4, c5, c6, c7, s23, s25, s7, s8, rfl, -⟩; rfl
    case h0 => exact ⟨false, false, false, false, false, false, A.eval (.tmp 23), A.eval (.tmp 25), A.eval (.tmp 7), A.eval (.tmp 8), rfl, by simp only [put_self], Below.refl _ _, fun h => Bool.noConfusion h, fun h => Bool.noConfusion h, MadeL.not _ _ _ _ _, MadeL.not _ _ _ _ _, fun h => Bool.noConfusion h⟩
    case hend =>
      rintro L a W ⟨c1, c3, c4, c5, c6, c7, s23, s25, s7, s8, rfl, rfl, K, k1, k3, k4, k5, d4_5⟩ hall
      obtain rfl : c1 = true := hall 1
      obtain rfl : c3 = true := hall 3
      obtain rfl : c4 = true := hall 4
      obtain rfl : c5 = true := hall 5
      obtain rfl : c6 = true := hall 6
      obtain rfl : c7 = true := hall 7
      obtain ⟨p4, rfl, -, z4, -, r4'⟩ := k4.out.2 rfl
      have r4 := r4' rfl
      clear r4'
      obtain ⟨p5, rfl, -, z5, -, r5'⟩ := k5.out.2 rfl
      have r5 := r5' rfl
      clear r5'
      obtain rfl := k1.out rfl
      obtain rfl := k3.out rfl
      clear k1 k3 k4 k5 d4_5
      refine NoPanic.normal ?_
      subst hA
      simp only [Act.put, List.setIfInBounds_toArray, List.set_cons_zero, List.set_cons_succ]
      have R : Hid (Kn w [(w.heap.size, ah, al), (w.heap.size + 1, bh, bl)] [(p4, (ah * 18446744073709551616 + al)), (p5, (bh * 18446744073709551616 + bl))] W) := (Kn.later K1.out K.out).ranges ⟨r4, z4⟩ ⟨r5, z5⟩
      clear K r4 r5
      go_wp2_with (fail)
      go_meet
      case rel => exact ⟨p4, p5, rfl, rfl, R.out⟩
    case hsteps =>
      refine StepsI.skip (i := 0) (by rintro L a W ⟨c1, c3, c4, c5, c6, c7, s23, s25, s7, s8, rfl, -⟩; rfl) ?_
      refine StepsI.cons (i := 1) rfl ?_ ?_
      · rintro L a W ⟨c1, c3, c4, c5, c6, c7, s23, s25, s7, s8, rfl, rfl, K, k1, k3, k4, k5, d4_5⟩ h0 hd KK hK
        obtain rfl : c1 = false := h0
        subst hA
        simp only [Act.put, List.setIfInBounds_toArray, List.set_cons_zero, List.set_cons_succ]
        clear hd
        go_simp
        refine (rof_dv ah al _ a0 a1 a2 a3).mono ?_
        rintro e w2 ⟨rfl, hw2⟩
        (try go_wp2_with (fail))
        exact hK.out _ _ ⟨true, c3, c4, c5, c6, c7, dv (ah * 18446744073709551616 + al), s25, s7, s8, rfl, by simp only [Act.put, List.setIfInBounds_toArray, List.set_cons_zero, List.set_cons_succ], K.out.trans (hw2.mono K.out.size), fun _ => rfl, k3.out, k4.out.later hw2, k5.out.later hw2, d4_5.out⟩
      refine StepsI.skip (i := 2) (by rintro L a W ⟨c1, c3, c4, c5, c6, c7, s23, s25, s7, s8, rfl, -⟩; rfl) ?_
      refine StepsI.cons (i := 3) rfl ?_ ?_
      · rintro L a W ⟨c1, c3, c4, c5, c6, c7, s23, s25, s7, s8, rfl, rfl, K, k1, k3, k4, k5, d4_5⟩ h0 hd KK hK
        obtain rfl : c3 = false := h0
        subst hA
        simp only [Act.put, List.setIfInBounds_toArray, List.set_cons_zero, List.set_cons_succ]
        clear hd
        go_simp
        refine (rof_dv bh bl _ b0 b1 b2 b3).mono ?_
        rintro e w2 ⟨rfl, hw2⟩
        (try go_wp2_with (fail))
        exact hK.out _ _ ⟨c1, true, c4, c5, c6, c7, s23, dv (bh * 18446744073709551616 + bl), s7, s8, rfl, by simp only [Act.put, List.setIfInBounds_toArray, List.set_cons_zero, List.set_cons_succ], K.out.trans (hw2.mono K.out.size), k1.out, fun _ => rfl, k4.out.later hw2, k5.out.later hw2, d4_5.out⟩
      refine StepsI.cons (i := 4) rfl ?_ ?_
      · rintro L a W ⟨c1, c3, c4, c5, c6, c7, s23, s25, s7, s8, rfl, rfl, K, k1, k3, k4, k5, d4_5⟩ h0 hd KK hK
        obtain rfl : c4 = false := h0
        subst hA
        simp only [Act.put, List.setIfInBounds_toArray, List.set_cons_zero, List.set_cons_succ]
        clear hd
        go_simp
        exact hK.out _ _ ⟨c1, c3, true, c5, c6, c7, s23, s25, .pointer (some ⟨W.heap.size, 0, none⟩), s8, rfl, by simp only [Act.put, List.setIfInBounds_toArray, List.set_cons_zero, List.set_cons_succ], K.out.alloc K.out.size _, k1.out, k3.out, k4.out.new K.out.size _ (by rfl), k5.out.alloc _, fun _ hc => by subst hc; exact k5.out.ne⟩
      refine StepsI.cons (i := 5) rfl ?_ ?_
      · rintro L a W ⟨c1, c3, c4, c5, c6, c7, s23, s25, s7, s8, rfl, rfl, K, k1, k3, k4, k5, d4_5⟩ h0 hd KK hK
        obtain rfl : c5 = false := h0
        subst hA
        simp only [Act.put, List.setIfInBounds_toArray, List.set_cons_zero, List.set_cons_succ]
        clear hd
        go_simp
        exact hK.out _ _ ⟨c1, c3, c4, true, c6, c7, s23, s25, s7, .pointer (some ⟨W.heap.size, 0, none⟩), rfl, by simp only [Act.put, List.setIfInBounds_toArray, List.set_cons_zero, List.set_cons_succ], K.out.alloc K.out.size _, k1.out, k3.out, k4.out.alloc _, k5.out.new K.out.size _ (by rfl), fun hc _ => by subst hc; exact k4.out.ne.symm⟩
      refine StepsI.cons (i := 6) rfl ?_ ?_
      · rintro L a W ⟨c1, c3, c4, c5, c6, c7, s23, s25, s7, s8, rfl, rfl, K, k1, k3, k4, k5, d4_5⟩ h0 hd KK hK
        obtain rfl : c6 = false := h0
        obtain rfl : c4 = true := hd ⟨4, .data⟩ (by simp) rfl
        obtain rfl : c1 = true := hd ⟨1, .data⟩ (by simp) rfl
        obtain rfl : c5 = true := hd ⟨5, .phase⟩ (by simp) rfl
        have e := k1.out rfl
        subst hA
        simp only [Act.put, List.setIfInBounds_toArray, List.set_cons_zero, List.set_cons_succ]
        clear hd
        rw [if_pos (by rfl)]
        refine MadeL.store k4.out _ _ _ rfl rfl (by rfl) e (dl_len _) dig_info (dl_each _) ?_
        exact hK.out _ _ ⟨true, c3, true, true, true, c7, s23, s25, s7, s8, rfl, by simp only [Act.put, List.setIfInBounds_toArray, List.set_cons_zero, List.set_cons_succ], below_cells _ k4.out.ge _ 0 K.out, k1.out, k3.out, k4.out.put (dl_len _), k5.out.beside k4.out _ (d4_5.out rfl rfl), d4_5.out⟩
      refine StepsI.cons (i := 7) rfl ?_ ?_
      · rintro L a W ⟨c1, c3, c4, c5, c6, c7, s23, s25, s7, s8, rfl, rfl, K, k1, k3, k4, k5, d4_5⟩ h0 hd KK hK
        obtain rfl : c7 = false := h0
        obtain rfl : c5 = true := hd ⟨5, .data⟩ (by simp) rfl
        obtain rfl : c3 = true := hd ⟨3, .data⟩ (by simp) rfl
        obtain rfl : c4 = true := hd ⟨4, .phase⟩ (by simp) rfl
        have e := k3.out rfl
        subst hA
        simp only [Act.put, List.setIfInBounds_toArray, List.set_cons_zero, List.set_cons_succ]
        clear hd
        rw [if_pos (by rfl)]
        refine MadeL.store k5.out _ _ _ rfl rfl (by rfl) e (dl_len _) dig_info (dl_each _) ?_
        exact hK.out _ _ ⟨c1, true, true, true, c6, true, s23, s25, s7, s8, rfl, by simp only [Act.put, List.setIfInBounds_toArray, List.set_cons_zero, List.set_cons_succ], below_cells _ k5.out.ge _ 0 K.out, k1.out, k3.out, k4.out.beside k5.out _ ((d4_5.out rfl rfl).symm), k5.out.put (dl_len _), d4_5.out⟩
      exact StepsI.nil
  case rest =>
    obtain ⟨px, py, rfl, rfl, F0⟩ := hcut
    clear C0 C1 C2 C3 s1 K1
    have hA0 : 0 ≤ (ah * 18446744073709551616 + al) ∧ (ah * 18446744073709551616 + al) < 340282366920938463463374607431768211456 := by omega
    have hB0 : 0 ≤ (bh * 18446744073709551616 + bl) ∧ (bh * 18446744073709551616 + bl) < 340282366920938463463374607431768211456 := by omega
    have p20 := pow20
    obtain ⟨S, hS⟩ : ∃ S, S = (ah * 18446744073709551616 + al) + (bh * 18446744073709551616 + bl) := ⟨_, rfl⟩
    have hS0 : 0 ≤ S ∧ S < 65536 ^ 20 := by omega
    obtain ⟨M, hM⟩ : ∃ M, M = (ah * 18446744073709551616 + al) * u := ⟨_, rfl⟩
    have hM0 : 0 ≤ M ∧ M < 65536 ^ 20 := by rw [hM, p20]; exact prod_in _ _ hA0.1 hA0.2 u0 u1
    obtain ⟨D, hD⟩ : ∃ D, D = (ah * 18446744073709551616 + al) - (bh * 18446744073709551616 + bl) := ⟨_, rfl⟩
    obtain ⟨lt, hlt⟩ : ∃ lt, lt = decide (D < 0) := ⟨_, rfl⟩
    have hll : Hid (decide ((ah * 18446744073709551616 + al) < (bh * 18446744073709551616 + bl)) = lt) := by unfold Hid; rw [hlt, hD, decide_eq_decide]; omega
    have hD0 : Hid (lt = false → 0 ≤ D ∧ D < 65536 ^ 20) := by unfold Hid; intro h; rw [hlt] at h; simp at h; omega
    have HS : Hid (S = (ah * 18446744073709551616 + al) + (bh * 18446744073709551616 + bl)) := hS
    have HM : Hid (M = (ah * 18446744073709551616 + al) * u) := hM
    have HD : Hid (D = (ah * 18446744073709551616 + al) - (bh * 18446744073709551616 + bl)) := hD
    have HL : Hid (lt = decide (D < 0)) := hlt
    have HA : Hid (0 ≤ (ah * 18446744073709551616 + al) ∧ (ah * 18446744073709551616 + al) < 340282366920938463463374607431768211456) := hA0
    have HB : Hid (0 ≤ (bh * 18446744073709551616 + bl) ∧ (bh * 18446744073709551616 + bl) < 340282366920938463463374607431768211456) := hB0
    have H20 : Hid ((65536 : Int) ^ 20 = 2135987035920910082395021706169552114602704522356652769947041607822219725780640550022962086936576) := p20
    have S0 : Hid (0 ≤ S ∧ S < 65536 ^ 20) := hS0
    have M0 : Hid (0 ≤ M ∧ M < 65536 ^ 20) := hM0
    clear hS hM hD hlt hA0 hB0 p20 hS0 hM0
    have F1 : Hid (Kn w ([(w.heap.size, ah, al), (w.heap.size + 1, bh, bl)]) [(px, (ah * 18446744073709551616 + al)), (py, (bh * 18446744073709551616 + bl))] wc) := F0
    clear F0
    obtain ⟨p0, p1, pz⟩ := F1.out.1 (w.heap.size, ah, al) (by simp)
    obtain ⟨q0, q1, qz⟩ := F1.out.1 (w.heap.size + 1, bh, bl) (by simp)
    dsimp only at p0 p1 pz q0 q1 qz
    go_wp2_with (fail)
    refine (add_wv ah al bh bl _ a0 a1 a2 a3 b0 b1 b2 b3 S HS.out).mono ?_
    rintro e w2 ⟨rfl, hw2⟩
    have F2 : Hid (Kn w ((w2.heap.size, wh S, wl S) :: [(w.heap.size, ah, al), (w.heap.size + 1, bh, bl)]) [(px, (ah * 18446744073709551616 + al)), (py, (bh * 18446744073709551616 + bl))] (w2.alloc (.cells #[.int .u64 (wh S), .int .u64 (wl S)] 24))) := (F1.out.later hw2).new (wh S) (wl S) 24
    clear p0 p1 pz q0 q1 qz
    clear hw2 F1
    go_upto_region 5 with (fail)
    generalize w2.alloc (.cells #[.int .u64 (wh S), .int .u64 (wl S)] 24) = W2 at F2 ⊢
    generalize w2.heap.size = p9 at F2 ⊢
    refine wp_region_lit ?_
    refine wpList_load_mid rfl _ _ rfl px 0 rfl (dl (wd (ah * 18446744073709551616 + al))) _ (F2.out.2.1 (px, (ah * 18446744073709551616 + al)) (by simp)).1 Try.underlying27 rfl (by rw [dl_len]; exact dig_info) ?_
    simp only [Act.put, List.setIfInBounds_toArray, List.set_cons_zero, List.set_cons_succ]
    refine wpList_load_mid rfl _ _ rfl py 0 rfl (dl (wd (bh * 18446744073709551616 + bl))) _ (F2.out.2.1 (py, (bh * 18446744073709551616 + bl)) (by simp)).1 Try.underlying27 rfl (by rw [dl_len]; exact dig_info) ?_
    simp only [Act.put, List.setIfInBounds_toArray, List.set_cons_zero, List.set_cons_succ]
    go_wp2_with (fail)
    refine (plus_dv (ah * 18446744073709551616 + al) (bh * 18446744073709551616 + bl) _ HA.out.1 HB.out.1 (by rw [← HS.out]; exact S0.out.2)).mono ?_
    rintro e w3 ⟨rfl, hw3⟩
    rw [← HS.out]
    go_wp2_with (fail)
    refine (wide_dv S _ S0.out.1 S0.out.2).mono ?_
    rintro e w4 ⟨rfl, hw4⟩
    have F4 : Hid (Kn w ((w4.heap.size, wh S, wl S) :: (p9, wh S, wl S) :: [(w.heap.size, ah, al), (w.heap.size + 1, bh, bl)]) [(px, (ah * 18446744073709551616 + al)), (py, (bh * 18446744073709551616 + bl))] (w4.alloc (.cells #[.int .u64 (wh S), .int .u64 (wl S)] 24))) := ((F2.out.later hw3).later hw4).new (wh S) (wl S) 24
    clear hw3 hw4 F2
    go_upto_region 6 with (fail)
    generalize w4.alloc (.cells #[.int .u64 (wh S), .int .u64 (wl S)] 24) = W4 at F4 ⊢
    generalize w4.heap.size = p11 at F4 ⊢
    obtain ⟨p0, p1, pz⟩ := F4.out.1 (w.heap.size, ah, al) (by simp)
    obtain ⟨q0, q1, qz⟩ := F4.out.1 (w.heap.size + 1, bh, bl) (by simp)
    dsimp only at p0 p1 pz q0 q1 qz
    go_wp2_with (fail)
    refine (times_wv ah al u _ a0 a1 a2 a3 u0 u1 M HM.out).mono ?_
    rintro e w5 ⟨rfl, hw5⟩
    have F5 : Hid (Kn w ((w5.heap.size, wh M, wl M) :: (p11, wh S, wl S) :: (p9, wh S, wl S) :: [(w.heap.size, ah, al), (w.heap.size + 1, bh, bl)]) [(px, (ah * 18446744073709551616 + al)), (py, (bh * 18446744073709551616 + bl))] (w5.alloc (.cells #[.int .u64 (wh M), .int .u64 (wl M)] 24))) := (F4.out.later hw5).new (wh M) (wl M) 24
    clear p0 p1 pz q0 q1 qz
    clear hw5 F4
    go_upto_region 7 with (fail)
    generalize w5.alloc (.cells #[.int .u64 (wh M), .int .u64 (wl M)] 24) = W5 at F5 ⊢
    generalize w5.heap.size = p13 at F5 ⊢
    go_cut [15, 16] (fun s15 s16 wc => ∃ p15 : Nat, s15 = .pointer (some ⟨p15, 0, none⟩) ∧ s16 = .bool (wt M) ∧ Hid (Kn w ((p15, wh M, wl M) :: (p13, wh M, wl M) :: (p11, wh S, wl S) :: (p9, wh S, wl S) :: [(w.heap.size, ah, al), (w.heap.size + 1, bh, bl)]) [(px, (ah * 18446744073709551616 + al)), (py, (bh * 18446744073709551616 + bl))] wc))
    case first =>
      refine wp_region_noPanic ?_
      refine wp_region_held_drew (S := fun w' => w'.rangeAt px 0 (dl (wd (ah * 18446744073709551616 + al)))) (by kernel_rfl) ?_ (fun hHeld => ?_)
      · exact (F5.out.2.1 (px, (ah * 18446744073709551616 + al)) (by simp)).1
      refine wpAnyH_take (i := 0) (v := .agg (dl (wd (ah * 18446744073709551616 + al))).toArray) rfl (by kernel_rfl) (by kernel_rfl) (by kernel_rfl) (fun _ _ _ h => h) (yieldsIf_load_mid (by rfl) _ _ rfl (px) 0 rfl (dl (wd (ah * 18446744073709551616 + al))) _ (fun wS hSw => hSw) Try.underlying27 rfl (by rw [dl_len]; exact dig_info)) (by assumption) ?_
      change wpAnyH _ _ _ _ _ _ _ (Act.put _ (some 46) _) _
      simp only [Act.put, List.setIfInBounds_toArray, List.set_cons_zero, List.set_cons_succ]
      refine wpAnyH_take (i := 1) (v := ?_) rfl (by kernel_rfl) (by kernel_rfl) (by kernel_rfl) (fun _ _ _ h => h) (Or.inl ⟨by rfl, ?_⟩) (by assumption) ?_
      rotate_left
      · (intro wS hSw; (try dsimp only at hSw); go_simp; try with_reducible rfl)
      change wpAnyH _ _ _ _ _ _ _ (Act.put _ (some 47) _) _
      simp only [Act.put, List.setIfInBounds_toArray, List.set_cons_zero, List.set_cons_succ]
      refine wpAnyH_take (i := 2) (v := ?_) rfl (by kernel_rfl) (by kernel_rfl) (by kernel_rfl) (fun _ _ _ h => h) (Or.inl ⟨by rfl, ?_⟩) (by assumption) ?_
      rotate_left
      · (intro wS hSw; (try dsimp only at hSw); go_simp; try with_reducible rfl)
      change wpAnyH _ _ _ _ _ _ _ (Act.put _ (some 48) _) _
      simp only [Act.put, List.setIfInBounds_toArray, List.set_cons_zero, List.set_cons_succ]
      refine wpAnyH_named ?_
      intro A hA
      clear hHeld
      refine wpAnyH_inv (I := fun L a W => ∃ (c3 c4 c5 c6 c7 c8 c9 c10 c11 : Bool) (s49 s50 s51 s45 s52 s53 s15 s16 : Value), L = #[true, true, true, c3, c4, c5, c6, c7, c8, c9, c10, c11] ∧ a = ((((((((A.put (some 49) s49).put (some 50) s50).put (some 51) s51).put (some 45) s45).put (some 52) s52).put (some 53) s53).put (some 15) s15).put (some 16) s16) ∧ Hid (Below W5.heap.size W5.drew W) ∧ Hid (c3 = true → s49 = dv u) ∧ Hid (c4 = true → s50 = dv M) ∧ Hid (c5 = true → s51 = .tuple #[.agg #[.int .u64 (wh M), .int .u64 (wl M)], .bool (wt M)]) ∧ Hid (c6 = true → s45 = .tuple #[.agg #[.int .u64 (wh M), .int .u64 (wl M)], .bool (wt M)]) ∧ Hid (c7 = true → s52 = .agg #[.int .u64 (wh M), .int .u64 (wl M)]) ∧ Hid (c8 = true → s53 = .bool (wt M)) ∧ Hid (c11 = true → s16 = .bool (wt M)) ∧ Hid (MadeL W5.heap.size 2 c9 c10 s15 ([.int .u64 (wh M), .int .u64 (wl M)]) W)) ?hS ?hz (by kernel_rfl) ?hsteps ?hend _ _ _ _ (by decide) ?h0
      case hS => rintro L a W ⟨c3, c4, c5, c6, c7, c8, c9, c10, c11, s49, s50, s51, s45, s52, s53, s15, s16, -, -, K, -⟩; have hb := K.out; clear K; exact (fun h => h) (range_later (F5.out.2.1 (px, (ah * 18446744073709551616 + al)) (by simp)).1 (of_drew hb) (F5.out.2.1 (px, (ah * 18446744073709551616 + al)) (by simp)).2)
      case hz => rintro L a W ⟨c3, c4, c5, c6, c7, c8, c9, c10, c11, s49, s50, s51, s45, s52, s53, s15, s16, rfl, -⟩; rfl
      case h0 => exact ⟨false, false, false, false, false, false, false, false, false, A.eval (.tmp 49), A.eval (.tmp 50), A.eval (.tmp 51), A.eval (.tmp 45), A.eval (.tmp 52), A.eval (.tmp 53), A.eval (.tmp 15), A.eval (.tmp 16), rfl, by simp only [put_self], Below.refl _ _, fun h => Bool.noConfusion h, fun h => Bool.noConfusion h, fun h => Bool.noConfusion h, fun h => Bool.noConfusion h, fun h => Bool.noConfusion h, fun h => Bool.noConfusion h, fun h => Bool.noConfusion h, MadeL.not _ _ _ _ _⟩
      case hend =>
        rintro L a W ⟨c3, c4, c5, c6, c7, c8, c9, c10, c11, s49, s50, s51, s45, s52, s53, s15, s16, rfl, rfl, K, k3, k4, k5, k6, k7, k8, k11, k9⟩ hall
        obtain rfl : c3 = true := hall 3
        obtain rfl : c4 = true := hall 4
        obtain rfl : c5 = true := hall 5
        obtain rfl : c6 = true := hall 6
        obtain rfl : c7 = true := hall 7
        obtain rfl : c8 = true := hall 8
        obtain rfl : c9 = true := hall 9
        obtain rfl : c10 = true := hall 10
        obtain rfl : c11 = true := hall 11
        obtain ⟨p9r, rfl, -, z9, -, r9'⟩ := k9.out.2 rfl
        have r9 := r9' rfl
        clear r9'
        obtain rfl := k3.out rfl
        obtain rfl := k4.out rfl
        obtain rfl := k5.out rfl
        obtain rfl := k6.out rfl
        obtain rfl := k7.out rfl
        obtain rfl := k8.out rfl
        obtain rfl := k11.out rfl
        clear k3 k4 k5 k6 k7 k8 k11 k9
        refine NoPanic.normal ?_
        subst hA
        simp only [Act.put, List.setIfInBounds_toArray, List.set_cons_zero, List.set_cons_succ]
        have R : Hid (Kn w ((p9r, wh M, wl M) :: (p13, wh M, wl M) :: (p11, wh S, wl S) :: (p9, wh S, wl S) :: [(w.heap.size, ah, al), (w.heap.size + 1, bh, bl)]) [(px, (ah * 18446744073709551616 + al)), (py, (bh * 18446744073709551616 + bl))] W) := ((Kn.later F5.out.drew K.out).pair (pair_of r9 z9))
        clear K r9
        go_wp2_with (fail)
        go_meet
        case rel => exact ⟨p9r, rfl, rfl, R.out⟩
      case hsteps =>
        refine StepsI.skip (i := 0) (by rintro L a W ⟨c3, c4, c5, c6, c7, c8, c9, c10, c11, s49, s50, s51, s45, s52, s53, s15, s16, rfl, -⟩; rfl) ?_
        refine StepsI.skip (i := 1) (by rintro L a W ⟨c3, c4, c5, c6, c7, c8, c9, c10, c11, s49, s50, s51, s45, s52, s53, s15, s16, rfl, -⟩; rfl) ?_
        refine StepsI.skip (i := 2) (by rintro L a W ⟨c3, c4, c5, c6, c7, c8, c9, c10, c11, s49, s50, s51, s45, s52, s53, s15, s16, rfl, -⟩; rfl) ?_
        refine StepsI.cons (i := 3) rfl ?_ ?_
        · rintro L a W ⟨c3, c4, c5, c6, c7, c8, c9, c10, c11, s49, s50, s51, s45, s52, s53, s15, s16, rfl, rfl, K, k3, k4, k5, k6, k7, k8, k11, k9⟩ h0 hd KK hK
          obtain rfl : c3 = false := h0
          subst hA
          simp only [Act.put, List.setIfInBounds_toArray, List.set_cons_zero, List.set_cons_succ]
          clear hd
          go_simp
          refine (rof_dv 0 u _ u0 u1 (by omega) (by omega)).mono ?_
          rintro e w2 ⟨rfl, hw2⟩
          rw [Int.zero_mul, Int.zero_add]
          (try go_wp2_with (fail))
          exact hK.out _ _ ⟨true, c4, c5, c6, c7, c8, c9, c10, c11, dv u, s50, s51, s45, s52, s53, s15, s16, rfl, by simp only [Act.put, List.setIfInBounds_toArray, List.set_cons_zero, List.set_cons_succ], K.out.trans (hw2.mono K.out.size), fun _ => rfl, k4.out, k5.out, k6.out, k7.out, k8.out, k11.out, k9.out.later hw2⟩
        refine StepsI.cons (i := 4) rfl ?_ ?_
        · rintro L a W ⟨c3, c4, c5, c6, c7, c8, c9, c10, c11, s49, s50, s51, s45, s52, s53, s15, s16, rfl, rfl, K, k3, k4, k5, k6, k7, k8, k11, k9⟩ h0 hd KK hK
          obtain rfl : c4 = false := h0
          obtain rfl : c3 = true := hd ⟨3, .data⟩ (by simp) rfl
          have e3 := k3.out rfl
          subst e3
          subst hA
          simp only [Act.put, List.setIfInBounds_toArray, List.set_cons_zero, List.set_cons_succ]
          clear hd
          go_simp
          refine (times_dv (ah * 18446744073709551616 + al) u _ HA.out.1 HA.out.2 u0 (by omega)).mono ?_
          rintro e w2 ⟨rfl, hw2⟩
          rw [← HM.out]
          (try go_wp2_with (fail))
          exact hK.out _ _ ⟨true, true, c5, c6, c7, c8, c9, c10, c11, dv u, dv M, s51, s45, s52, s53, s15, s16, rfl, by simp only [Act.put, List.setIfInBounds_toArray, List.set_cons_zero, List.set_cons_succ], K.out.trans (hw2.mono K.out.size), fun _ => rfl, fun _ => rfl, k5.out, k6.out, k7.out, k8.out, k11.out, k9.out.later hw2⟩
        refine StepsI.cons (i := 5) rfl ?_ ?_
        · rintro L a W ⟨c3, c4, c5, c6, c7, c8, c9, c10, c11, s49, s50, s51, s45, s52, s53, s15, s16, rfl, rfl, K, k3, k4, k5, k6, k7, k8, k11, k9⟩ h0 hd KK hK
          obtain rfl : c5 = false := h0
          obtain rfl : c4 = true := hd ⟨4, .data⟩ (by simp) rfl
          have e4 := k4.out rfl
          subst e4
          subst hA
          simp only [Act.put, List.setIfInBounds_toArray, List.set_cons_zero, List.set_cons_succ]
          clear hd
          go_simp
          refine (wide_dv M _ M0.out.1 M0.out.2).mono ?_
          rintro e w2 ⟨rfl, hw2⟩
          (try go_wp2_with (fail))
          exact hK.out _ _ ⟨c3, true, true, c6, c7, c8, c9, c10, c11, s49, dv M, .tuple #[.agg #[.int .u64 (wh M), .int .u64 (wl M)], .bool (wt M)], s45, s52, s53, s15, s16, rfl, by simp only [Act.put, List.setIfInBounds_toArray, List.set_cons_zero, List.set_cons_succ], K.out.trans (hw2.mono K.out.size), k3.out, fun _ => rfl, fun _ => rfl, k6.out, k7.out, k8.out, k11.out, k9.out.later hw2⟩
        refine StepsI.cons (i := 6) rfl ?_ ?_
        · rintro L a W ⟨c3, c4, c5, c6, c7, c8, c9, c10, c11, s49, s50, s51, s45, s52, s53, s15, s16, rfl, rfl, K, k3, k4, k5, k6, k7, k8, k11, k9⟩ h0 hd KK hK
          obtain rfl : c6 = false := h0
          obtain rfl : c5 = true := hd ⟨5, .data⟩ (by simp) rfl
          have e5 := k5.out rfl
          subst e5
          subst hA
          simp only [Act.put, List.setIfInBounds_toArray, List.set_cons_zero, List.set_cons_succ]
          clear hd
          go_simp
          exact hK.out _ _ ⟨c3, c4, true, true, c7, c8, c9, c10, c11, s49, s50, .tuple #[.agg #[.int .u64 (wh M), .int .u64 (wl M)], .bool (wt M)], .tuple #[.agg #[.int .u64 (wh M), .int .u64 (wl M)], .bool (wt M)], s52, s53, s15, s16, rfl, by simp only [Act.put, List.setIfInBounds_toArray, List.set_cons_zero, List.set_cons_succ], K.out, k3.out, k4.out, fun _ => rfl, fun _ => rfl, k7.out, k8.out, k11.out, k9.out⟩
        refine StepsI.cons (i := 7) rfl ?_ ?_
        · rintro L a W ⟨c3, c4, c5, c6, c7, c8, c9, c10, c11, s49, s50, s51, s45, s52, s53, s15, s16, rfl, rfl, K, k3, k4, k5, k6, k7, k8, k11, k9⟩ h0 hd KK hK
          obtain rfl : c7 = false := h0
          obtain rfl : c6 = true := hd ⟨6, .data⟩ (by simp) rfl
          have e6 := k6.out rfl
          subst e6
          subst hA
          simp only [Act.put, List.setIfInBounds_toArray, List.set_cons_zero, List.set_cons_succ]
          clear hd
          go_simp
          exact hK.out _ _ ⟨c3, c4, c5, true, true, c8, c9, c10, c11, s49, s50, s51, .tuple #[.agg #[.int .u64 (wh M), .int .u64 (wl M)], .bool (wt M)], .agg #[.int .u64 (wh M), .int .u64 (wl M)], s53, s15, s16, rfl, by simp only [Act.put, List.setIfInBounds_toArray, List.set_cons_zero, List.set_cons_succ], K.out, k3.out, k4.out, k5.out, fun _ => rfl, fun _ => rfl, k8.out, k11.out, k9.out⟩
        refine StepsI.cons (i := 8) rfl ?_ ?_
        · rintro L a W ⟨c3, c4, c5, c6, c7, c8, c9, c10, c11, s49, s50, s51, s45, s52, s53, s15, s16, rfl, rfl, K, k3, k4, k5, k6, k7, k8, k11, k9⟩ h0 hd KK hK
          obtain rfl : c8 = false := h0
          obtain rfl : c6 = true := hd ⟨6, .data⟩ (by simp) rfl
          have e6 := k6.out rfl
          subst e6
          subst hA
          simp only [Act.put, List.setIfInBounds_toArray, List.set_cons_zero, List.set_cons_succ]
          clear hd
          go_simp
          exact hK.out _ _ ⟨c3, c4, c5, true, c7, true, c9, c10, c11, s49, s50, s51, .tuple #[.agg #[.int .u64 (wh M), .int .u64 (wl M)], .bool (wt M)], s52, .bool (wt M), s15, s16, rfl, by simp only [Act.put, List.setIfInBounds_toArray, List.set_cons_zero, List.set_cons_succ], K.out, k3.out, k4.out, k5.out, fun _ => rfl, k7.out, fun _ => rfl, k11.out, k9.out⟩
        refine StepsI.cons (i := 9) rfl ?_ ?_
        · rintro L a W ⟨c3, c4, c5, c6, c7, c8, c9, c10, c11, s49, s50, s51, s45, s52, s53, s15, s16, rfl, rfl, K, k3, k4, k5, k6, k7, k8, k11, k9⟩ h0 hd KK hK
          obtain rfl : c9 = false := h0
          subst hA
          simp only [Act.put, List.setIfInBounds_toArray, List.set_cons_zero, List.set_cons_succ]
          clear hd
          go_simp
          exact hK.out _ _ ⟨c3, c4, c5, c6, c7, c8, true, c10, c11, s49, s50, s51, s45, s52, s53, .pointer (some ⟨W.heap.size, 0, none⟩), s16, rfl, by simp only [Act.put, List.setIfInBounds_toArray, List.set_cons_zero, List.set_cons_succ], K.out.alloc K.out.size _, k3.out, k4.out, k5.out, k6.out, k7.out, k8.out, k11.out, k9.out.new K.out.size _ (by rfl)⟩
        refine StepsI.cons (i := 10) rfl ?_ ?_
        · rintro L a W ⟨c3, c4, c5, c6, c7, c8, c9, c10, c11, s49, s50, s51, s45, s52, s53, s15, s16, rfl, rfl, K, k3, k4, k5, k6, k7, k8, k11, k9⟩ h0 hd KK hK
          obtain rfl : c10 = false := h0
          obtain rfl : c9 = true := hd ⟨9, .data⟩ (by simp) rfl
          obtain rfl : c7 = true := hd ⟨7, .data⟩ (by simp) rfl
          have e := k7.out rfl
          subst hA
          simp only [Act.put, List.setIfInBounds_toArray, List.set_cons_zero, List.set_cons_succ]
          clear hd
          rw [if_pos (by rfl)]
          refine MadeL.store k9.out _ _ _ rfl rfl (by rfl) e rfl wide_info (two_each _ _) ?_
          exact hK.out _ _ ⟨c3, c4, c5, c6, true, c8, true, true, c11, s49, s50, s51, s45, s52, s53, s15, s16, rfl, by simp only [Act.put, List.setIfInBounds_toArray, List.set_cons_zero, List.set_cons_succ], below_cells _ k9.out.ge _ 0 K.out, k3.out, k4.out, k5.out, k6.out, k7.out, k8.out, k11.out, k9.out.put rfl⟩
        refine StepsI.cons (i := 11) rfl ?_ ?_
        · rintro L a W ⟨c3, c4, c5, c6, c7, c8, c9, c10, c11, s49, s50, s51, s45, s52, s53, s15, s16, rfl, rfl, K, k3, k4, k5, k6, k7, k8, k11, k9⟩ h0 hd KK hK
          obtain rfl : c11 = false := h0
          obtain rfl : c8 = true := hd ⟨8, .data⟩ (by simp) rfl
          have e8 := k8.out rfl
          subst e8
          subst hA
          simp only [Act.put, List.setIfInBounds_toArray, List.set_cons_zero, List.set_cons_succ]
          clear hd
          go_simp
          exact hK.out _ _ ⟨c3, c4, c5, c6, c7, true, c9, c10, true, s49, s50, s51, s45, s52, .bool (wt M), s15, .bool (wt M), rfl, by simp only [Act.put, List.setIfInBounds_toArray, List.set_cons_zero, List.set_cons_succ], K.out, k3.out, k4.out, k5.out, k6.out, k7.out, fun _ => rfl, fun _ => rfl, k9.out⟩
        exact StepsI.nil
    case rest =>
      obtain ⟨p15, rfl, rfl, F6'⟩ := hcut
      have F6 : Hid (Kn w ((p15, wh M, wl M) :: (p13, wh M, wl M) :: (p11, wh S, wl S) :: (p9, wh S, wl S) :: [(w.heap.size, ah, al), (w.heap.size + 1, bh, bl)]) [(px, (ah * 18446744073709551616 + al)), (py, (bh * 18446744073709551616 + bl))] wc) := F6'
      clear F6' F5
      obtain ⟨x, hx⟩ : ∃ x, x = if lt = true then 0 else wh D := ⟨_, rfl⟩
      obtain ⟨y, hy⟩ : ∃ y, y = if lt = true then 0 else wl D := ⟨_, rfl⟩
      have HX : Hid (x = if lt = true then 0 else wh D) := hx
      have HY : Hid (y = if lt = true then 0 else wl D) := hy
      clear hx hy
      obtain ⟨p0, p1, pz⟩ := F6.out.1 (w.heap.size, ah, al) (by simp)
      obtain ⟨q0, q1, qz⟩ := F6.out.1 (w.heap.size + 1, bh, bl) (by simp)
      dsimp only at p0 p1 pz q0 q1 qz
      go_wp2_with (fail)
      refine (sub_wv ah al bh bl _ a0 a1 a2 a3 b0 b1 b2 b3 D lt x y HD.out HL.out HX.out HY.out).mono ?_
      rintro e w7 ⟨rfl, hw7⟩
      have F7 : Hid (Kn w ((w7.heap.size, x, y) :: (p15, wh M, wl M) :: (p13, wh M, wl M) :: (p11, wh S, wl S) :: (p9, wh S, wl S) :: [(w.heap.size, ah, al), (w.heap.size + 1, bh, bl)]) [(px, (ah * 18446744073709551616 + al)), (py, (bh * 18446744073709551616 + bl))] (w7.alloc (.cells #[.int .u64 (x), .int .u64 (y)] 24))) := (F6.out.later hw7).new x y 24
      clear p0 p1 pz q0 q1 qz
      clear hw7 F6
      go_upto_region 9 with (fail)
      generalize w7.alloc (.cells #[.int .u64 (x), .int .u64 (y)] 24) = W8 at F7 ⊢
      generalize w7.heap.size = p17 at F7 ⊢
      go_upto_region 10 with (fail)
      have G9 : Hid (Kn w ((p17, x, y) :: (p15, wh M, wl M) :: (p13, wh M, wl M) :: (p11, wh S, wl S) :: (p9, wh S, wl S) :: [(w.heap.size, ah, al), (w.heap.size + 1, bh, bl)]) [(px, (ah * 18446744073709551616 + al)), (py, (bh * 18446744073709551616 + bl))] (W8.alloc (.cells #[.int .u64 (0), .int .u64 (0)] 24))) := F7.out.alloc _
      have N0 : (W8.alloc (.cells #[.int .u64 (0), .int .u64 (0)] 24)).cell? ⟨W8.heap.size, 0, none⟩ = some (.int .u64 0) := by simp [go_sem]
      have N1 : (W8.alloc (.cells #[.int .u64 (0), .int .u64 (0)] 24)).cell? ⟨W8.heap.size, 1, none⟩ = some (.int .u64 0) := by simp [go_sem]
      have O0 : (W8.alloc (.cells #[.int .u64 (0), .int .u64 (0)] 24)).frozen? ⟨W8.heap.size, 0, none⟩ = false := by simp [go_sem]
      have O1 : (W8.alloc (.cells #[.int .u64 (0), .int .u64 (0)] 24)).frozen? ⟨W8.heap.size, 1, none⟩ = false := by simp [go_sem]
      have B9 : Hid (Below W8.heap.size W8 (W8.alloc (.cells #[.int .u64 (0), .int .u64 (0)] 24))) := (Below.refl _ _).alloc (Nat.le_refl _) _
      have S9 : W8.heap.size < (W8.alloc (.cells #[.int .u64 (0), .int .u64 (0)] 24)).heap.size := by simp
      generalize W8.alloc (.cells #[.int .u64 (0), .int .u64 (0)] 24) = W9 at G9 N0 N1 O0 O1 B9 S9 ⊢
      refine wp_region_lit ?_
      refine wpList_load_mid rfl _ _ rfl px 0 rfl (dl (wd (ah * 18446744073709551616 + al))) _ (G9.out.2.1 (px, (ah * 18446744073709551616 + al)) (by simp)).1 Try.underlying27 rfl (by rw [dl_len]; exact dig_info) ?_
      simp only [Act.put, List.setIfInBounds_toArray, List.set_cons_zero, List.set_cons_succ]
      refine wpList_load_mid rfl _ _ rfl py 0 rfl (dl (wd (bh * 18446744073709551616 + bl))) _ (G9.out.2.1 (py, (bh * 18446744073709551616 + bl)) (by simp)).1 Try.underlying27 rfl (by rw [dl_len]; exact dig_info) ?_
      simp only [Act.put, List.setIfInBounds_toArray, List.set_cons_zero, List.set_cons_succ]
      go_wp2_with (fail)
      refine (less_dv (ah * 18446744073709551616 + al) (bh * 18446744073709551616 + bl) _ HA.out.1 (by have := HA.out; have := H20.out; omega) HB.out.1 (by have := HB.out; have := H20.out; omega)).mono ?_
      rintro e w10 ⟨rfl, hw10⟩
      rw [hll.out]
      have N0a := cell_later hw10 N0
      have N1a := cell_later hw10 N1
      have O0a := ((bcell hw10).2 W8.heap.size 0 S9).trans O0
      have O1a := ((bcell hw10).2 W8.heap.size 1 S9).trans O1
      have B9a : Hid (Below W8.heap.size W8 w10) := B9.out.trans (hw10.mono B9.out.size)
      have S9a : W8.heap.size < w10.heap.size := Nat.lt_of_lt_of_le S9 hw10.size
      clear N0 N1 O0 O1 B9 S9 hw10
      clear G9
      go_upto_if 64 with (fail)
      go_cut [] (fun wc => Below W8.heap.size W8 wc ∧ Pair wc W8.heap.size x y)
      case first =>
        cases lt
        · obtain ⟨d0, d1⟩ := hD0.out rfl
          have F11 : Hid (Kn w ((p17, x, y) :: (p15, wh M, wl M) :: (p13, wh M, wl M) :: (p11, wh S, wl S) :: (p9, wh S, wl S) :: [(w.heap.size, ah, al), (w.heap.size + 1, bh, bl)]) [(px, (ah * 18446744073709551616 + al)), (py, (bh * 18446744073709551616 + bl))] w10) := F7.out.later B9a.out
          have le : (bh * 18446744073709551616 + bl) ≤ (ah * 18446744073709551616 + al) := by have := HD.out; omega
          have L2 : Hid ((bh * 18446744073709551616 + bl) ≤ (ah * 18446744073709551616 + al)) := le
          clear le
          have d01 : Hid (0 ≤ D ∧ D < 65536 ^ 20) := ⟨d0, d1⟩
          clear d0 d1
          go_upto_region 11 with (fail)
          refine wp_region_lit ?_
          refine wpList_load_mid rfl _ _ rfl px 0 rfl (dl (wd (ah * 18446744073709551616 + al))) _ (F11.out.2.1 (px, (ah * 18446744073709551616 + al)) (by simp)).1 Try.underlying27 rfl (by rw [dl_len]; exact dig_info) ?_
          simp only [Act.put, List.setIfInBounds_toArray, List.set_cons_zero, List.set_cons_succ]
          refine wpList_load_mid rfl _ _ rfl py 0 rfl (dl (wd (bh * 18446744073709551616 + bl))) _ (F11.out.2.1 (py, (bh * 18446744073709551616 + bl)) (by simp)).1 Try.underlying27 rfl (by rw [dl_len]; exact dig_info) ?_
          simp only [Act.put, List.setIfInBounds_toArray, List.set_cons_zero, List.set_cons_succ]
          go_wp2_with (fail)
          refine (minus_dv (ah * 18446744073709551616 + al) (bh * 18446744073709551616 + bl) _ HB.out.1 L2.out (by have := HA.out; have := H20.out; omega)).mono ?_
          rintro e w11 ⟨rfl, hw11⟩
          rw [← HD.out]
          have N0b := cell_later hw11 N0a
          have N1b := cell_later hw11 N1a
          have O0b := ((bcell hw11).2 W8.heap.size 0 S9a).trans O0a
          have O1b := ((bcell hw11).2 W8.heap.size 1 S9a).trans O1a
          have B9b : Hid (Below W8.heap.size W8 w11) := B9a.out.trans (hw11.mono B9a.out.size)
          have S9b : W8.heap.size < w11.heap.size := Nat.lt_of_lt_of_le S9a hw11.size
          clear N0a N1a O0a O1a B9a S9a hw11
          go_wp2_with (fail)
          refine (wide_dv D _ d01.out.1 d01.out.2).mono ?_
          rintro e w12 ⟨rfl, hw12⟩
          have N0c := cell_later hw12 N0b
          have N1c := cell_later hw12 N1b
          have O0c := ((bcell hw12).2 W8.heap.size 0 S9b).trans O0b
          have O1c := ((bcell hw12).2 W8.heap.size 1 S9b).trans O1b
          have B9c : Hid (Below W8.heap.size W8 w12) := B9b.out.trans (hw12.mono B9b.out.size)
          have S9c : W8.heap.size < w12.heap.size := Nat.lt_of_lt_of_le S9b hw12.size
          clear N0b N1b O0b O1b B9b S9b hw12
          have e0 := HX.out
          have e1 := HY.out
          rw [if_neg (by decide)] at e0 e1
          rw [← e0, ← e1]
          clear e0 e1
          go_wp2_with (fail)
          go_meet
          case rel =>
            go_light
            refine ⟨((B9c.out.setCell (by simp) _).setCell (by simp) _), ?_, ?_, ?_⟩
            · simp [go_sem, N0c]
            · simp [go_sem, N1c]
            · simpa using S9c
        · have e0 : x = 0 := by rw [HX.out, if_pos rfl]
          have e1 : y = 0 := by rw [HY.out, if_pos rfl]
          have E : Hid (x = 0 ∧ y = 0) := ⟨e0, e1⟩
          clear e0 e1
          go_wp2_with (fail)
          go_meet
          case rel => rw [E.out.1, E.out.2]; exact ⟨B9a.out, N0a, N1a, S9a⟩
      case rest =>
        obtain ⟨B12, n0, n1, n2⟩ := hcut
        have F12 : Hid (Kn w ((p17, x, y) :: (p15, wh M, wl M) :: (p13, wh M, wl M) :: (p11, wh S, wl S) :: (p9, wh S, wl S) :: [(w.heap.size, ah, al), (w.heap.size + 1, bh, bl)]) [(px, (ah * 18446744073709551616 + al)), (py, (bh * 18446744073709551616 + bl))] wc) := F7.out.later B12
        clear N0a N1a O0a O1a B9a S9a F7
        have HB12 : Hid (Below W8.heap.size W8 wc) := B12
        clear B12
        obtain ⟨mp90, mp91, mp9z⟩ := F12.out.1 (p9, wh S, wl S) (by simp)
        obtain ⟨mp110, mp111, mp11z⟩ := F12.out.1 (p11, wh S, wl S) (by simp)
        obtain ⟨mp130, mp131, mp13z⟩ := F12.out.1 (p13, wh M, wl M) (by simp)
        obtain ⟨mp150, mp151, mp15z⟩ := F12.out.1 (p15, wh M, wl M) (by simp)
        obtain ⟨mp170, mp171, mp17z⟩ := F12.out.1 (p17, x, y) (by simp)
        dsimp only at mp90 mp91 mp9z mp110 mp111 mp11z mp130 mp131 mp13z mp150 mp151 mp15z mp170 mp171 mp17z
        go_upto_region 12 with (fail)
        refine wp_region_lit ?_
        refine wpList_one (fun K hK => ?_)
        go_simp
        refine hK.out _ _ ?_
        clear hK K
        refine wpList_one (fun K hK => ?_)
        go_simp
        refine hK.out _ _ ?_
        clear hK K
        refine wpList_one (fun K hK => ?_)
        go_simp
        refine hK.out _ _ ?_
        clear hK K
        refine wpList_one (fun K hK => ?_)
        go_simp
        refine hK.out _ _ ?_
        clear hK K
        refine wpList_one (fun K hK => ?_)
        go_simp
        refine hK.out _ _ ?_
        clear hK K
        refine wpList_one (fun K hK => ?_)
        go_simp
        refine hK.out _ _ ?_
        clear hK K
        refine wpList_one (fun K hK => ?_)
        go_simp
        refine hK.out _ _ ?_
        clear hK K
        refine wpList_one (fun K hK => ?_)
        go_simp
        refine hK.out _ _ ?_
        clear hK K
        refine wpList_one (fun K hK => ?_)
        go_simp
        refine hK.out _ _ ?_
        clear hK K
        refine wpList_one (fun K hK => ?_)
        go_simp
        refine hK.out _ _ ?_
        clear hK K
        refine wpList_one (fun K hK => ?_)
        go_simp
        refine hK.out _ _ ?_
        clear hK K
        refine wpList_one (fun K hK => ?_)
        go_simp
        refine hK.out _ _ ?_
        clear hK K
        refine wpList_one (fun K hK => ?_)
        go_simp
        refine hK.out _ _ ?_
        clear hK K
        refine wpList_one (fun K hK => ?_)
        go_simp
        refine hK.out _ _ ?_
        clear hK K
        refine wpList_one (fun K hK => ?_)
        go_simp
        refine hK.out _ _ ?_
        clear hK K
        refine wpList_one (fun K hK => ?_)
        go_simp
        refine hK.out _ _ ?_
        clear hK K
        refine wpList_one (fun K hK => ?_)
        go_simp
        refine hK.out _ _ ?_
        clear hK K
        refine wpList_one (fun K hK => ?_)
        go_simp
        refine hK.out _ _ ?_
        clear hK K
        refine wpList_one (fun K hK => ?_)
        go_simp
        refine hK.out _ _ ?_
        clear hK K
        refine wpList_one (fun K hK => ?_)
        go_simp
        refine hK.out _ _ ?_
        clear hK K
        refine wpList_one (fun K hK => ?_)
        rw [if_pos (by rfl)]
        refine wp_load_mid _ _ rfl px 0 rfl (dl (wd (ah * 18446744073709551616 + al))) _ (F12.out.2.1 (px, (ah * 18446744073709551616 + al)) (by simp)).1 Try.underlying27 rfl (by rw [dl_len]; exact dig_info) ?_
        refine hK.out _ _ ?_
        clear hK K
        simp only [Act.put, List.setIfInBounds_toArray, List.set_cons_zero, List.set_cons_succ]
        refine wpList_one (fun K hK => ?_)
        rw [if_pos (by rfl)]
        refine wp_load_mid _ _ rfl py 0 rfl (dl (wd (bh * 18446744073709551616 + bl))) _ (F12.out.2.1 (py, (bh * 18446744073709551616 + bl)) (by simp)).1 Try.underlying27 rfl (by rw [dl_len]; exact dig_info) ?_
        refine hK.out _ _ ?_
        clear hK K
        simp only [Act.put, List.setIfInBounds_toArray, List.set_cons_zero, List.set_cons_succ]
        go_wp2_with (fail)
        refine (less_dv (ah * 18446744073709551616 + al) (bh * 18446744073709551616 + bl) _ HA.out.1 (by have := HA.out; have := H20.out; omega) HB.out.1 (by have := HB.out; have := H20.out; omega)).mono ?_
        rintro e w13 ⟨rfl, hw13⟩
        rw [hll.out]
        have r0 := cell_later hw13 mp170
        have r1 := cell_later hw13 mp171
        have r2 := cell_later hw13 n0
        have r3 := cell_later hw13 n1
        have BB : Hid (Below w.heap.size w w13) := F12.out.2.2.2.trans (hw13.mono F12.out.2.2.1)
        clear hw13
        go_wp2
        go_ret
        exact ⟨by simp, BB.out⟩

end Go.Proofs.Ytahmgbaonldlfaa
