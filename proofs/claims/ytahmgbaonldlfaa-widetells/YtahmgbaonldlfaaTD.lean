/-
  The walk of the statement WideTells: it returns true. Conditions: all words lie below 2^64, the text's length is a machine word.
-/
import Derived.Test.YtahmgbaonldlfaaK
import Derived.Test.YtahmgbaonldlfaaTC
import Derived.Deep.RegionHeld3
import Derived.Deep.RegionWith
import Derived.Deep.CutRange
import Derived.Deep.DeepCutAuto
namespace Go.Proofs.Ytahmgbaonldlfaa
open Go.RowKit

set_option maxHeartbeats 40000000 in
set_option maxRecDepth 100000 in
theorem tells_any (ah al bh bl : Int) (s : ByteArray) (w : World) (a0 : 0 ≤ al) (a1 : al < 18446744073709551616) (a2 : 0 ≤ ah) (a3 : ah < 18446744073709551616) (b0 : 0 ≤ bl) (b1 : bl < 18446744073709551616) (b2 : 0 ≤ bh) (b3 : bh < 18446744073709551616)
    (hm : s.size ≤ maxLen) :
    Calls Try.prog 3 #[.agg #[.int .u64 ah, .int .u64 al], .agg #[.int .u64 bh, .int .u64 bl], .string s] w fun e w' => e = .returned (.bool true) ∧ Below w.heap.size w w' := by
  obtain ⟨ph, pl, pb, GP, GR⟩ := both_parse s hm
  obtain ⟨t, GT, GX⟩ := both_text ah al a0 a1 a2 a3
  have HP : Hid (Gives 13 #[.string s] (.tuple #[.agg #[.int .u64 ph, .int .u64 pl], .bool pb])) := GP
  have HR : Hid (Gives 14 #[.string s] (.tuple #[.agg #[.int .u64 ph, .int .u64 pl], .bool pb])) := GR
  have HT : Hid (Gives 18 #[.agg #[.int .u64 ah, .int .u64 al]] (.string t)) := GT
  have HX : Hid (Gives 19 #[.agg #[.int .u64 ah, .int .u64 al]] (.string t)) := GX
  clear GP GR GT GX
  unfold maxLen at hm
  go_enter Try.func3, Try.ntmps3
  go_wp2_with (fail)
  refine (first_any _).mono ?_
  rintro e w1 ⟨rfl, hw1⟩
  have C0 := cell_later hw1 (a := ⟨w.heap.size, 0, none⟩) (v := .int .u64 ah) (by simp [go_sem])
  have C1 := cell_later hw1 (a := ⟨w.heap.size, 1, none⟩) (v := .int .u64 al) (by simp [go_sem])
  have C2 := cell_later hw1 (a := ⟨w.heap.size + 1, 0, none⟩) (v := .int .u64 bh) (by simp [go_sem])
  have C3 := cell_later hw1 (a := ⟨w.heap.size + 1, 1, none⟩) (v := .int .u64 bl) (by simp [go_sem])
  obtain ⟨HB1, -, -, s1⟩ := aft hw1 (B := w.heap.size) (W0 := w) (by go_grown) (by first | omega | (simp; done) | (simp; omega))
  clear hw1
  (try simp at s1)
  by_cases hl : 300 < s.size
  · go_wp2
    go_ret
    exact ⟨rfl, HB1⟩
  have HA : Hid (0 ≤ (ah * 18446744073709551616 + al) ∧ (ah * 18446744073709551616 + al) < 340282366920938463463374607431768211456) := by unfold Hid; omega
  have HB : Hid (0 ≤ (bh * 18446744073709551616 + bl) ∧ (bh * 18446744073709551616 + bl) < 340282366920938463463374607431768211456) := by unfold Hid; omega
  have H20 : Hid ((65536 : Int) ^ 20 = 2135987035920910082395021706169552114602704522356652769947041607822219725780640550022962086936576) := pow20
  have K1 : Hid (Kn w [(w.heap.size, ah, al), (w.heap.size + 1, bh, bl)] [] w1.drew) := Kn.two ⟨C0, C1, by simp; omega⟩ ⟨C2, C3, by simp; omega⟩ (by simp; omega) HB1.drew
  clear HB1
  go_wp2_with (fail)
  go_cut [7, 8] (fun s7 s8 wc => ∃ px py : Nat, s7 = .pointer (some ⟨px, 0, none⟩) ∧ s8 = .pointer (some ⟨py, 0, none⟩) ∧ Hid (Kn w [(w.heap.size, ah, al), (w.heap.size + 1, bh, bl)] [(px, (ah * 18446744073709551616 + al)), (py, (bh * 18446744073709551616 + bl))] wc))
  case first =>
    refine wp_region_noPanic ?_
    refine wp_region_held_drew (S := fun w' => Pair w' w.heap.size ah al ∧ Pair w' (w.heap.size + 1) bh bl) (by kernel_rfl) ?_ (fun hHeld => ?_)
    · exact ⟨⟨C0, C1, by simp; omega⟩, C2, C3, by simp; omega⟩
    refine wpAnyH_take (i := 0) (v := ?_) rfl (by kernel_rfl) (by kernel_rfl) (by kernel_rfl) (fun _ _ _ h => h) (Or.inl ⟨by rfl, ?_⟩) (by assumption) ?_
    rotate_left
    · (intro wS hSw; obtain ⟨⟨g0, g1, -⟩, g2, g3, -⟩ := hSw; go_simp; try with_reducible rfl)
    change wpAnyH _ _ _ _ _ _ _ (Act.put _ (some 22) _) _
    simp only [Act.put, List.setIfInBounds_toArray, List.set_cons_zero, List.set_cons_succ]
    refine wpAnyH_take (i := 2) (v := ?_) rfl (by kernel_rfl) (by kernel_rfl) (by kernel_rfl) (fun _ _ _ h => h) (Or.inl ⟨by rfl, ?_⟩) (by assumption) ?_
    rotate_left
    · (intro wS hSw; obtain ⟨⟨g0, g1, -⟩, g2, g3, -⟩ := hSw; go_simp; try with_reducible rfl)
    change wpAnyH _ _ _ _ _ _ _ (Act.put _ (some 24) _) _
    simp only [Act.put, List.setIfInBounds_toArray, List.set_cons_zero, List.set_cons_succ]
    refine wpAnyH_named ?_
    intro A hA
    clear hHeld
    refine wpAnyH_inv (I := fun L a W => ∃ (c1 c3 c4 c5 c6 c7 : Bool) (s23 s25 s7 s8 : Value), L = #[true, c1, true, c3, c4, c5, c6, c7] ∧ a = ((((A.put (some 23) s23).put (some 25) s25).put (some 7) s7).put (some 8) s8) ∧ Hid (Below w1.heap.size w1.drew W) ∧ Hid (c1 = true → s23 = dv (ah * 18446744073709551616 + al)) ∧ Hid (c3 = true → s25 = dv (bh * 18446744073709551616 + bl)) ∧ Hid (MadeL w1.heap.size 20 c4 c6 s7 (dl (wd (ah * 18446744073709551616 + al))) W) ∧ Hid (MadeL w1.heap.size 20 c5 c7 s8 (dl (wd (bh * 18446744073709551616 + bl))) W) ∧ Hid (c4 = true → c5 = true → s7 ≠ s8)) ?hS ?hz (by kernel_rfl) ?hsteps ?hend _ _ _ _ (by decide) ?h0
    case hS => rintro L a W ⟨c1, c3, c4, c5, c6, c7, s23, s25, s7, s8, -, -, K, -⟩; have hb := K.out; clear K; exact (fun h => h) (⟨(K1.out.later hb).1 (w.heap.size, ah, al) (by simp), (K1.out.later hb).1 (w.heap.size + 1, bh, bl) (by simp)⟩)
    case hz => rintro L a W ⟨c1, c3, c4, c5, c6, c7, s23, s25, s7, s8, rfl, -⟩; rfl
    case h0 => exact ⟨false, false, false, false, false, false, A.eval (.tmp 23), A.eval (.tmp 25), A.eval (.tmp 7), A.eval (.tmp 8), rfl, by simp only [put_self], Below.refl _ _, fun h => Bool.noConfusion h, fun h => Bool.noConfusion h, MadeL.not _ _ _ _ _, MadeL.not _ _ _ _ _, fun h => Bool.noConfusion h⟩
    case hend =>
      rintro L a W ⟨c1, c3, c4, c5, c6, c7, s23, s25, s7, s8, rfl, rfl, K, k1, k3, k4, k5, d4_5⟩ hall
      obtain rfl : c1 = true := hall 1
      obtain rfl : c3 = true := hall 3
      obtain rfl : c4 = true := hall 4
      obtain rfl : c5 = true := hall 5
      obtain rfl : c6 = true := hall 6
      obtain rfl : c7 = true := hall 7
      obtain ⟨p4, rfl, -, z4, -, r4'⟩ := k4.out.2 rfl
      have r4 := r4' rfl
      clear r4'
      obtain ⟨p5, rfl, -, z5, -, r5'⟩ := k5.out.2 rfl
      have r5 := r5' rfl
      clear r5'
      obtain rfl := k1.out rfl
      obtain rfl := k3.out rfl
      clear k1 k3 k4 k5 d4_5
      refine NoPanic.normal ?_
      subst hA
      simp only [Act.put, List.setIfInBounds_toArray, List.set_cons_zero, List.set_cons_succ]
      have R : Hid (Kn w [(w.heap.size, ah, al), (w.heap.size + 1, bh, bl)] [(p4, (ah * 18446744073709551616 + al)), (p5, (bh * 18446744073709551616 + bl))] W) := (Kn.later K1.out K.out).ranges ⟨r4, z4⟩ ⟨r5, z5⟩
      clear K r4 r5
      go_wp2_with (fail)
      go_meet
      case rel => exact ⟨p4, p5, rfl, rfl, R⟩
    case hsteps =>
      refine StepsI.skip (i := 0) (by rintro L a W ⟨c1, c3, c4, c5, c6, c7, s23, s25, s7, s8, rfl, -⟩; rfl) ?_
      refine StepsI.cons (i := 1) rfl ?_ ?_
      · rintro L a W ⟨c1, c3, c4, c5, c6, c7, s23, s25, s7, s8, rfl, rfl, K, k1, k3, k4, k5, d4_5⟩ h0 hd KK hK
        obtain rfl : c1 = false := h0
        subst hA
        simp only [Act.put, List.setIfInBounds_toArray, List.set_cons_zero, List.set_cons_succ]
        clear hd
        go_simp
        refine (rof_dv ah al _ a0 a1 a2 a3).mono ?_
        rintro e w2 ⟨rfl, hw2⟩
        (try go_wp2_with (fail))
        exact hK.out _ _ ⟨true, c3, c4, c5, c6, c7, dv (ah * 18446744073709551616 + al), s25, s7, s8, rfl, by simp only [Act.put, List.setIfInBounds_toArray, List.set_cons_zero, List.set_cons_succ], K.out.trans (hw2.mono K.out.size), fun _ => rfl, k3.out, k4.out.later hw2, k5.out.later hw2, d4_5.out⟩
      refine StepsI.skip (i := 2) (by rintro L a W ⟨c1, c3, c4, c5, c6, c7, s23, s25, s7, s8, rfl, -⟩; rfl) ?_
      refine StepsI.cons (i := 3) rfl ?_ ?_
      · rintro L a W ⟨c1, c3, c4, c5, c6, c7, s23, s25, s7, s8, rfl, rfl, K, k1, k3, k4, k5, d4_5⟩ h0 hd KK hK
        obtain rfl : c3 = false := h0
        subst hA
        simp only [Act.put, List.setIfInBounds_toArray, List.set_cons_zero, List.set_cons_succ]
        clear hd
        go_simp
        refine (rof_dv bh bl _ b0 b1 b2 b3).mono ?_
        rintro e w2 ⟨rfl, hw2⟩
        (try go_wp2_with (fail))
        exact hK.out _ _ ⟨c1, true, c4, c5, c6, c7, s23, dv (bh * 18446744073709551616 + bl), s7, s8, rfl, by simp only [Act.put, List.setIfInBounds_toArray, List.set_cons_zero, List.set_cons_succ], K.out.trans (hw2.mono K.out.size), k1.out, fun _ => rfl, k4.out.later hw2, k5.out.later hw2, d4_5.out⟩
      refine StepsI.cons (i := 4) rfl ?_ ?_
      · rintro L a W ⟨c1, c3, c4, c5, c6, c7, s23, s25, s7, s8, rfl, rfl, K, k1, k3, k4, k5, d4_5⟩ h0 hd KK hK
        obtain rfl : c4 = false := h0
        subst hA
        simp only [Act.put, List.setIfInBounds_toArray, List.set_cons_zero, List.set_cons_succ]
        clear hd
        go_simp
        exact hK.out _ _ ⟨c1, c3, true, c5, c6, c7, s23, s25, .pointer (some ⟨W.heap.size, 0, none⟩), s8, rfl, by simp only [Act.put, List.setIfInBounds_toArray, List.set_cons_zero, List.set_cons_succ], K.out.alloc K.out.size _, k1.out, k3.out, k4.out.new K.out.size _ (by rfl), k5.out.alloc _, fun _ hc => by subst hc; exact k5.out.ne⟩
      refine StepsI.cons (i := 5) rfl ?_ ?_
      · rintro L a W ⟨c1, c3, c4, c5, c6, c7, s23, s25, s7, s8, rfl, rfl, K, k1, k3, k4, k5, d4_5⟩ h0 hd KK hK
        obtain rfl : c5 = false := h0
        subst hA
        simp only [Act.put, List.setIfInBounds_toArray, List.set_cons_zero, List.set_cons_succ]
        clear hd
        go_simp
        exact hK.out _ _ ⟨c1, c3, c4, true, c6, c7, s23, s25, s7, .pointer (some ⟨W.heap.size, 0, none⟩), rfl, by simp only [Act.put, List.setIfInBounds_toArray, List.set_cons_zero, List.set_cons_succ], K.out.alloc K.out.size _, k1.out, k3.out, k4.out.alloc _, k5.out.new K.out.size _ (by rfl), fun hc _ => by subst hc; exact k4.out.ne.symm⟩
      refine StepsI.cons (i := 6) rfl ?_ ?_
      · rintro L a W ⟨c1, c3, c4, c5, c6, c7, s23, s25, s7, s8, rfl, rfl, K, k1, k3, k4, k5, d4_5⟩ h0 hd KK hK
        obtain rfl : c6 = false := h0
        obtain rfl : c4 = true := hd ⟨4, .data⟩ (by simp) rfl
        obtain rfl : c1 = true := hd ⟨1, .data⟩ (by simp) rfl
        obtain rfl : c5 = true := hd ⟨5, .phase⟩ (by simp) rfl
        have e := k1.out rfl
        subst hA
        simp only [Act.put, List.setIfInBounds_toArray, List.set_cons_zero, List.set_cons_succ]
        clear hd
        rw [if_pos (by rfl)]
        refine MadeL.store k4.out _ _ _ rfl rfl (by rfl) e (dl_len _) dig_info (dl_each _) ?_
        exact hK.out _ _ ⟨true, c3, true, true, true, c7, s23, s25, s7, s8, rfl, by simp only [Act.put, List.setIfInBounds_toArray, List.set_cons_zero, List.set_cons_succ], below_cells _ k4.out.ge _ 0 K.out, k1.out, k3.out, k4.out.put (dl_len _), k5.out.beside k4.out _ (d4_5.out rfl rfl), d4_5.out⟩
      refine StepsI.cons (i := 7) rfl ?_ ?_
      · rintro L a W ⟨c1, c3, c4, c5, c6, c7, s23, s25, s7, s8, rfl, rfl, K, k1, k3, k4, k5, d4_5⟩ h0 hd KK hK
        obtain rfl : c7 = false := h0
        obtain rfl : c5 = true := hd ⟨5, .data⟩ (by simp) rfl
        obtain rfl : c3 = true := hd ⟨3, .data⟩ (by simp) rfl
        obtain rfl : c4 = true := hd ⟨4, .phase⟩ (by simp) rfl
        have e := k3.out rfl
        subst hA
        simp only [Act.put, List.setIfInBounds_toArray, List.set_cons_zero, List.set_cons_succ]
        clear hd
        rw [if_pos (by rfl)]
        refine MadeL.store k5.out _ _ _ rfl rfl (by rfl) e (dl_len _) dig_info (dl_each _) ?_
        exact hK.out _ _ ⟨c1, true, true, true, c6, true, s23, s25, s7, s8, rfl, by simp only [Act.put, List.setIfInBounds_toArray, List.set_cons_zero, List.set_cons_succ], below_cells _ k5.out.ge _ 0 K.out, k1.out, k3.out, k4.out.beside k5.out _ ((d4_5.out rfl rfl).symm), k5.out.put (dl_len _), d4_5.out⟩
      exact StepsI.nil
  case rest =>
    obtain ⟨px, py, rfl, rfl, F5⟩ := hcut
    clear C0 C1 C2 C3 s1 K1
    go_upto_region 7 with (fail)
    refine wp_region_lit ?_
    refine wpList_load_mid rfl _ _ rfl px 0 rfl (dl (wd (ah * 18446744073709551616 + al))) _ (F5.out.2.1 (px, (ah * 18446744073709551616 + al)) (by simp)).1 Try.underlying27 rfl (by rw [dl_len]; exact dig_info) ?_
    simp only [Act.put, List.setIfInBounds_toArray, List.set_cons_zero, List.set_cons_succ]
    refine wpList_load_mid rfl _ _ rfl py 0 rfl (dl (wd (bh * 18446744073709551616 + bl))) _ (F5.out.2.1 (py, (bh * 18446744073709551616 + bl)) (by simp)).1 Try.underlying27 rfl (by rw [dl_len]; exact dig_info) ?_
    simp only [Act.put, List.setIfInBounds_toArray, List.set_cons_zero, List.set_cons_succ]
    go_wp2_with (fail)
    refine (less_dv (ah * 18446744073709551616 + al) (bh * 18446744073709551616 + bl) _ HA.out.1 (by have := HA.out; have := H20.out; omega) HB.out.1 (by have := HB.out; have := H20.out; omega)).mono ?_
    rintro e w7 ⟨rfl, hw7⟩
    have F7 : Hid (Kn w [(w.heap.size, ah, al), (w.heap.size + 1, bh, bl)] [(px, (ah * 18446744073709551616 + al)), (py, (bh * 18446744073709551616 + bl))] w7) := F5.out.later hw7
    clear hw7 F5
    go_upto_if 28 with (fail)
    go_cut [9] (fun s9 wc => s9 = .int .i64 (cmp (ah * 18446744073709551616 + al) (bh * 18446744073709551616 + bl)) ∧ Hid (Kn w [(w.heap.size, ah, al), (w.heap.size + 1, bh, bl)] [(px, (ah * 18446744073709551616 + al)), (py, (bh * 18446744073709551616 + bl))] wc))
    case first =>
      by_cases h1 : (ah * 18446744073709551616 + al) < (bh * 18446744073709551616 + bl)
      · rw [decide_eq_true h1]
        have E : Hid (cmp (ah * 18446744073709551616 + al) (bh * 18446744073709551616 + bl) = -1) := cmp_lt h1
        clear h1
        go_wp2_with (fail)
        go_meet
        case rel => exact ⟨by rw [E.out], F7⟩
      · rw [decide_eq_false h1]
        have H1 : Hid (¬ (ah * 18446744073709551616 + al) < (bh * 18446744073709551616 + bl)) := h1
        clear h1
        go_upto_region 9 with (fail)
        refine wp_region_lit ?_
        refine wpList_load_mid rfl _ _ rfl py 0 rfl (dl (wd (bh * 18446744073709551616 + bl))) _ (F7.out.2.1 (py, (bh * 18446744073709551616 + bl)) (by simp)).1 Try.underlying27 rfl (by rw [dl_len]; exact dig_info) ?_
        simp only [Act.put, List.setIfInBounds_toArray, List.set_cons_zero, List.set_cons_succ]
        refine wpList_load_mid rfl _ _ rfl px 0 rfl (dl (wd (ah * 18446744073709551616 + al))) _ (F7.out.2.1 (px, (ah * 18446744073709551616 + al)) (by simp)).1 Try.underlying27 rfl (by rw [dl_len]; exact dig_info) ?_
        simp only [Act.put, List.setIfInBounds_toArray, List.set_cons_zero, List.set_cons_succ]
        go_wp2_with (fail)
        refine (less_dv (bh * 18446744073709551616 + bl) (ah * 18446744073709551616 + al) _ HB.out.1 (by have := HB.out; have := H20.out; omega) HA.out.1 (by have := HA.out; have := H20.out; omega)).mono ?_
        rintro e w9 ⟨rfl, hw9⟩
        have F9 : Hid (Kn w [(w.heap.size, ah, al), (w.heap.size + 1, bh, bl)] [(px, (ah * 18446744073709551616 + al)), (py, (bh * 18446744073709551616 + bl))] w9) := F7.out.later hw9
        clear hw9 F7
        by_cases h2 : (bh * 18446744073709551616 + bl) < (ah * 18446744073709551616 + al)
        · rw [decide_eq_true h2]
          have E : Hid (cmp (ah * 18446744073709551616 + al) (bh * 18446744073709551616 + bl) = 1) := cmp_gt h2
          clear h2
          go_wp2_with (fail)
          go_meet
          case rel => exact ⟨by rw [E.out], F9⟩
        · rw [decide_eq_false h2]
          have E : Hid (cmp (ah * 18446744073709551616 + al) (bh * 18446744073709551616 + bl) = 0) := cmp_eq (by have := H1.out; omega) h2
          clear h2
          go_wp2_with (fail)
          go_meet
          case rel => exact ⟨by rw [E.out], F9⟩
    case rest =>
      obtain ⟨rfl, F10⟩ := hcut
      clear F7
      go_wp2_with (fail)
      go_loopw [10] (fun s10 wr => ∃ k : Nat, k ≤ bitLen (ah * 18446744073709551616 + al).toNat ∧ k ≤ 128 ∧ s10 = .int .i64 k ∧ Hid (Kn w [(w.heap.size, ah, al), (w.heap.size + 1, bh, bl)] [(px, (ah * 18446744073709551616 + al)), (py, (bh * 18446744073709551616 + bl))] wr)) (fun s10 _ => 129 - (intOf s10).toNat)
      case atStart => exact ⟨0, by omega, by omega, rfl, F10⟩
      case round =>
        clear F10
        obtain ⟨k, hk, hk1, rfl, F⟩ := hrel
        have m0 : (0 : Int) ≤ (k : Int) := by omega
        have m1 : (k : Int) ≤ 128 := by omega
        have HK : Hid (k ≤ bitLen (ah * 18446744073709551616 + al).toNat) := hk
        clear hk
        go_upto_region 12 with (fail)
        go_cut [40] (fun s40 wc => s40 = .bool (!decide ((ah * 18446744073709551616 + al) < 2 ^ k)) ∧ Hid (Kn w [(w.heap.size, ah, al), (w.heap.size + 1, bh, bl)] [(px, (ah * 18446744073709551616 + al)), (py, (bh * 18446744073709551616 + bl))] wc))
        case first =>
          by_cases hk2 : k < 128
          · have m2 : (k : Int) < 128 := by omega
            refine wp_region_noPanic ?_
            refine wp_region_held_drew (S := fun w' => w'.rangeAt px 0 (dl (wd (ah * 18446744073709551616 + al)))) (by kernel_rfl) ?_ (fun hHeld => ?_)
            · exact (F.out.2.1 (px, (ah * 18446744073709551616 + al)) (by simp)).1
            refine wpAnyH_take (i := 0) (v := ?_) rfl (by kernel_rfl) (by kernel_rfl) (by kernel_rfl) (fun _ _ _ h => h) (Or.inl ⟨by rfl, ?_⟩) (by assumption) ?_
            rotate_left
            · (intro wS hSw; (try dsimp only at hSw); go_simp; try with_reducible rfl)
            change wpAnyH _ _ _ _ _ _ _ (Act.put _ (some 32) _) _
            simp only [Act.put, List.setIfInBounds_toArray, List.set_cons_zero, List.set_cons_succ]
            refine wpAnyH_take (i := 1) (v := ?_) rfl (by kernel_rfl) (by kernel_rfl) (by kernel_rfl) (fun _ _ _ h => h) (Or.inl ⟨by rfl, ?_⟩) (by assumption) ?_
            rotate_left
            · (intro wS hSw; (try dsimp only at hSw); go_simp; try with_reducible rfl)
            change wpAnyH _ _ _ _ _ _ _ (Act.put _ (some 33) _) _
            simp only [Act.put, List.setIfInBounds_toArray, List.set_cons_zero, List.set_cons_succ]
            refine wpAnyH_take (i := 2) (v := ?_) rfl (by kernel_rfl) (by kernel_rfl) (by kernel_rfl) (fun _ _ _ h => h) (Or.inl ⟨by rfl, ?_⟩) (by assumption) ?_
            rotate_left
            · (intro wS hSw; (try dsimp only at hSw); go_simp; try with_reducible rfl)
            change wpAnyH _ _ _ _ _ _ _ (Act.put _ (some 34) _) _
            simp only [Act.put, List.setIfInBounds_toArray, List.set_cons_zero, List.set_cons_succ]
            refine wpAnyH_take (i := 3) (v := .agg (dl (wd (ah * 18446744073709551616 + al))).toArray) rfl (by kernel_rfl) (by kernel_rfl) (by kernel_rfl) (fun _ _ _ h => h) (yieldsIf_load_mid (by rfl) _ _ rfl (px) 0 rfl (dl (wd (ah * 18446744073709551616 + al))) _ (fun wS hSw => hSw) Try.underlying27 rfl (by rw [dl_len]; exact dig_info)) (by assumption) ?_
            change wpAnyH _ _ _ _ _ _ _ (Act.put _ (some 35) _) _
            simp only [Act.put, List.setIfInBounds_toArray, List.set_cons_zero, List.set_cons_succ]
            refine wpAnyH_take (i := 4) (v := ?_) rfl (by kernel_rfl) (by kernel_rfl) (by kernel_rfl) (fun _ _ _ h => h) (Or.inl ⟨by rfl, ?_⟩) (by assumption) ?_
            rotate_left
            · (intro wS hSw; (try dsimp only at hSw); go_simp; try with_reducible rfl)
            change wpAnyH _ _ _ _ _ _ _ (Act.put _ (some 36) _) _
            simp only [Act.put, List.setIfInBounds_toArray, List.set_cons_zero, List.set_cons_succ]
            refine wpAnyH_ready (rs := [5]) (by kernel_rfl) (by simp) ?_
            refine AllReadyH.cons rfl (fun K hK => ?_) AllReadyH.nil
            go_simp
            refine (power_dv k _ (by omega)).mono ?_
            rintro e w2 ⟨rfl, hw2⟩
            have F2 : Hid (Kn w [(w.heap.size, ah, al), (w.heap.size + 1, bh, bl)] [(px, (ah * 18446744073709551616 + al)), (py, (bh * 18446744073709551616 + bl))] w2) := F.out.drew.later hw2
            clear hw2
            (try go_wp2_with (fail))
            refine hK.out _ _ ?_ (fun hHeld => ?_)
            · exact (F2.out.2.1 (px, (ah * 18446744073709551616 + al)) (by simp)).1
            clear hK K
            refine wpAnyH_ready (rs := [6]) (by kernel_rfl) (by simp) ?_
            refine AllReadyH.cons rfl (fun K hK => ?_) AllReadyH.nil
            go_simp
            refine (less_dv (ah * 18446744073709551616 + al) (2 ^ k) _ HA.out.1 (by have := HA.out; have := H20.out; omega) (by have := two_pow_pos k; omega) (two_pow_lt k (by omega))).mono ?_
            rintro e w3 ⟨rfl, hw3⟩
            have F3 : Hid (Kn w [(w.heap.size, ah, al), (w.heap.size + 1, bh, bl)] [(px, (ah * 18446744073709551616 + al)), (py, (bh * 18446744073709551616 + bl))] w3) := F2.out.later hw3
            clear hw3
            (try go_wp2_with (fail))
            refine hK.out _ _ ?_ (fun hHeld => ?_)
            · exact (F3.out.2.1 (px, (ah * 18446744073709551616 + al)) (by simp)).1
            clear hK K
            refine wpAnyH_take (i := 7) (v := ?_) rfl (by kernel_rfl) (by kernel_rfl) (by kernel_rfl) (fun _ _ _ h => h) (Or.inl ⟨by rfl, ?_⟩) (by assumption) ?_
            rotate_left
            · (intro wS hSw; (try dsimp only at hSw); go_simp; try with_reducible rfl)
            change wpAnyH _ _ _ _ _ _ _ (Act.put _ (some 39) _) _
            simp only [Act.put, List.setIfInBounds_toArray, List.set_cons_zero, List.set_cons_succ]
            refine wpAnyH_take (i := 8) (v := ?_) rfl (by kernel_rfl) (by kernel_rfl) (by kernel_rfl) (fun _ _ _ h => h) (Or.inl ⟨by rfl, ?_⟩) (by assumption) ?_
            rotate_left
            · (intro wS hSw; (try dsimp only at hSw); go_simp; try with_reducible rfl)
            change wpAnyH _ _ _ _ _ _ _ (Act.put _ (some 40) _) _
            simp only [Act.put, List.setIfInBounds_toArray, List.set_cons_zero, List.set_cons_succ]
            refine wpAnyH_done (by kernel_rfl) ?_ _
            refine NoPanic.normal ?_
            clear F F2
            go_wp2_with (fail)
            go_meet
            case rel => exact ⟨rfl, F3⟩
          · obtain rfl : k = 128 := by omega
            have E : Hid (decide ((ah * 18446744073709551616 + al) < 2 ^ 128) = true) := decide_eq_true (by rw [pow128]; exact HA.out.2)
            refine wp_region_noPanic ?_
            refine wp_region_held_drew (S := fun w' => w'.rangeAt px 0 (dl (wd (ah * 18446744073709551616 + al)))) (by kernel_rfl) ?_ (fun hHeld => ?_)
            · exact (F.out.2.1 (px, (ah * 18446744073709551616 + al)) (by simp)).1
            refine wpAnyH_take (i := 0) (v := ?_) rfl (by kernel_rfl) (by kernel_rfl) (by kernel_rfl) (fun _ _ _ h => h) (Or.inl ⟨by rfl, ?_⟩) (by assumption) ?_
            rotate_left
            · (intro wS hSw; (try dsimp only at hSw); go_simp; try with_reducible rfl)
            change wpAnyH _ _ _ _ _ _ _ (Act.put _ (some 32) _) _
            simp only [Act.put, List.setIfInBounds_toArray, List.set_cons_zero, List.set_cons_succ]
            refine wpAnyH_take (i := 1) (v := ?_) rfl (by kernel_rfl) (by kernel_rfl) (by kernel_rfl) (fun _ _ _ h => h) (Or.inl ⟨by rfl, ?_⟩) (by assumption) ?_
            rotate_left
            · (intro wS hSw; (try dsimp only at hSw); go_simp; try with_reducible rfl)
            change wpAnyH _ _ _ _ _ _ _ (Act.put _ (some 33) _) _
            simp only [Act.put, List.setIfInBounds_toArray, List.set_cons_zero, List.set_cons_succ]
            refine wpAnyH_take (i := 2) (v := ?_) rfl (by kernel_rfl) (by kernel_rfl) (by kernel_rfl) (fun _ _ _ h => h) (Or.inl ⟨by rfl, ?_⟩) (by assumption) ?_
            rotate_left
            · (intro wS hSw; (try dsimp only at hSw); go_simp; try with_reducible rfl)
            change wpAnyH _ _ _ _ _ _ _ (Act.put _ (some 34) _) _
            simp only [Act.put, List.setIfInBounds_toArray, List.set_cons_zero, List.set_cons_succ]
            refine wpAnyH_take (i := 3) (v := undef) rfl (by kernel_rfl) (by kernel_rfl) (by kernel_rfl) (fun _ _ _ h => h) (Or.inr ⟨by rfl, rfl⟩) (by assumption) ?_
            change wpAnyH _ _ _ _ _ _ _ (Act.put _ (some 35) _) _
            simp only [Act.put, List.setIfInBounds_toArray, List.set_cons_zero, List.set_cons_succ]
            refine wpAnyH_take (i := 4) (v := undef) rfl (by kernel_rfl) (by kernel_rfl) (by kernel_rfl) (fun _ _ _ h => h) (Or.inr ⟨by rfl, rfl⟩) (by assumption) ?_
            change wpAnyH _ _ _ _ _ _ _ (Act.put _ (some 36) _) _
            simp only [Act.put, List.setIfInBounds_toArray, List.set_cons_zero, List.set_cons_succ]
            refine wpAnyH_take (i := 5) (v := undef) rfl (by kernel_rfl) (by kernel_rfl) (by kernel_rfl) (fun _ _ _ h => h) (Or.inr ⟨by rfl, rfl⟩) (by assumption) ?_
            change wpAnyH _ _ _ _ _ _ _ (Act.put _ (some 37) _) _
            simp only [Act.put, List.setIfInBounds_toArray, List.set_cons_zero, List.set_cons_succ]
            refine wpAnyH_take (i := 6) (v := undef) rfl (by kernel_rfl) (by kernel_rfl) (by kernel_rfl) (fun _ _ _ h => h) (Or.inr ⟨by rfl, rfl⟩) (by assumption) ?_
            change wpAnyH _ _ _ _ _ _ _ (Act.put _ (some 38) _) _
            simp only [Act.put, List.setIfInBounds_toArray, List.set_cons_zero, List.set_cons_succ]
            refine wpAnyH_take (i := 7) (v := undef) rfl (by kernel_rfl) (by kernel_rfl) (by kernel_rfl) (fun _ _ _ h => h) (Or.inr ⟨by rfl, rfl⟩) (by assumption) ?_
            change wpAnyH _ _ _ _ _ _ _ (Act.put _ (some 39) _) _
            simp only [Act.put, List.setIfInBounds_toArray, List.set_cons_zero, List.set_cons_succ]
            refine wpAnyH_take (i := 8) (v := ?_) rfl (by kernel_rfl) (by kernel_rfl) (by kernel_rfl) (fun _ _ _ h => h) (Or.inl ⟨by rfl, ?_⟩) (by assumption) ?_
            rotate_left
            · (intro wS hSw; (try dsimp only at hSw); go_simp; try with_reducible rfl)
            change wpAnyH _ _ _ _ _ _ _ (Act.put _ (some 40) _) _
            simp only [Act.put, List.setIfInBounds_toArray, List.set_cons_zero, List.set_cons_succ]
            refine wpAnyH_done (by kernel_rfl) ?_ _
            refine NoPanic.normal ?_
            go_wp2_with (fail)
            go_meet
            case rel => exact ⟨by rw [E.out]; rfl, F.out.drew⟩
        case rest =>
          obtain ⟨rfl, F12⟩ := hcut
          clear F
          by_cases hq : (ah * 18446744073709551616 + al) < 2 ^ k
          · have e := bits_end (ah * 18446744073709551616 + al) k HA.out.1 hq HK.out
            have EK : Hid (k = bitLen (ah * 18446744073709551616 + al).toNat) := e
            clear e HK
            rw [decide_eq_true hq]
            clear hq
            go_upto_region 14 with (fail)
            obtain ⟨uu, huu⟩ : ∃ uu : Int, uu = if ah = 0 then al else 0 := ⟨_, rfl⟩
            have Huu : Hid (uu = if ah = 0 then al else 0) := huu
            obtain ⟨ub, hub⟩ : ∃ ub : Bool, ub = decide (ah = 0) := ⟨_, rfl⟩
            have Hub : Hid (ub = decide (ah = 0)) := hub
            obtain ⟨p0, p1, pz⟩ := F12.out.1 (w.heap.size, ah, al) (by simp)
            dsimp only at p0 p1 pz
            go_wp2_with (fail)
            refine (uint_any ah al _).mono ?_
            rintro e w14 ⟨rfl, hw14⟩
            rw [← huu, ← hub]
            clear huu hub
            have F14 : Hid (Kn w [(w.heap.size, ah, al), (w.heap.size + 1, bh, bl)] [(px, (ah * 18446744073709551616 + al)), (py, (bh * 18446744073709551616 + bl))] w14) := F12.out.later hw14
            clear hw14 F12 p0 p1 pz
            go_wp2_with (fail)
            refine (HP.out _).mono ?_
            rintro e w15 ⟨rfl, hw15⟩
            have F15 : Hid (Kn w ((w15.heap.size, ph, pl) :: [(w.heap.size, ah, al), (w.heap.size + 1, bh, bl)]) [(px, (ah * 18446744073709551616 + al)), (py, (bh * 18446744073709551616 + bl))] (w15.alloc (.cells #[.int .u64 (ph), .int .u64 (pl)] 24))) := (F14.out.later hw15).new ph pl 24
            clear hw15 F14
            go_upto_region 16 with (fail)
            generalize w15.alloc (.cells #[.int .u64 (ph), .int .u64 (pl)] 24) = W15 at F15 ⊢
            generalize w15.heap.size = p13 at F15 ⊢
            go_wp2_with (fail)
            refine (HR.out _).mono ?_
            rintro e w16 ⟨rfl, hw16⟩
            have F16' : Hid (Kn w ((w16.heap.size, ph, pl) :: (p13, ph, pl) :: [(w.heap.size, ah, al), (w.heap.size + 1, bh, bl)]) [(px, (ah * 18446744073709551616 + al)), (py, (bh * 18446744073709551616 + bl))] (w16.alloc (.cells #[.int .u64 (ph), .int .u64 (pl)] 24))) := (F15.out.later hw16).new ph pl 24
            clear hw16 F15
            go_upto_region 17 with (fail)
            generalize w16.alloc (.cells #[.int .u64 (ph), .int .u64 (pl)] 24) = W16 at F16' ⊢
            generalize w16.heap.size = p15 at F16' ⊢
            have F16 : Hid (Kn w [(p15, ph, pl), (p13, ph, pl), (w.heap.size, ah, al), (w.heap.size + 1, bh, bl)] [] W16) := F16'.out.part (by simp) (by simp)
            clear F16'
            obtain rfl := EK.out
            clear EK m0 m1 hk1
            by_cases hz : ah = 0
            · have e := Huu.out
              rw [if_pos hz] at e
              have e' := e.symm
              subst e'
              have e : ub = true := by rw [Hub.out]; exact decide_eq_true hz
              subst e
              have hz' : (ah == 0) = true := beq_iff_eq.2 hz
              clear Huu Hub hz
              refine wp_region_noPanic ?_
              refine wp_region_held_drew (S := fun w' => Pair w' p15 ph pl ∧ Pair w' p13 ph pl ∧ Pair w' w.heap.size ah al ∧ Pair w' (w.heap.size + 1) bh bl) (by kernel_rfl) ?_ (fun hHeld => ?_)
              · exact ⟨F16.out.1 (p15, ph, pl) (by simp), F16.out.1 (p13, ph, pl) (by simp), F16.out.1 (w.heap.size, ah, al) (by simp), F16.out.1 (w.heap.size + 1, bh, bl) (by simp)⟩
              refine wpAnyH_take (i := 0) (v := ?_) rfl (by kernel_rfl) (by kernel_rfl) (by kernel_rfl) (fun _ _ _ h => h) (Or.inl ⟨by rfl, ?_⟩) (by assumption) ?_
              rotate_left
              · (intro wS hSw; obtain ⟨⟨g0, g1, -⟩, ⟨g2, g3, -⟩, ⟨g4, g5, -⟩, g6, g7, -⟩ := hSw; go_simp; try with_reducible rfl)
              change wpAnyH _ _ _ _ _ _ _ (Act.put _ (some 58) _) _
              simp only [Act.put, List.setIfInBounds_toArray, List.set_cons_zero, List.set_cons_succ]
              refine wpAnyH_take (i := 1) (v := ?_) rfl (by kernel_rfl) (by kernel_rfl) (by kernel_rfl) (fun _ _ _ h => h) (Or.inl ⟨by rfl, ?_⟩) (by assumption) ?_
              rotate_left
              · (intro wS hSw; obtain ⟨⟨g0, g1, -⟩, ⟨g2, g3, -⟩, ⟨g4, g5, -⟩, g6, g7, -⟩ := hSw; go_simp; try with_reducible rfl)
              change wpAnyH _ _ _ _ _ _ _ (Act.put _ (some 59) _) _
              simp only [Act.put, List.setIfInBounds_toArray, List.set_cons_zero, List.set_cons_succ]
              refine wpAnyH_take (i := 3) (v := ?_) rfl (by kernel_rfl) (by kernel_rfl) (by kernel_rfl) (fun _ _ _ h => h) (Or.inl ⟨by rfl, ?_⟩) (by assumption) ?_
              rotate_left
              · (intro wS hSw; obtain ⟨⟨g0, g1, -⟩, ⟨g2, g3, -⟩, ⟨g4, g5, -⟩, g6, g7, -⟩ := hSw; go_simp; try with_reducible rfl)
              change wpAnyH _ _ _ _ _ _ _ (Act.put _ (some 61) _) _
              simp only [Act.put, List.setIfInBounds_toArray, List.set_cons_zero, List.set_cons_succ]
              refine wpAnyH_ready (rs := [2]) (by kernel_rfl) (by simp) ?_
              refine AllReadyH.cons rfl (fun K hK => ?_) AllReadyH.nil
              go_simp
              refine (compare_any ah al bh bl _ a0 a1 b0 b1).mono ?_
              rintro e v0 ⟨rfl, hv0⟩
              have F17a : Hid (Kn w [(p15, ph, pl), (p13, ph, pl), (w.heap.size, ah, al), (w.heap.size + 1, bh, bl)] [] v0) := F16.out.drew.later hv0
              clear hv0 F16
              (try go_wp2_with (fail))
              refine hK.out _ _ ?_ (fun hHeld => ?_)
              · exact ⟨F17a.out.1 (p15, ph, pl) (by simp), F17a.out.1 (p13, ph, pl) (by simp), F17a.out.1 (w.heap.size, ah, al) (by simp), F17a.out.1 (w.heap.size + 1, bh, bl) (by simp)⟩
              clear hK K
              refine wpAnyH_take (i := 4) (v := ?_) rfl (by kernel_rfl) (by kernel_rfl) (by kernel_rfl) (fun _ _ _ h => h) (Or.inl ⟨by rfl, ?_⟩) (by assumption) ?_
              rotate_left
              · (intro wS hSw; obtain ⟨⟨g0, g1, -⟩, ⟨g2, g3, -⟩, ⟨g4, g5, -⟩, g6, g7, -⟩ := hSw; go_simp; try with_reducible rfl)
              change wpAnyH _ _ _ _ _ _ _ (Act.put _ (some 62) _) _
              simp only [Act.put, List.setIfInBounds_toArray, List.set_cons_zero, List.set_cons_succ]
              refine wpAnyH_take (i := 5) (v := ?_) rfl (by kernel_rfl) (by kernel_rfl) (by kernel_rfl) (fun _ _ _ h => h) (Or.inl ⟨by rfl, ?_⟩) (by assumption) ?_
              rotate_left
              · (intro wS hSw; obtain ⟨⟨g0, g1, -⟩, ⟨g2, g3, -⟩, ⟨g4, g5, -⟩, g6, g7, -⟩ := hSw; go_simp; try with_reducible rfl)
              change wpAnyH _ _ _ _ _ _ _ (Act.put _ (some 63) _) _
              simp only [Act.put, List.setIfInBounds_toArray, List.set_cons_zero, List.set_cons_succ]
              refine wpAnyH_take (i := 6) (v := ?_) rfl (by kernel_rfl) (by kernel_rfl) (by kernel_rfl) (fun _ _ _ h => h) (Or.inl ⟨by rfl, ?_⟩) (by assumption) ?_
              rotate_left
              · (intro wS hSw; obtain ⟨⟨g0, g1, -⟩, ⟨g2, g3, -⟩, ⟨g4, g5, -⟩, g6, g7, -⟩ := hSw; go_simp; try with_reducible rfl)
              change wpAnyH _ _ _ _ _ _ _ (Act.put _ (some 64) _) _
              simp only [Act.put, List.setIfInBounds_toArray, List.set_cons_zero, List.set_cons_succ]
              refine wpAnyH_take (i := 8) (v := ?_) rfl (by kernel_rfl) (by kernel_rfl) (by kernel_rfl) (fun _ _ _ h => h) (Or.inl ⟨by rfl, ?_⟩) (by assumption) ?_
              rotate_left
              · (intro wS hSw; obtain ⟨⟨g0, g1, -⟩, ⟨g2, g3, -⟩, ⟨g4, g5, -⟩, g6, g7, -⟩ := hSw; go_simp; try with_reducible rfl)
              change wpAnyH _ _ _ _ _ _ _ (Act.put _ (some 66) _) _
              simp only [Act.put, List.setIfInBounds_toArray, List.set_cons_zero, List.set_cons_succ]
              refine wpAnyH_ready (rs := [7]) (by kernel_rfl) (by simp) ?_
              refine AllReadyH.cons rfl (fun K hK => ?_) AllReadyH.nil
              go_simp
              refine (bits_any ah al _ a2 a3 a0 a1).mono ?_
              rintro e v1 ⟨rfl, hv1⟩
              have F17b : Hid (Kn w [(p15, ph, pl), (p13, ph, pl), (w.heap.size, ah, al), (w.heap.size + 1, bh, bl)] [] v1) := F17a.out.later hv1
              clear hv1 F17a
              (try go_wp2_with (fail))
              refine hK.out _ _ ?_ (fun hHeld => ?_)
              · exact ⟨F17b.out.1 (p15, ph, pl) (by simp), F17b.out.1 (p13, ph, pl) (by simp), F17b.out.1 (w.heap.size, ah, al) (by simp), F17b.out.1 (w.heap.size + 1, bh, bl) (by simp)⟩
              clear hK K
              refine wpAnyH_take (i := 9) (v := ?_) rfl (by kernel_rfl) (by kernel_rfl) (by kernel_rfl) (fun _ _ _ h => h) (Or.inl ⟨by rfl, ?_⟩) (by assumption) ?_
              rotate_left
              · (intro wS hSw; obtain ⟨⟨g0, g1, -⟩, ⟨g2, g3, -⟩, ⟨g4, g5, -⟩, g6, g7, -⟩ := hSw; go_simp; try with_reducible rfl)
              change wpAnyH _ _ _ _ _ _ _ (Act.put _ (some 67) _) _
              simp only [Act.put, List.setIfInBounds_toArray, List.set_cons_zero, List.set_cons_succ]
              refine wpAnyH_take (i := 10) (v := ?_) rfl (by kernel_rfl) (by kernel_rfl) (by kernel_rfl) (fun _ _ _ h => h) (Or.inl ⟨by rfl, ?_⟩) (by assumption) ?_
              rotate_left
              · (intro wS hSw; obtain ⟨⟨g0, g1, -⟩, ⟨g2, g3, -⟩, ⟨g4, g5, -⟩, g6, g7, -⟩ := hSw; go_simp; try with_reducible rfl)
              change wpAnyH _ _ _ _ _ _ _ (Act.put _ (some 68) _) _
              simp only [Act.put, List.setIfInBounds_toArray, List.set_cons_zero, List.set_cons_succ]
              refine wpAnyH_take (i := 11) (v := ?_) rfl (by kernel_rfl) (by kernel_rfl) (by kernel_rfl) (fun _ _ _ h => h) (Or.inl ⟨by rfl, ?_⟩) (by assumption) ?_
              rotate_left
              · (intro wS hSw; obtain ⟨⟨g0, g1, -⟩, ⟨g2, g3, -⟩, ⟨g4, g5, -⟩, g6, g7, -⟩ := hSw; go_simp; try with_reducible rfl)
              change wpAnyH _ _ _ _ _ _ _ (Act.put _ (some 69) _) _
              simp only [Act.put, List.setIfInBounds_toArray, List.set_cons_zero, List.set_cons_succ]
              refine wpAnyH_take (i := 12) (v := ?_) rfl (by kernel_rfl) (by kernel_rfl) (by kernel_rfl) (fun _ _ _ h => h) (Or.inl ⟨by rfl, ?_⟩) (by assumption) ?_
              rotate_left
              · (intro wS hSw; obtain ⟨⟨g0, g1, -⟩, ⟨g2, g3, -⟩, ⟨g4, g5, -⟩, g6, g7, -⟩ := hSw; go_simp; try with_reducible rfl)
              change wpAnyH _ _ _ _ _ _ _ (Act.put _ (some 70) _) _
              simp only [Act.put, List.setIfInBounds_toArray, List.set_cons_zero, List.set_cons_succ]
              refine wpAnyH_take (i := 13) (v := ?_) rfl (by kernel_rfl) (by kernel_rfl) (by kernel_rfl) (fun _ _ _ h => h) (Or.inl ⟨by rfl, ?_⟩) (by assumption) ?_
              rotate_left
              · (intro wS hSw; obtain ⟨⟨g0, g1, -⟩, ⟨g2, g3, -⟩, ⟨g4, g5, -⟩, g6, g7, -⟩ := hSw; go_simp; try with_reducible rfl)
              change wpAnyH _ _ _ _ _ _ _ (Act.put _ (some 71) _) _
              simp only [Act.put, List.setIfInBounds_toArray, List.set_cons_zero, List.set_cons_succ]
              refine wpAnyH_take (i := 14) (v := ?_) rfl (by kernel_rfl) (by kernel_rfl) (by kernel_rfl) (fun _ _ _ h => h) (Or.inl ⟨by rfl, ?_⟩) (by assumption) ?_
              rotate_left
              · (intro wS hSw; obtain ⟨⟨g0, g1, -⟩, ⟨g2, g3, -⟩, ⟨g4, g5, -⟩, g6, g7, -⟩ := hSw; go_simp; try with_reducible rfl)
              change wpAnyH _ _ _ _ _ _ _ (Act.put _ (some 72) _) _
              simp only [Act.put, List.setIfInBounds_toArray, List.set_cons_zero, List.set_cons_succ]
              refine wpAnyH_take (i := 15) (v := ?_) rfl (by kernel_rfl) (by kernel_rfl) (by kernel_rfl) (fun _ _ _ h => h) (Or.inl ⟨by rfl, ?_⟩) (by assumption) ?_
              rotate_left
              · (intro wS hSw; obtain ⟨⟨g0, g1, -⟩, ⟨g2, g3, -⟩, ⟨g4, g5, -⟩, g6, g7, -⟩ := hSw; go_simp; try with_reducible rfl)
              change wpAnyH _ _ _ _ _ _ _ (Act.put _ (some 73) _) _
              simp only [Act.put, List.setIfInBounds_toArray, List.set_cons_zero, List.set_cons_succ]
              refine wpAnyH_take (i := 16) (v := ?_) rfl (by kernel_rfl) (by kernel_rfl) (by kernel_rfl) (fun _ _ _ h => h) (Or.inl ⟨by rfl, ?_⟩) (by assumption) ?_
              rotate_left
              · (intro wS hSw; obtain ⟨⟨g0, g1, -⟩, ⟨g2, g3, -⟩, ⟨g4, g5, -⟩, g6, g7, -⟩ := hSw; go_simp; try with_reducible rfl)
              change wpAnyH _ _ _ _ _ _ _ (Act.put _ (some 74) _) _
              simp only [Act.put, List.setIfInBounds_toArray, List.set_cons_zero, List.set_cons_succ]
              refine wpAnyH_take (i := 17) (v := ?_) rfl (by kernel_rfl) (by kernel_rfl) (by kernel_rfl) (fun _ _ _ h => h) (Or.inl ⟨by rfl, ?_⟩) (by assumption) ?_
              rotate_left
              · (intro wS hSw; obtain ⟨⟨g0, g1, -⟩, ⟨g2, g3, -⟩, ⟨g4, g5, -⟩, g6, g7, -⟩ := hSw; go_simp; try with_reducible rfl)
              change wpAnyH _ _ _ _ _ _ _ (Act.put _ (some 75) _) _
              simp only [Act.put, List.setIfInBounds_toArray, List.set_cons_zero, List.set_cons_succ]
              refine wpAnyH_take (i := 18) (v := ?_) rfl (by kernel_rfl) (by kernel_rfl) (by kernel_rfl) (fun _ _ _ h => h) (Or.inl ⟨by rfl, ?_⟩) (by assumption) ?_
              rotate_left
              · (intro wS hSw; obtain ⟨⟨g0, g1, -⟩, ⟨g2, g3, -⟩, ⟨g4, g5, -⟩, g6, g7, -⟩ := hSw; go_simp; try with_reducible rfl)
              change wpAnyH _ _ _ _ _ _ _ (Act.put _ (some 76) _) _
              simp only [Act.put, List.setIfInBounds_toArray, List.set_cons_zero, List.set_cons_succ]
              refine wpAnyH_take (i := 19) (v := ?_) rfl (by kernel_rfl) (by kernel_rfl) (by kernel_rfl) (fun _ _ _ h => h) (Or.inl ⟨by rfl, ?_⟩) (by assumption) ?_
              rotate_left
              · (intro wS hSw; obtain ⟨⟨g0, g1, -⟩, ⟨g2, g3, -⟩, ⟨g4, g5, -⟩, g6, g7, -⟩ := hSw; go_simp; try with_reducible rfl)
              change wpAnyH _ _ _ _ _ _ _ (Act.put _ (some 77) _) _
              simp only [Act.put, List.setIfInBounds_toArray, List.set_cons_zero, List.set_cons_succ]
              refine wpAnyH_take (i := 20) (v := ?_) rfl (by kernel_rfl) (by kernel_rfl) (by kernel_rfl) (fun _ _ _ h => h) (Or.inl ⟨by rfl, ?_⟩) (by assumption) ?_
              rotate_left
              · (intro wS hSw; obtain ⟨⟨g0, g1, -⟩, ⟨g2, g3, -⟩, ⟨g4, g5, -⟩, g6, g7, -⟩ := hSw; go_simp; try with_reducible rfl)
              change wpAnyH _ _ _ _ _ _ _ (Act.put _ (some 78) _) _
              simp only [Act.put, List.setIfInBounds_toArray, List.set_cons_zero, List.set_cons_succ]
              refine wpAnyH_take (i := 21) (v := ?_) rfl (by kernel_rfl) (by kernel_rfl) (by kernel_rfl) (fun _ _ _ h => h) (Or.inl ⟨by rfl, ?_⟩) (by assumption) ?_
              rotate_left
              · (intro wS hSw; obtain ⟨⟨g0, g1, -⟩, ⟨g2, g3, -⟩, ⟨g4, g5, -⟩, g6, g7, -⟩ := hSw; go_simp; try with_reducible rfl)
              change wpAnyH _ _ _ _ _ _ _ (Act.put _ (some 79) _) _
              simp only [Act.put, List.setIfInBounds_toArray, List.set_cons_zero, List.set_cons_succ]
              refine wpAnyH_take (i := 22) (v := ?_) rfl (by kernel_rfl) (by kernel_rfl) (by kernel_rfl) (fun _ _ _ h => h) (Or.inl ⟨by rfl, ?_⟩) (by assumption) ?_
              rotate_left
              · (intro wS hSw; obtain ⟨⟨g0, g1, -⟩, ⟨g2, g3, -⟩, ⟨g4, g5, -⟩, g6, g7, -⟩ := hSw; go_simp; try with_reducible rfl)
              change wpAnyH _ _ _ _ _ _ _ (Act.put _ (some 80) _) _
              simp only [Act.put, List.setIfInBounds_toArray, List.set_cons_zero, List.set_cons_succ]
              refine wpAnyH_take (i := 23) (v := ?_) rfl (by kernel_rfl) (by kernel_rfl) (by kernel_rfl) (fun _ _ _ h => h) (Or.inl ⟨by rfl, ?_⟩) (by assumption) ?_
              rotate_left
              · (intro wS hSw; obtain ⟨⟨g0, g1, -⟩, ⟨g2, g3, -⟩, ⟨g4, g5, -⟩, g6, g7, -⟩ := hSw; go_simp; try with_reducible rfl)
              change wpAnyH _ _ _ _ _ _ _ (Act.put _ (some 81) _) _
              simp only [Act.put, List.setIfInBounds_toArray, List.set_cons_zero, List.set_cons_succ]
              refine wpAnyH_take (i := 24) (v := ?_) rfl (by kernel_rfl) (by kernel_rfl) (by kernel_rfl) (fun _ _ _ h => h) (Or.inl ⟨by rfl, ?_⟩) (by assumption) ?_
              rotate_left
              · (intro wS hSw; obtain ⟨⟨g0, g1, -⟩, ⟨g2, g3, -⟩, ⟨g4, g5, -⟩, g6, g7, -⟩ := hSw; go_simp; try with_reducible rfl)
              change wpAnyH _ _ _ _ _ _ _ (Act.put _ (some 82) _) _
              simp only [Act.put, List.setIfInBounds_toArray, List.set_cons_zero, List.set_cons_succ]
              refine wpAnyH_take (i := 25) (v := ?_) rfl (by kernel_rfl) (by kernel_rfl) (by kernel_rfl) (fun _ _ _ h => h) (Or.inl ⟨by rfl, ?_⟩) (by assumption) ?_
              rotate_left
              · (intro wS hSw; obtain ⟨⟨g0, g1, -⟩, ⟨g2, g3, -⟩, ⟨g4, g5, -⟩, g6, g7, -⟩ := hSw; go_simp; try with_reducible rfl)
              change wpAnyH _ _ _ _ _ _ _ (Act.put _ (some 83) _) _
              simp only [Act.put, List.setIfInBounds_toArray, List.set_cons_zero, List.set_cons_succ]
              refine wpAnyH_take (i := 26) (v := ?_) rfl (by kernel_rfl) (by kernel_rfl) (by kernel_rfl) (fun _ _ _ h => h) (Or.inl ⟨by rfl, ?_⟩) (by assumption) ?_
              rotate_left
              · (intro wS hSw; obtain ⟨⟨g0, g1, -⟩, ⟨g2, g3, -⟩, ⟨g4, g5, -⟩, g6, g7, -⟩ := hSw; go_simp; try with_reducible rfl)
              change wpAnyH _ _ _ _ _ _ _ (Act.put _ (some 84) _) _
              simp only [Act.put, List.setIfInBounds_toArray, List.set_cons_zero, List.set_cons_succ]
              refine wpAnyH_take (i := 27) (v := undef) rfl (by kernel_rfl) (by kernel_rfl) (by kernel_rfl) (fun _ _ _ h => h) (Or.inr ⟨by rfl, rfl⟩) (by assumption) ?_
              change wpAnyH _ _ _ _ _ _ _ (Act.put _ (some 85) _) _
              simp only [Act.put, List.setIfInBounds_toArray, List.set_cons_zero, List.set_cons_succ]
              refine wpAnyH_take (i := 28) (v := undef) rfl (by kernel_rfl) (by kernel_rfl) (by kernel_rfl) (fun _ _ _ h => h) (Or.inr ⟨by rfl, rfl⟩) (by assumption) ?_
              change wpAnyH _ _ _ _ _ _ _ (Act.put _ (some 86) _) _
              simp only [Act.put, List.setIfInBounds_toArray, List.set_cons_zero, List.set_cons_succ]
              refine wpAnyH_take (i := 29) (v := undef) rfl (by kernel_rfl) (by kernel_rfl) (by kernel_rfl) (fun _ _ _ h => h) (Or.inr ⟨by rfl, rfl⟩) (by assumption) ?_
              change wpAnyH _ _ _ _ _ _ _ (Act.put _ (some 87) _) _
              simp only [Act.put, List.setIfInBounds_toArray, List.set_cons_zero, List.set_cons_succ]
              refine wpAnyH_take (i := 30) (v := undef) rfl (by kernel_rfl) (by kernel_rfl) (by kernel_rfl) (fun _ _ _ h => h) (Or.inr ⟨by rfl, rfl⟩) (by assumption) ?_
              change wpAnyH _ _ _ _ _ _ _ (Act.put _ (some 88) _) _
              simp only [Act.put, List.setIfInBounds_toArray, List.set_cons_zero, List.set_cons_succ]
              refine wpAnyH_take (i := 31) (v := undef) rfl (by kernel_rfl) (by kernel_rfl) (by kernel_rfl) (fun _ _ _ h => h) (Or.inr ⟨by rfl, rfl⟩) (by assumption) ?_
              change wpAnyH _ _ _ _ _ _ _ (Act.put _ (some 89) _) _
              simp only [Act.put, List.setIfInBounds_toArray, List.set_cons_zero, List.set_cons_succ]
              refine wpAnyH_take (i := 32) (v := undef) rfl (by kernel_rfl) (by kernel_rfl) (by kernel_rfl) (fun _ _ _ h => h) (Or.inr ⟨by rfl, rfl⟩) (by assumption) ?_
              change wpAnyH _ _ _ _ _ _ _ (Act.put _ (some 90) _) _
              simp only [Act.put, List.setIfInBounds_toArray, List.set_cons_zero, List.set_cons_succ]
              refine wpAnyH_take (i := 33) (v := ?_) rfl (by kernel_rfl) (by kernel_rfl) (by kernel_rfl) (fun _ _ _ h => h) (Or.inl ⟨by rfl, ?_⟩) (by assumption) ?_
              rotate_left
              · (intro wS hSw; obtain ⟨⟨g0, g1, -⟩, ⟨g2, g3, -⟩, ⟨g4, g5, -⟩, g6, g7, -⟩ := hSw; go_simp; try with_reducible rfl)
              change wpAnyH _ _ _ _ _ _ _ (Act.put _ (some 91) _) _
              simp only [Act.put, List.setIfInBounds_toArray, List.set_cons_zero, List.set_cons_succ]
              refine wpAnyH_take (i := 34) (v := ?_) rfl (by kernel_rfl) (by kernel_rfl) (by kernel_rfl) (fun _ _ _ h => h) (Or.inl ⟨by rfl, ?_⟩) (by assumption) ?_
              rotate_left
              · (intro wS hSw; obtain ⟨⟨g0, g1, -⟩, ⟨g2, g3, -⟩, ⟨g4, g5, -⟩, g6, g7, -⟩ := hSw; go_simp; try with_reducible rfl)
              change wpAnyH _ _ _ _ _ _ _ (Act.put _ (some 92) _) _
              simp only [Act.put, List.setIfInBounds_toArray, List.set_cons_zero, List.set_cons_succ]
              refine wpAnyH_take (i := 35) (v := ?_) rfl (by kernel_rfl) (by kernel_rfl) (by kernel_rfl) (fun _ _ _ h => h) (Or.inl ⟨by rfl, ?_⟩) (by assumption) ?_
              rotate_left
              · (intro wS hSw; obtain ⟨⟨g0, g1, -⟩, ⟨g2, g3, -⟩, ⟨g4, g5, -⟩, g6, g7, -⟩ := hSw; go_simp; try with_reducible rfl)
              change wpAnyH _ _ _ _ _ _ _ (Act.put _ (some 93) _) _
              simp only [Act.put, List.setIfInBounds_toArray, List.set_cons_zero, List.set_cons_succ]
              refine wpAnyH_take (i := 36) (v := ?_) rfl (by kernel_rfl) (by kernel_rfl) (by kernel_rfl) (fun _ _ _ h => h) (Or.inl ⟨by rfl, ?_⟩) (by assumption) ?_
              rotate_left
              · (intro wS hSw; obtain ⟨⟨g0, g1, -⟩, ⟨g2, g3, -⟩, ⟨g4, g5, -⟩, g6, g7, -⟩ := hSw; go_simp; try with_reducible rfl)
              change wpAnyH _ _ _ _ _ _ _ (Act.put _ (some 94) _) _
              simp only [Act.put, List.setIfInBounds_toArray, List.set_cons_zero, List.set_cons_succ]
              refine wpAnyH_take (i := 37) (v := ?_) rfl (by kernel_rfl) (by kernel_rfl) (by kernel_rfl) (fun _ _ _ h => h) (Or.inl ⟨by rfl, ?_⟩) (by assumption) ?_
              rotate_left
              · (intro wS hSw; obtain ⟨⟨g0, g1, -⟩, ⟨g2, g3, -⟩, ⟨g4, g5, -⟩, g6, g7, -⟩ := hSw; go_simp; try with_reducible rfl)
              change wpAnyH _ _ _ _ _ _ _ (Act.put _ (some 95) _) _
              simp only [Act.put, List.setIfInBounds_toArray, List.set_cons_zero, List.set_cons_succ]
              refine wpAnyH_take (i := 39) (v := ?_) rfl (by kernel_rfl) (by kernel_rfl) (by kernel_rfl) (fun _ _ _ h => h) (Or.inl ⟨by rfl, ?_⟩) (by assumption) ?_
              rotate_left
              · (intro wS hSw; obtain ⟨⟨g0, g1, -⟩, ⟨g2, g3, -⟩, ⟨g4, g5, -⟩, g6, g7, -⟩ := hSw; go_simp; try with_reducible rfl)
              change wpAnyH _ _ _ _ _ _ _ (Act.put _ (some 97) _) _
              simp only [Act.put, List.setIfInBounds_toArray, List.set_cons_zero, List.set_cons_succ]
              refine wpAnyH_take (i := 40) (v := ?_) rfl (by kernel_rfl) (by kernel_rfl) (by kernel_rfl) (fun _ _ _ h => h) (Or.inl ⟨by rfl, ?_⟩) (by assumption) ?_
              rotate_left
              · (intro wS hSw; obtain ⟨⟨g0, g1, -⟩, ⟨g2, g3, -⟩, ⟨g4, g5, -⟩, g6, g7, -⟩ := hSw; go_simp; try with_reducible rfl)
              change wpAnyH _ _ _ _ _ _ _ (Act.put _ (some 98) _) _
              simp only [Act.put, List.setIfInBounds_toArray, List.set_cons_zero, List.set_cons_succ]
              refine wpAnyH_take (i := 41) (v := ?_) rfl (by kernel_rfl) (by kernel_rfl) (by kernel_rfl) (fun _ _ _ h => h) (Or.inl ⟨by rfl, ?_⟩) (by assumption) ?_
              rotate_left
              · (intro wS hSw; obtain ⟨⟨g0, g1, -⟩, ⟨g2, g3, -⟩, ⟨g4, g5, -⟩, g6, g7, -⟩ := hSw; go_simp; try with_reducible rfl)
              change wpAnyH _ _ _ _ _ _ _ (Act.put _ (some 99) _) _
              simp only [Act.put, List.setIfInBounds_toArray, List.set_cons_zero, List.set_cons_succ]
              refine wpAnyH_ready (rs := [38]) (by kernel_rfl) (by simp) ?_
              refine AllReadyH.cons rfl (fun K hK => ?_) AllReadyH.nil
              go_simp
              refine (of_any al _).mono ?_
              rintro e v2 ⟨rfl, hv2⟩
              have F17c : Hid (Kn w [(p15, ph, pl), (p13, ph, pl), (w.heap.size, ah, al), (w.heap.size + 1, bh, bl)] [] v2) := F17b.out.later hv2
              clear hv2 F17b
              (try go_wp2_with (fail))
              refine hK.out _ _ ?_ (fun hHeld => ?_)
              · exact ⟨F17c.out.1 (p15, ph, pl) (by simp), F17c.out.1 (p13, ph, pl) (by simp), F17c.out.1 (w.heap.size, ah, al) (by simp), F17c.out.1 (w.heap.size + 1, bh, bl) (by simp)⟩
              clear hK K
              refine wpAnyH_take (i := 42) (v := ?_) rfl (by kernel_rfl) (by kernel_rfl) (by kernel_rfl) (fun _ _ _ h => h) (Or.inl ⟨by rfl, ?_⟩) (by assumption) ?_
              rotate_left
              · (intro wS hSw; obtain ⟨⟨g0, g1, -⟩, ⟨g2, g3, -⟩, ⟨g4, g5, -⟩, g6, g7, -⟩ := hSw; go_simp; try with_reducible rfl)
              change wpAnyH _ _ _ _ _ _ _ (Act.put _ (some 100) _) _
              simp only [Act.put, List.setIfInBounds_toArray, List.set_cons_zero, List.set_cons_succ]
              refine wpAnyH_take (i := 43) (v := ?_) rfl (by kernel_rfl) (by kernel_rfl) (by kernel_rfl) (fun _ _ _ h => h) (Or.inl ⟨by rfl, ?_⟩) (by assumption) ?_
              rotate_left
              · (intro wS hSw; obtain ⟨⟨g0, g1, -⟩, ⟨g2, g3, -⟩, ⟨g4, g5, -⟩, g6, g7, -⟩ := hSw; go_simp; try with_reducible rfl)
              change wpAnyH _ _ _ _ _ _ _ (Act.put _ (some 101) _) _
              simp only [Act.put, List.setIfInBounds_toArray, List.set_cons_zero, List.set_cons_succ]
              refine wpAnyH_take (i := 44) (v := ?_) rfl (by kernel_rfl) (by kernel_rfl) (by kernel_rfl) (fun _ _ _ h => h) (Or.inl ⟨by rfl, ?_⟩) (by assumption) ?_
              rotate_left
              · (intro wS hSw; obtain ⟨⟨g0, g1, -⟩, ⟨g2, g3, -⟩, ⟨g4, g5, -⟩, g6, g7, -⟩ := hSw; go_simp; try with_reducible rfl)
              change wpAnyH _ _ _ _ _ _ _ (Act.put _ (some 102) _) _
              simp only [Act.put, List.setIfInBounds_toArray, List.set_cons_zero, List.set_cons_succ]
              refine wpAnyH_take (i := 45) (v := ?_) rfl (by kernel_rfl) (by kernel_rfl) (by kernel_rfl) (fun _ _ _ h => h) (Or.inl ⟨by rfl, ?_⟩) (by assumption) ?_
              rotate_left
              · (intro wS hSw; obtain ⟨⟨g0, g1, -⟩, ⟨g2, g3, -⟩, ⟨g4, g5, -⟩, g6, g7, -⟩ := hSw; go_simp; try with_reducible rfl)
              change wpAnyH _ _ _ _ _ _ _ (Act.put _ (some 103) _) _
              simp only [Act.put, List.setIfInBounds_toArray, List.set_cons_zero, List.set_cons_succ]
              refine wpAnyH_take (i := 47) (v := ?_) rfl (by kernel_rfl) (by kernel_rfl) (by kernel_rfl) (fun _ _ _ h => h) (Or.inl ⟨by rfl, ?_⟩) (by assumption) ?_
              rotate_left
              · (intro wS hSw; obtain ⟨⟨g0, g1, -⟩, ⟨g2, g3, -⟩, ⟨g4, g5, -⟩, g6, g7, -⟩ := hSw; go_simp; try with_reducible rfl)
              change wpAnyH _ _ _ _ _ _ _ (Act.put _ (some 105) _) _
              simp only [Act.put, List.setIfInBounds_toArray, List.set_cons_zero, List.set_cons_succ]
              refine wpAnyH_ready (rs := [46]) (by kernel_rfl) (by simp) ?_
              refine AllReadyH.cons rfl (fun K hK => ?_) AllReadyH.nil
              go_simp
              refine (HT.out _).mono ?_
              rintro e v3 ⟨rfl, hv3⟩
              have F17d : Hid (Kn w [(p15, ph, pl), (p13, ph, pl), (w.heap.size, ah, al), (w.heap.size + 1, bh, bl)] [] v3) := F17c.out.later hv3
              clear hv3 F17c
              (try go_wp2_with (fail))
              refine hK.out _ _ ?_ (fun hHeld => ?_)
              · exact ⟨F17d.out.1 (p15, ph, pl) (by simp), F17d.out.1 (p13, ph, pl) (by simp), F17d.out.1 (w.heap.size, ah, al) (by simp), F17d.out.1 (w.heap.size + 1, bh, bl) (by simp)⟩
              clear hK K
              refine wpAnyH_ready (rs := [48]) (by kernel_rfl) (by simp) ?_
              refine AllReadyH.cons rfl (fun K hK => ?_) AllReadyH.nil
              go_simp
              refine (HX.out _).mono ?_
              rintro e v4 ⟨rfl, hv4⟩
              have F17e : Hid (Kn w [(p15, ph, pl), (p13, ph, pl), (w.heap.size, ah, al), (w.heap.size + 1, bh, bl)] [] v4) := F17d.out.later hv4
              clear hv4 F17d
              (try go_wp2_with (fail))
              refine hK.out _ _ ?_ (fun hHeld => ?_)
              · exact ⟨F17e.out.1 (p15, ph, pl) (by simp), F17e.out.1 (p13, ph, pl) (by simp), F17e.out.1 (w.heap.size, ah, al) (by simp), F17e.out.1 (w.heap.size + 1, bh, bl) (by simp)⟩
              clear hK K
              refine wpAnyH_take (i := 49) (v := ?_) rfl (by kernel_rfl) (by kernel_rfl) (by kernel_rfl) (fun _ _ _ h => h) (Or.inl ⟨by rfl, ?_⟩) (by assumption) ?_
              rotate_left
              · (intro wS hSw; obtain ⟨⟨g0, g1, -⟩, ⟨g2, g3, -⟩, ⟨g4, g5, -⟩, g6, g7, -⟩ := hSw; go_simp; try with_reducible rfl)
              change wpAnyH _ _ _ _ _ _ _ (Act.put _ (some 107) _) _
              simp only [Act.put, List.setIfInBounds_toArray, List.set_cons_zero, List.set_cons_succ]
              refine wpAnyH_take (i := 50) (v := ?_) rfl (by kernel_rfl) (by kernel_rfl) (by kernel_rfl) (fun _ _ _ h => h) (Or.inl ⟨by rfl, ?_⟩) (by assumption) ?_
              rotate_left
              · (intro wS hSw; obtain ⟨⟨g0, g1, -⟩, ⟨g2, g3, -⟩, ⟨g4, g5, -⟩, g6, g7, -⟩ := hSw; go_simp; try with_reducible rfl)
              change wpAnyH _ _ _ _ _ _ _ (Act.put _ (some 108) _) _
              simp only [Act.put, List.setIfInBounds_toArray, List.set_cons_zero, List.set_cons_succ]
              refine wpAnyH_take (i := 51) (v := ?_) rfl (by kernel_rfl) (by kernel_rfl) (by kernel_rfl) (fun _ _ _ h => h) (Or.inl ⟨by rfl, ?_⟩) (by assumption) ?_
              rotate_left
              · (intro wS hSw; obtain ⟨⟨g0, g1, -⟩, ⟨g2, g3, -⟩, ⟨g4, g5, -⟩, g6, g7, -⟩ := hSw; go_simp; try with_reducible rfl)
              change wpAnyH _ _ _ _ _ _ _ (Act.put _ (some 109) _) _
              simp only [Act.put, List.setIfInBounds_toArray, List.set_cons_zero, List.set_cons_succ]
              refine wpAnyH_take (i := 52) (v := ?_) rfl (by kernel_rfl) (by kernel_rfl) (by kernel_rfl) (fun _ _ _ h => h) (Or.inl ⟨by rfl, ?_⟩) (by assumption) ?_
              rotate_left
              · (intro wS hSw; obtain ⟨⟨g0, g1, -⟩, ⟨g2, g3, -⟩, ⟨g4, g5, -⟩, g6, g7, -⟩ := hSw; go_simp; try with_reducible rfl)
              change wpAnyH _ _ _ _ _ _ _ (Act.put _ (some 110) _) _
              simp only [Act.put, List.setIfInBounds_toArray, List.set_cons_zero, List.set_cons_succ]
              refine wpAnyH_take (i := 53) (v := ?_) rfl (by kernel_rfl) (by kernel_rfl) (by kernel_rfl) (fun _ _ _ h => h) (Or.inl ⟨by rfl, ?_⟩) (by assumption) ?_
              rotate_left
              · (intro wS hSw; obtain ⟨⟨g0, g1, -⟩, ⟨g2, g3, -⟩, ⟨g4, g5, -⟩, g6, g7, -⟩ := hSw; go_simp; try with_reducible rfl)
              change wpAnyH _ _ _ _ _ _ _ (Act.put _ (some 111) _) _
              simp only [Act.put, List.setIfInBounds_toArray, List.set_cons_zero, List.set_cons_succ]
              refine wpAnyH_take (i := 54) (v := ?_) rfl (by kernel_rfl) (by kernel_rfl) (by kernel_rfl) (fun _ _ _ h => h) (Or.inl ⟨by rfl, ?_⟩) (by assumption) ?_
              rotate_left
              · (intro wS hSw; obtain ⟨⟨g0, g1, -⟩, ⟨g2, g3, -⟩, ⟨g4, g5, -⟩, g6, g7, -⟩ := hSw; go_simp; try with_reducible rfl)
              change wpAnyH _ _ _ _ _ _ _ (Act.put _ (some 112) _) _
              simp only [Act.put, List.setIfInBounds_toArray, List.set_cons_zero, List.set_cons_succ]
              refine wpAnyH_take (i := 55) (v := ?_) rfl (by kernel_rfl) (by kernel_rfl) (by kernel_rfl) (fun _ _ _ h => h) (Or.inl ⟨by rfl, ?_⟩) (by assumption) ?_
              rotate_left
              · (intro wS hSw; obtain ⟨⟨g0, g1, -⟩, ⟨g2, g3, -⟩, ⟨g4, g5, -⟩, g6, g7, -⟩ := hSw; go_simp; try with_reducible rfl)
              change wpAnyH _ _ _ _ _ _ _ (Act.put _ (some 113) _) _
              simp only [Act.put, List.setIfInBounds_toArray, List.set_cons_zero, List.set_cons_succ]
              refine wpAnyH_take (i := 56) (v := ?_) rfl (by kernel_rfl) (by kernel_rfl) (by kernel_rfl) (fun _ _ _ h => h) (Or.inl ⟨by rfl, ?_⟩) (by assumption) ?_
              rotate_left
              · (intro wS hSw; obtain ⟨⟨g0, g1, -⟩, ⟨g2, g3, -⟩, ⟨g4, g5, -⟩, g6, g7, -⟩ := hSw; go_simp; try with_reducible rfl)
              change wpAnyH _ _ _ _ _ _ _ (Act.put _ (some 114) _) _
              simp only [Act.put, List.setIfInBounds_toArray, List.set_cons_zero, List.set_cons_succ]
              refine wpAnyH_take (i := 57) (v := ?_) rfl (by kernel_rfl) (by kernel_rfl) (by kernel_rfl) (fun _ _ _ h => h) (Or.inl ⟨by rfl, ?_⟩) (by assumption) ?_
              rotate_left
              · (intro wS hSw; obtain ⟨⟨g0, g1, -⟩, ⟨g2, g3, -⟩, ⟨g4, g5, -⟩, g6, g7, -⟩ := hSw; go_simp; try with_reducible rfl)
              change wpAnyH _ _ _ _ _ _ _ (Act.put _ (some 115) _) _
              simp only [Act.put, List.setIfInBounds_toArray, List.set_cons_zero, List.set_cons_succ]
              refine wpAnyH_take (i := 58) (v := ?_) rfl (by kernel_rfl) (by kernel_rfl) (by kernel_rfl) (fun _ _ _ h => h) (Or.inl ⟨by rfl, ?_⟩) (by assumption) ?_
              rotate_left
              · (intro wS hSw; obtain ⟨⟨g0, g1, -⟩, ⟨g2, g3, -⟩, ⟨g4, g5, -⟩, g6, g7, -⟩ := hSw; go_simp; try with_reducible rfl)
              change wpAnyH _ _ _ _ _ _ _ (Act.put _ (some 116) _) _
              simp only [Act.put, List.setIfInBounds_toArray, List.set_cons_zero, List.set_cons_succ]
              refine wpAnyH_take (i := 59) (v := ?_) rfl (by kernel_rfl) (by kernel_rfl) (by kernel_rfl) (fun _ _ _ h => h) (Or.inl ⟨by rfl, ?_⟩) (by assumption) ?_
              rotate_left
              · (intro wS hSw; obtain ⟨⟨g0, g1, -⟩, ⟨g2, g3, -⟩, ⟨g4, g5, -⟩, g6, g7, -⟩ := hSw; go_simp; try with_reducible rfl)
              change wpAnyH _ _ _ _ _ _ _ (Act.put _ (some 117) _) _
              simp only [Act.put, List.setIfInBounds_toArray, List.set_cons_zero, List.set_cons_succ]
              refine wpAnyH_take (i := 60) (v := ?_) rfl (by kernel_rfl) (by kernel_rfl) (by kernel_rfl) (fun _ _ _ h => h) (Or.inl ⟨by rfl, ?_⟩) (by assumption) ?_
              rotate_left
              · (intro wS hSw; obtain ⟨⟨g0, g1, -⟩, ⟨g2, g3, -⟩, ⟨g4, g5, -⟩, g6, g7, -⟩ := hSw; go_simp; try with_reducible rfl)
              change wpAnyH _ _ _ _ _ _ _ (Act.put _ (some 118) _) _
              simp only [Act.put, List.setIfInBounds_toArray, List.set_cons_zero, List.set_cons_succ]
              refine wpAnyH_take (i := 61) (v := ?_) rfl (by kernel_rfl) (by kernel_rfl) (by kernel_rfl) (fun _ _ _ h => h) (Or.inl ⟨by rfl, ?_⟩) (by assumption) ?_
              rotate_left
              · (intro wS hSw; obtain ⟨⟨g0, g1, -⟩, ⟨g2, g3, -⟩, ⟨g4, g5, -⟩, g6, g7, -⟩ := hSw; go_simp; try with_reducible rfl)
              change wpAnyH _ _ _ _ _ _ _ (Act.put _ (some 6) _) _
              simp only [Act.put, List.setIfInBounds_toArray, List.set_cons_zero, List.set_cons_succ]
              refine wpAnyH_done (by kernel_rfl) ?_ _
              refine NoPanic.normal ?_
              go_wp2_with (fail)
              go_ret
              exact ⟨rfl, F17e.out.2.2.2⟩
            · have e := Huu.out
              rw [if_neg hz] at e
              subst e
              have e : ub = false := by rw [Hub.out]; exact decide_eq_false hz
              subst e
              have hz' : (ah == 0) = false := beq_eq_false_iff_ne.2 hz
              clear Huu Hub
              refine wp_region_noPanic ?_
              refine wp_region_held_drew (S := fun w' => Pair w' p15 ph pl ∧ Pair w' p13 ph pl ∧ Pair w' w.heap.size ah al ∧ Pair w' (w.heap.size + 1) bh bl) (by kernel_rfl) ?_ (fun hHeld => ?_)
              · exact ⟨F16.out.1 (p15, ph, pl) (by simp), F16.out.1 (p13, ph, pl) (by simp), F16.out.1 (w.heap.size, ah, al) (by simp), F16.out.1 (w.heap.size + 1, bh, bl) (by simp)⟩
              refine wpAnyH_take (i := 0) (v := ?_) rfl (by kernel_rfl) (by kernel_rfl) (by kernel_rfl) (fun _ _ _ h => h) (Or.inl ⟨by rfl, ?_⟩) (by assumption) ?_
              rotate_left
              · (intro wS hSw; obtain ⟨⟨g0, g1, -⟩, ⟨g2, g3, -⟩, ⟨g4, g5, -⟩, g6, g7, -⟩ := hSw; go_simp; try with_reducible rfl)
              change wpAnyH _ _ _ _ _ _ _ (Act.put _ (some 58) _) _
              simp only [Act.put, List.setIfInBounds_toArray, List.set_cons_zero, List.set_cons_succ]
              refine wpAnyH_take (i := 1) (v := ?_) rfl (by kernel_rfl) (by kernel_rfl) (by kernel_rfl) (fun _ _ _ h => h) (Or.inl ⟨by rfl, ?_⟩) (by assumption) ?_
              rotate_left
              · (intro wS hSw; obtain ⟨⟨g0, g1, -⟩, ⟨g2, g3, -⟩, ⟨g4, g5, -⟩, g6, g7, -⟩ := hSw; go_simp; try with_reducible rfl)
              change wpAnyH _ _ _ _ _ _ _ (Act.put _ (some 59) _) _
              simp only [Act.put, List.setIfInBounds_toArray, List.set_cons_zero, List.set_cons_succ]
              refine wpAnyH_take (i := 3) (v := ?_) rfl (by kernel_rfl) (by kernel_rfl) (by kernel_rfl) (fun _ _ _ h => h) (Or.inl ⟨by rfl, ?_⟩) (by assumption) ?_
              rotate_left
              · (intro wS hSw; obtain ⟨⟨g0, g1, -⟩, ⟨g2, g3, -⟩, ⟨g4, g5, -⟩, g6, g7, -⟩ := hSw; go_simp; try with_reducible rfl)
              change wpAnyH _ _ _ _ _ _ _ (Act.put _ (some 61) _) _
              simp only [Act.put, List.setIfInBounds_toArray, List.set_cons_zero, List.set_cons_succ]
              refine wpAnyH_ready (rs := [2]) (by kernel_rfl) (by simp) ?_
              refine AllReadyH.cons rfl (fun K hK => ?_) AllReadyH.nil
              go_simp
              refine (compare_any ah al bh bl _ a0 a1 b0 b1).mono ?_
              rintro e v0 ⟨rfl, hv0⟩
              have F17a : Hid (Kn w [(p15, ph, pl), (p13, ph, pl), (w.heap.size, ah, al), (w.heap.size + 1, bh, bl)] [] v0) := F16.out.drew.later hv0
              clear hv0 F16
              (try go_wp2_with (fail))
              refine hK.out _ _ ?_ (fun hHeld => ?_)
              · exact ⟨F17a.out.1 (p15, ph, pl) (by simp), F17a.out.1 (p13, ph, pl) (by simp), F17a.out.1 (w.heap.size, ah, al) (by simp), F17a.out.1 (w.heap.size + 1, bh, bl) (by simp)⟩
              clear hK K
              refine wpAnyH_take (i := 4) (v := ?_) rfl (by kernel_rfl) (by kernel_rfl) (by kernel_rfl) (fun _ _ _ h => h) (Or.inl ⟨by rfl, ?_⟩) (by assumption) ?_
              rotate_left
              · (intro wS hSw; obtain ⟨⟨g0, g1, -⟩, ⟨g2, g3, -⟩, ⟨g4, g5, -⟩, g6, g7, -⟩ := hSw; go_simp; try with_reducible rfl)
              change wpAnyH _ _ _ _ _ _ _ (Act.put _ (some 62) _) _
              simp only [Act.put, List.setIfInBounds_toArray, List.set_cons_zero, List.set_cons_succ]
              refine wpAnyH_take (i := 5) (v := ?_) rfl (by kernel_rfl) (by kernel_rfl) (by kernel_rfl) (fun _ _ _ h => h) (Or.inl ⟨by rfl, ?_⟩) (by assumption) ?_
              rotate_left
              · (intro wS hSw; obtain ⟨⟨g0, g1, -⟩, ⟨g2, g3, -⟩, ⟨g4, g5, -⟩, g6, g7, -⟩ := hSw; go_simp; try with_reducible rfl)
              change wpAnyH _ _ _ _ _ _ _ (Act.put _ (some 63) _) _
              simp only [Act.put, List.setIfInBounds_toArray, List.set_cons_zero, List.set_cons_succ]
              refine wpAnyH_take (i := 6) (v := ?_) rfl (by kernel_rfl) (by kernel_rfl) (by kernel_rfl) (fun _ _ _ h => h) (Or.inl ⟨by rfl, ?_⟩) (by assumption) ?_
              rotate_left
              · (intro wS hSw; obtain ⟨⟨g0, g1, -⟩, ⟨g2, g3, -⟩, ⟨g4, g5, -⟩, g6, g7, -⟩ := hSw; go_simp; try with_reducible rfl)
              change wpAnyH _ _ _ _ _ _ _ (Act.put _ (some 64) _) _
              simp only [Act.put, List.setIfInBounds_toArray, List.set_cons_zero, List.set_cons_succ]
              refine wpAnyH_take (i := 8) (v := ?_) rfl (by kernel_rfl) (by kernel_rfl) (by kernel_rfl) (fun _ _ _ h => h) (Or.inl ⟨by rfl, ?_⟩) (by assumption) ?_
              rotate_left
              · (intro wS hSw; obtain ⟨⟨g0, g1, -⟩, ⟨g2, g3, -⟩, ⟨g4, g5, -⟩, g6, g7, -⟩ := hSw; go_simp; try with_reducible rfl)
              change wpAnyH _ _ _ _ _ _ _ (Act.put _ (some 66) _) _
              simp only [Act.put, List.setIfInBounds_toArray, List.set_cons_zero, List.set_cons_succ]
              refine wpAnyH_ready (rs := [7]) (by kernel_rfl) (by simp) ?_
              refine AllReadyH.cons rfl (fun K hK => ?_) AllReadyH.nil
              go_simp
              refine (bits_any ah al _ a2 a3 a0 a1).mono ?_
              rintro e v1 ⟨rfl, hv1⟩
              have F17b : Hid (Kn w [(p15, ph, pl), (p13, ph, pl), (w.heap.size, ah, al), (w.heap.size + 1, bh, bl)] [] v1) := F17a.out.later hv1
              clear hv1 F17a
              (try go_wp2_with (fail))
              refine hK.out _ _ ?_ (fun hHeld => ?_)
              · exact ⟨F17b.out.1 (p15, ph, pl) (by simp), F17b.out.1 (p13, ph, pl) (by simp), F17b.out.1 (w.heap.size, ah, al) (by simp), F17b.out.1 (w.heap.size + 1, bh, bl) (by simp)⟩
              clear hK K
              refine wpAnyH_take (i := 9) (v := ?_) rfl (by kernel_rfl) (by kernel_rfl) (by kernel_rfl) (fun _ _ _ h => h) (Or.inl ⟨by rfl, ?_⟩) (by assumption) ?_
              rotate_left
              · (intro wS hSw; obtain ⟨⟨g0, g1, -⟩, ⟨g2, g3, -⟩, ⟨g4, g5, -⟩, g6, g7, -⟩ := hSw; go_simp; try with_reducible rfl)
              change wpAnyH _ _ _ _ _ _ _ (Act.put _ (some 67) _) _
              simp only [Act.put, List.setIfInBounds_toArray, List.set_cons_zero, List.set_cons_succ]
              refine wpAnyH_take (i := 10) (v := ?_) rfl (by kernel_rfl) (by kernel_rfl) (by kernel_rfl) (fun _ _ _ h => h) (Or.inl ⟨by rfl, ?_⟩) (by assumption) ?_
              rotate_left
              · (intro wS hSw; obtain ⟨⟨g0, g1, -⟩, ⟨g2, g3, -⟩, ⟨g4, g5, -⟩, g6, g7, -⟩ := hSw; go_simp; try with_reducible rfl)
              change wpAnyH _ _ _ _ _ _ _ (Act.put _ (some 68) _) _
              simp only [Act.put, List.setIfInBounds_toArray, List.set_cons_zero, List.set_cons_succ]
              refine wpAnyH_take (i := 11) (v := ?_) rfl (by kernel_rfl) (by kernel_rfl) (by kernel_rfl) (fun _ _ _ h => h) (Or.inl ⟨by rfl, ?_⟩) (by assumption) ?_
              rotate_left
              · (intro wS hSw; obtain ⟨⟨g0, g1, -⟩, ⟨g2, g3, -⟩, ⟨g4, g5, -⟩, g6, g7, -⟩ := hSw; go_simp; try with_reducible rfl)
              change wpAnyH _ _ _ _ _ _ _ (Act.put _ (some 69) _) _
              simp only [Act.put, List.setIfInBounds_toArray, List.set_cons_zero, List.set_cons_succ]
              refine wpAnyH_take (i := 12) (v := ?_) rfl (by kernel_rfl) (by kernel_rfl) (by kernel_rfl) (fun _ _ _ h => h) (Or.inl ⟨by rfl, ?_⟩) (by assumption) ?_
              rotate_left
              · (intro wS hSw; obtain ⟨⟨g0, g1, -⟩, ⟨g2, g3, -⟩, ⟨g4, g5, -⟩, g6, g7, -⟩ := hSw; go_simp; try with_reducible rfl)
              change wpAnyH _ _ _ _ _ _ _ (Act.put _ (some 70) _) _
              simp only [Act.put, List.setIfInBounds_toArray, List.set_cons_zero, List.set_cons_succ]
              refine wpAnyH_take (i := 13) (v := ?_) rfl (by kernel_rfl) (by kernel_rfl) (by kernel_rfl) (fun _ _ _ h => h) (Or.inl ⟨by rfl, ?_⟩) (by assumption) ?_
              rotate_left
              · (intro wS hSw; obtain ⟨⟨g0, g1, -⟩, ⟨g2, g3, -⟩, ⟨g4, g5, -⟩, g6, g7, -⟩ := hSw; go_simp; try with_reducible rfl)
              change wpAnyH _ _ _ _ _ _ _ (Act.put _ (some 71) _) _
              simp only [Act.put, List.setIfInBounds_toArray, List.set_cons_zero, List.set_cons_succ]
              refine wpAnyH_take (i := 14) (v := ?_) rfl (by kernel_rfl) (by kernel_rfl) (by kernel_rfl) (fun _ _ _ h => h) (Or.inl ⟨by rfl, ?_⟩) (by assumption) ?_
              rotate_left
              · (intro wS hSw; obtain ⟨⟨g0, g1, -⟩, ⟨g2, g3, -⟩, ⟨g4, g5, -⟩, g6, g7, -⟩ := hSw; go_simp; try with_reducible rfl)
              change wpAnyH _ _ _ _ _ _ _ (Act.put _ (some 72) _) _
              simp only [Act.put, List.setIfInBounds_toArray, List.set_cons_zero, List.set_cons_succ]
              refine wpAnyH_take (i := 15) (v := ?_) rfl (by kernel_rfl) (by kernel_rfl) (by kernel_rfl) (fun _ _ _ h => h) (Or.inl ⟨by rfl, ?_⟩) (by assumption) ?_
              rotate_left
              · (intro wS hSw; obtain ⟨⟨g0, g1, -⟩, ⟨g2, g3, -⟩, ⟨g4, g5, -⟩, g6, g7, -⟩ := hSw; go_simp; try with_reducible rfl)
              change wpAnyH _ _ _ _ _ _ _ (Act.put _ (some 73) _) _
              simp only [Act.put, List.setIfInBounds_toArray, List.set_cons_zero, List.set_cons_succ]
              refine wpAnyH_take (i := 16) (v := ?_) rfl (by kernel_rfl) (by kernel_rfl) (by kernel_rfl) (fun _ _ _ h => h) (Or.inl ⟨by rfl, ?_⟩) (by assumption) ?_
              rotate_left
              · (intro wS hSw; obtain ⟨⟨g0, g1, -⟩, ⟨g2, g3, -⟩, ⟨g4, g5, -⟩, g6, g7, -⟩ := hSw; go_simp; try with_reducible rfl)
              change wpAnyH _ _ _ _ _ _ _ (Act.put _ (some 74) _) _
              simp only [Act.put, List.setIfInBounds_toArray, List.set_cons_zero, List.set_cons_succ]
              refine wpAnyH_take (i := 17) (v := ?_) rfl (by kernel_rfl) (by kernel_rfl) (by kernel_rfl) (fun _ _ _ h => h) (Or.inl ⟨by rfl, ?_⟩) (by assumption) ?_
              rotate_left
              · (intro wS hSw; obtain ⟨⟨g0, g1, -⟩, ⟨g2, g3, -⟩, ⟨g4, g5, -⟩, g6, g7, -⟩ := hSw; go_simp; try with_reducible rfl)
              change wpAnyH _ _ _ _ _ _ _ (Act.put _ (some 75) _) _
              simp only [Act.put, List.setIfInBounds_toArray, List.set_cons_zero, List.set_cons_succ]
              refine wpAnyH_take (i := 18) (v := ?_) rfl (by kernel_rfl) (by kernel_rfl) (by kernel_rfl) (fun _ _ _ h => h) (Or.inl ⟨by rfl, ?_⟩) (by assumption) ?_
              rotate_left
              · (intro wS hSw; obtain ⟨⟨g0, g1, -⟩, ⟨g2, g3, -⟩, ⟨g4, g5, -⟩, g6, g7, -⟩ := hSw; go_simp; try with_reducible rfl)
              change wpAnyH _ _ _ _ _ _ _ (Act.put _ (some 76) _) _
              simp only [Act.put, List.setIfInBounds_toArray, List.set_cons_zero, List.set_cons_succ]
              refine wpAnyH_take (i := 19) (v := ?_) rfl (by kernel_rfl) (by kernel_rfl) (by kernel_rfl) (fun _ _ _ h => h) (Or.inl ⟨by rfl, ?_⟩) (by assumption) ?_
              rotate_left
              · (intro wS hSw; obtain ⟨⟨g0, g1, -⟩, ⟨g2, g3, -⟩, ⟨g4, g5, -⟩, g6, g7, -⟩ := hSw; go_simp; try with_reducible rfl)
              change wpAnyH _ _ _ _ _ _ _ (Act.put _ (some 77) _) _
              simp only [Act.put, List.setIfInBounds_toArray, List.set_cons_zero, List.set_cons_succ]
              refine wpAnyH_take (i := 20) (v := ?_) rfl (by kernel_rfl) (by kernel_rfl) (by kernel_rfl) (fun _ _ _ h => h) (Or.inl ⟨by rfl, ?_⟩) (by assumption) ?_
              rotate_left
              · (intro wS hSw; obtain ⟨⟨g0, g1, -⟩, ⟨g2, g3, -⟩, ⟨g4, g5, -⟩, g6, g7, -⟩ := hSw; go_simp; try with_reducible rfl)
              change wpAnyH _ _ _ _ _ _ _ (Act.put _ (some 78) _) _
              simp only [Act.put, List.setIfInBounds_toArray, List.set_cons_zero, List.set_cons_succ]
              refine wpAnyH_take (i := 21) (v := undef) rfl (by kernel_rfl) (by kernel_rfl) (by kernel_rfl) (fun _ _ _ h => h) (Or.inr ⟨by rfl, rfl⟩) (by assumption) ?_
              change wpAnyH _ _ _ _ _ _ _ (Act.put _ (some 79) _) _
              simp only [Act.put, List.setIfInBounds_toArray, List.set_cons_zero, List.set_cons_succ]
              refine wpAnyH_take (i := 22) (v := undef) rfl (by kernel_rfl) (by kernel_rfl) (by kernel_rfl) (fun _ _ _ h => h) (Or.inr ⟨by rfl, rfl⟩) (by assumption) ?_
              change wpAnyH _ _ _ _ _ _ _ (Act.put _ (some 80) _) _
              simp only [Act.put, List.setIfInBounds_toArray, List.set_cons_zero, List.set_cons_succ]
              refine wpAnyH_take (i := 23) (v := undef) rfl (by kernel_rfl) (by kernel_rfl) (by kernel_rfl) (fun _ _ _ h => h) (Or.inr ⟨by rfl, rfl⟩) (by assumption) ?_
              change wpAnyH _ _ _ _ _ _ _ (Act.put _ (some 81) _) _
              simp only [Act.put, List.setIfInBounds_toArray, List.set_cons_zero, List.set_cons_succ]
              refine wpAnyH_take (i := 24) (v := undef) rfl (by kernel_rfl) (by kernel_rfl) (by kernel_rfl) (fun _ _ _ h => h) (Or.inr ⟨by rfl, rfl⟩) (by assumption) ?_
              change wpAnyH _ _ _ _ _ _ _ (Act.put _ (some 82) _) _
              simp only [Act.put, List.setIfInBounds_toArray, List.set_cons_zero, List.set_cons_succ]
              refine wpAnyH_take (i := 25) (v := ?_) rfl (by kernel_rfl) (by kernel_rfl) (by kernel_rfl) (fun _ _ _ h => h) (Or.inl ⟨by rfl, ?_⟩) (by assumption) ?_
              rotate_left
              · (intro wS hSw; obtain ⟨⟨g0, g1, -⟩, ⟨g2, g3, -⟩, ⟨g4, g5, -⟩, g6, g7, -⟩ := hSw; go_simp; try with_reducible rfl)
              change wpAnyH _ _ _ _ _ _ _ (Act.put _ (some 83) _) _
              simp only [Act.put, List.setIfInBounds_toArray, List.set_cons_zero, List.set_cons_succ]
              refine wpAnyH_take (i := 26) (v := ?_) rfl (by kernel_rfl) (by kernel_rfl) (by kernel_rfl) (fun _ _ _ h => h) (Or.inl ⟨by rfl, ?_⟩) (by assumption) ?_
              rotate_left
              · (intro wS hSw; obtain ⟨⟨g0, g1, -⟩, ⟨g2, g3, -⟩, ⟨g4, g5, -⟩, g6, g7, -⟩ := hSw; go_simp; try with_reducible rfl)
              change wpAnyH _ _ _ _ _ _ _ (Act.put _ (some 84) _) _
              simp only [Act.put, List.setIfInBounds_toArray, List.set_cons_zero, List.set_cons_succ]
              refine wpAnyH_take (i := 27) (v := ?_) rfl (by kernel_rfl) (by kernel_rfl) (by kernel_rfl) (fun _ _ _ h => h) (Or.inl ⟨by rfl, ?_⟩) (by assumption) ?_
              rotate_left
              · (intro wS hSw; obtain ⟨⟨g0, g1, -⟩, ⟨g2, g3, -⟩, ⟨g4, g5, -⟩, g6, g7, -⟩ := hSw; go_simp; try with_reducible rfl)
              change wpAnyH _ _ _ _ _ _ _ (Act.put _ (some 85) _) _
              simp only [Act.put, List.setIfInBounds_toArray, List.set_cons_zero, List.set_cons_succ]
              refine wpAnyH_take (i := 28) (v := ?_) rfl (by kernel_rfl) (by kernel_rfl) (by kernel_rfl) (fun _ _ _ h => h) (Or.inl ⟨by rfl, ?_⟩) (by assumption) ?_
              rotate_left
              · (intro wS hSw; obtain ⟨⟨g0, g1, -⟩, ⟨g2, g3, -⟩, ⟨g4, g5, -⟩, g6, g7, -⟩ := hSw; go_simp; try with_reducible rfl)
              change wpAnyH _ _ _ _ _ _ _ (Act.put _ (some 86) _) _
              simp only [Act.put, List.setIfInBounds_toArray, List.set_cons_zero, List.set_cons_succ]
              refine wpAnyH_take (i := 29) (v := ?_) rfl (by kernel_rfl) (by kernel_rfl) (by kernel_rfl) (fun _ _ _ h => h) (Or.inl ⟨by rfl, ?_⟩) (by assumption) ?_
              rotate_left
              · (intro wS hSw; obtain ⟨⟨g0, g1, -⟩, ⟨g2, g3, -⟩, ⟨g4, g5, -⟩, g6, g7, -⟩ := hSw; go_simp; try with_reducible rfl)
              change wpAnyH _ _ _ _ _ _ _ (Act.put _ (some 87) _) _
              simp only [Act.put, List.setIfInBounds_toArray, List.set_cons_zero, List.set_cons_succ]
              refine wpAnyH_take (i := 30) (v := ?_) rfl (by kernel_rfl) (by kernel_rfl) (by kernel_rfl) (fun _ _ _ h => h) (Or.inl ⟨by rfl, ?_⟩) (by assumption) ?_
              rotate_left
              · (intro wS hSw; obtain ⟨⟨g0, g1, -⟩, ⟨g2, g3, -⟩, ⟨g4, g5, -⟩, g6, g7, -⟩ := hSw; go_simp; try with_reducible rfl)
              change wpAnyH _ _ _ _ _ _ _ (Act.put _ (some 88) _) _
              simp only [Act.put, List.setIfInBounds_toArray, List.set_cons_zero, List.set_cons_succ]
              refine wpAnyH_take (i := 31) (v := ?_) rfl (by kernel_rfl) (by kernel_rfl) (by kernel_rfl) (fun _ _ _ h => h) (Or.inl ⟨by rfl, ?_⟩) (by assumption) ?_
              rotate_left
              · (intro wS hSw; obtain ⟨⟨g0, g1, -⟩, ⟨g2, g3, -⟩, ⟨g4, g5, -⟩, g6, g7, -⟩ := hSw; go_simp; try with_reducible rfl)
              change wpAnyH _ _ _ _ _ _ _ (Act.put _ (some 89) _) _
              simp only [Act.put, List.setIfInBounds_toArray, List.set_cons_zero, List.set_cons_succ]
              refine wpAnyH_take (i := 32) (v := ?_) rfl (by kernel_rfl) (by kernel_rfl) (by kernel_rfl) (fun _ _ _ h => h) (Or.inl ⟨by rfl, ?_⟩) (by assumption) ?_
              rotate_left
              · (intro wS hSw; obtain ⟨⟨g0, g1, -⟩, ⟨g2, g3, -⟩, ⟨g4, g5, -⟩, g6, g7, -⟩ := hSw; go_simp; try with_reducible rfl)
              change wpAnyH _ _ _ _ _ _ _ (Act.put _ (some 90) _) _
              simp only [Act.put, List.setIfInBounds_toArray, List.set_cons_zero, List.set_cons_succ]
              refine wpAnyH_take (i := 33) (v := ?_) rfl (by kernel_rfl) (by kernel_rfl) (by kernel_rfl) (fun _ _ _ h => h) (Or.inl ⟨by rfl, ?_⟩) (by assumption) ?_
              rotate_left
              · (intro wS hSw; obtain ⟨⟨g0, g1, -⟩, ⟨g2, g3, -⟩, ⟨g4, g5, -⟩, g6, g7, -⟩ := hSw; go_simp; try with_reducible rfl)
              change wpAnyH _ _ _ _ _ _ _ (Act.put _ (some 91) _) _
              simp only [Act.put, List.setIfInBounds_toArray, List.set_cons_zero, List.set_cons_succ]
              refine wpAnyH_take (i := 34) (v := ?_) rfl (by kernel_rfl) (by kernel_rfl) (by kernel_rfl) (fun _ _ _ h => h) (Or.inl ⟨by rfl, ?_⟩) (by assumption) ?_
              rotate_left
              · (intro wS hSw; obtain ⟨⟨g0, g1, -⟩, ⟨g2, g3, -⟩, ⟨g4, g5, -⟩, g6, g7, -⟩ := hSw; go_simp; try with_reducible rfl)
              change wpAnyH _ _ _ _ _ _ _ (Act.put _ (some 92) _) _
              simp only [Act.put, List.setIfInBounds_toArray, List.set_cons_zero, List.set_cons_succ]
              refine wpAnyH_take (i := 35) (v := ?_) rfl (by kernel_rfl) (by kernel_rfl) (by kernel_rfl) (fun _ _ _ h => h) (Or.inl ⟨by rfl, ?_⟩) (by assumption) ?_
              rotate_left
              · (intro wS hSw; obtain ⟨⟨g0, g1, -⟩, ⟨g2, g3, -⟩, ⟨g4, g5, -⟩, g6, g7, -⟩ := hSw; go_simp; try with_reducible rfl)
              change wpAnyH _ _ _ _ _ _ _ (Act.put _ (some 93) _) _
              simp only [Act.put, List.setIfInBounds_toArray, List.set_cons_zero, List.set_cons_succ]
              refine wpAnyH_take (i := 36) (v := ?_) rfl (by kernel_rfl) (by kernel_rfl) (by kernel_rfl) (fun _ _ _ h => h) (Or.inl ⟨by rfl, ?_⟩) (by assumption) ?_
              rotate_left
              · (intro wS hSw; obtain ⟨⟨g0, g1, -⟩, ⟨g2, g3, -⟩, ⟨g4, g5, -⟩, g6, g7, -⟩ := hSw; go_simp; try with_reducible rfl)
              change wpAnyH _ _ _ _ _ _ _ (Act.put _ (some 94) _) _
              simp only [Act.put, List.setIfInBounds_toArray, List.set_cons_zero, List.set_cons_succ]
              refine wpAnyH_take (i := 37) (v := ?_) rfl (by kernel_rfl) (by kernel_rfl) (by kernel_rfl) (fun _ _ _ h => h) (Or.inl ⟨by rfl, ?_⟩) (by assumption) ?_
              rotate_left
              · (intro wS hSw; obtain ⟨⟨g0, g1, -⟩, ⟨g2, g3, -⟩, ⟨g4, g5, -⟩, g6, g7, -⟩ := hSw; go_simp; try with_reducible rfl)
              change wpAnyH _ _ _ _ _ _ _ (Act.put _ (some 95) _) _
              simp only [Act.put, List.setIfInBounds_toArray, List.set_cons_zero, List.set_cons_succ]
              refine wpAnyH_take (i := 39) (v := ?_) rfl (by kernel_rfl) (by kernel_rfl) (by kernel_rfl) (fun _ _ _ h => h) (Or.inl ⟨by rfl, ?_⟩) (by assumption) ?_
              rotate_left
              · (intro wS hSw; obtain ⟨⟨g0, g1, -⟩, ⟨g2, g3, -⟩, ⟨g4, g5, -⟩, g6, g7, -⟩ := hSw; go_simp; try with_reducible rfl)
              change wpAnyH _ _ _ _ _ _ _ (Act.put _ (some 97) _) _
              simp only [Act.put, List.setIfInBounds_toArray, List.set_cons_zero, List.set_cons_succ]
              refine wpAnyH_take (i := 40) (v := ?_) rfl (by kernel_rfl) (by kernel_rfl) (by kernel_rfl) (fun _ _ _ h => h) (Or.inl ⟨by rfl, ?_⟩) (by assumption) ?_
              rotate_left
              · (intro wS hSw; obtain ⟨⟨g0, g1, -⟩, ⟨g2, g3, -⟩, ⟨g4, g5, -⟩, g6, g7, -⟩ := hSw; go_simp; try with_reducible rfl)
              change wpAnyH _ _ _ _ _ _ _ (Act.put _ (some 98) _) _
              simp only [Act.put, List.setIfInBounds_toArray, List.set_cons_zero, List.set_cons_succ]
              refine wpAnyH_take (i := 41) (v := ?_) rfl (by kernel_rfl) (by kernel_rfl) (by kernel_rfl) (fun _ _ _ h => h) (Or.inl ⟨by rfl, ?_⟩) (by assumption) ?_
              rotate_left
              · (intro wS hSw; obtain ⟨⟨g0, g1, -⟩, ⟨g2, g3, -⟩, ⟨g4, g5, -⟩, g6, g7, -⟩ := hSw; go_simp; try with_reducible rfl)
              change wpAnyH _ _ _ _ _ _ _ (Act.put _ (some 99) _) _
              simp only [Act.put, List.setIfInBounds_toArray, List.set_cons_zero, List.set_cons_succ]
              refine wpAnyH_ready (rs := [38]) (by kernel_rfl) (by simp) ?_
              refine AllReadyH.cons rfl (fun K hK => ?_) AllReadyH.nil
              go_simp
              refine (of_any al _).mono ?_
              rintro e v2 ⟨rfl, hv2⟩
              have F17c : Hid (Kn w [(p15, ph, pl), (p13, ph, pl), (w.heap.size, ah, al), (w.heap.size + 1, bh, bl)] [] v2) := F17b.out.later hv2
              clear hv2 F17b
              (try go_wp2_with (fail))
              refine hK.out _ _ ?_ (fun hHeld => ?_)
              · exact ⟨F17c.out.1 (p15, ph, pl) (by simp), F17c.out.1 (p13, ph, pl) (by simp), F17c.out.1 (w.heap.size, ah, al) (by simp), F17c.out.1 (w.heap.size + 1, bh, bl) (by simp)⟩
              clear hK K
              refine wpAnyH_take (i := 42) (v := ?_) rfl (by kernel_rfl) (by kernel_rfl) (by kernel_rfl) (fun _ _ _ h => h) (Or.inl ⟨by rfl, ?_⟩) (by assumption) ?_
              rotate_left
              · (intro wS hSw; obtain ⟨⟨g0, g1, -⟩, ⟨g2, g3, -⟩, ⟨g4, g5, -⟩, g6, g7, -⟩ := hSw; go_simp; try with_reducible rfl)
              change wpAnyH _ _ _ _ _ _ _ (Act.put _ (some 100) _) _
              simp only [Act.put, List.setIfInBounds_toArray, List.set_cons_zero, List.set_cons_succ]
              refine wpAnyH_take (i := 43) (v := ?_) rfl (by kernel_rfl) (by kernel_rfl) (by kernel_rfl) (fun _ _ _ h => h) (Or.inl ⟨by rfl, ?_⟩) (by assumption) ?_
              rotate_left
              · (intro wS hSw; obtain ⟨⟨g0, g1, -⟩, ⟨g2, g3, -⟩, ⟨g4, g5, -⟩, g6, g7, -⟩ := hSw; go_simp; try with_reducible rfl)
              change wpAnyH _ _ _ _ _ _ _ (Act.put _ (some 101) _) _
              simp only [Act.put, List.setIfInBounds_toArray, List.set_cons_zero, List.set_cons_succ]
              refine wpAnyH_take (i := 44) (v := ?_) rfl (by kernel_rfl) (by kernel_rfl) (by kernel_rfl) (fun _ _ _ h => h) (Or.inl ⟨by rfl, ?_⟩) (by assumption) ?_
              rotate_left
              · (intro wS hSw; obtain ⟨⟨g0, g1, -⟩, ⟨g2, g3, -⟩, ⟨g4, g5, -⟩, g6, g7, -⟩ := hSw; go_simp; try with_reducible rfl)
              change wpAnyH _ _ _ _ _ _ _ (Act.put _ (some 102) _) _
              simp only [Act.put, List.setIfInBounds_toArray, List.set_cons_zero, List.set_cons_succ]
              refine wpAnyH_take (i := 45) (v := ?_) rfl (by kernel_rfl) (by kernel_rfl) (by kernel_rfl) (fun _ _ _ h => h) (Or.inl ⟨by rfl, ?_⟩) (by assumption) ?_
              rotate_left
              · (intro wS hSw; obtain ⟨⟨g0, g1, -⟩, ⟨g2, g3, -⟩, ⟨g4, g5, -⟩, g6, g7, -⟩ := hSw; go_simp; try with_reducible rfl)
              change wpAnyH _ _ _ _ _ _ _ (Act.put _ (some 103) _) _
              simp only [Act.put, List.setIfInBounds_toArray, List.set_cons_zero, List.set_cons_succ]
              refine wpAnyH_take (i := 47) (v := ?_) rfl (by kernel_rfl) (by kernel_rfl) (by kernel_rfl) (fun _ _ _ h => h) (Or.inl ⟨by rfl, ?_⟩) (by assumption) ?_
              rotate_left
              · (intro wS hSw; obtain ⟨⟨g0, g1, -⟩, ⟨g2, g3, -⟩, ⟨g4, g5, -⟩, g6, g7, -⟩ := hSw; go_simp; try with_reducible rfl)
              change wpAnyH _ _ _ _ _ _ _ (Act.put _ (some 105) _) _
              simp only [Act.put, List.setIfInBounds_toArray, List.set_cons_zero, List.set_cons_succ]
              refine wpAnyH_ready (rs := [46]) (by kernel_rfl) (by simp) ?_
              refine AllReadyH.cons rfl (fun K hK => ?_) AllReadyH.nil
              go_simp
              refine (HT.out _).mono ?_
              rintro e v3 ⟨rfl, hv3⟩
              have F17d : Hid (Kn w [(p15, ph, pl), (p13, ph, pl), (w.heap.size, ah, al), (w.heap.size + 1, bh, bl)] [] v3) := F17c.out.later hv3
              clear hv3 F17c
              (try go_wp2_with (fail))
              refine hK.out _ _ ?_ (fun hHeld => ?_)
              · exact ⟨F17d.out.1 (p15, ph, pl) (by simp), F17d.out.1 (p13, ph, pl) (by simp), F17d.out.1 (w.heap.size, ah, al) (by simp), F17d.out.1 (w.heap.size + 1, bh, bl) (by simp)⟩
              clear hK K
              refine wpAnyH_ready (rs := [48]) (by kernel_rfl) (by simp) ?_
              refine AllReadyH.cons rfl (fun K hK => ?_) AllReadyH.nil
              go_simp
              refine (HX.out _).mono ?_
              rintro e v4 ⟨rfl, hv4⟩
              have F17e : Hid (Kn w [(p15, ph, pl), (p13, ph, pl), (w.heap.size, ah, al), (w.heap.size + 1, bh, bl)] [] v4) := F17d.out.later hv4
              clear hv4 F17d
              (try go_wp2_with (fail))
              refine hK.out _ _ ?_ (fun hHeld => ?_)
              · exact ⟨F17e.out.1 (p15, ph, pl) (by simp), F17e.out.1 (p13, ph, pl) (by simp), F17e.out.1 (w.heap.size, ah, al) (by simp), F17e.out.1 (w.heap.size + 1, bh, bl) (by simp)⟩
              clear hK K
              refine wpAnyH_take (i := 49) (v := ?_) rfl (by kernel_rfl) (by kernel_rfl) (by kernel_rfl) (fun _ _ _ h => h) (Or.inl ⟨by rfl, ?_⟩) (by assumption) ?_
              rotate_left
              · (intro wS hSw; obtain ⟨⟨g0, g1, -⟩, ⟨g2, g3, -⟩, ⟨g4, g5, -⟩, g6, g7, -⟩ := hSw; go_simp; try with_reducible rfl)
              change wpAnyH _ _ _ _ _ _ _ (Act.put _ (some 107) _) _
              simp only [Act.put, List.setIfInBounds_toArray, List.set_cons_zero, List.set_cons_succ]
              refine wpAnyH_take (i := 50) (v := ?_) rfl (by kernel_rfl) (by kernel_rfl) (by kernel_rfl) (fun _ _ _ h => h) (Or.inl ⟨by rfl, ?_⟩) (by assumption) ?_
              rotate_left
              · (intro wS hSw; obtain ⟨⟨g0, g1, -⟩, ⟨g2, g3, -⟩, ⟨g4, g5, -⟩, g6, g7, -⟩ := hSw; go_simp; try with_reducible rfl)
              change wpAnyH _ _ _ _ _ _ _ (Act.put _ (some 108) _) _
              simp only [Act.put, List.setIfInBounds_toArray, List.set_cons_zero, List.set_cons_succ]
              refine wpAnyH_take (i := 51) (v := ?_) rfl (by kernel_rfl) (by kernel_rfl) (by kernel_rfl) (fun _ _ _ h => h) (Or.inl ⟨by rfl, ?_⟩) (by assumption) ?_
              rotate_left
              · (intro wS hSw; obtain ⟨⟨g0, g1, -⟩, ⟨g2, g3, -⟩, ⟨g4, g5, -⟩, g6, g7, -⟩ := hSw; go_simp; try with_reducible rfl)
              change wpAnyH _ _ _ _ _ _ _ (Act.put _ (some 109) _) _
              simp only [Act.put, List.setIfInBounds_toArray, List.set_cons_zero, List.set_cons_succ]
              refine wpAnyH_take (i := 52) (v := ?_) rfl (by kernel_rfl) (by kernel_rfl) (by kernel_rfl) (fun _ _ _ h => h) (Or.inl ⟨by rfl, ?_⟩) (by assumption) ?_
              rotate_left
              · (intro wS hSw; obtain ⟨⟨g0, g1, -⟩, ⟨g2, g3, -⟩, ⟨g4, g5, -⟩, g6, g7, -⟩ := hSw; go_simp; try with_reducible rfl)
              change wpAnyH _ _ _ _ _ _ _ (Act.put _ (some 110) _) _
              simp only [Act.put, List.setIfInBounds_toArray, List.set_cons_zero, List.set_cons_succ]
              refine wpAnyH_take (i := 53) (v := ?_) rfl (by kernel_rfl) (by kernel_rfl) (by kernel_rfl) (fun _ _ _ h => h) (Or.inl ⟨by rfl, ?_⟩) (by assumption) ?_
              rotate_left
              · (intro wS hSw; obtain ⟨⟨g0, g1, -⟩, ⟨g2, g3, -⟩, ⟨g4, g5, -⟩, g6, g7, -⟩ := hSw; go_simp; try with_reducible rfl)
              change wpAnyH _ _ _ _ _ _ _ (Act.put _ (some 111) _) _
              simp only [Act.put, List.setIfInBounds_toArray, List.set_cons_zero, List.set_cons_succ]
              refine wpAnyH_take (i := 54) (v := ?_) rfl (by kernel_rfl) (by kernel_rfl) (by kernel_rfl) (fun _ _ _ h => h) (Or.inl ⟨by rfl, ?_⟩) (by assumption) ?_
              rotate_left
              · (intro wS hSw; obtain ⟨⟨g0, g1, -⟩, ⟨g2, g3, -⟩, ⟨g4, g5, -⟩, g6, g7, -⟩ := hSw; go_simp; try with_reducible rfl)
              change wpAnyH _ _ _ _ _ _ _ (Act.put _ (some 112) _) _
              simp only [Act.put, List.setIfInBounds_toArray, List.set_cons_zero, List.set_cons_succ]
              refine wpAnyH_take (i := 55) (v := ?_) rfl (by kernel_rfl) (by kernel_rfl) (by kernel_rfl) (fun _ _ _ h => h) (Or.inl ⟨by rfl, ?_⟩) (by assumption) ?_
              rotate_left
              · (intro wS hSw; obtain ⟨⟨g0, g1, -⟩, ⟨g2, g3, -⟩, ⟨g4, g5, -⟩, g6, g7, -⟩ := hSw; go_simp; try with_reducible rfl)
              change wpAnyH _ _ _ _ _ _ _ (Act.put _ (some 113) _) _
              simp only [Act.put, List.setIfInBounds_toArray, List.set_cons_zero, List.set_cons_succ]
              refine wpAnyH_take (i := 56) (v := ?_) rfl (by kernel_rfl) (by kernel_rfl) (by kernel_rfl) (fun _ _ _ h => h) (Or.inl ⟨by rfl, ?_⟩) (by assumption) ?_
              rotate_left
              · (intro wS hSw; obtain ⟨⟨g0, g1, -⟩, ⟨g2, g3, -⟩, ⟨g4, g5, -⟩, g6, g7, -⟩ := hSw; go_simp; try with_reducible rfl)
              change wpAnyH _ _ _ _ _ _ _ (Act.put _ (some 114) _) _
              simp only [Act.put, List.setIfInBounds_toArray, List.set_cons_zero, List.set_cons_succ]
              refine wpAnyH_take (i := 57) (v := ?_) rfl (by kernel_rfl) (by kernel_rfl) (by kernel_rfl) (fun _ _ _ h => h) (Or.inl ⟨by rfl, ?_⟩) (by assumption) ?_
              rotate_left
              · (intro wS hSw; obtain ⟨⟨g0, g1, -⟩, ⟨g2, g3, -⟩, ⟨g4, g5, -⟩, g6, g7, -⟩ := hSw; go_simp; try with_reducible rfl)
              change wpAnyH _ _ _ _ _ _ _ (Act.put _ (some 115) _) _
              simp only [Act.put, List.setIfInBounds_toArray, List.set_cons_zero, List.set_cons_succ]
              refine wpAnyH_take (i := 58) (v := ?_) rfl (by kernel_rfl) (by kernel_rfl) (by kernel_rfl) (fun _ _ _ h => h) (Or.inl ⟨by rfl, ?_⟩) (by assumption) ?_
              rotate_left
              · (intro wS hSw; obtain ⟨⟨g0, g1, -⟩, ⟨g2, g3, -⟩, ⟨g4, g5, -⟩, g6, g7, -⟩ := hSw; go_simp; try with_reducible rfl)
              change wpAnyH _ _ _ _ _ _ _ (Act.put _ (some 116) _) _
              simp only [Act.put, List.setIfInBounds_toArray, List.set_cons_zero, List.set_cons_succ]
              refine wpAnyH_take (i := 59) (v := ?_) rfl (by kernel_rfl) (by kernel_rfl) (by kernel_rfl) (fun _ _ _ h => h) (Or.inl ⟨by rfl, ?_⟩) (by assumption) ?_
              rotate_left
              · (intro wS hSw; obtain ⟨⟨g0, g1, -⟩, ⟨g2, g3, -⟩, ⟨g4, g5, -⟩, g6, g7, -⟩ := hSw; go_simp; try with_reducible rfl)
              change wpAnyH _ _ _ _ _ _ _ (Act.put _ (some 117) _) _
              simp only [Act.put, List.setIfInBounds_toArray, List.set_cons_zero, List.set_cons_succ]
              refine wpAnyH_take (i := 60) (v := ?_) rfl (by kernel_rfl) (by kernel_rfl) (by kernel_rfl) (fun _ _ _ h => h) (Or.inl ⟨by rfl, ?_⟩) (by assumption) ?_
              rotate_left
              · (intro wS hSw; obtain ⟨⟨g0, g1, -⟩, ⟨g2, g3, -⟩, ⟨g4, g5, -⟩, g6, g7, -⟩ := hSw; go_simp; try with_reducible rfl)
              change wpAnyH _ _ _ _ _ _ _ (Act.put _ (some 118) _) _
              simp only [Act.put, List.setIfInBounds_toArray, List.set_cons_zero, List.set_cons_succ]
              refine wpAnyH_take (i := 61) (v := ?_) rfl (by kernel_rfl) (by kernel_rfl) (by kernel_rfl) (fun _ _ _ h => h) (Or.inl ⟨by rfl, ?_⟩) (by assumption) ?_
              rotate_left
              · (intro wS hSw; obtain ⟨⟨g0, g1, -⟩, ⟨g2, g3, -⟩, ⟨g4, g5, -⟩, g6, g7, -⟩ := hSw; go_simp; try with_reducible rfl)
              change wpAnyH _ _ _ _ _ _ _ (Act.put _ (some 6) _) _
              simp only [Act.put, List.setIfInBounds_toArray, List.set_cons_zero, List.set_cons_succ]
              refine wpAnyH_done (by kernel_rfl) ?_ _
              refine NoPanic.normal ?_
              go_wp2_with (fail)
              go_ret
              exact ⟨rfl, F17e.out.2.2.2⟩
          · rw [decide_eq_false hq]
            have hk3 := bits_more (ah * 18446744073709551616 + al) k HA.out.1 hq
            have hk4 : bitLen (ah * 18446744073709551616 + al).toNat ≤ 128 := bitLen_le128 _ (by have := HA.out; omega)
            have HK2 : Hid (k + 1 ≤ bitLen (ah * 18446744073709551616 + al).toNat ∧ k + 1 ≤ 128) := ⟨hk3, by omega⟩
            clear hk3 hk4 hq
            go_wp2_with (fail)
            go_roundw
            case rel => exact ⟨k + 1, HK2.out.1, HK2.out.2, by go_num, F12⟩
            case measure => have := HK2.out; simp [intOf]; omega

end Go.Proofs.Ytahmgbaonldlfaa
