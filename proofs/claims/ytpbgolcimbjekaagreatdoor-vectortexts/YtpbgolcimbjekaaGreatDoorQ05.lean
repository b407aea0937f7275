/-
  Contracts of package amount's functions that round up and of those that go over digits, at this program. Conditions: as each names them.
-/
import Derived.Test.YtpbgolcimbjekaaGreatDoorQ04
namespace Go.Proofs.YtpbgolcimbjekaaGreatDoor
open Go.RowKit

theorem box_each (a b : Int) : ∀ v ∈ [Value.int .u64 a, .int .u64 b], v.oneCell' = true := by
  intro v hv
  simp at hv
  rcases hv with rfl | rfl <;> rfl
theorem box_info : (Tryz.prog.info? 42).map (·.size) = some 2 := by kernel_rfl
theorem Is.ex {a : Nat} (h : a < 340282366920938463463374607431768211456) : ∃ h l : Int, Is h l a :=
  ⟨((a / 18446744073709551616 : Nat) : Int), ((a % 18446744073709551616 : Nat) : Int), by omega, by omega, by omega, by omega, by omega⟩

theorem add_det {ah al bh bl h l : Int} {a b : Nat} (i : Is ah al a) (j : Is bh bl b) (k : Is h l (a + b)) (w : World) :
    Calls Tryz.prog 94 #[.agg #[.int .u64 ah, .int .u64 al], .agg #[.int .u64 bh, .int .u64 bl]] w fun e w' =>
      e = .returned (.tuple #[.agg #[.int .u64 h, .int .u64 l], .bool true]) ∧ Below w.heap.size w w' := by
  refine (add_is i j w).mono ?_
  rintro e w' ⟨h', l', o, rfl, f, hw⟩
  obtain ⟨rfl, g⟩ := f.ok k.lt
  obtain ⟨rfl, rfl⟩ := g.det k
  exact ⟨rfl, hw⟩

/-- By so much, rounded up. -/
def up (a v : Nat) : Nat := (a + v - 1) / v
theorem up_whole {a v : Nat} (v0 : 1 < v) (h : a % v = 0) : a / v = up a v := by
  unfold up
  obtain ⟨q, rfl⟩ := Nat.dvd_of_mod_eq_zero h
  rw [Nat.mul_div_cancel_left _ (by omega)]
  refine Eq.symm ?_
  rw [Nat.div_eq_iff (by omega)]
  rw [Nat.mul_comm]; omega
theorem up_rest {a v : Nat} (v0 : 1 < v) (h : a % v ≠ 0) : a / v + 1 = up a v := by
  unfold up
  have e := Nat.div_add_mod a v
  have r := Nat.mod_lt a (show v > 0 by omega)
  refine Eq.symm ?_
  rw [Nat.div_eq_iff (by omega), Nat.add_mul]
  rw [Nat.mul_comm] at e; omega
theorem up_lt {a v : Nat} (v0 : 1 < v) (a1 : a < 340282366920938463463374607431768211456) : up a v < 340282366920938463463374607431768211456 := by
  unfold up
  refine (Nat.div_lt_iff_lt_mul (by omega)).2 ?_
  have : 340282366920938463463374607431768211456 * 2 ≤ 340282366920938463463374607431768211456 * v := Nat.mul_le_mul_left _ (by omega)
  by_cases c : v < 340282366920938463463374607431768211456
  · omega
  · have : 340282366920938463463374607431768211456 * 340282366920938463463374607431768211456 ≤ 340282366920938463463374607431768211456 * v := Nat.mul_le_mul_left _ (by omega)
    omega

theorem of_drew' {B : Nat} {W w1 : World} (h : Below B W.drew w1) : Below B W w1 := ⟨h.os, h.tape, h.output, h.size, h.block⟩

set_option maxHeartbeats 4000000 in
set_option maxRecDepth 100000 in
theorem byUp_is {ah al u : Int} {a v : Nat} (i : Is ah al a) (hu : u = (v : Int)) (v0 : 1 < v) (v1 : v < 18446744073709551616) (w : World) :
    Calls Tryz.prog 93 #[.agg #[.int .u64 ah, .int .u64 al], .int .u64 u] w fun e w' =>
      ∃ h l : Int, e = .returned (.agg #[.int .u64 h, .int .u64 l]) ∧ Is h l (up a v) ∧ Below w.heap.size w w' := by
  subst hu
  have a1 := i.lt
  have u1 := up_lt v0 a1
  go_enter Tryz.func93, Tryz.ntmps93
  go_wp2_with (fail)
  refine (by_is i rfl (by omega) v1 _).mono ?_
  rintro e w1 ⟨h, l, r, rfl, j, hr, hw1⟩
  have HBw1 : Below w.heap.size w w1 := Below.trans (by go_grown) (hw1.mono (by first | omega | (simp; done) | (simp; omega)))
  have p_p : Box w1 (w.heap.size) (ah) (al) := Box.later hw1 (by repeat (first | assumption | (refine Box.new _ _ _ _ _ ?_; simp; done) | refine Box.alloc ?_ _ | refine Box.drew ?_ | (apply Box.put) | (refine Box.beside ?_ _ _ _ (by omega))))
  have p_q : Box w1 (w.heap.size + 1) (0) (0) := Box.later hw1 (by repeat (first | assumption | (refine Box.new _ _ _ _ _ ?_; simp; done) | refine Box.alloc ?_ _ | refine Box.drew ?_ | (apply Box.put) | (refine Box.beside ?_ _ _ _ (by omega))))
  have q_p := p_p
  obtain ⟨p0, p1, p2, p3, p4⟩ := p_p
  have q_q := p_q
  obtain ⟨q0, q1, q2, q3, q4⟩ := p_q
  have hsw1 := hw1.size
  (try simp at hsw1)
  clear hw1
  by_cases c : r = 0
  · have m : a % v = 0 := by omega
    have k : Is h l (up a v) := by rw [← up_whole v0 m]; exact j
    clear hr m j
    subst c
    go_wp2
    refine bodyPost_ret (v := .agg #[.int .u64 h, .int .u64 l]) (by simp [results, Tryz.results93, go_sem, q0, q1, q4]) rfl ?_
    exact ⟨_, _, rfl, k, by go_grown⟩
  · have m : a % v ≠ 0 := by omega
    have m' := up_rest v0 m
    obtain ⟨h2, l2, j2⟩ := Is.ex u1
    have CA : ∀ w : World, Calls Tryz.prog 94 #[.agg #[.int .u64 h, .int .u64 l], .agg #[.int .u64 0, .int .u64 1]] w fun e w' => e = .returned (.tuple #[.agg #[.int .u64 h2, .int .u64 l2], .bool true]) ∧ Below w.heap.size w w' :=
      fun w => add_det j (Is.small (a := 1) rfl (by omega)) (by rw [m']; exact j2) w
    have CA' : Hid _ := CA
    clear m hr m' u1 CA
    have rb : (r == 0) = false := by simp [c]
    go_wp2_with (fail)
    have q_s : Box (w1.alloc (.cells #[.int .u64 h, .int .u64 l] 42)) w1.heap.size h l := Box.new _ _ _ _ _ rfl
    have q_t : Box (w1.alloc (.cells #[.int .u64 h, .int .u64 l] 42)) (w.heap.size + 1) 0 0 := q_q.alloc _
    have HB1 : Below w.heap.size w (w1.alloc (.cells #[.int .u64 h, .int .u64 l] 42)) := by go_grown
    have hs1 : w1.heap.size < (w1.alloc (.cells #[.int .u64 h, .int .u64 l] 42)).heap.size := by simp
    clear q_p p0 p1 p2 p3 p4 q_q q0 q1 q2 q3 q4 HBw1
    generalize w1.alloc (.cells #[.int .u64 h, .int .u64 l] 42) = W1 at *
    refine wp_region_noPanic ?_
    refine wp_region_held_drew (S := fun w' => Box w' w1.heap.size h l) (by kernel_rfl) ?_ (fun hHeld => ?_)
    · exact q_s
    refine wpAnyH_take (i := 0) (v := ?_) rfl (by kernel_rfl) (by kernel_rfl) (by kernel_rfl) (fun _ _ _ h => h) (Or.inl ⟨by rfl, ?_⟩) (by assumption) ?_
    rotate_left
    · (intro wS hSw; obtain ⟨g0, g1, -, -, -⟩ := hSw; go_simp; try with_reducible rfl)
    change wpAnyH _ _ _ _ _ _ _ (Act.put _ (some 21) _) _
    simp only [Act.put, List.setIfInBounds_toArray, List.set_cons_zero, List.set_cons_succ]
    refine wpAnyH_named ?_
    intro A hA
    clear hHeld
    refine wpAnyH_inv (I := fun L a W => ∃ (c1 c2 c3 c4 c5 c6 c7 c8 : Bool) (s22 s23 s20 s24 s25 s8 s9 : Value), L = #[true, c1, c2, c3, c4, c5, c6, c7, c8] ∧ a = (((((((A.put (some 22) s22).put (some 23) s23).put (some 20) s20).put (some 24) s24).put (some 25) s25).put (some 8) s8).put (some 9) s9) ∧ Hid (Below W1.heap.size W1.drew W) ∧ Hid (c1 = true → s22 = .agg #[.int .u64 0, .int .u64 1]) ∧ Hid (c2 = true → s23 = .tuple #[.agg #[.int .u64 h2, .int .u64 l2], .bool true]) ∧ Hid (c3 = true → s20 = .tuple #[.agg #[.int .u64 h2, .int .u64 l2], .bool true]) ∧ Hid (c4 = true → s24 = .agg #[.int .u64 h2, .int .u64 l2]) ∧ Hid (c5 = true → s25 = .bool true) ∧ Hid (c8 = true → s9 = .bool true) ∧ Hid (MadeL W1.heap.size 2 c6 c7 s8 ([.int .u64 h2, .int .u64 l2]) W)) ?hS ?hz (by kernel_rfl) ?hsteps ?hend _ _ _ _ (by decide) ?h0
    case hS => rintro L a W ⟨c1, c2, c3, c4, c5, c6, c7, c8, s22, s23, s20, s24, s25, s8, s9, -, -, K, -⟩; have hb := K.out; clear K; exact (fun h => h) (Box.later (W := W1.drew) hb q_s)
    case hz => rintro L a W ⟨c1, c2, c3, c4, c5, c6, c7, c8, s22, s23, s20, s24, s25, s8, s9, rfl, -⟩; rfl
    case h0 => exact ⟨false, false, false, false, false, false, false, false, A.eval (.tmp 22), A.eval (.tmp 23), A.eval (.tmp 20), A.eval (.tmp 24), A.eval (.tmp 25), A.eval (.tmp 8), A.eval (.tmp 9), rfl, by simp only [put_self], Below.refl _ _, fun h => Bool.noConfusion h, fun h => Bool.noConfusion h, fun h => Bool.noConfusion h, fun h => Bool.noConfusion h, fun h => Bool.noConfusion h, fun h => Bool.noConfusion h, MadeL.not _ _ _ _ _⟩
    case hend =>
      rintro L a W ⟨c1, c2, c3, c4, c5, c6, c7, c8, s22, s23, s20, s24, s25, s8, s9, rfl, rfl, K, k1, k2, k3, k4, k5, k8, k6⟩ hall
      obtain rfl : c1 = true := hall 1
      obtain rfl : c2 = true := hall 2
      obtain rfl : c3 = true := hall 3
      obtain rfl : c4 = true := hall 4
      obtain rfl : c5 = true := hall 5
      obtain rfl : c6 = true := hall 6
      obtain rfl : c7 = true := hall 7
      obtain rfl : c8 = true := hall 8
      obtain ⟨p6, rfl, -, z6, -, r6'⟩ := k6.out.2 rfl
      have r6 := r6' rfl
      clear r6'
      obtain rfl := k1.out rfl
      obtain rfl := k2.out rfl
      obtain rfl := k3.out rfl
      obtain rfl := k4.out rfl
      obtain rfl := k5.out rfl
      obtain rfl := k8.out rfl
      clear k1 k2 k3 k4 k5 k8 k6
      refine NoPanic.normal ?_
      subst hA
      simp only [Act.put, List.setIfInBounds_toArray, List.set_cons_zero, List.set_cons_succ]
      have e0 := r6 0 _ rfl
      have e1 := r6 1 _ rfl
      obtain ⟨y0, y1, y2, y3, y4⟩ := Box.later (W := W1.drew) K.out q_t
      have HBW : Below w.heap.size w W := HB1.trans ((of_drew' K.out).mono (by omega))
      go_wp2
      refine bodyPost_ret (v := .agg #[.int .u64 h2, .int .u64 l2]) (by simp [results, Tryz.results93, go_sem, y0, y1]) rfl ?_
      exact ⟨_, _, rfl, j2, by go_grown⟩
    case hsteps =>
      refine StepsI.skip (i := 0) (by rintro L a W ⟨c1, c2, c3, c4, c5, c6, c7, c8, s22, s23, s20, s24, s25, s8, s9, rfl, -⟩; rfl) ?_
      refine StepsI.cons (i := 1) rfl ?_ ?_
      · rintro L a W ⟨c1, c2, c3, c4, c5, c6, c7, c8, s22, s23, s20, s24, s25, s8, s9, rfl, rfl, K, k1, k2, k3, k4, k5, k8, k6⟩ h0 hd KK hK
        obtain rfl : c1 = false := h0
        subst hA
        simp only [Act.put, List.setIfInBounds_toArray, List.set_cons_zero, List.set_cons_succ]
        clear hd
        go_simp
        refine (of_any _ _).mono ?_
        rintro e w2 ⟨rfl, hw2⟩
        (try go_wp2_with (fail))
        exact hK.out _ _ ⟨true, c2, c3, c4, c5, c6, c7, c8, .agg #[.int .u64 0, .int .u64 1], s23, s20, s24, s25, s8, s9, rfl, by simp only [Act.put, List.setIfInBounds_toArray, List.set_cons_zero, List.set_cons_succ], K.out.trans (hw2.mono K.out.size), fun _ => rfl, k2.out, k3.out, k4.out, k5.out, k8.out, k6.out.later hw2⟩
      refine StepsI.cons (i := 2) rfl ?_ ?_
      · rintro L a W ⟨c1, c2, c3, c4, c5, c6, c7, c8, s22, s23, s20, s24, s25, s8, s9, rfl, rfl, K, k1, k2, k3, k4, k5, k8, k6⟩ h0 hd KK hK
        obtain rfl : c2 = false := h0
        obtain rfl : c1 = true := hd ⟨1, .data⟩ (by simp) rfl
        have e1 := k1.out rfl
        subst e1
        subst hA
        simp only [Act.put, List.setIfInBounds_toArray, List.set_cons_zero, List.set_cons_succ]
        clear hd
        go_simp
        refine (CA'.out _).mono ?_
        rintro e w2 ⟨rfl, hw2⟩
        (try go_wp2_with (fail))
        exact hK.out _ _ ⟨true, true, c3, c4, c5, c6, c7, c8, .agg #[.int .u64 0, .int .u64 1], .tuple #[.agg #[.int .u64 h2, .int .u64 l2], .bool true], s20, s24, s25, s8, s9, rfl, by simp only [Act.put, List.setIfInBounds_toArray, List.set_cons_zero, List.set_cons_succ], K.out.trans (hw2.mono K.out.size), fun _ => rfl, fun _ => rfl, k3.out, k4.out, k5.out, k8.out, k6.out.later hw2⟩
      refine StepsI.cons (i := 3) rfl ?_ ?_
      · rintro L a W ⟨c1, c2, c3, c4, c5, c6, c7, c8, s22, s23, s20, s24, s25, s8, s9, rfl, rfl, K, k1, k2, k3, k4, k5, k8, k6⟩ h0 hd KK hK
        obtain rfl : c3 = false := h0
        obtain rfl : c2 = true := hd ⟨2, .data⟩ (by simp) rfl
        have e2 := k2.out rfl
        subst e2
        subst hA
        simp only [Act.put, List.setIfInBounds_toArray, List.set_cons_zero, List.set_cons_succ]
        clear hd
        go_simp
        exact hK.out _ _ ⟨c1, true, true, c4, c5, c6, c7, c8, s22, .tuple #[.agg #[.int .u64 h2, .int .u64 l2], .bool true], .tuple #[.agg #[.int .u64 h2, .int .u64 l2], .bool true], s24, s25, s8, s9, rfl, by simp only [Act.put, List.setIfInBounds_toArray, List.set_cons_zero, List.set_cons_succ], K.out, k1.out, fun _ => rfl, fun _ => rfl, k4.out, k5.out, k8.out, k6.out⟩
      refine StepsI.cons (i := 4) rfl ?_ ?_
      · rintro L a W ⟨c1, c2, c3, c4, c5, c6, c7, c8, s22, s23, s20, s24, s25, s8, s9, rfl, rfl, K, k1, k2, k3, k4, k5, k8, k6⟩ h0 hd KK hK
        obtain rfl : c4 = false := h0
        obtain rfl : c3 = true := hd ⟨3, .data⟩ (by simp) rfl
        have e3 := k3.out rfl
        subst e3
        subst hA
        simp only [Act.put, List.setIfInBounds_toArray, List.set_cons_zero, List.set_cons_succ]
        clear hd
        go_simp
        exact hK.out _ _ ⟨c1, c2, true, true, c5, c6, c7, c8, s22, s23, .tuple #[.agg #[.int .u64 h2, .int .u64 l2], .bool true], .agg #[.int .u64 h2, .int .u64 l2], s25, s8, s9, rfl, by simp only [Act.put, List.setIfInBounds_toArray, List.set_cons_zero, List.set_cons_succ], K.out, k1.out, k2.out, fun _ => rfl, fun _ => rfl, k5.out, k8.out, k6.out⟩
      refine StepsI.cons (i := 5) rfl ?_ ?_
      · rintro L a W ⟨c1, c2, c3, c4, c5, c6, c7, c8, s22, s23, s20, s24, s25, s8, s9, rfl, rfl, K, k1, k2, k3, k4, k5, k8, k6⟩ h0 hd KK hK
        obtain rfl : c5 = false := h0
        obtain rfl : c3 = true := hd ⟨3, .data⟩ (by simp) rfl
        have e3 := k3.out rfl
        subst e3
        subst hA
        simp only [Act.put, List.setIfInBounds_toArray, List.set_cons_zero, List.set_cons_succ]
        clear hd
        go_simp
        exact hK.out _ _ ⟨c1, c2, true, c4, true, c6, c7, c8, s22, s23, .tuple #[.agg #[.int .u64 h2, .int .u64 l2], .bool true], s24, .bool true, s8, s9, rfl, by simp only [Act.put, List.setIfInBounds_toArray, List.set_cons_zero, List.set_cons_succ], K.out, k1.out, k2.out, fun _ => rfl, k4.out, fun _ => rfl, k8.out, k6.out⟩
      refine StepsI.cons (i := 6) rfl ?_ ?_
      · rintro L a W ⟨c1, c2, c3, c4, c5, c6, c7, c8, s22, s23, s20, s24, s25, s8, s9, rfl, rfl, K, k1, k2, k3, k4, k5, k8, k6⟩ h0 hd KK hK
        obtain rfl : c6 = false := h0
        subst hA
        simp only [Act.put, List.setIfInBounds_toArray, List.set_cons_zero, List.set_cons_succ]
        clear hd
        go_simp
        exact hK.out _ _ ⟨c1, c2, c3, c4, c5, true, c7, c8, s22, s23, s20, s24, s25, .pointer (some ⟨W.heap.size, 0, none⟩), s9, rfl, by simp only [Act.put, List.setIfInBounds_toArray, List.set_cons_zero, List.set_cons_succ], K.out.alloc K.out.size _, k1.out, k2.out, k3.out, k4.out, k5.out, k8.out, k6.out.new K.out.size _ (by rfl)⟩
      refine StepsI.cons (i := 7) rfl ?_ ?_
      · rintro L a W ⟨c1, c2, c3, c4, c5, c6, c7, c8, s22, s23, s20, s24, s25, s8, s9, rfl, rfl, K, k1, k2, k3, k4, k5, k8, k6⟩ h0 hd KK hK
        obtain rfl : c7 = false := h0
        obtain rfl : c6 = true := hd ⟨6, .data⟩ (by simp) rfl
        obtain rfl : c4 = true := hd ⟨4, .data⟩ (by simp) rfl
        have e := k4.out rfl
        subst hA
        simp only [Act.put, List.setIfInBounds_toArray, List.set_cons_zero, List.set_cons_succ]
        clear hd
        rw [if_pos (by rfl)]
        refine MadeL.store k6.out _ _ _ rfl rfl (by rfl) e rfl box_info (box_each _ _) ?_
        exact hK.out _ _ ⟨c1, c2, c3, true, c5, true, true, c8, s22, s23, s20, s24, s25, s8, s9, rfl, by simp only [Act.put, List.setIfInBounds_toArray, List.set_cons_zero, List.set_cons_succ], below_cells _ k6.out.ge _ 0 K.out, k1.out, k2.out, k3.out, k4.out, k5.out, k8.out, k6.out.put rfl⟩
      refine StepsI.cons (i := 8) rfl ?_ ?_
      · rintro L a W ⟨c1, c2, c3, c4, c5, c6, c7, c8, s22, s23, s20, s24, s25, s8, s9, rfl, rfl, K, k1, k2, k3, k4, k5, k8, k6⟩ h0 hd KK hK
        obtain rfl : c8 = false := h0
        obtain rfl : c5 = true := hd ⟨5, .data⟩ (by simp) rfl
        have e5 := k5.out rfl
        subst e5
        subst hA
        simp only [Act.put, List.setIfInBounds_toArray, List.set_cons_zero, List.set_cons_succ]
        clear hd
        go_simp
        exact hK.out _ _ ⟨c1, c2, c3, c4, true, c6, c7, true, s22, s23, s20, s24, .bool true, s8, .bool true, rfl, by simp only [Act.put, List.setIfInBounds_toArray, List.set_cons_zero, List.set_cons_succ], K.out, k1.out, k2.out, k3.out, k4.out, fun _ => rfl, fun _ => rfl, k6.out⟩
      exact StepsI.nil

end Go.Proofs.YtpbgolcimbjekaaGreatDoor
