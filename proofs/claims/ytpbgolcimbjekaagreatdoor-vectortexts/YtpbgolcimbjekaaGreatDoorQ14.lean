/-
  Contracts of package amount's twosByTens and scaled, at this program. Conditions: as each names them.
-/
import Derived.Test.YtpbgolcimbjekaaGreatDoorQ13
namespace Go.Proofs.YtpbgolcimbjekaaGreatDoor
open Go.RowKit

theorem FitsN.ex (v : Nat) : ∃ (h l : Int) (o : Bool), FitsN h l o v := by
  by_cases c : v < 340282366920938463463374607431768211456
  · obtain ⟨h, l, i⟩ := Is.ex c
    exact ⟨h, l, true, Or.inl ⟨rfl, i⟩⟩
  · exact ⟨0, 0, false, Or.inr ⟨rfl, rfl, rfl, by omega⟩⟩
theorem FitsN.det {h l h' l' : Int} {o o' : Bool} {v : Nat} (f : FitsN h l o v) (g : FitsN h' l' o' v) : h = h' ∧ l = l' ∧ o = o' := by
  rcases f with ⟨rfl, f⟩ | ⟨rfl, rfl, rfl, f⟩
  · obtain ⟨rfl, g'⟩ := g.ok f.lt
    obtain ⟨rfl, rfl⟩ := f.det g'
    exact ⟨rfl, rfl, rfl⟩
  · rcases g with ⟨rfl, g⟩ | ⟨rfl, rfl, rfl, g⟩
    · have := g.lt; omega
    · exact ⟨rfl, rfl, rfl⟩
theorem add_fits {ah al bh bl h l : Int} {o : Bool} {a b : Nat} (i : Is ah al a) (j : Is bh bl b) (k : FitsN h l o (a + b)) (w : World) :
    Calls Tryz.prog 94 #[.agg #[.int .u64 ah, .int .u64 al], .agg #[.int .u64 bh, .int .u64 bl]] w fun e w' =>
      e = .returned (.tuple #[.agg #[.int .u64 h, .int .u64 l], .bool o]) ∧ Below w.heap.size w w' := by
  refine (add_is i j w).mono ?_
  rintro e w' ⟨h', l', o', rfl, f, hw⟩
  obtain ⟨rfl, rfl, rfl⟩ := f.det k
  exact ⟨rfl, hw⟩
theorem byUp_det {ah al u h l : Int} {a v : Nat} (i : Is ah al a) (hu : u = (v : Int)) (v0 : 1 < v) (v1 : v < 18446744073709551616) (k : Is h l (up a v)) (w : World) :
    Calls Tryz.prog 93 #[.agg #[.int .u64 ah, .int .u64 al], .int .u64 u] w fun e w' => e = .returned (.agg #[.int .u64 h, .int .u64 l]) ∧ Below w.heap.size w w' := by
  refine (byUp_is i hu v0 v1 w).mono ?_
  rintro e w' ⟨h', l', rfl, f, hw⟩
  obtain ⟨rfl, rfl⟩ := f.det k
  exact ⟨rfl, hw⟩

/-- Along twosByTens: the result's place, the two parts. -/
def WT (w W : World) (rh rl : Int) (p : Nat) (ph pl : Int) (q : Nat) (qh ql : Int) : Prop := Box W (w.heap.size + 1) rh rl ∧ Box W p ph pl ∧ Box W q qh ql ∧ w.heap.size + 2 ≤ p ∧ w.heap.size + 2 ≤ q ∧ Below w.heap.size w W
section
variable {w W w1 : World} {rh rl ph pl qh ql : Int} {p q : Nat}
theorem WT.later (k : WT w W rh rl p ph pl q qh ql) (hb : Below W.heap.size W w1) : WT w w1 rh rl p ph pl q qh ql := by
  obtain ⟨a, b, c, d, d', e⟩ := k
  exact ⟨a.later hb, b.later hb, c.later hb, d, d', e.trans (hb.mono e.size)⟩
theorem WT.drew (k : WT w W rh rl p ph pl q qh ql) : WT w W.drew rh rl p ph pl q qh ql := by
  obtain ⟨a, b, c, d, d', e⟩ := k
  exact ⟨a, b, c, d, d', e.drew⟩
theorem WT.put (k : WT w W rh rl p ph pl q qh ql) (x y : Int) : WT w ((W.setCell ⟨w.heap.size + 1, 0, none⟩ (.int .u64 x)).setCell ⟨w.heap.size + 1, 1, none⟩ (.int .u64 y)) x y p ph pl q qh ql := by
  obtain ⟨a, b, c, d, d', e⟩ := k
  exact ⟨a.put x y, (b.beside _ _ _ (by omega)).beside _ _ _ (by omega), (c.beside _ _ _ (by omega)).beside _ _ _ (by omega), d, d', (e.setCell (Nat.le_succ _) _).setCell (Nat.le_succ _) _⟩
end
theorem pow10_le {j : Nat} (h : j ≤ 18) : 10 ^ j ≤ 1000000000000000000 := by
  have : 10 ^ j ≤ 10 ^ 18 := Nat.pow_le_pow_right (by omega) h
  simpa using this
theorem pow10_le19 {j : Nat} (h : j ≤ 19) : 10 ^ j ≤ 10000000000000000000 := by
  have : 10 ^ j ≤ 10 ^ 19 := Nat.pow_le_pow_right (by omega) h
  simpa using this
theorem pow2_le {t : Nat} (h : t ≤ 60) : 2 ^ t ≤ 1152921504606846976 := by
  have : 2 ^ t ≤ 2 ^ 60 := Nat.pow_le_pow_right (by omega) h
  simpa using this

set_option maxHeartbeats 1000000 in
set_option maxRecDepth 100000 in
theorem twosByTens_is {ah al tw n : Int} {a t m : Nat} (i : Is ah al a) (ht : tw = (t : Int)) (t1 : t ≤ 60) (hn : n = (m : Int)) (m0 : 1 ≤ m) (m1 : m ≤ 19) (w : World) :
    Calls Tryz.prog 79 #[.agg #[.int .u64 ah, .int .u64 al], .int .i64 tw, .int .i64 n] w fun e w' =>
      ∃ (h l : Int) (o : Bool), e = .returned (.tuple #[.agg #[.int .u64 h, .int .u64 l], .bool o]) ∧ FitsN h l o (up (a * 2 ^ t) (10 ^ m)) ∧ Below w.heap.size w w' := by
  subst ht hn
  go_enter Tryz.func79, Tryz.ntmps79
  go_wp2
  go_loopw [8, 17] (fun u f wr => ∃ (j V : Nat), f = .int .i64 j ∧ j ≤ m ∧ u = .int .u64 V ∧ Hid (V = 10 ^ j) ∧ Box wr w.heap.size ah al ∧ Box wr (w.heap.size + 1) 0 0 ∧ Below w.heap.size w wr) (fun _ f _ => m - (intOf f).toNat)
  case atStart => exact ⟨0, 1, rfl, by omega, rfl, by unfold Hid; simp, (by repeat (first | assumption | (refine Box.new _ _ _ _ _ ?_; simp; done) | refine Box.alloc ?_ _ | refine Box.drew ?_ | (apply Box.put) | (refine Box.beside ?_ _ _ _ (by omega)))), (by repeat (first | assumption | (refine Box.new _ _ _ _ _ ?_; simp; done) | refine Box.alloc ?_ _ | refine Box.drew ?_ | (apply Box.put) | (refine Box.beside ?_ _ _ _ (by omega)))), by go_grown⟩
  case round =>
    obtain ⟨j, V, rfl, jm, rfl, HV, q_p, q_s, HB⟩ := hrel
    obtain ⟨p0, p1, p2, p3, p4⟩ := id q_p
    obtain ⟨s0, s1, s2, s3, s4⟩ := id q_s
    by_cases c : j < m
    · have V1 : V ≤ 1000000000000000000 := by rw [HV.out]; exact pow10_le (by omega)
      have HV' : Hid (V * 10 = 10 ^ (j + 1)) := by unfold Hid; rw [HV.out, Nat.pow_succ]
      go_wp2
      go_roundw
      case rel => exact ⟨j + 1, V * 10, by go_num, by omega, by go_light; refine congrArg (Value.int IntKind.u64) ?_; first | omega | (rw [IntKind.wrap_u64]; omega), HV', (by repeat (first | assumption | (refine Box.new _ _ _ _ _ ?_; simp; done) | refine Box.alloc ?_ _ | refine Box.drew ?_ | (apply Box.put) | (refine Box.beside ?_ _ _ _ (by omega)))), (by repeat (first | assumption | (refine Box.new _ _ _ _ _ ?_; simp; done) | refine Box.alloc ?_ _ | refine Box.drew ?_ | (apply Box.put) | (refine Box.beside ?_ _ _ _ (by omega)))), by go_grown⟩
      case measure => simp [intOf]; omega
    · obtain rfl : j = m := by omega
      have V1 : V ≤ 10000000000000000000 := by rw [HV.out]; exact pow10_le19 m1
      have V0 : 1 < V := by
        rw [HV.out]
        have : 10 ^ 1 ≤ 10 ^ j := Nat.pow_le_pow_right (by omega) m0
        omega
      have Z := up_parts a t V V0
      rw [HV.out] at Z
      have HZ : Hid (a / V * 2 ^ t + up (a % V * 2 ^ t) V = up (a * 2 ^ t) (10 ^ j)) := by unfold Hid; rw [HV.out]; exact Z
      clear Z HV
      go_wp2_with (fail)
      refine (by_is i (v := V) rfl (by omega) (by omega) _).mono ?_
      rintro e w1 ⟨bh, bl, r, rfl, jb, hr0, hw1⟩
      have HR : Hid (r = ((a % V : Nat) : Int)) := hr0
      clear hr0
      have HBw1 : Below w.heap.size w w1 := Below.trans (by go_grown) (hw1.mono (by first | omega | (simp; done) | (simp; omega)))
      have p_p : Box w1 (w.heap.size) (ah) (al) := Box.later hw1 (by repeat (first | assumption | (refine Box.new _ _ _ _ _ ?_; simp; done) | refine Box.alloc ?_ _ | refine Box.drew ?_ | (apply Box.put) | (refine Box.beside ?_ _ _ _ (by omega))))
      have p_s : Box w1 (w.heap.size + 1) (0) (0) := Box.later hw1 (by repeat (first | assumption | (refine Box.new _ _ _ _ _ ?_; simp; done) | refine Box.alloc ?_ _ | refine Box.drew ?_ | (apply Box.put) | (refine Box.beside ?_ _ _ _ (by omega))))
      clear q_p p0 p1 p2 p3 p4
      clear q_s s0 s1 s2 s3 s4
      have q_p := p_p
      obtain ⟨p0, p1, p2, p3, p4⟩ := p_p
      have q_s := p_s
      obtain ⟨s0, s1, s2, s3, s4⟩ := p_s
      have hsw1 := hw1.size
      (try simp at hsw1)
      clear hw1
      go_wp2_with (fail)
      refine (left_is jb (k := t) rfl (by omega) _).mono ?_
      rintro e w2 ⟨ch, cl, o, rfl, fc, hw2⟩
      have HBw2 : Below w.heap.size w w2 := Below.trans (by go_grown) (hw2.mono (by first | omega | (simp; done) | (simp; omega)))
      have p_s : Box w2 (w.heap.size + 1) (0) (0) := Box.later hw2 (by repeat (first | assumption | (refine Box.new _ _ _ _ _ ?_; simp; done) | refine Box.alloc ?_ _ | refine Box.drew ?_ | (apply Box.put) | (refine Box.beside ?_ _ _ _ (by omega))))
      clear q_s s0 s1 s2 s3 s4
      have q_s := p_s
      obtain ⟨s0, s1, s2, s3, s4⟩ := p_s
      have hsw2 := hw2.size
      (try simp at hsw2)
      clear hw2
      have rl : a % V < V := Nat.mod_lt _ (by omega)
      rcases fc with ⟨rfl, jc⟩ | ⟨rfl, rfl, rfl, fc⟩
      · have hr := HR.out
        have r0 : 0 ≤ r := by omega
        have r1 : r < 18446744073709551616 := by omega
        have lowlt : a % V * 2 ^ t < 340282366920938463463374607431768211456 := by
          have h1 : a % V * 2 ^ t ≤ 10000000000000000000 * 1152921504606846976 := Nat.mul_le_mul (by omega) (pow2_le t1)
          omega
        obtain ⟨lh, ll, jl⟩ := Is.ex lowlt
        have CL : Hid (∀ w, Calls Tryz.prog 77 #[.agg #[.int .u64 0, .int .u64 r], .int .i64 t] w fun e w' => e = .returned (.tuple #[.agg #[.int .u64 lh, .int .u64 ll], .bool true]) ∧ Below w.heap.size w w') := fun w => by
          refine (left_is (Is.small (a := a % V) hr (by omega)) (k := t) rfl (by omega) w).mono ?_
          rintro e w' ⟨h', l', o', rfl, f, hw⟩
          obtain ⟨rfl, g⟩ := f.ok lowlt
          obtain ⟨rfl, rfl⟩ := g.det jl
          exact ⟨rfl, hw⟩
        obtain ⟨uh, ul, ju⟩ := Is.ex (up_lt V0 lowlt)
        have CU : Hid (∀ w, Calls Tryz.prog 93 #[.agg #[.int .u64 lh, .int .u64 ll], .int .u64 V] w fun e w' => e = .returned (.agg #[.int .u64 uh, .int .u64 ul]) ∧ Below w.heap.size w w') := fun w => byUp_det jl (v := V) rfl V0 (by omega) ju w
        obtain ⟨nh, nl, o, fn⟩ := FitsN.ex (a / V * 2 ^ t + up (a % V * 2 ^ t) V)
        have CA : Hid (∀ w, Calls Tryz.prog 94 #[.agg #[.int .u64 ch, .int .u64 cl], .agg #[.int .u64 uh, .int .u64 ul]] w fun e w' => e = .returned (.tuple #[.agg #[.int .u64 nh, .int .u64 nl], .bool o]) ∧ Below w.heap.size w w') := fun w => add_fits jc ju fn w
        rw [HZ.out] at fn
        have FN : Hid (FitsN nh nl o (up (a * 2 ^ t) (10 ^ j))) := fn
        clear HZ fn jl ju lowlt jc rl hr HR jb i V0 V1 r0 r1
        have q_c : Box (w2.alloc (.cells #[.int .u64 ch, .int .u64 cl] 42)) w2.heap.size ch cl := Box.new _ _ _ _ _ rfl
        have q_r : Box (w2.alloc (.cells #[.int .u64 ch, .int .u64 cl] 42)) (w.heap.size + 1) 0 0 := q_s.alloc _
        have z2 : w.heap.size + 2 ≤ w2.heap.size := by omega
        go_wp2_with (fail)
        refine (of_any _ _).mono ?_
        rintro e w3 ⟨rfl, hw3⟩
        have q_c3 := q_c.later hw3
        have q_r3 := q_r.later hw3
        have HBw3 : Below w.heap.size w w3 := Below.trans (by go_grown) (hw3.mono (by first | omega | (simp; done) | (simp; omega)))
        have hsw3 := hw3.size
        (try simp at hsw3)
        clear hw3
        go_wp2_with (fail)
        refine (CL.out _).mono ?_
        rintro e w4 ⟨rfl, hw4⟩
        have q_c4 := q_c3.later hw4
        have q_r4 := q_r3.later hw4
        have HBw4 : Below w.heap.size w w4 := Below.trans (by go_grown) (hw4.mono (by first | omega | (simp; done) | (simp; omega)))
        have hsw4 := hw4.size
        (try simp at hsw4)
        clear hw4
        clear CL q_c3 q_r3 q_c q_r
        go_wp2_with (fail)
        have F0 : WT w (w4.alloc (.cells #[.int .u64 lh, .int .u64 ll] 42)) 0 0 w2.heap.size ch cl w4.heap.size lh ll := ⟨q_r4.alloc _, q_c4.alloc _, Box.new _ _ _ _ _ rfl, z2, by have := hsw3; have := hsw4; simp at *; omega, by go_grown⟩
        clear q_c4 q_r4 HBw1 HBw2 HBw3 HBw4 s0 s1 s2 s3 s4 q_s HB
        generalize w4.alloc (.cells #[.int .u64 lh, .int .u64 ll] 42) = W1 at *
        refine wp_region_noPanic ?_
        refine wp_region_held_drew (S := fun w' => Box w' w2.heap.size ch cl ∧ Box w' w4.heap.size lh ll) (by kernel_rfl) ?_ (fun hHeld => ?_)
        · exact ⟨F0.drew.2.1, F0.drew.2.2.1⟩
        refine wpAnyH_take (i := 0) (v := ?_) rfl (by kernel_rfl) (by kernel_rfl) (by kernel_rfl) (fun _ _ _ h => h) (Or.inl ⟨by rfl, ?_⟩) (by assumption) ?_
        rotate_left
        · (intro wS hSw; obtain ⟨⟨g0, g1, -, -, -⟩, ⟨g2, g3, -, -, -⟩⟩ := hSw; go_simp; try with_reducible rfl)
        change wpAnyH _ _ _ _ _ _ _ (Act.put _ (some 45) _) _
        simp only [Act.put, List.setIfInBounds_toArray, List.set_cons_zero, List.set_cons_succ]
        refine wpAnyH_take (i := 1) (v := ?_) rfl (by kernel_rfl) (by kernel_rfl) (by kernel_rfl) (fun _ _ _ h => h) (Or.inl ⟨by rfl, ?_⟩) (by assumption) ?_
        rotate_left
        · (intro wS hSw; obtain ⟨⟨g0, g1, -, -, -⟩, ⟨g2, g3, -, -, -⟩⟩ := hSw; go_simp; try with_reducible rfl)
        change wpAnyH _ _ _ _ _ _ _ (Act.put _ (some 46) _) _
        simp only [Act.put, List.setIfInBounds_toArray, List.set_cons_zero, List.set_cons_succ]
        refine wpAnyH_take (i := 2) (v := ?_) rfl (by kernel_rfl) (by kernel_rfl) (by kernel_rfl) (fun _ _ _ h => h) (Or.inl ⟨by rfl, ?_⟩) (by assumption) ?_
        rotate_left
        · (intro wS hSw; obtain ⟨⟨g0, g1, -, -, -⟩, ⟨g2, g3, -, -, -⟩⟩ := hSw; go_simp; try with_reducible rfl)
        change wpAnyH _ _ _ _ _ _ _ (Act.put _ (some 47) _) _
        simp only [Act.put, List.setIfInBounds_toArray, List.set_cons_zero, List.set_cons_succ]
        refine wpAnyH_named ?_
        intro A hA
        clear hHeld
        refine wpAnyH_inv (I := fun L a W => ∃ (c3 c4 c5 c6 c7 c8 : Bool) (s48 s49 s50 s51 s7 : Value), L = #[true, true, true, c3, c4, c5, c6, c7, c8] ∧ a = (((((A.put (some 48) s48).put (some 49) s49).put (some 50) s50).put (some 51) s51).put (some 7) s7) ∧ Hid (WT w W (bif c7 then nh else 0) (bif c7 then nl else 0) w2.heap.size ch cl w4.heap.size lh ll) ∧ Hid (c3 = true → s48 = .agg #[.int .u64 uh, .int .u64 ul]) ∧ Hid (c4 = true → s49 = .tuple #[.agg #[.int .u64 nh, .int .u64 nl], .bool o]) ∧ Hid (c5 = true → s50 = .agg #[.int .u64 nh, .int .u64 nl]) ∧ Hid (c6 = true → s51 = .bool o) ∧ Hid (c8 = true → s7 = .bool o)) ?hS ?hz (by kernel_rfl) ?hsteps ?hend _ _ _ _ (by decide) ?h0
        case hS => rintro L a W ⟨c3, c4, c5, c6, c7, c8, s48, s49, s50, s51, s7, -, -, K, -⟩; exact (fun h => h) (⟨K.out.2.1, K.out.2.2.1⟩)
        case hz => rintro L a W ⟨c3, c4, c5, c6, c7, c8, s48, s49, s50, s51, s7, rfl, -⟩; rfl
        case h0 => exact ⟨false, false, false, false, false, false, A.eval (.tmp 48), A.eval (.tmp 49), A.eval (.tmp 50), A.eval (.tmp 51), A.eval (.tmp 7), rfl, by simp only [put_self], F0.drew, fun h => Bool.noConfusion h, fun h => Bool.noConfusion h, fun h => Bool.noConfusion h, fun h => Bool.noConfusion h, fun h => Bool.noConfusion h⟩
        case hend =>
          rintro L a W ⟨c3, c4, c5, c6, c7, c8, s48, s49, s50, s51, s7, rfl, rfl, K, k3, k4, k5, k6, k8⟩ hall
          obtain rfl : c3 = true := hall 3
          obtain rfl : c4 = true := hall 4
          obtain rfl : c5 = true := hall 5
          obtain rfl : c6 = true := hall 6
          obtain rfl : c7 = true := hall 7
          obtain rfl : c8 = true := hall 8
          obtain rfl := k3.out rfl
          obtain rfl := k4.out rfl
          obtain rfl := k5.out rfl
          obtain rfl := k6.out rfl
          obtain rfl := k8.out rfl
          clear k3 k4 k5 k6 k8
          refine NoPanic.normal ?_
          subst hA
          simp only [Act.put, List.setIfInBounds_toArray, List.set_cons_zero, List.set_cons_succ]
          have R : WT w W nh nl w2.heap.size ch cl w4.heap.size lh ll := K.out
          clear K
          obtain ⟨⟨r1, r2, -, -, -⟩, -, -, -, -, r5⟩ := R
          go_wp2
          refine bodyPost_ret (v := .tuple #[.agg #[.int .u64 nh, .int .u64 nl], .bool o]) (by simp [results, Tryz.results79, go_sem, r1, r2]) rfl ?_
          exact ⟨_, _, _, rfl, FN.out, r5⟩
        case hsteps =>
          refine StepsI.skip (i := 0) (by rintro L a W ⟨c3, c4, c5, c6, c7, c8, s48, s49, s50, s51, s7, rfl, -⟩; rfl) ?_
          refine StepsI.skip (i := 1) (by rintro L a W ⟨c3, c4, c5, c6, c7, c8, s48, s49, s50, s51, s7, rfl, -⟩; rfl) ?_
          refine StepsI.skip (i := 2) (by rintro L a W ⟨c3, c4, c5, c6, c7, c8, s48, s49, s50, s51, s7, rfl, -⟩; rfl) ?_
          refine StepsI.cons (i := 3) rfl ?_ ?_
          · rintro L a W ⟨c3, c4, c5, c6, c7, c8, s48, s49, s50, s51, s7, rfl, rfl, K, k3, k4, k5, k6, k8⟩ h0 hd KK hK
            obtain rfl : c3 = false := h0
            subst hA
            simp only [Act.put, List.setIfInBounds_toArray, List.set_cons_zero, List.set_cons_succ]
            clear hd
            go_simp
            refine (CU.out _).mono ?_
            rintro e w2 ⟨rfl, hw2⟩
            (try go_wp2_with (fail))
            exact hK.out _ _ ⟨true, c4, c5, c6, c7, c8, .agg #[.int .u64 uh, .int .u64 ul], s49, s50, s51, s7, rfl, by simp only [Act.put, List.setIfInBounds_toArray, List.set_cons_zero, List.set_cons_succ], K.out.later hw2, fun _ => rfl, k4.out, k5.out, k6.out, k8.out⟩
          refine StepsI.cons (i := 4) rfl ?_ ?_
          · rintro L a W ⟨c3, c4, c5, c6, c7, c8, s48, s49, s50, s51, s7, rfl, rfl, K, k3, k4, k5, k6, k8⟩ h0 hd KK hK
            obtain rfl : c4 = false := h0
            obtain rfl : c3 = true := hd ⟨3, .data⟩ (by simp) rfl
            have e3 := k3.out rfl
            subst e3
            subst hA
            simp only [Act.put, List.setIfInBounds_toArray, List.set_cons_zero, List.set_cons_succ]
            clear hd
            go_simp
            refine (CA.out _).mono ?_
            rintro e w2 ⟨rfl, hw2⟩
            (try go_wp2_with (fail))
            exact hK.out _ _ ⟨true, true, c5, c6, c7, c8, .agg #[.int .u64 uh, .int .u64 ul], .tuple #[.agg #[.int .u64 nh, .int .u64 nl], .bool o], s50, s51, s7, rfl, by simp only [Act.put, List.setIfInBounds_toArray, List.set_cons_zero, List.set_cons_succ], K.out.later hw2, fun _ => rfl, fun _ => rfl, k5.out, k6.out, k8.out⟩
          refine StepsI.cons (i := 5) rfl ?_ ?_
          · rintro L a W ⟨c3, c4, c5, c6, c7, c8, s48, s49, s50, s51, s7, rfl, rfl, K, k3, k4, k5, k6, k8⟩ h0 hd KK hK
            obtain rfl : c5 = false := h0
            obtain rfl : c4 = true := hd ⟨4, .data⟩ (by simp) rfl
            have e4 := k4.out rfl
            subst e4
            subst hA
            simp only [Act.put, List.setIfInBounds_toArray, List.set_cons_zero, List.set_cons_succ]
            clear hd
            go_simp
            exact hK.out _ _ ⟨c3, true, true, c6, c7, c8, s48, .tuple #[.agg #[.int .u64 nh, .int .u64 nl], .bool o], .agg #[.int .u64 nh, .int .u64 nl], s51, s7, rfl, by simp only [Act.put, List.setIfInBounds_toArray, List.set_cons_zero, List.set_cons_succ], K, k3.out, fun _ => rfl, fun _ => rfl, k6.out, k8.out⟩
          refine StepsI.cons (i := 6) rfl ?_ ?_
          · rintro L a W ⟨c3, c4, c5, c6, c7, c8, s48, s49, s50, s51, s7, rfl, rfl, K, k3, k4, k5, k6, k8⟩ h0 hd KK hK
            obtain rfl : c6 = false := h0
            obtain rfl : c4 = true := hd ⟨4, .data⟩ (by simp) rfl
            have e4 := k4.out rfl
            subst e4
            subst hA
            simp only [Act.put, List.setIfInBounds_toArray, List.set_cons_zero, List.set_cons_succ]
            clear hd
            go_simp
            exact hK.out _ _ ⟨c3, true, c5, true, c7, c8, s48, .tuple #[.agg #[.int .u64 nh, .int .u64 nl], .bool o], s50, .bool o, s7, rfl, by simp only [Act.put, List.setIfInBounds_toArray, List.set_cons_zero, List.set_cons_succ], K, k3.out, fun _ => rfl, k5.out, fun _ => rfl, k8.out⟩
          refine StepsI.cons (i := 7) rfl ?_ ?_
          · rintro L a W ⟨c3, c4, c5, c6, c7, c8, s48, s49, s50, s51, s7, rfl, rfl, K, k3, k4, k5, k6, k8⟩ h0 hd KK hK
            obtain rfl : c7 = false := h0
            obtain rfl : c5 = true := hd ⟨5, .data⟩ (by simp) rfl
            have e5 := k5.out rfl
            subst e5
            subst hA
            simp only [Act.put, List.setIfInBounds_toArray, List.set_cons_zero, List.set_cons_succ]
            clear hd
            rw [if_pos (by rfl)]
            refine box_wp_store K.out.1 _ _ rfl rfl rfl nh nl rfl ?_
            exact hK.out _ _ ⟨c3, c4, true, c6, true, c8, s48, s49, .agg #[.int .u64 nh, .int .u64 nl], s51, s7, rfl, by simp only [Act.put, List.setIfInBounds_toArray, List.set_cons_zero, List.set_cons_succ], K.out.put nh nl, k3.out, k4.out, fun _ => rfl, k6.out, k8.out⟩
          refine StepsI.cons (i := 8) rfl ?_ ?_
          · rintro L a W ⟨c3, c4, c5, c6, c7, c8, s48, s49, s50, s51, s7, rfl, rfl, K, k3, k4, k5, k6, k8⟩ h0 hd KK hK
            obtain rfl : c8 = false := h0
            obtain rfl : c6 = true := hd ⟨6, .data⟩ (by simp) rfl
            have e6 := k6.out rfl
            subst e6
            subst hA
            simp only [Act.put, List.setIfInBounds_toArray, List.set_cons_zero, List.set_cons_succ]
            clear hd
            go_simp
            exact hK.out _ _ ⟨c3, c4, c5, true, c7, true, s48, s49, s50, .bool o, .bool o, rfl, by simp only [Act.put, List.setIfInBounds_toArray, List.set_cons_zero, List.set_cons_succ], K, k3.out, k4.out, k5.out, fun _ => rfl, fun _ => rfl⟩
          exact StepsI.nil
      · have G : Hid (340282366920938463463374607431768211456 ≤ up (a * 2 ^ t) (10 ^ j)) := by unfold Hid; rw [← HZ.out]; omega
        clear HZ fc
        go_wp2
        refine bodyPost_ret (v := .tuple #[.agg #[.int .u64 0, .int .u64 0], .bool false]) (by simp [results, Tryz.results79, go_sem, s0, s1, s4]) rfl ?_
        exact ⟨_, _, _, rfl, Or.inr ⟨rfl, rfl, rfl, G.out⟩, by go_grown⟩

set_option maxHeartbeats 2000000 in
theorem scaled_is {ah al tw n : Int} {a t : Nat} (i : Is ah al a) (ht : tw = (t : Int)) (t1 : t ≤ 60) (n0 : -1000 ≤ n) (n1 : n ≤ 1000) (ne : t ≠ 0 → -19 ≤ n) (w : World) :
    Calls Tryz.prog 53 #[.agg #[.int .u64 ah, .int .u64 al], .int .i64 tw, .int .i64 n] w fun e w' =>
      ∃ (h l : Int) (o : Bool), e = .returned (.tuple #[.agg #[.int .u64 h, .int .u64 l], .bool o]) ∧ FitsN h l o (scal a t n) ∧ Below w.heap.size w w' := by
  subst ht
  by_cases c : 0 ≤ n
  · obtain ⟨m, rfl⟩ : ∃ m : Nat, n = (m : Int) := ⟨n.toNat, by omega⟩
    have X : Hid (scal a t (m : Int) = a * 10 ^ m * 2 ^ t) := by unfold Hid scal; rw [if_pos c]; simp
    rw [X.out]
    clear X
    have TT : Hid (∀ w, Calls Tryz.prog 76 #[.agg #[.int .u64 ah, .int .u64 al], .int .i64 (m : Int)] w fun e w' =>
      ∃ (h l : Int) (o : Bool), e = .returned (.tuple #[.agg #[.int .u64 h, .int .u64 l], .bool o]) ∧ FitsN h l o (a * 10 ^ m) ∧ Below w.heap.size w w') := fun w => timesTens_is i rfl (by omega) w
    go_enter Tryz.func53, Tryz.ntmps53
    go_wp2_with (fail)
    refine (TT.out _).mono ?_
    rintro e w1 ⟨h, l, o, rfl, f, hw1⟩
    have HBw1 : Below w.heap.size w w1 := Below.trans (by go_grown) (hw1.mono (by first | omega | (simp; done) | (simp; omega)))
    have p_s : Box w1 (w.heap.size + 1) (0) (0) := Box.later hw1 (by repeat (first | assumption | (refine Box.new _ _ _ _ _ ?_; simp; done) | refine Box.alloc ?_ _ | refine Box.drew ?_ | (apply Box.put) | (refine Box.beside ?_ _ _ _ (by omega))))
    have q_s := p_s
    obtain ⟨s0, s1, s2, s3, s4⟩ := p_s
    have hsw1 := hw1.size
    (try simp at hsw1)
    clear hw1
    clear TT
    rcases f with ⟨rfl, j⟩ | ⟨rfl, rfl, rfl, f⟩
    · go_wp2_with (fail)
      refine (left_is j (k := t) rfl (by omega) _).mono ?_
      rintro e w2 ⟨h2, l2, o, rfl, f, hw2⟩
      have HBw2 : Below w.heap.size w w2 := Below.trans (by go_grown) (hw2.mono (by first | omega | (simp; done) | (simp; omega)))
      have p_s : Box w2 (w.heap.size + 1) (0) (0) := Box.later hw2 (by repeat (first | assumption | (refine Box.new _ _ _ _ _ ?_; simp; done) | refine Box.alloc ?_ _ | refine Box.drew ?_ | (apply Box.put) | (refine Box.beside ?_ _ _ _ (by omega))))
      clear q_s s0 s1 s2 s3 s4
      have q_s := p_s
      obtain ⟨s0, s1, s2, s3, s4⟩ := p_s
      have hsw2 := hw2.size
      (try simp at hsw2)
      clear hw2
      have F : Hid _ := f
      clear f
      go_wp2
      refine bodyPost_ret (v := .tuple #[.agg #[.int .u64 h2, .int .u64 l2], .bool o]) (by simp [results, Tryz.results53, go_sem, s0, s1]) rfl ?_
      exact ⟨_, _, _, rfl, F.out, by go_grown⟩
    · have G : Hid (340282366920938463463374607431768211456 ≤ a * 10 ^ m * 2 ^ t) := by
        unfold Hid
        have p : 1 ≤ 2 ^ t := Nat.one_le_two_pow
        exact Nat.le_trans f (Nat.le_mul_of_pos_right _ p)
      clear f
      go_wp2
      refine bodyPost_ret (v := .tuple #[.agg #[.int .u64 0, .int .u64 0], .bool false]) (by simp [results, Tryz.results53, go_sem, s0, s1, s4]) rfl ?_
      exact ⟨_, _, _, rfl, Or.inr ⟨rfl, rfl, rfl, G.out⟩, by go_grown⟩
  · obtain ⟨m, rfl⟩ : ∃ m : Nat, n = -(m : Int) := ⟨(-n).toNat, by omega⟩
    have m0 : 1 ≤ m := by omega
    have wn : IntKind.i64.wrap (- -(m : Int)) = (m : Int) := by rw [IntKind.wrap_i64]; omega
    by_cases z : t = 0
    · subst z
      have X : Hid (scal a 0 (-(m : Int)) = ups m a) := by unfold Hid scal; rw [if_neg c, ups_up]; simp
      rw [X.out]
      clear X
      have TT : Hid (∀ w, Calls Tryz.prog 78 #[.agg #[.int .u64 ah, .int .u64 al], .int .i64 (m : Int)] w fun e w' =>
        ∃ (h l : Int), e = .returned (.agg #[.int .u64 h, .int .u64 l]) ∧ Is h l (ups m a) ∧ Below w.heap.size w w') := fun w => byTens_is i rfl (by omega) w
      go_enter Tryz.func53, Tryz.ntmps53
      go_wp2_with (fail)
      refine (TT.out _).mono ?_
      rintro e w1 ⟨h, l, rfl, j, hw1⟩
      have HBw1 : Below w.heap.size w w1 := Below.trans (by go_grown) (hw1.mono (by first | omega | (simp; done) | (simp; omega)))
      have p_s : Box w1 (w.heap.size + 1) (0) (0) := Box.later hw1 (by repeat (first | assumption | (refine Box.new _ _ _ _ _ ?_; simp; done) | refine Box.alloc ?_ _ | refine Box.drew ?_ | (apply Box.put) | (refine Box.beside ?_ _ _ _ (by omega))))
      have q_s := p_s
      obtain ⟨s0, s1, s2, s3, s4⟩ := p_s
      have hsw1 := hw1.size
      (try simp at hsw1)
      clear hw1
      go_wp2
      refine bodyPost_ret (v := .tuple #[.agg #[.int .u64 h, .int .u64 l], .bool true]) (by simp [results, Tryz.results53, go_sem, s0, s1]) rfl ?_
      exact ⟨_, _, _, rfl, Or.inl ⟨rfl, j⟩, by go_grown⟩
    · have X : Hid (scal a t (-(m : Int)) = up (a * 2 ^ t) (10 ^ m)) := by unfold Hid scal; rw [if_neg c]; simp
      rw [X.out]
      clear X
      have m1 := ne z
      have TT : Hid (∀ w, Calls Tryz.prog 79 #[.agg #[.int .u64 ah, .int .u64 al], .int .i64 (t : Int), .int .i64 (m : Int)] w fun e w' =>
        ∃ (h l : Int) (o : Bool), e = .returned (.tuple #[.agg #[.int .u64 h, .int .u64 l], .bool o]) ∧ FitsN h l o (up (a * 2 ^ t) (10 ^ m)) ∧ Below w.heap.size w w') := fun w => twosByTens_is i rfl t1 rfl m0 (by omega) w
      have tz : ((t : Int) == 0) = false := by simp; omega
      go_enter Tryz.func53, Tryz.ntmps53
      go_wp2_with (fail)
      refine (TT.out _).mono ?_
      rintro e w1 ⟨h, l, o, rfl, f, hw1⟩
      have HBw1 : Below w.heap.size w w1 := Below.trans (by go_grown) (hw1.mono (by first | omega | (simp; done) | (simp; omega)))
      have p_s : Box w1 (w.heap.size + 1) (0) (0) := Box.later hw1 (by repeat (first | assumption | (refine Box.new _ _ _ _ _ ?_; simp; done) | refine Box.alloc ?_ _ | refine Box.drew ?_ | (apply Box.put) | (refine Box.beside ?_ _ _ _ (by omega))))
      have q_s := p_s
      obtain ⟨s0, s1, s2, s3, s4⟩ := p_s
      have hsw1 := hw1.size
      (try simp at hsw1)
      clear hw1
      have F : Hid _ := f
      clear f
      go_wp2
      refine bodyPost_ret (v := .tuple #[.agg #[.int .u64 h, .int .u64 l], .bool o]) (by simp [results, Tryz.results53, go_sem, s0, s1]) rfl ?_
      exact ⟨_, _, _, rfl, F.out, by go_grown⟩

end Go.Proofs.YtpbgolcimbjekaaGreatDoor
