/-
  Contracts of package amount's withDigits, number, twosByTens and scaled, at this program. Conditions: as each names them.
-/
import Derived.Test.YtpbgolcimbjekaaGreatDoorQ09
namespace Go.Proofs.YtpbgolcimbjekaaGreatDoor
open Go.RowKit

/-- Two words of a block are written. -/
theorem box_wp_store {op : Oper} {a : Act} {W : World} {K : Act → World → Prop} {Q : Exit → Act → World → Prop} {b : Nat} {h l : Int} (k : Box W b h l) (x y : Operand) (ho : op.op = .store 42 x y) (hd : op.dst = none) (hx : a.eval x = .pointer (some ⟨b, 0, none⟩))
    (h' l' : Int) (hy : a.eval y = .agg #[.int .u64 h', .int .u64 l']) (hk : K a ((W.setCell ⟨b, 0, none⟩ (.int .u64 h')).setCell ⟨b, 1, none⟩ (.int .u64 l'))) : op.wp Tryz.prog a W K Q := by
  obtain ⟨c0, c1, f0, f1, z⟩ := k
  have hT : W.there b 0 2 := fun j hj => by
    match j, hj with
    | 0, _ => exact ⟨by simp [c0], by simpa using f0⟩
    | 1, _ => exact ⟨by simp [c1], by simpa using f1⟩
  refine wp_store_mid _ x y ho b 0 #[.int .u64 h', .int .u64 l'] hx hy hT box_info (all_oneCell_toArray (box_each _ _)) ?_
  rw [hd]
  exact hk

/-- Along withDigits: the number, the result's place, ten times the number. -/
def WD (w W : World) (h l : Int) (p : Nat) (th tl : Int) : Prop := Box W w.heap.size h l ∧ Box W (w.heap.size + 1) 0 0 ∧ Box W p th tl ∧ w.heap.size + 2 ≤ p ∧ Below w.heap.size w W
section
variable {w W w1 : World} {h l th tl : Int} {p : Nat}
theorem WD.later (k : WD w W h l p th tl) (hb : Below W.heap.size W w1) : WD w w1 h l p th tl := by
  obtain ⟨a, b, c, d, e⟩ := k
  exact ⟨a.later hb, b.later hb, c.later hb, d, e.trans (hb.mono e.size)⟩
theorem WD.drew (k : WD w W h l p th tl) : WD w W.drew h l p th tl := by
  obtain ⟨a, b, c, d, e⟩ := k
  exact ⟨a, b, c, d, e.drew⟩
theorem WD.put (k : WD w W h l p th tl) (x y : Int) : WD w ((W.setCell ⟨w.heap.size, 0, none⟩ (.int .u64 x)).setCell ⟨w.heap.size, 1, none⟩ (.int .u64 y)) x y p th tl := by
  obtain ⟨a, b, c, d, e⟩ := k
  exact ⟨a.put x y, (b.beside _ _ _ (by omega)).beside _ _ _ (by omega), (c.beside _ _ _ (by omega)).beside _ _ _ (by omega), d, (e.setCell (Nat.le_refl _) _).setCell (Nat.le_refl _) _⟩
end

theorem times_det {ah al u h l : Int} {a v : Nat} (i : Is ah al a) (hu : u = (v : Int)) (v1 : v < 18446744073709551616) (k : Is h l (a * v)) (w : World) :
    Calls Tryz.prog 83 #[.agg #[.int .u64 ah, .int .u64 al], .int .u64 u] w fun e w' =>
      e = .returned (.tuple #[.agg #[.int .u64 h, .int .u64 l], .bool true]) ∧ Below w.heap.size w w' := by
  refine (times_is i hu v1 w).mono ?_
  rintro e w' ⟨h', l', o, rfl, f, hw⟩
  obtain ⟨rfl, g⟩ := f.ok k.lt
  obtain ⟨rfl, rfl⟩ := g.det k
  exact ⟨rfl, hw⟩

theorem dig_small {s : ByteArray} {a k : Nat} (h : dig a s.data.toList < k) (j : Nat) : dig a (s.data.toList.take j) < k := by
  have e : dig a s.data.toList = dig (dig a (s.data.toList.take j)) (s.data.toList.drop j) := by
    unfold dig
    rw [← List.foldl_append, List.take_append_drop]
  have m : ∀ (l : List UInt8) (x : Nat), x ≤ dig x l := by
    intro l
    induction l with
    | nil => intro x; simp [dig]
    | cons c r ih => intro x; have := ih (x * 10 + (c.toNat - 48)); simp only [dig, List.foldl_cons] at this ⊢; omega
  have := m (s.data.toList.drop j) (dig a (s.data.toList.take j))
  omega

set_option maxHeartbeats 4000000 in
set_option maxRecDepth 100000 in
theorem withDigits_is {ah al : Int} {a : Nat} (i : Is ah al a) (s : ByteArray) (hm : s.size ≤ maxLen) (hd : ∀ c ∈ s.data.toList, isD c = true) (hs : dig a s.data.toList < 340282366920938463463374607431768211456) (w : World) :
    Calls Tryz.prog 80 #[.agg #[.int .u64 ah, .int .u64 al], .string s] w fun e w' =>
      ∃ h l : Int, e = .returned (.agg #[.int .u64 h, .int .u64 l]) ∧ Is h l (dig a s.data.toList) ∧ Below w.heap.size w w' := by
  unfold maxLen at hm
  have HD : Hid _ := hd
  have HS : Hid (dig a s.data.toList < 340282366920938463463374607431768211456) := hs
  clear hd hs
  go_enter Tryz.func80, Tryz.ntmps80
  go_wp2
  go_loopw [10] (fun f wr => ∃ (j : Nat) (h l : Int), f = .int .i64 j ∧ j ≤ s.size ∧ Is h l (dig a (s.data.toList.take j)) ∧ Box wr w.heap.size h l ∧ Box wr (w.heap.size + 1) 0 0 ∧ Below w.heap.size w wr) (fun f _ => s.size - (intOf f).toNat)
  case atStart => exact ⟨0, ah, al, rfl, by omega, by simpa [dig] using i, (by repeat (first | assumption | (refine Box.new _ _ _ _ _ ?_; simp; done) | refine Box.alloc ?_ _ | refine Box.drew ?_ | (apply Box.put) | (refine Box.beside ?_ _ _ _ (by omega)))), (by repeat (first | assumption | (refine Box.new _ _ _ _ _ ?_; simp; done) | refine Box.alloc ?_ _ | refine Box.drew ?_ | (apply Box.put) | (refine Box.beside ?_ _ _ _ (by omega)))), by go_grown⟩
  case round =>
    obtain ⟨j, h, l, rfl, jl, y, q_p, q_s, HB⟩ := hrel
    obtain ⟨p0, p1, p2, p3, p4⟩ := id q_p
    obtain ⟨s0, s1, s2, s3, s4⟩ := id q_s
    by_cases c : j < s.size
    · have b8 : s[j].toNat < 256 := s[j].toNat_lt
      have hx : isD s[j] = true := HD.out s[j] (List.getElem_mem (l := s.data.toList) (n := j) (by simpa using c))
      have hx' := hx
      unfold isD at hx'
      have hx2 := of_decide_eq_true hx'
      obtain ⟨x0, x1⟩ := hx2
      clear hx'
      have T := take_more s j c
      have lim := dig_small HS.out (j + 1)
      rw [T, dig_snoc] at lim
      have lim' : Hid _ := lim
      obtain ⟨th, tl, jt⟩ := Is.ex (a := dig a (s.data.toList.take j) * 10) (by omega)
      obtain ⟨nh, nl, jn⟩ := Is.ex (a := dig a (s.data.toList.take j) * 10 + (s[j].toNat - 48)) lim
      have CT : Hid (∀ w, Calls Tryz.prog 83 #[.agg #[.int .u64 h, .int .u64 l], .int .u64 10] w fun e w' => e = .returned (.tuple #[.agg #[.int .u64 th, .int .u64 tl], .bool true]) ∧ Below w.heap.size w w') := fun w => times_det y (v := 10) rfl (by omega) jt w
      have CA : Hid (∀ w, Calls Tryz.prog 94 #[.agg #[.int .u64 th, .int .u64 tl], .agg #[.int .u64 0, .int .u64 ((s[j].toNat : Int) - 48)]] w fun e w' => e = .returned (.tuple #[.agg #[.int .u64 nh, .int .u64 nl], .bool true]) ∧ Below w.heap.size w w') := fun w => add_det jt (Is.small (a := s[j].toNat - 48) (by omega) (by omega)) jn w
      have JN : Hid (Is nh nl (dig a (s.data.toList.take (j + 1)))) := by unfold Hid; rw [T, dig_snoc]; exact jn
      clear T lim lim' jt jn hx y
      go_wp2_with (fail)
      refine (CT.out _).mono ?_
      rintro e w1 ⟨rfl, hw1⟩
      have HBw1 : Below w.heap.size w w1 := Below.trans (by go_grown) (hw1.mono (by first | omega | (simp; done) | (simp; omega)))
      have p_p : Box w1 (w.heap.size) (h) (l) := Box.later hw1 (by repeat (first | assumption | (refine Box.new _ _ _ _ _ ?_; simp; done) | refine Box.alloc ?_ _ | refine Box.drew ?_ | (apply Box.put) | (refine Box.beside ?_ _ _ _ (by omega))))
      have p_s : Box w1 (w.heap.size + 1) (0) (0) := Box.later hw1 (by repeat (first | assumption | (refine Box.new _ _ _ _ _ ?_; simp; done) | refine Box.alloc ?_ _ | refine Box.drew ?_ | (apply Box.put) | (refine Box.beside ?_ _ _ _ (by omega))))
      clear q_p p0 p1 p2 p3 p4
      clear q_s s0 s1 s2 s3 s4
      have q_p := p_p
      obtain ⟨p0, p1, p2, p3, p4⟩ := p_p
      have q_s := p_s
      obtain ⟨s0, s1, s2, s3, s4⟩ := p_s
      have hsw1 := hw1.size
      (try simp at hsw1)
      clear hw1
      clear CT
      go_wp2_with (fail)
      have F0 : WD w (w1.alloc (.cells #[.int .u64 th, .int .u64 tl] 42)) h l w1.heap.size th tl := ⟨q_p.alloc _, q_s.alloc _, Box.new _ _ _ _ _ rfl, by have := HB.size; omega, by go_grown⟩
      have hz : w.heap.size + 2 ≤ w1.heap.size := by omega
      clear q_p q_s p0 p1 p2 p3 p4 s0 s1 s2 s3 s4 HBw1
      generalize w1.alloc (.cells #[.int .u64 th, .int .u64 tl] 42) = W1 at *
      have ub : IntKind.u8.wrap ((s[j].toNat : Int) - 48) = (s[j].toNat : Int) - 48 := by rw [IntKind.wrap_u8]; omega
      have uc : IntKind.u64.wrap ((s[j].toNat : Int) - 48) = (s[j].toNat : Int) - 48 := by rw [IntKind.wrap_u64]; omega
      obtain ⟨d, hdd⟩ : ∃ d : Int, (s[j].toNat : Int) - 48 = d := ⟨_, rfl⟩
      rw [hdd] at CA ub uc
      have d0 : 0 ≤ d := by omega
      have d1 : d < 10 := by omega
      refine wp_region_noPanic ?_
      refine wp_region_held_drew (S := fun w' => Box w' w1.heap.size th tl) (by kernel_rfl) ?_ (fun hHeld => ?_)
      · exact F0.drew.2.2.1
      refine wpAnyH_take (i := 0) (v := ?_) rfl (by kernel_rfl) (by kernel_rfl) (by kernel_rfl) (fun _ _ _ h => h) (Or.inl ⟨by rfl, ?_⟩) (by assumption) ?_
      rotate_left
      · (intro wS hSw; obtain ⟨g0, g1, -, -, -⟩ := hSw; go_simp; try with_reducible rfl)
      change wpAnyH _ _ _ _ _ _ _ (Act.put _ (some 19) _) _
      simp only [Act.put, List.setIfInBounds_toArray, List.set_cons_zero, List.set_cons_succ]
      refine wpAnyH_take (i := 1) (v := ?_) rfl (by kernel_rfl) (by kernel_rfl) (by kernel_rfl) (fun _ _ _ h => h) (Or.inl ⟨by rfl, ?_⟩) (by assumption) ?_
      rotate_left
      · (intro wS hSw; obtain ⟨g0, g1, -, -, -⟩ := hSw; go_simp; try with_reducible rfl)
      change wpAnyH _ _ _ _ _ _ _ (Act.put _ (some 20) _) _
      simp only [Act.put, List.setIfInBounds_toArray, List.set_cons_zero, List.set_cons_succ]
      refine wpAnyH_take (i := 2) (v := ?_) rfl (by kernel_rfl) (by kernel_rfl) (by kernel_rfl) (fun _ _ _ h => h) (Or.inl ⟨by rfl, ?_⟩) (by assumption) ?_
      rotate_left
      · (intro wS hSw; obtain ⟨g0, g1, -, -, -⟩ := hSw; go_simp; try with_reducible rfl)
      change wpAnyH _ _ _ _ _ _ _ (Act.put _ (some 21) _) _
      simp only [Act.put, List.setIfInBounds_toArray, List.set_cons_zero, List.set_cons_succ]
      refine wpAnyH_take (i := 3) (v := ?_) rfl (by kernel_rfl) (by kernel_rfl) (by kernel_rfl) (fun _ _ _ h => h) (Or.inl ⟨by rfl, ?_⟩) (by assumption) ?_
      rotate_left
      · (intro wS hSw; obtain ⟨g0, g1, -, -, -⟩ := hSw; go_simp; try with_reducible rfl)
      change wpAnyH _ _ _ _ _ _ _ (Act.put _ (some 22) _) _
      simp only [Act.put, List.setIfInBounds_toArray, List.set_cons_zero, List.set_cons_succ]
      refine wpAnyH_take (i := 4) (v := ?_) rfl (by kernel_rfl) (by kernel_rfl) (by kernel_rfl) (fun _ _ _ h => h) (Or.inl ⟨by rfl, ?_⟩) (by assumption) ?_
      rotate_left
      · (intro wS hSw; obtain ⟨g0, g1, -, -, -⟩ := hSw; go_simp; try with_reducible rfl)
      change wpAnyH _ _ _ _ _ _ _ (Act.put _ (some 23) _) _
      simp only [Act.put, List.setIfInBounds_toArray, List.set_cons_zero, List.set_cons_succ]
      refine wpAnyH_take (i := 5) (v := ?_) rfl (by kernel_rfl) (by kernel_rfl) (by kernel_rfl) (fun _ _ _ h => h) (Or.inl ⟨by rfl, ?_⟩) (by assumption) ?_
      rotate_left
      · (intro wS hSw; obtain ⟨g0, g1, -, -, -⟩ := hSw; go_simp; try with_reducible rfl)
      change wpAnyH _ _ _ _ _ _ _ (Act.put _ (some 24) _) _
      simp only [Act.put, List.setIfInBounds_toArray, List.set_cons_zero, List.set_cons_succ]
      refine wpAnyH_named ?_
      intro A hA
      clear hHeld
      refine wpAnyH_inv (I := fun L a W => ∃ (c6 c7 c8 c9 c10 c11 : Bool) (s25 s26 s18 s27 s28 : Value), L = #[true, true, true, true, true, true, c6, c7, c8, c9, c10, c11] ∧ a = (((((A.put (some 25) s25).put (some 26) s26).put (some 18) s18).put (some 27) s27).put (some 28) s28) ∧ Hid (WD w W (bif c11 then nh else h) (bif c11 then nl else l) w1.heap.size th tl) ∧ Hid (c6 = true → s25 = .agg #[.int .u64 0, .int .u64 d]) ∧ Hid (c7 = true → s26 = .tuple #[.agg #[.int .u64 nh, .int .u64 nl], .bool true]) ∧ Hid (c8 = true → s18 = .tuple #[.agg #[.int .u64 nh, .int .u64 nl], .bool true]) ∧ Hid (c9 = true → s27 = .agg #[.int .u64 nh, .int .u64 nl]) ∧ Hid (c10 = true → s28 = .bool true)) ?hS ?hz (by kernel_rfl) ?hsteps ?hend _ _ _ _ (by decide) ?h0
      case hS => rintro L a W ⟨c6, c7, c8, c9, c10, c11, s25, s26, s18, s27, s28, -, -, K, -⟩; exact (fun h => h) (K.out.2.2.1)
      case hz => rintro L a W ⟨c6, c7, c8, c9, c10, c11, s25, s26, s18, s27, s28, rfl, -⟩; rfl
      case h0 => exact ⟨false, false, false, false, false, false, A.eval (.tmp 25), A.eval (.tmp 26), A.eval (.tmp 18), A.eval (.tmp 27), A.eval (.tmp 28), rfl, by simp only [put_self], F0.drew, fun h => Bool.noConfusion h, fun h => Bool.noConfusion h, fun h => Bool.noConfusion h, fun h => Bool.noConfusion h, fun h => Bool.noConfusion h⟩
      case hend =>
        rintro L a W ⟨c6, c7, c8, c9, c10, c11, s25, s26, s18, s27, s28, rfl, rfl, K, k6, k7, k8, k9, k10⟩ hall
        obtain rfl : c6 = true := hall 6
        obtain rfl : c7 = true := hall 7
        obtain rfl : c8 = true := hall 8
        obtain rfl : c9 = true := hall 9
        obtain rfl : c10 = true := hall 10
        obtain rfl : c11 = true := hall 11
        obtain rfl := k6.out rfl
        obtain rfl := k7.out rfl
        obtain rfl := k8.out rfl
        obtain rfl := k9.out rfl
        obtain rfl := k10.out rfl
        clear k6 k7 k8 k9 k10
        refine NoPanic.normal ?_
        subst hA
        simp only [Act.put, List.setIfInBounds_toArray, List.set_cons_zero, List.set_cons_succ]
        have R : WD w W nh nl w1.heap.size th tl := K.out
        clear K
        obtain ⟨r1, r2, r3, r4, r5⟩ := R
        go_wp2
        go_roundw
        case rel => exact ⟨j + 1, nh, nl, by go_num, by omega, JN.out, r1, r2, r5⟩
        case measure => simp [intOf]; omega
      case hsteps =>
        refine StepsI.skip (i := 0) (by rintro L a W ⟨c6, c7, c8, c9, c10, c11, s25, s26, s18, s27, s28, rfl, -⟩; rfl) ?_
        refine StepsI.skip (i := 1) (by rintro L a W ⟨c6, c7, c8, c9, c10, c11, s25, s26, s18, s27, s28, rfl, -⟩; rfl) ?_
        refine StepsI.skip (i := 2) (by rintro L a W ⟨c6, c7, c8, c9, c10, c11, s25, s26, s18, s27, s28, rfl, -⟩; rfl) ?_
        refine StepsI.skip (i := 3) (by rintro L a W ⟨c6, c7, c8, c9, c10, c11, s25, s26, s18, s27, s28, rfl, -⟩; rfl) ?_
        refine StepsI.skip (i := 4) (by rintro L a W ⟨c6, c7, c8, c9, c10, c11, s25, s26, s18, s27, s28, rfl, -⟩; rfl) ?_
        refine StepsI.skip (i := 5) (by rintro L a W ⟨c6, c7, c8, c9, c10, c11, s25, s26, s18, s27, s28, rfl, -⟩; rfl) ?_
        refine StepsI.cons (i := 6) rfl ?_ ?_
        · rintro L a W ⟨c6, c7, c8, c9, c10, c11, s25, s26, s18, s27, s28, rfl, rfl, K, k6, k7, k8, k9, k10⟩ h0 hd KK hK
          obtain rfl : c6 = false := h0
          subst hA
          simp only [Act.put, List.setIfInBounds_toArray, List.set_cons_zero, List.set_cons_succ]
          clear hd
          go_simp
          refine (of_any _ _).mono ?_
          rintro e w2 ⟨rfl, hw2⟩
          (try go_wp2_with (fail))
          exact hK.out _ _ ⟨true, c7, c8, c9, c10, c11, .agg #[.int .u64 0, .int .u64 d], s26, s18, s27, s28, rfl, by simp only [Act.put, List.setIfInBounds_toArray, List.set_cons_zero, List.set_cons_succ], K.out.later hw2, fun _ => rfl, k7.out, k8.out, k9.out, k10.out⟩
        refine StepsI.cons (i := 7) rfl ?_ ?_
        · rintro L a W ⟨c6, c7, c8, c9, c10, c11, s25, s26, s18, s27, s28, rfl, rfl, K, k6, k7, k8, k9, k10⟩ h0 hd KK hK
          obtain rfl : c7 = false := h0
          obtain rfl : c6 = true := hd ⟨6, .data⟩ (by simp) rfl
          have e6 := k6.out rfl
          subst e6
          subst hA
          simp only [Act.put, List.setIfInBounds_toArray, List.set_cons_zero, List.set_cons_succ]
          clear hd
          go_simp
          refine (CA.out _).mono ?_
          rintro e w2 ⟨rfl, hw2⟩
          (try go_wp2_with (fail))
          exact hK.out _ _ ⟨true, true, c8, c9, c10, c11, .agg #[.int .u64 0, .int .u64 d], .tuple #[.agg #[.int .u64 nh, .int .u64 nl], .bool true], s18, s27, s28, rfl, by simp only [Act.put, List.setIfInBounds_toArray, List.set_cons_zero, List.set_cons_succ], K.out.later hw2, fun _ => rfl, fun _ => rfl, k8.out, k9.out, k10.out⟩
        refine StepsI.cons (i := 8) rfl ?_ ?_
        · rintro L a W ⟨c6, c7, c8, c9, c10, c11, s25, s26, s18, s27, s28, rfl, rfl, K, k6, k7, k8, k9, k10⟩ h0 hd KK hK
          obtain rfl : c8 = false := h0
          obtain rfl : c7 = true := hd ⟨7, .data⟩ (by simp) rfl
          have e7 := k7.out rfl
          subst e7
          subst hA
          simp only [Act.put, List.setIfInBounds_toArray, List.set_cons_zero, List.set_cons_succ]
          clear hd
          go_simp
          exact hK.out _ _ ⟨c6, true, true, c9, c10, c11, s25, .tuple #[.agg #[.int .u64 nh, .int .u64 nl], .bool true], .tuple #[.agg #[.int .u64 nh, .int .u64 nl], .bool true], s27, s28, rfl, by simp only [Act.put, List.setIfInBounds_toArray, List.set_cons_zero, List.set_cons_succ], K, k6.out, fun _ => rfl, fun _ => rfl, k9.out, k10.out⟩
        refine StepsI.cons (i := 9) rfl ?_ ?_
        · rintro L a W ⟨c6, c7, c8, c9, c10, c11, s25, s26, s18, s27, s28, rfl, rfl, K, k6, k7, k8, k9, k10⟩ h0 hd KK hK
          obtain rfl : c9 = false := h0
          obtain rfl : c8 = true := hd ⟨8, .data⟩ (by simp) rfl
          have e8 := k8.out rfl
          subst e8
          subst hA
          simp only [Act.put, List.setIfInBounds_toArray, List.set_cons_zero, List.set_cons_succ]
          clear hd
          go_simp
          exact hK.out _ _ ⟨c6, c7, true, true, c10, c11, s25, s26, .tuple #[.agg #[.int .u64 nh, .int .u64 nl], .bool true], .agg #[.int .u64 nh, .int .u64 nl], s28, rfl, by simp only [Act.put, List.setIfInBounds_toArray, List.set_cons_zero, List.set_cons_succ], K, k6.out, k7.out, fun _ => rfl, fun _ => rfl, k10.out⟩
        refine StepsI.cons (i := 10) rfl ?_ ?_
        · rintro L a W ⟨c6, c7, c8, c9, c10, c11, s25, s26, s18, s27, s28, rfl, rfl, K, k6, k7, k8, k9, k10⟩ h0 hd KK hK
          obtain rfl : c10 = false := h0
          obtain rfl : c8 = true := hd ⟨8, .data⟩ (by simp) rfl
          have e8 := k8.out rfl
          subst e8
          subst hA
          simp only [Act.put, List.setIfInBounds_toArray, List.set_cons_zero, List.set_cons_succ]
          clear hd
          go_simp
          exact hK.out _ _ ⟨c6, c7, true, c9, true, c11, s25, s26, .tuple #[.agg #[.int .u64 nh, .int .u64 nl], .bool true], s27, .bool true, rfl, by simp only [Act.put, List.setIfInBounds_toArray, List.set_cons_zero, List.set_cons_succ], K, k6.out, k7.out, fun _ => rfl, k9.out, fun _ => rfl⟩
        refine StepsI.cons (i := 11) rfl ?_ ?_
        · rintro L a W ⟨c6, c7, c8, c9, c10, c11, s25, s26, s18, s27, s28, rfl, rfl, K, k6, k7, k8, k9, k10⟩ h0 hd KK hK
          obtain rfl : c11 = false := h0
          obtain rfl : c9 = true := hd ⟨9, .data⟩ (by simp) rfl
          have e9 := k9.out rfl
          subst e9
          subst hA
          simp only [Act.put, List.setIfInBounds_toArray, List.set_cons_zero, List.set_cons_succ]
          clear hd
          rw [if_pos (by rfl)]
          refine box_wp_store K.out.1 _ _ rfl rfl rfl nh nl rfl ?_
          exact hK.out _ _ ⟨c6, c7, c8, true, c10, true, s25, s26, s18, .agg #[.int .u64 nh, .int .u64 nl], s28, rfl, by simp only [Act.put, List.setIfInBounds_toArray, List.set_cons_zero, List.set_cons_succ], K.out.put nh nl, k6.out, k7.out, k8.out, fun _ => rfl, k10.out⟩
        exact StepsI.nil
    · have jm : j = s.size := by omega
      have TT : s.data.toList.take j = s.data.toList := List.take_of_length_le (by simp; omega)
      rw [TT] at y
      clear TT
      subst jm
      go_wp2
      refine bodyPost_ret (v := .agg #[.int .u64 h, .int .u64 l]) (by simp [results, Tryz.results80, go_sem, s0, s1]) rfl ?_
      exact ⟨_, _, rfl, y, by go_grown⟩

set_option maxHeartbeats 1000000 in
theorem number_is (s t : ByteArray) (sm : s.size ≤ maxLen) (tm : t.size ≤ maxLen) (sd : ∀ c ∈ s.data.toList, isD c = true) (td : ∀ c ∈ t.data.toList, isD c = true) (hs : dig (dig 0 s.data.toList) t.data.toList < 340282366920938463463374607431768211456) (w : World) :
    Calls Tryz.prog 54 #[.string s, .string t] w fun e w' =>
      ∃ h l : Int, e = .returned (.agg #[.int .u64 h, .int .u64 l]) ∧ Is h l (dig (dig 0 s.data.toList) t.data.toList) ∧ Below w.heap.size w w' := by
  have hs1 : dig 0 s.data.toList < 340282366920938463463374607431768211456 := by
    have := dig_small hs 0
    simpa [dig] using this
  have S1 : Hid (∀ w, Calls Tryz.prog 80 #[.agg #[.int .u64 0, .int .u64 0], .string s] w fun e w' =>
      ∃ h l : Int, e = .returned (.agg #[.int .u64 h, .int .u64 l]) ∧ Is h l (dig 0 s.data.toList) ∧ Below w.heap.size w w') := fun w => withDigits_is Is.zero s sm sd hs1 w
  have S2 : Hid (∀ (h l : Int) (w : World), Is h l (dig 0 s.data.toList) → Calls Tryz.prog 80 #[.agg #[.int .u64 h, .int .u64 l], .string t] w fun e w' =>
      ∃ h l : Int, e = .returned (.agg #[.int .u64 h, .int .u64 l]) ∧ Is h l (dig (dig 0 s.data.toList) t.data.toList) ∧ Below w.heap.size w w') := fun h l w i => withDigits_is i t tm td hs w
  clear hs hs1 sd td sm tm
  go_enter Tryz.func54, Tryz.ntmps54
  go_wp2_with (fail)
  refine (S1.out _).mono ?_
  rintro e w1 ⟨h, l, rfl, i, hw1⟩
  have HBw1 : Below w.heap.size w w1 := Below.trans (by go_grown) (hw1.mono (by first | omega | (simp; done) | (simp; omega)))
  have p_r : Box w1 (w.heap.size) (0) (0) := Box.later hw1 (by repeat (first | assumption | (refine Box.new _ _ _ _ _ ?_; simp; done) | refine Box.alloc ?_ _ | refine Box.drew ?_ | (apply Box.put) | (refine Box.beside ?_ _ _ _ (by omega))))
  have q_r := p_r
  obtain ⟨r0, r1, r2, r3, r4⟩ := p_r
  have hsw1 := hw1.size
  (try simp at hsw1)
  clear hw1
  go_wp2_with (fail)
  refine (S2.out _ _ _ i).mono ?_
  rintro e w2 ⟨h2, l2, rfl, j, hw2⟩
  have HBw2 : Below w.heap.size w w2 := Below.trans (by go_grown) (hw2.mono (by first | omega | (simp; done) | (simp; omega)))
  have p_r : Box w2 (w.heap.size) (0) (0) := Box.later hw2 (by repeat (first | assumption | (refine Box.new _ _ _ _ _ ?_; simp; done) | refine Box.alloc ?_ _ | refine Box.drew ?_ | (apply Box.put) | (refine Box.beside ?_ _ _ _ (by omega))))
  clear q_r r0 r1 r2 r3 r4
  have q_r := p_r
  obtain ⟨r0, r1, r2, r3, r4⟩ := p_r
  have hsw2 := hw2.size
  (try simp at hsw2)
  clear hw2
  go_wp2
  refine bodyPost_ret (v := .agg #[.int .u64 h2, .int .u64 l2]) (by simp [results, Tryz.results54, go_sem, r0, r1]) rfl ?_
  exact ⟨_, _, rfl, j, by go_grown⟩

end Go.Proofs.YtpbgolcimbjekaaGreatDoor
