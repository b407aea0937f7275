/-
  What must be answered ahead of everything else, of package knobs at this program. Conditions: the tables of the program lie as its text lays them.
-/
import Derived.Test.YtaeejemknmjglaaDoorRF
import Derived.Test.YtaeejemknmjglaaDoorRY
namespace Go.Proofs.YtaeejemknmjglaaDoor.Sp
open Go.RowKit

abbrev cF : Ct := ⟨⟨#[97]⟩, 1000, 1048576, 0, 0, 2097152, 0, false, false, false⟩
abbrev dF : Ct := ⟨⟨#[98]⟩, 1000, 1048576, 0, 1000, 1048576, 0, false, false, false⟩
abbrev pF : ByteArray := ⟨#[112]⟩
theorem fk1 : ctB ⟨#[97]⟩ 1000 1048576 0 0 2097152 0 = true := by kernel_rfl
theorem fk2 : podB pF 0 0 [cF, dF] = true := by kernel_rfl
theorem fk3 : kctV 1000 1048576 0 2097152 0 = .agg #[.int .i64 4611686018427387904, .int .i64 39, .int .i64 1048576, .int .i64 2097152, .int .i64 0] := by kernel_rfl
theorem fk4 : podV [cF, dF] = .agg #[.int .i64 4611686018427387904, .int .i64 79, .int .i64 2097152, .int .i64 3145728, .int .i64 0] := by kernel_rfl
theorem fk5 : wgt 2000 = 79 := by kernel_rfl
theorem fk6 : wgt 0 = 1 := by kernel_rfl
theorem fk7 : rightK 4611686018427387904 39 1048576 2097152 0 = true := by kernel_rfl
theorem fk8 : rightK 4611686018427387904 100 4611686018427387904 4611686018427387904 4611686018427387904 = false := by kernel_rfl
theorem dig_low (n : Nat) (h : n < 340282366920938463463374607431768211456) : Lib.itoa (n : Int) = dec n := by
  rw [dec_digits n h, Lib.itoa, if_neg (by omega), show (n : Int).toNat = n by omega]
theorem fk9 : bt (txtK 4611686018427387904 39 1048576 2097152 0) = ⟨#[109, 97, 120, 32, 51, 57, 32, 49, 48, 52, 56, 53, 55, 54, 32, 50, 48, 57, 55, 49, 53, 50, 32, 48]⟩ := by
  have e1 : numL 39 = [51, 57] := by
    rw [numL, if_neg (by decide), show (39 : Int) = ((39 : Nat) : Int) from rfl, dig_low 39 (by omega)]
    kernel_rfl
  have e2 : numL 1048576 = [49, 48, 52, 56, 53, 55, 54] := by
    rw [numL, if_neg (by decide), show (1048576 : Int) = ((1048576 : Nat) : Int) from rfl, dig_low 1048576 (by omega)]
    kernel_rfl
  have e3 : numL 2097152 = [50, 48, 57, 55, 49, 53, 50] := by
    rw [numL, if_neg (by decide), show (2097152 : Int) = ((2097152 : Nat) : Int) from rfl, dig_low 2097152 (by omega)]
    kernel_rfl
  have e4 : numL 0 = [48] := by
    rw [numL, if_neg (by decide), show (0 : Int) = ((0 : Nat) : Int) from rfl, dig_low 0 (by omega)]
    kernel_rfl
  have e5 : numL 4611686018427387904 = [109, 97, 120] := if_pos rfl
  unfold txtK
  rw [e1, e2, e3, e4, e5]
  exact congrArg bt (by kernel_rfl : Lib.join [[109, 97, 120], [51, 57], [49, 48, 52, 56, 53, 55, 54], [50, 48, 57, 55, 49, 53, 50], [48]] [32] = [109, 97, 120, 32, 51, 57, 32, 49, 48, 52, 56, 53, 55, 54, 32, 50, 48, 57, 55, 49, 53, 50, 32, 48])
theorem huge_at (ka kb kc kd ke : Int) (w : World) : (Instr.field 33 (.agg #[.int .i64 ka, .int .i64 kb, .int .i64 kc, .int .i64 kd, .int .i64 ke]) 4).run Tryd.prog w = .ok (.int .i64 ke) w := by kernel_rfl
theorem RdC.two {W : World} {b : Nat} {c e : Ct} (h : Cs W b (c.l ++ e.l)) (hm : c.n.size ≤ maxLen) (hn : e.n.size ≤ maxLen) : RdC W (.slice (some ⟨b, 0, none⟩) 2 2) [c, e] :=
  ⟨_, 2, rfl, by simp, by unfold maxLen; omega, fun j d hj => by
    match j, hj with
    | 0, hj =>
      injection hj with hj
      subst hj
      exact ⟨hm, b, 0, rfl, h.1 0 _ rfl, h.1 1 _ rfl, h.1 2 _ rfl, h.1 3 _ rfl, h.1 4 _ rfl, h.1 5 _ rfl, h.1 6 _ rfl, h.1 7 _ rfl, h.1 8 _ rfl, h.1 9 _ rfl⟩
    | 1, hj =>
      injection hj with hj
      subst hj
      exact ⟨hn, b, 0, rfl, h.1 10 _ rfl, h.1 11 _ rfl, h.1 12 _ rfl, h.1 13 _ rfl, h.1 14 _ rfl, h.1 15 _ rfl, h.1 16 _ rfl, h.1 17 _ rfl, h.1 18 _ rfl, h.1 19 _ rfl⟩⟩
abbrev kFL : List Value := [.int .i64 4611686018427387904, .int .i64 39, .int .i64 1048576, .int .i64 2097152, .int .i64 0]
abbrev pFL : List Value := [.int .i64 4611686018427387904, .int .i64 79, .int .i64 2097152, .int .i64 3145728, .int .i64 0]
theorem fc1 (w : World) (hL : LaidS w) : Calls Tryd.prog 10 #[.agg #[.string ⟨#[97]⟩, .int .i64 1000, .int .i64 1048576, .int .i64 0, .int .i64 0, .int .i64 2097152, .int .i64 0, .bool false, .bool false, .bool false]] w fun e w' => e = .returned (.agg kFL.toArray) ∧ Below w.heap.size w w' := by
  have := containerK_is ⟨#[97]⟩ 1000 1048576 0 0 2097152 0 false false false (by decide) w hL
  rw [fk1, if_pos rfl, fk3] at this
  exact this
theorem fc2 {v : Value} (w : World) (hL : LaidS w) (h : RdC w v [cF, dF]) : Calls Tryd.prog 12 #[.agg #[.string pF, .int .i64 0, .int .i64 0, v]] w fun e w' => e = .returned (.agg pFL.toArray) ∧ Below w.heap.size w w' := by
  have := podK_is pF 0 0 (by decide) w hL h
  rw [fk2, if_pos rfl, fk4] at this
  exact this
theorem fc3 (w : World) (hL : LaidK w) : Calls Tryd.prog 23 #[.agg kFL.toArray] w fun e w' => e = .returned (.string ⟨#[109, 97, 120, 32, 51, 57, 32, 49, 48, 52, 56, 53, 55, 54, 32, 50, 48, 57, 55, 49, 53, 50, 32, 48]⟩) ∧ Below w.heap.size w w' := by
  have := textK_is 4611686018427387904 39 1048576 2097152 0 (by unfold InK; omega) w hL
  rw [fk9] at this
  exact this
theorem fc4 (w : World) : Calls Tryd.prog 15 #[.int .i64 2000] w fun e w' => e = .returned (.int .i64 79) ∧ Below w.heap.size w w' := by
  have := weight_b 2000 w
  rwa [fk5] at this
theorem fc5 (w : World) : Calls Tryd.prog 15 #[.int .i64 0] w fun e w' => e = .returned (.int .i64 1) ∧ Below w.heap.size w w' := by
  have := weight_b 0 w
  rwa [fk6] at this
theorem fc6 (w : World) (hL : LaidK w) : Calls Tryd.prog 21 #[.agg kFL.toArray] w fun e w' => e = .returned (.bool true) ∧ Below w.heap.size w w' := by
  have := right_is 4611686018427387904 39 1048576 2097152 0 w hL
  rw [fk7] at this
  exact this
theorem fc7 (w : World) (hL : LaidK w) : Calls Tryd.prog 21 #[.agg #[.int .i64 4611686018427387904, .int .i64 100, .int .i64 4611686018427387904, .int .i64 4611686018427387904, .int .i64 4611686018427387904]] w fun e w' => e = .returned (.bool false) ∧ Below w.heap.size w w' := by
  have := right_is 4611686018427387904 100 4611686018427387904 4611686018427387904 4611686018427387904 w hL
  rw [fk8] at this
  exact this
theorem fc8 (w : World) : Calls Tryd.prog 17 #[.agg kFL.toArray, .int .i64 2] w fun e w' => e = .returned (.int .i64 1048576) ∧ Below w.heap.size w w' := at_is _ _ _ _ _ 2 w
theorem fc9 (w : World) : Calls Tryd.prog 19 #[.agg kFL.toArray, .int .i64 4, .int .i64 7] w fun e w' => e = .returned (.agg #[.int .i64 4611686018427387904, .int .i64 39, .int .i64 1048576, .int .i64 2097152, .int .i64 7]) ∧ Below w.heap.size w w' := with_is _ _ _ _ _ 4 7 w

set_option maxHeartbeats 4000000 in
set_option maxRecDepth 100000 in
theorem firstK_is (w : World) (hL : LaidK w) :
    Calls Tryd.prog 8 #[] w fun e w' => e = .returned (.bool true) ∧ Below w.heap.size w w' := by
  have HL : Hid (LaidK w) := hL
  clear hL
  have bc1 : Cs ((w.alloc (.cells #[.int .i64 1000, .int .i64 1048576, .int .i64 0] 23)).alloc (.cells cF.l.toArray 26)) w.heap.size [.int .i64 1000, .int .i64 1048576, .int .i64 0] := (by repeat (first | assumption | (refine Cs.new _ _ _ _ ?_; simp; done) | refine Cs.alloc ?_ _ | refine Cs.drew ?_ | (refine Cs.beside ?_ _ _ (by omega))))
  have bc2 : Cs ((w.alloc (.cells #[.int .i64 1000, .int .i64 1048576, .int .i64 0] 23)).alloc (.cells cF.l.toArray 26)) (w.heap.size + 1) cF.l := (by repeat (first | assumption | (refine Cs.new _ _ _ _ ?_; simp; done) | refine Cs.alloc ?_ _ | refine Cs.drew ?_ | (refine Cs.beside ?_ _ _ (by omega))))
  go_enter Tryd.func8, Tryd.ntmps8
  go_wp2_with (fail)
  refine (fc1 _ ((HL.out.alloc _).alloc _).1).mono ?_
  rintro e w1 ⟨rfl, hw1⟩
  have L1 : Hid (LaidK w1) := ((HL.out.alloc _).alloc _).later hw1
  have q_v := Cs.later hw1 bc1
  have q_c := Cs.later hw1 bc2
  have HB1 : Below w.heap.size w w1 := Below.trans (show Below w.heap.size w _ by go_grown) (hw1.mono (by simp; omega))
  clear bc1 bc2 hw1 HL
  have v0 := q_v.1 0 _ rfl
  have v1 := q_v.1 1 _ rfl
  have v2 := q_v.1 2 _ rfl
  have vz := q_v.2.2
  have c0 := q_c.1 0 _ rfl
  have c1 := q_c.1 1 _ rfl
  have c2 := q_c.1 2 _ rfl
  have c3 := q_c.1 3 _ rfl
  have c4 := q_c.1 4 _ rfl
  have c5 := q_c.1 5 _ rfl
  have c6 := q_c.1 6 _ rfl
  have c7 := q_c.1 7 _ rfl
  have c8 := q_c.1 8 _ rfl
  have c9 := q_c.1 9 _ rfl
  have cz := q_c.2.2
  clear q_v q_c
  go_wp2_with (fail)
  have bs : Cs ((w1.alloc (.cells kFL.toArray 33)).alloc (.cells (cF.l ++ dF.l).toArray 26)) (w1.heap.size + 1) (cF.l ++ dF.l) := Cs.new _ _ _ _ (by simp)
  have bk : Cs ((w1.alloc (.cells kFL.toArray 33)).alloc (.cells (cF.l ++ dF.l).toArray 26)) w1.heap.size kFL := (Cs.new _ _ _ _ rfl).alloc _
  refine (fc2 _ ((L1.out.alloc _).alloc _).1 (RdC.two (c := cF) (e := dF) bs (by decide) (by decide))).mono ?_
  rintro e w2 ⟨rfl, hw2⟩
  have L2 : Hid (LaidK w2) := ((L1.out.alloc _).alloc _).later hw2
  have q_k := Cs.later hw2 bk
  have HB2 : Below w.heap.size w w2 := Below.trans (show Below w.heap.size w _ by go_grown) (hw2.mono (by have := HB1.size; simp; omega))
  clear bs bk hw2 HB1 L1 v0 v1 v2 vz c0 c1 c2 c3 c4 c5 c6 c7 c8 c9 cz
  go_upto_region 5 with (fail)
  have bk : Cs (w2.alloc (.cells pFL.toArray 33)) w1.heap.size kFL := q_k.alloc _
  have bp : Cs (w2.alloc (.cells pFL.toArray 33)) w2.heap.size pFL := Cs.new _ _ _ _ rfl
  have L3 : Hid (LaidK (w2.alloc (.cells pFL.toArray 33))) := L2.out.alloc _
  have hs2 := HB2.size
  have HB3 : Below w.heap.size w (w2.alloc (.cells pFL.toArray 33)) := by go_grown
  clear hs2
  obtain ⟨W, hW⟩ : ∃ W, W = w2.alloc (.cells pFL.toArray 33) := ⟨_, rfl⟩
  rw [← hW] at bk bp L3 HB3
  have hW' : w2.alloc (.cells #[.int .i64 4611686018427387904, .int .i64 79, .int .i64 2097152, .int .i64 3145728, .int .i64 0] 33) = W := hW.symm
  rw [hW']
  clear hW hW' q_k HB2 L2
  obtain ⟨nk, hnk⟩ : ∃ n, n = w1.heap.size := ⟨_, rfl⟩
  obtain ⟨np, hnp⟩ : ∃ n, n = w2.heap.size := ⟨_, rfl⟩
  rw [← hnk] at bk ⊢
  rw [← hnp] at bp ⊢
  clear hnk hnp
  have fd := huge_at 4611686018427387904 39 1048576 2097152 7
  have F_0 : Hid ((Cs _ nk kFL ∧ Cs _ np pFL) ∧ LaidK _ ∧ Below w.heap.size w _) := ⟨⟨Cs.drew bk, Cs.drew bp⟩, L3.out.later (Below.drew (Below.refl _ _)), Below.drew HB3⟩
  refine wp_region_noPanic ?_
  refine wp_region_held_drew (S := fun w' => Cs w' nk kFL ∧ Cs w' np pFL) (by kernel_rfl) ?_ (fun hHeld => ?_)
  · exact F_0.out.1
  refine wpAnyH_take (i := 0) (v := ?_) rfl (by kernel_rfl) (by kernel_rfl) (by kernel_rfl) (fun _ _ _ h => h) (Or.inl ⟨by rfl, ?_⟩) (by assumption) ?_
  rotate_left
  · (intro wS hSw; have k0 := hSw.1.1 0 _ rfl; have k1 := hSw.1.1 1 _ rfl; have k2 := hSw.1.1 2 _ rfl; have k3 := hSw.1.1 3 _ rfl; have k4 := hSw.1.1 4 _ rfl; have kz := hSw.1.2.2; have p0 := hSw.2.1 0 _ rfl; have p1 := hSw.2.1 1 _ rfl; have p2 := hSw.2.1 2 _ rfl; have p3 := hSw.2.1 3 _ rfl; have p4 := hSw.2.1 4 _ rfl; have pz := hSw.2.2.2; go_simp; try with_reducible rfl)
  change wpAnyH _ _ _ _ _ _ _ (Act.put _ (some 18) _) _
  simp only [Act.put, List.setIfInBounds_toArray, List.set_cons_zero, List.set_cons_succ]
  refine wpAnyH_ready (rs := [1]) (by kernel_rfl) (by simp) ?_
  refine AllReadyH.cons rfl (fun K hK => ?_) AllReadyH.nil
  go_simp
  refine (fc3 _ F_0.out.2.1).mono ?_
  rintro e v1 ⟨rfl, hv1⟩
  have F_1 : Hid ((Cs v1 nk kFL ∧ Cs v1 np pFL) ∧ LaidK v1 ∧ Below w.heap.size w v1) := ⟨⟨Cs.later hv1 F_0.out.1.1, Cs.later hv1 F_0.out.1.2⟩, F_0.out.2.1.later hv1, F_0.out.2.2.trans (hv1.mono F_0.out.2.2.size)⟩
  clear hv1 F_0
  (try go_wp2_with (fail))
  refine hK.out _ _ ?_ (fun hHeld => ?_)
  · exact F_1.out.1
  clear hK K
  refine wpAnyH_take (i := 2) (v := ?_) rfl (by kernel_rfl) (by kernel_rfl) (by kernel_rfl) (fun _ _ _ h => h) (Or.inl ⟨by rfl, ?_⟩) (by assumption) ?_
  rotate_left
  · (intro wS hSw; have k0 := hSw.1.1 0 _ rfl; have k1 := hSw.1.1 1 _ rfl; have k2 := hSw.1.1 2 _ rfl; have k3 := hSw.1.1 3 _ rfl; have k4 := hSw.1.1 4 _ rfl; have kz := hSw.1.2.2; have p0 := hSw.2.1 0 _ rfl; have p1 := hSw.2.1 1 _ rfl; have p2 := hSw.2.1 2 _ rfl; have p3 := hSw.2.1 3 _ rfl; have p4 := hSw.2.1 4 _ rfl; have pz := hSw.2.2.2; go_simp; try with_reducible rfl)
  change wpAnyH _ _ _ _ _ _ _ (Act.put _ (some 20) _) _
  simp only [Act.put, List.setIfInBounds_toArray, List.set_cons_zero, List.set_cons_succ]
  refine wpAnyH_take (i := 3) (v := ?_) rfl (by kernel_rfl) (by kernel_rfl) (by kernel_rfl) (fun _ _ _ h => h) (Or.inl ⟨by rfl, ?_⟩) (by assumption) ?_
  rotate_left
  · (intro wS hSw; have k0 := hSw.1.1 0 _ rfl; have k1 := hSw.1.1 1 _ rfl; have k2 := hSw.1.1 2 _ rfl; have k3 := hSw.1.1 3 _ rfl; have k4 := hSw.1.1 4 _ rfl; have kz := hSw.1.2.2; have p0 := hSw.2.1 0 _ rfl; have p1 := hSw.2.1 1 _ rfl; have p2 := hSw.2.1 2 _ rfl; have p3 := hSw.2.1 3 _ rfl; have p4 := hSw.2.1 4 _ rfl; have pz := hSw.2.2.2; go_simp; try with_reducible rfl)
  change wpAnyH _ _ _ _ _ _ _ (Act.put _ (some 21) _) _
  simp only [Act.put, List.setIfInBounds_toArray, List.set_cons_zero, List.set_cons_succ]
  refine wpAnyH_take (i := 4) (v := ?_) rfl (by kernel_rfl) (by kernel_rfl) (by kernel_rfl) (fun _ _ _ h => h) (Or.inl ⟨by rfl, ?_⟩) (by assumption) ?_
  rotate_left
  · (intro wS hSw; have k0 := hSw.1.1 0 _ rfl; have k1 := hSw.1.1 1 _ rfl; have k2 := hSw.1.1 2 _ rfl; have k3 := hSw.1.1 3 _ rfl; have k4 := hSw.1.1 4 _ rfl; have kz := hSw.1.2.2; have p0 := hSw.2.1 0 _ rfl; have p1 := hSw.2.1 1 _ rfl; have p2 := hSw.2.1 2 _ rfl; have p3 := hSw.2.1 3 _ rfl; have p4 := hSw.2.1 4 _ rfl; have pz := hSw.2.2.2; go_simp; try with_reducible rfl)
  change wpAnyH _ _ _ _ _ _ _ (Act.put _ (some 22) _) _
  simp only [Act.put, List.setIfInBounds_toArray, List.set_cons_zero, List.set_cons_succ]
  refine wpAnyH_ready (rs := [5]) (by kernel_rfl) (by simp) ?_
  refine AllReadyH.cons rfl (fun K hK => ?_) AllReadyH.nil
  go_simp
  refine (fc4 _).mono ?_
  rintro e v2 ⟨rfl, hv2⟩
  have F_2 : Hid ((Cs v2 nk kFL ∧ Cs v2 np pFL) ∧ LaidK v2 ∧ Below w.heap.size w v2) := ⟨⟨Cs.later hv2 F_1.out.1.1, Cs.later hv2 F_1.out.1.2⟩, F_1.out.2.1.later hv2, F_1.out.2.2.trans (hv2.mono F_1.out.2.2.size)⟩
  clear hv2 F_1
  (try go_wp2_with (fail))
  refine hK.out _ _ ?_ (fun hHeld => ?_)
  · exact F_2.out.1
  clear hK K
  refine wpAnyH_take (i := 6) (v := ?_) rfl (by kernel_rfl) (by kernel_rfl) (by kernel_rfl) (fun _ _ _ h => h) (Or.inl ⟨by rfl, ?_⟩) (by assumption) ?_
  rotate_left
  · (intro wS hSw; have k0 := hSw.1.1 0 _ rfl; have k1 := hSw.1.1 1 _ rfl; have k2 := hSw.1.1 2 _ rfl; have k3 := hSw.1.1 3 _ rfl; have k4 := hSw.1.1 4 _ rfl; have kz := hSw.1.2.2; have p0 := hSw.2.1 0 _ rfl; have p1 := hSw.2.1 1 _ rfl; have p2 := hSw.2.1 2 _ rfl; have p3 := hSw.2.1 3 _ rfl; have p4 := hSw.2.1 4 _ rfl; have pz := hSw.2.2.2; go_simp; try with_reducible rfl)
  change wpAnyH _ _ _ _ _ _ _ (Act.put _ (some 24) _) _
  simp only [Act.put, List.setIfInBounds_toArray, List.set_cons_zero, List.set_cons_succ]
  refine wpAnyH_take (i := 7) (v := ?_) rfl (by kernel_rfl) (by kernel_rfl) (by kernel_rfl) (fun _ _ _ h => h) (Or.inl ⟨by rfl, ?_⟩) (by assumption) ?_
  rotate_left
  · (intro wS hSw; have k0 := hSw.1.1 0 _ rfl; have k1 := hSw.1.1 1 _ rfl; have k2 := hSw.1.1 2 _ rfl; have k3 := hSw.1.1 3 _ rfl; have k4 := hSw.1.1 4 _ rfl; have kz := hSw.1.2.2; have p0 := hSw.2.1 0 _ rfl; have p1 := hSw.2.1 1 _ rfl; have p2 := hSw.2.1 2 _ rfl; have p3 := hSw.2.1 3 _ rfl; have p4 := hSw.2.1 4 _ rfl; have pz := hSw.2.2.2; go_simp; try with_reducible rfl)
  change wpAnyH _ _ _ _ _ _ _ (Act.put _ (some 25) _) _
  simp only [Act.put, List.setIfInBounds_toArray, List.set_cons_zero, List.set_cons_succ]
  refine wpAnyH_take (i := 8) (v := ?_) rfl (by kernel_rfl) (by kernel_rfl) (by kernel_rfl) (fun _ _ _ h => h) (Or.inl ⟨by rfl, ?_⟩) (by assumption) ?_
  rotate_left
  · (intro wS hSw; have k0 := hSw.1.1 0 _ rfl; have k1 := hSw.1.1 1 _ rfl; have k2 := hSw.1.1 2 _ rfl; have k3 := hSw.1.1 3 _ rfl; have k4 := hSw.1.1 4 _ rfl; have kz := hSw.1.2.2; have p0 := hSw.2.1 0 _ rfl; have p1 := hSw.2.1 1 _ rfl; have p2 := hSw.2.1 2 _ rfl; have p3 := hSw.2.1 3 _ rfl; have p4 := hSw.2.1 4 _ rfl; have pz := hSw.2.2.2; go_simp; try with_reducible rfl)
  change wpAnyH _ _ _ _ _ _ _ (Act.put _ (some 26) _) _
  simp only [Act.put, List.setIfInBounds_toArray, List.set_cons_zero, List.set_cons_succ]
  refine wpAnyH_take (i := 9) (v := ?_) rfl (by kernel_rfl) (by kernel_rfl) (by kernel_rfl) (fun _ _ _ h => h) (Or.inl ⟨by rfl, ?_⟩) (by assumption) ?_
  rotate_left
  · (intro wS hSw; have k0 := hSw.1.1 0 _ rfl; have k1 := hSw.1.1 1 _ rfl; have k2 := hSw.1.1 2 _ rfl; have k3 := hSw.1.1 3 _ rfl; have k4 := hSw.1.1 4 _ rfl; have kz := hSw.1.2.2; have p0 := hSw.2.1 0 _ rfl; have p1 := hSw.2.1 1 _ rfl; have p2 := hSw.2.1 2 _ rfl; have p3 := hSw.2.1 3 _ rfl; have p4 := hSw.2.1 4 _ rfl; have pz := hSw.2.2.2; go_simp; try with_reducible rfl)
  change wpAnyH _ _ _ _ _ _ _ (Act.put _ (some 27) _) _
  simp only [Act.put, List.setIfInBounds_toArray, List.set_cons_zero, List.set_cons_succ]
  refine wpAnyH_ready (rs := [10]) (by kernel_rfl) (by simp) ?_
  refine AllReadyH.cons rfl (fun K hK => ?_) AllReadyH.nil
  go_simp
  refine (fc5 _).mono ?_
  rintro e v3 ⟨rfl, hv3⟩
  have F_3 : Hid ((Cs v3 nk kFL ∧ Cs v3 np pFL) ∧ LaidK v3 ∧ Below w.heap.size w v3) := ⟨⟨Cs.later hv3 F_2.out.1.1, Cs.later hv3 F_2.out.1.2⟩, F_2.out.2.1.later hv3, F_2.out.2.2.trans (hv3.mono F_2.out.2.2.size)⟩
  clear hv3 F_2
  (try go_wp2_with (fail))
  refine hK.out _ _ ?_ (fun hHeld => ?_)
  · exact F_3.out.1
  clear hK K
  refine wpAnyH_take (i := 11) (v := ?_) rfl (by kernel_rfl) (by kernel_rfl) (by kernel_rfl) (fun _ _ _ h => h) (Or.inl ⟨by rfl, ?_⟩) (by assumption) ?_
  rotate_left
  · (intro wS hSw; have k0 := hSw.1.1 0 _ rfl; have k1 := hSw.1.1 1 _ rfl; have k2 := hSw.1.1 2 _ rfl; have k3 := hSw.1.1 3 _ rfl; have k4 := hSw.1.1 4 _ rfl; have kz := hSw.1.2.2; have p0 := hSw.2.1 0 _ rfl; have p1 := hSw.2.1 1 _ rfl; have p2 := hSw.2.1 2 _ rfl; have p3 := hSw.2.1 3 _ rfl; have p4 := hSw.2.1 4 _ rfl; have pz := hSw.2.2.2; go_simp; try with_reducible rfl)
  change wpAnyH _ _ _ _ _ _ _ (Act.put _ (some 29) _) _
  simp only [Act.put, List.setIfInBounds_toArray, List.set_cons_zero, List.set_cons_succ]
  refine wpAnyH_take (i := 12) (v := ?_) rfl (by kernel_rfl) (by kernel_rfl) (by kernel_rfl) (fun _ _ _ h => h) (Or.inl ⟨by rfl, ?_⟩) (by assumption) ?_
  rotate_left
  · (intro wS hSw; have k0 := hSw.1.1 0 _ rfl; have k1 := hSw.1.1 1 _ rfl; have k2 := hSw.1.1 2 _ rfl; have k3 := hSw.1.1 3 _ rfl; have k4 := hSw.1.1 4 _ rfl; have kz := hSw.1.2.2; have p0 := hSw.2.1 0 _ rfl; have p1 := hSw.2.1 1 _ rfl; have p2 := hSw.2.1 2 _ rfl; have p3 := hSw.2.1 3 _ rfl; have p4 := hSw.2.1 4 _ rfl; have pz := hSw.2.2.2; go_simp; try with_reducible rfl)
  change wpAnyH _ _ _ _ _ _ _ (Act.put _ (some 30) _) _
  simp only [Act.put, List.setIfInBounds_toArray, List.set_cons_zero, List.set_cons_succ]
  refine wpAnyH_take (i := 13) (v := ?_) rfl (by kernel_rfl) (by kernel_rfl) (by kernel_rfl) (fun _ _ _ h => h) (Or.inl ⟨by rfl, ?_⟩) (by assumption) ?_
  rotate_left
  · (intro wS hSw; have k0 := hSw.1.1 0 _ rfl; have k1 := hSw.1.1 1 _ rfl; have k2 := hSw.1.1 2 _ rfl; have k3 := hSw.1.1 3 _ rfl; have k4 := hSw.1.1 4 _ rfl; have kz := hSw.1.2.2; have p0 := hSw.2.1 0 _ rfl; have p1 := hSw.2.1 1 _ rfl; have p2 := hSw.2.1 2 _ rfl; have p3 := hSw.2.1 3 _ rfl; have p4 := hSw.2.1 4 _ rfl; have pz := hSw.2.2.2; go_simp; try with_reducible rfl)
  change wpAnyH _ _ _ _ _ _ _ (Act.put _ (some 31) _) _
  simp only [Act.put, List.setIfInBounds_toArray, List.set_cons_zero, List.set_cons_succ]
  refine wpAnyH_take (i := 14) (v := ?_) rfl (by kernel_rfl) (by kernel_rfl) (by kernel_rfl) (fun _ _ _ h => h) (Or.inl ⟨by rfl, ?_⟩) (by assumption) ?_
  rotate_left
  · (intro wS hSw; have k0 := hSw.1.1 0 _ rfl; have k1 := hSw.1.1 1 _ rfl; have k2 := hSw.1.1 2 _ rfl; have k3 := hSw.1.1 3 _ rfl; have k4 := hSw.1.1 4 _ rfl; have kz := hSw.1.2.2; have p0 := hSw.2.1 0 _ rfl; have p1 := hSw.2.1 1 _ rfl; have p2 := hSw.2.1 2 _ rfl; have p3 := hSw.2.1 3 _ rfl; have p4 := hSw.2.1 4 _ rfl; have pz := hSw.2.2.2; go_simp; try with_reducible rfl)
  change wpAnyH _ _ _ _ _ _ _ (Act.put _ (some 32) _) _
  simp only [Act.put, List.setIfInBounds_toArray, List.set_cons_zero, List.set_cons_succ]
  refine wpAnyH_ready (rs := [15]) (by kernel_rfl) (by simp) ?_
  refine AllReadyH.cons rfl (fun K hK => ?_) AllReadyH.nil
  go_simp
  refine (fc6 _ F_3.out.2.1).mono ?_
  rintro e v4 ⟨rfl, hv4⟩
  have F_4 : Hid ((Cs v4 nk kFL ∧ Cs v4 np pFL) ∧ LaidK v4 ∧ Below w.heap.size w v4) := ⟨⟨Cs.later hv4 F_3.out.1.1, Cs.later hv4 F_3.out.1.2⟩, F_3.out.2.1.later hv4, F_3.out.2.2.trans (hv4.mono F_3.out.2.2.size)⟩
  clear hv4 F_3
  (try go_wp2_with (fail))
  refine hK.out _ _ ?_ (fun hHeld => ?_)
  · exact F_4.out.1
  clear hK K
  refine wpAnyH_take (i := 16) (v := ?_) rfl (by kernel_rfl) (by kernel_rfl) (by kernel_rfl) (fun _ _ _ h => h) (Or.inl ⟨by rfl, ?_⟩) (by assumption) ?_
  rotate_left
  · (intro wS hSw; have k0 := hSw.1.1 0 _ rfl; have k1 := hSw.1.1 1 _ rfl; have k2 := hSw.1.1 2 _ rfl; have k3 := hSw.1.1 3 _ rfl; have k4 := hSw.1.1 4 _ rfl; have kz := hSw.1.2.2; have p0 := hSw.2.1 0 _ rfl; have p1 := hSw.2.1 1 _ rfl; have p2 := hSw.2.1 2 _ rfl; have p3 := hSw.2.1 3 _ rfl; have p4 := hSw.2.1 4 _ rfl; have pz := hSw.2.2.2; go_simp; try with_reducible rfl)
  change wpAnyH _ _ _ _ _ _ _ (Act.put _ (some 34) _) _
  simp only [Act.put, List.setIfInBounds_toArray, List.set_cons_zero, List.set_cons_succ]
  refine wpAnyH_take (i := 17) (v := ?_) rfl (by kernel_rfl) (by kernel_rfl) (by kernel_rfl) (fun _ _ _ h => h) (Or.inl ⟨by rfl, ?_⟩) (by assumption) ?_
  rotate_left
  · (intro wS hSw; have k0 := hSw.1.1 0 _ rfl; have k1 := hSw.1.1 1 _ rfl; have k2 := hSw.1.1 2 _ rfl; have k3 := hSw.1.1 3 _ rfl; have k4 := hSw.1.1 4 _ rfl; have kz := hSw.1.2.2; have p0 := hSw.2.1 0 _ rfl; have p1 := hSw.2.1 1 _ rfl; have p2 := hSw.2.1 2 _ rfl; have p3 := hSw.2.1 3 _ rfl; have p4 := hSw.2.1 4 _ rfl; have pz := hSw.2.2.2; go_simp; try with_reducible rfl)
  change wpAnyH _ _ _ _ _ _ _ (Act.put _ (some 35) _) _
  simp only [Act.put, List.setIfInBounds_toArray, List.set_cons_zero, List.set_cons_succ]
  refine wpAnyH_ready (rs := [18]) (by kernel_rfl) (by simp) ?_
  refine AllReadyH.cons rfl (fun K hK => ?_) AllReadyH.nil
  go_simp
  refine (root_is _).mono ?_
  rintro e v5 ⟨rfl, hv5⟩
  have F_5 : Hid ((Cs v5 nk kFL ∧ Cs v5 np pFL) ∧ LaidK v5 ∧ Below w.heap.size w v5) := ⟨⟨Cs.later hv5 F_4.out.1.1, Cs.later hv5 F_4.out.1.2⟩, F_4.out.2.1.later hv5, F_4.out.2.2.trans (hv5.mono F_4.out.2.2.size)⟩
  clear hv5 F_4
  (try go_wp2_with (fail))
  refine hK.out _ _ ?_ (fun hHeld => ?_)
  · exact F_5.out.1
  clear hK K
  refine wpAnyH_ready (rs := [19]) (by kernel_rfl) (by simp) ?_
  refine AllReadyH.cons rfl (fun K hK => ?_) AllReadyH.nil
  go_simp
  refine (fc7 _ F_5.out.2.1).mono ?_
  rintro e v6 ⟨rfl, hv6⟩
  have F_6 : Hid ((Cs v6 nk kFL ∧ Cs v6 np pFL) ∧ LaidK v6 ∧ Below w.heap.size w v6) := ⟨⟨Cs.later hv6 F_5.out.1.1, Cs.later hv6 F_5.out.1.2⟩, F_5.out.2.1.later hv6, F_5.out.2.2.trans (hv6.mono F_5.out.2.2.size)⟩
  clear hv6 F_5
  (try go_wp2_with (fail))
  refine hK.out _ _ ?_ (fun hHeld => ?_)
  · exact F_6.out.1
  clear hK K
  refine wpAnyH_take (i := 20) (v := ?_) rfl (by kernel_rfl) (by kernel_rfl) (by kernel_rfl) (fun _ _ _ h => h) (Or.inl ⟨by rfl, ?_⟩) (by assumption) ?_
  rotate_left
  · (intro wS hSw; have k0 := hSw.1.1 0 _ rfl; have k1 := hSw.1.1 1 _ rfl; have k2 := hSw.1.1 2 _ rfl; have k3 := hSw.1.1 3 _ rfl; have k4 := hSw.1.1 4 _ rfl; have kz := hSw.1.2.2; have p0 := hSw.2.1 0 _ rfl; have p1 := hSw.2.1 1 _ rfl; have p2 := hSw.2.1 2 _ rfl; have p3 := hSw.2.1 3 _ rfl; have p4 := hSw.2.1 4 _ rfl; have pz := hSw.2.2.2; go_simp; try with_reducible rfl)
  change wpAnyH _ _ _ _ _ _ _ (Act.put _ (some 38) _) _
  simp only [Act.put, List.setIfInBounds_toArray, List.set_cons_zero, List.set_cons_succ]
  refine wpAnyH_take (i := 21) (v := ?_) rfl (by kernel_rfl) (by kernel_rfl) (by kernel_rfl) (fun _ _ _ h => h) (Or.inl ⟨by rfl, ?_⟩) (by assumption) ?_
  rotate_left
  · (intro wS hSw; have k0 := hSw.1.1 0 _ rfl; have k1 := hSw.1.1 1 _ rfl; have k2 := hSw.1.1 2 _ rfl; have k3 := hSw.1.1 3 _ rfl; have k4 := hSw.1.1 4 _ rfl; have kz := hSw.1.2.2; have p0 := hSw.2.1 0 _ rfl; have p1 := hSw.2.1 1 _ rfl; have p2 := hSw.2.1 2 _ rfl; have p3 := hSw.2.1 3 _ rfl; have p4 := hSw.2.1 4 _ rfl; have pz := hSw.2.2.2; go_simp; try with_reducible rfl)
  change wpAnyH _ _ _ _ _ _ _ (Act.put _ (some 39) _) _
  simp only [Act.put, List.setIfInBounds_toArray, List.set_cons_zero, List.set_cons_succ]
  refine wpAnyH_take (i := 22) (v := ?_) rfl (by kernel_rfl) (by kernel_rfl) (by kernel_rfl) (fun _ _ _ h => h) (Or.inl ⟨by rfl, ?_⟩) (by assumption) ?_
  rotate_left
  · (intro wS hSw; have k0 := hSw.1.1 0 _ rfl; have k1 := hSw.1.1 1 _ rfl; have k2 := hSw.1.1 2 _ rfl; have k3 := hSw.1.1 3 _ rfl; have k4 := hSw.1.1 4 _ rfl; have kz := hSw.1.2.2; have p0 := hSw.2.1 0 _ rfl; have p1 := hSw.2.1 1 _ rfl; have p2 := hSw.2.1 2 _ rfl; have p3 := hSw.2.1 3 _ rfl; have p4 := hSw.2.1 4 _ rfl; have pz := hSw.2.2.2; go_simp; try with_reducible rfl)
  change wpAnyH _ _ _ _ _ _ _ (Act.put _ (some 40) _) _
  simp only [Act.put, List.setIfInBounds_toArray, List.set_cons_zero, List.set_cons_succ]
  refine wpAnyH_take (i := 23) (v := ?_) rfl (by kernel_rfl) (by kernel_rfl) (by kernel_rfl) (fun _ _ _ h => h) (Or.inl ⟨by rfl, ?_⟩) (by assumption) ?_
  rotate_left
  · (intro wS hSw; have k0 := hSw.1.1 0 _ rfl; have k1 := hSw.1.1 1 _ rfl; have k2 := hSw.1.1 2 _ rfl; have k3 := hSw.1.1 3 _ rfl; have k4 := hSw.1.1 4 _ rfl; have kz := hSw.1.2.2; have p0 := hSw.2.1 0 _ rfl; have p1 := hSw.2.1 1 _ rfl; have p2 := hSw.2.1 2 _ rfl; have p3 := hSw.2.1 3 _ rfl; have p4 := hSw.2.1 4 _ rfl; have pz := hSw.2.2.2; go_simp; try with_reducible rfl)
  change wpAnyH _ _ _ _ _ _ _ (Act.put _ (some 41) _) _
  simp only [Act.put, List.setIfInBounds_toArray, List.set_cons_zero, List.set_cons_succ]
  refine wpAnyH_ready (rs := [24]) (by kernel_rfl) (by simp) ?_
  refine AllReadyH.cons rfl (fun K hK => ?_) AllReadyH.nil
  go_simp
  refine (fc8 _).mono ?_
  rintro e v7 ⟨rfl, hv7⟩
  have F_7 : Hid ((Cs v7 nk kFL ∧ Cs v7 np pFL) ∧ LaidK v7 ∧ Below w.heap.size w v7) := ⟨⟨Cs.later hv7 F_6.out.1.1, Cs.later hv7 F_6.out.1.2⟩, F_6.out.2.1.later hv7, F_6.out.2.2.trans (hv7.mono F_6.out.2.2.size)⟩
  clear hv7 F_6
  (try go_wp2_with (fail))
  refine hK.out _ _ ?_ (fun hHeld => ?_)
  · exact F_7.out.1
  clear hK K
  refine wpAnyH_take (i := 25) (v := ?_) rfl (by kernel_rfl) (by kernel_rfl) (by kernel_rfl) (fun _ _ _ h => h) (Or.inl ⟨by rfl, ?_⟩) (by assumption) ?_
  rotate_left
  · (intro wS hSw; have k0 := hSw.1.1 0 _ rfl; have k1 := hSw.1.1 1 _ rfl; have k2 := hSw.1.1 2 _ rfl; have k3 := hSw.1.1 3 _ rfl; have k4 := hSw.1.1 4 _ rfl; have kz := hSw.1.2.2; have p0 := hSw.2.1 0 _ rfl; have p1 := hSw.2.1 1 _ rfl; have p2 := hSw.2.1 2 _ rfl; have p3 := hSw.2.1 3 _ rfl; have p4 := hSw.2.1 4 _ rfl; have pz := hSw.2.2.2; go_simp; try with_reducible rfl)
  change wpAnyH _ _ _ _ _ _ _ (Act.put _ (some 43) _) _
  simp only [Act.put, List.setIfInBounds_toArray, List.set_cons_zero, List.set_cons_succ]
  refine wpAnyH_take (i := 26) (v := ?_) rfl (by kernel_rfl) (by kernel_rfl) (by kernel_rfl) (fun _ _ _ h => h) (Or.inl ⟨by rfl, ?_⟩) (by assumption) ?_
  rotate_left
  · (intro wS hSw; have k0 := hSw.1.1 0 _ rfl; have k1 := hSw.1.1 1 _ rfl; have k2 := hSw.1.1 2 _ rfl; have k3 := hSw.1.1 3 _ rfl; have k4 := hSw.1.1 4 _ rfl; have kz := hSw.1.2.2; have p0 := hSw.2.1 0 _ rfl; have p1 := hSw.2.1 1 _ rfl; have p2 := hSw.2.1 2 _ rfl; have p3 := hSw.2.1 3 _ rfl; have p4 := hSw.2.1 4 _ rfl; have pz := hSw.2.2.2; go_simp; try with_reducible rfl)
  change wpAnyH _ _ _ _ _ _ _ (Act.put _ (some 44) _) _
  simp only [Act.put, List.setIfInBounds_toArray, List.set_cons_zero, List.set_cons_succ]
  refine wpAnyH_take (i := 27) (v := ?_) rfl (by kernel_rfl) (by kernel_rfl) (by kernel_rfl) (fun _ _ _ h => h) (Or.inl ⟨by rfl, ?_⟩) (by assumption) ?_
  rotate_left
  · (intro wS hSw; have k0 := hSw.1.1 0 _ rfl; have k1 := hSw.1.1 1 _ rfl; have k2 := hSw.1.1 2 _ rfl; have k3 := hSw.1.1 3 _ rfl; have k4 := hSw.1.1 4 _ rfl; have kz := hSw.1.2.2; have p0 := hSw.2.1 0 _ rfl; have p1 := hSw.2.1 1 _ rfl; have p2 := hSw.2.1 2 _ rfl; have p3 := hSw.2.1 3 _ rfl; have p4 := hSw.2.1 4 _ rfl; have pz := hSw.2.2.2; go_simp; try with_reducible rfl)
  change wpAnyH _ _ _ _ _ _ _ (Act.put _ (some 45) _) _
  simp only [Act.put, List.setIfInBounds_toArray, List.set_cons_zero, List.set_cons_succ]
  refine wpAnyH_take (i := 28) (v := ?_) rfl (by kernel_rfl) (by kernel_rfl) (by kernel_rfl) (fun _ _ _ h => h) (Or.inl ⟨by rfl, ?_⟩) (by assumption) ?_
  rotate_left
  · (intro wS hSw; have k0 := hSw.1.1 0 _ rfl; have k1 := hSw.1.1 1 _ rfl; have k2 := hSw.1.1 2 _ rfl; have k3 := hSw.1.1 3 _ rfl; have k4 := hSw.1.1 4 _ rfl; have kz := hSw.1.2.2; have p0 := hSw.2.1 0 _ rfl; have p1 := hSw.2.1 1 _ rfl; have p2 := hSw.2.1 2 _ rfl; have p3 := hSw.2.1 3 _ rfl; have p4 := hSw.2.1 4 _ rfl; have pz := hSw.2.2.2; go_simp; try with_reducible rfl)
  change wpAnyH _ _ _ _ _ _ _ (Act.put _ (some 46) _) _
  simp only [Act.put, List.setIfInBounds_toArray, List.set_cons_zero, List.set_cons_succ]
  refine wpAnyH_ready (rs := [29]) (by kernel_rfl) (by simp) ?_
  refine AllReadyH.cons rfl (fun K hK => ?_) AllReadyH.nil
  go_simp
  refine (fc9 _).mono ?_
  rintro e v8 ⟨rfl, hv8⟩
  have F_8 : Hid ((Cs v8 nk kFL ∧ Cs v8 np pFL) ∧ LaidK v8 ∧ Below w.heap.size w v8) := ⟨⟨Cs.later hv8 F_7.out.1.1, Cs.later hv8 F_7.out.1.2⟩, F_7.out.2.1.later hv8, F_7.out.2.2.trans (hv8.mono F_7.out.2.2.size)⟩
  clear hv8 F_7
  (try go_wp2_with (fail))
  refine hK.out _ _ ?_ (fun hHeld => ?_)
  · exact F_8.out.1
  clear hK K
  refine wpAnyH_take (i := 30) (v := ?_) rfl (by kernel_rfl) (by kernel_rfl) (by kernel_rfl) (fun _ _ _ h => h) (Or.inl ⟨by rfl, ?_⟩) (by assumption) ?_
  rotate_left
  · (intro wS hSw; have k0 := hSw.1.1 0 _ rfl; have k1 := hSw.1.1 1 _ rfl; have k2 := hSw.1.1 2 _ rfl; have k3 := hSw.1.1 3 _ rfl; have k4 := hSw.1.1 4 _ rfl; have kz := hSw.1.2.2; have p0 := hSw.2.1 0 _ rfl; have p1 := hSw.2.1 1 _ rfl; have p2 := hSw.2.1 2 _ rfl; have p3 := hSw.2.1 3 _ rfl; have p4 := hSw.2.1 4 _ rfl; have pz := hSw.2.2.2; go_simp; try with_reducible rfl)
  change wpAnyH _ _ _ _ _ _ _ (Act.put _ (some 48) _) _
  simp only [Act.put, List.setIfInBounds_toArray, List.set_cons_zero, List.set_cons_succ]
  refine wpAnyH_take (i := 31) (v := ?_) rfl (by kernel_rfl) (by kernel_rfl) (by kernel_rfl) (fun _ _ _ h => h) (Or.inl ⟨by rfl, ?_⟩) (by assumption) ?_
  rotate_left
  · (intro wS hSw; have k0 := hSw.1.1 0 _ rfl; have k1 := hSw.1.1 1 _ rfl; have k2 := hSw.1.1 2 _ rfl; have k3 := hSw.1.1 3 _ rfl; have k4 := hSw.1.1 4 _ rfl; have kz := hSw.1.2.2; have p0 := hSw.2.1 0 _ rfl; have p1 := hSw.2.1 1 _ rfl; have p2 := hSw.2.1 2 _ rfl; have p3 := hSw.2.1 3 _ rfl; have p4 := hSw.2.1 4 _ rfl; have pz := hSw.2.2.2; go_simp; try with_reducible rfl)
  change wpAnyH _ _ _ _ _ _ _ (Act.put _ (some 49) _) _
  simp only [Act.put, List.setIfInBounds_toArray, List.set_cons_zero, List.set_cons_succ]
  refine wpAnyH_take (i := 32) (v := ?_) rfl (by kernel_rfl) (by kernel_rfl) (by kernel_rfl) (fun _ _ _ h => h) (Or.inl ⟨by rfl, ?_⟩) (by assumption) ?_
  rotate_left
  · (intro wS hSw; have k0 := hSw.1.1 0 _ rfl; have k1 := hSw.1.1 1 _ rfl; have k2 := hSw.1.1 2 _ rfl; have k3 := hSw.1.1 3 _ rfl; have k4 := hSw.1.1 4 _ rfl; have kz := hSw.1.2.2; have p0 := hSw.2.1 0 _ rfl; have p1 := hSw.2.1 1 _ rfl; have p2 := hSw.2.1 2 _ rfl; have p3 := hSw.2.1 3 _ rfl; have p4 := hSw.2.1 4 _ rfl; have pz := hSw.2.2.2; go_simp; try with_reducible rfl)
  change wpAnyH _ _ _ _ _ _ _ (Act.put _ (some 50) _) _
  simp only [Act.put, List.setIfInBounds_toArray, List.set_cons_zero, List.set_cons_succ]
  refine wpAnyH_take (i := 33) (v := ?_) rfl (by kernel_rfl) (by kernel_rfl) (by kernel_rfl) (fun _ _ _ h => h) (Or.inl ⟨by rfl, ?_⟩) (by assumption) ?_
  rotate_left
  · (intro wS hSw; have k0 := hSw.1.1 0 _ rfl; have k1 := hSw.1.1 1 _ rfl; have k2 := hSw.1.1 2 _ rfl; have k3 := hSw.1.1 3 _ rfl; have k4 := hSw.1.1 4 _ rfl; have kz := hSw.1.2.2; have p0 := hSw.2.1 0 _ rfl; have p1 := hSw.2.1 1 _ rfl; have p2 := hSw.2.1 2 _ rfl; have p3 := hSw.2.1 3 _ rfl; have p4 := hSw.2.1 4 _ rfl; have pz := hSw.2.2.2; go_simp; try with_reducible rfl)
  change wpAnyH _ _ _ _ _ _ _ (Act.put _ (some 0) _) _
  simp only [Act.put, List.setIfInBounds_toArray, List.set_cons_zero]
  refine wpAnyH_done (by kernel_rfl) ?_ _
  refine NoPanic.normal ?_
  have HBl := F_8.out.2.2
  go_wp2_with (fail)
  go_ret
  exact ⟨rfl, HBl⟩

end Go.Proofs.YtaeejemknmjglaaDoor.Sp
