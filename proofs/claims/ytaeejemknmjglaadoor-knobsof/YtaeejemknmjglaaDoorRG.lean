/-
  The knobs of a pod at this program: the document's own answer. Conditions: the containers read as a list; the names' lengths fit the machine.
-/
import Derived.Test.YtaeejemknmjglaaDoorRF
import Derived.Test.YtaeejemknmjglaaDoorQC
namespace Go.Proofs.YtaeejemknmjglaaDoor.Sp
open Go.RowKit

/-- Whether one of so many has none. -/
structure Nones (zs : List Ct) (f : Ct → Int) (N : Nat → Bool) : Prop where
  zero : N 0 = false
  next : ∀ (j : Nat) (c : Ct), zs[j]? = some c → N (j + 1) = (N j || (f c == 0))
  all : N zs.length = zs.any fun c => f c == 0
theorem nones_ex (zs : List Ct) (f : Ct → Int) : ∃ N, Nones zs f N :=
  ⟨fun j => (zs.take j).any fun c => f c == 0, rfl, fun j c h => by simp only [List.take_add_one, h, List.any_append]; simp, by simp only [List.take_length]⟩
/-- A sum, or Unlimited. -/
def pick (n : Bool) (s : Int) : Int := if n = true then 4611686018427387904 else s
theorem pick_on (n : Bool) (s : Int) : pick (n || true) s = 4611686018427387904 := by cases n <;> rfl
theorem pick_off (n : Bool) (s : Int) : pick (n || false) s = pick n s := by cases n <;> rfl

set_option maxHeartbeats 4000000 in
set_option maxRecDepth 100000 in
theorem rpodK_is {v : Value} {zs : List Ct} (pn : ByteArray) (pr po : Int) (hm : pn.size ≤ maxLen) (w : World) (h : RdC w v zs) :
    Calls Tryd.prog 13 #[.agg #[.string pn, .int .i64 pr, .int .i64 po, v]] w fun e w' => e = .returned (if podB pn pr po zs = true then podV zs else k0V) ∧ Below w.heap.size w w' := by
  obtain ⟨R, hR⟩ : ∃ R, R = if podB pn pr po zs = true then podV zs else k0V := ⟨_, rfl⟩
  rw [← hR]
  have HR : Hid (R = if podB pn pr po zs = true then podV zs else k0V) := hR
  have HZ : Hid (RdC w v zs) := h
  have HM : Hid (pn.size ≤ maxLen) := hm
  obtain ⟨NC, hNC⟩ := nones_ex zs Ct.lc
  have HNC : Hid (Nones zs Ct.lc NC) := hNC
  obtain ⟨NM, hNM⟩ := nones_ex zs Ct.lm
  have HNM : Hid (Nones zs Ct.lm NM) := hNM
  clear hR h hm hNC hNM
  obtain ⟨a, cap, rfl, h1, h2, h3⟩ := id HZ.out
  have H3 : Hid (∀ (j : Nat) (c : Ct), zs[j]? = some c → c.n.size ≤ maxLen ∧ ∃ b off : Nat, a = some ⟨b, off, none⟩ ∧ Ten w b (off + j * 10) c) := h3
  clear h3
  have zl : zs.length ≤ maxLen := by omega
  unfold maxLen at zl
  go_enter Tryd.func13, Tryd.ntmps13
  go_wp2_with (fail)
  refine (refPod_is pn pr po HM.out _ ((HZ.out.alloc _).alloc _)).mono ?_
  rintro e w1 ⟨rfl, hw1⟩
  have HBw1 : Below w.heap.size w w1 := Below.trans (by go_grown) (hw1.mono (by first | omega | (simp; done) | (simp; omega)))
  have p_p : Cs w1 (w.heap.size) [.string pn, .int .i64 pr, .int .i64 po, .slice a zs.length cap] := Cs.later hw1 (by repeat (first | assumption | (refine Cs.new _ _ _ _ ?_; simp; done) | refine Cs.alloc ?_ _ | refine Cs.drew ?_ | (refine Cs.beside ?_ _ _ (by omega))))
  have p_r : Cs w1 (w.heap.size + 1) [.int .i64 0, .int .i64 0, .int .i64 0, .int .i64 0, .int .i64 0] := Cs.later hw1 (by repeat (first | assumption | (refine Cs.new _ _ _ _ ?_; simp; done) | refine Cs.alloc ?_ _ | refine Cs.drew ?_ | (refine Cs.beside ?_ _ _ (by omega))))
  have q_p := p_p
  have p0 : w1.cell? ⟨w.heap.size, 0, none⟩ = some (.string pn) := p_p.1 0 _ rfl
  have p1 : w1.cell? ⟨w.heap.size, 1, none⟩ = some (.int .i64 pr) := p_p.1 1 _ rfl
  have p2 : w1.cell? ⟨w.heap.size, 2, none⟩ = some (.int .i64 po) := p_p.1 2 _ rfl
  have p3 : w1.cell? ⟨w.heap.size, 3, none⟩ = some (.slice a zs.length cap) := p_p.1 3 _ rfl
  have pz : w.heap.size < w1.heap.size := p_p.2.2
  clear p_p
  have q_r := p_r
  have r0 : w1.cell? ⟨w.heap.size + 1, 0, none⟩ = some (.int .i64 0) := p_r.1 0 _ rfl
  have rF0 : w1.frozen? ⟨w.heap.size + 1, 0, none⟩ = false := p_r.2.1 0 (by simp)
  have r1 : w1.cell? ⟨w.heap.size + 1, 1, none⟩ = some (.int .i64 0) := p_r.1 1 _ rfl
  have rF1 : w1.frozen? ⟨w.heap.size + 1, 1, none⟩ = false := p_r.2.1 1 (by simp)
  have r2 : w1.cell? ⟨w.heap.size + 1, 2, none⟩ = some (.int .i64 0) := p_r.1 2 _ rfl
  have rF2 : w1.frozen? ⟨w.heap.size + 1, 2, none⟩ = false := p_r.2.1 2 (by simp)
  have r3 : w1.cell? ⟨w.heap.size + 1, 3, none⟩ = some (.int .i64 0) := p_r.1 3 _ rfl
  have rF3 : w1.frozen? ⟨w.heap.size + 1, 3, none⟩ = false := p_r.2.1 3 (by simp)
  have r4 : w1.cell? ⟨w.heap.size + 1, 4, none⟩ = some (.int .i64 0) := p_r.1 4 _ rfl
  have rF4 : w1.frozen? ⟨w.heap.size + 1, 4, none⟩ = false := p_r.2.1 4 (by simp)
  have rz : w.heap.size + 1 < w1.heap.size := p_r.2.2
  clear p_r
  have hsw1 := hw1.size
  (try simp at hsw1)
  clear hw1
  obtain ⟨g, hg⟩ : ∃ g, g = podB pn pr po zs := ⟨_, rfl⟩
  rw [← hg]
  have HG : Hid (g = podB pn pr po zs) := hg
  clear hg
  cases g with
  | false =>
    have X : Hid (R = k0V) := by unfold Hid; rw [HR.out, ← HG.out]; rfl
    clear HR HG
    go_wp2
    refine bodyPost_ret (v := R) (by rw [X.out]; simp [results, Tryd.results13, go_sem, r0, r1, r2, r3, r4]) rfl ⟨rfl, by go_grown⟩
  | true =>
  obtain ⟨s1, s2, s3, hs1, hs2, hs3⟩ : ∃ x y z, x = sm Ct.rc zs ∧ y = sm Ct.rm zs ∧ z = sm Ct.rh zs := ⟨_, _, _, rfl, rfl, rfl⟩
  obtain ⟨t1, t2, t3, ht1, ht2, ht3⟩ : ∃ x y z, x = sm Ct.lc zs ∧ y = sm Ct.lm zs ∧ z = sm Ct.lh zs := ⟨_, _, _, rfl, rfl, rfl⟩
  have SS : Hid (∀ w, RdC w (.slice a zs.length cap) zs → Calls Tryd.prog 35 #[.agg #[.string pn, .int .i64 pr, .int .i64 po, .slice a zs.length cap]] w fun e w' => e = .returned (.tuple #[.agg #[.int .i64 s1, .int .i64 s2, .int .i64 s3], .agg #[.int .i64 t1, .int .i64 t2, .int .i64 t3], .bool true]) ∧ Below w.heap.size w w') := fun w h2 => by
    have := refSums_is pn pr po w h2 (by have := (pod_parts HG.out.symm).2.1.2; omega)
    rw [(sums_some (pod_parts HG.out.symm).2.2.2).1, (sums_some (pod_parts HG.out.symm).2.2.2).2.1] at this
    rw [hs1, hs2, hs3, ht1, ht2, ht3]
    exact this
  have X : Hid (R = .agg #[.int .i64 (pick (NC zs.length) t1), .int .i64 (wgt s1), .int .i64 s2, .int .i64 (pick (NM zs.length) t2), .int .i64 t3]) := by
    unfold Hid
    rw [HR.out, ← HG.out, if_pos rfl, HNC.out.all, HNM.out.all, hs1, hs2, ht1, ht2, ht3]
    rfl
  clear HR HG hs1 hs2 hs3 ht1 ht2 ht3
  go_wp2_with (fail)
  refine (SS.out _ (HZ.out.later HBw1)).mono ?_
  rintro e w2 ⟨rfl, hw2⟩
  have HB2 : Below w.heap.size w w2 := HBw1.trans (hw2.mono HBw1.size)
  have p_2 := Cs.later hw2 q_p
  have r_2 := Cs.later hw2 q_r
  clear SS q_p q_r p0 p1 p2 p3 pz r0 r1 r2 r3 r4 rF0 rF1 rF2 rF3 rF4 rz hw2 HBw1
  have k_p := (p_2.alloc (.cells #[.int .i64 s1, .int .i64 s2, .int .i64 s3] 23)).alloc (.cells #[.int .i64 t1, .int .i64 t2, .int .i64 t3] 23)
  have k_r := (r_2.alloc (.cells #[.int .i64 s1, .int .i64 s2, .int .i64 s3] 23)).alloc (.cells #[.int .i64 t1, .int .i64 t2, .int .i64 t3] 23)
  have k_a : Cs ((w2.alloc (.cells #[.int .i64 s1, .int .i64 s2, .int .i64 s3] 23)).alloc (.cells #[.int .i64 t1, .int .i64 t2, .int .i64 t3] 23)) w2.heap.size [.int .i64 s1, .int .i64 s2, .int .i64 s3] := (by repeat (first | assumption | (refine Cs.new _ _ _ _ ?_; simp; done) | refine Cs.alloc ?_ _ | refine Cs.drew ?_ | (refine Cs.beside ?_ _ _ (by omega))))
  have k_b : Cs ((w2.alloc (.cells #[.int .i64 s1, .int .i64 s2, .int .i64 s3] 23)).alloc (.cells #[.int .i64 t1, .int .i64 t2, .int .i64 t3] 23)) (w2.heap.size + 1) [.int .i64 t1, .int .i64 t2, .int .i64 t3] := (by repeat (first | assumption | (refine Cs.new _ _ _ _ ?_; simp; done) | refine Cs.alloc ?_ _ | refine Cs.drew ?_ | (refine Cs.beside ?_ _ _ (by omega))))
  have HB3 : Below w.heap.size w ((w2.alloc (.cells #[.int .i64 s1, .int .i64 s2, .int .i64 s3] 23)).alloc (.cells #[.int .i64 t1, .int .i64 t2, .int .i64 t3] 23)) := (HB2.alloc HB2.size _).alloc (by have := HB2.size; simp; omega) _
  have f12 : w.heap.size + 1 < w2.heap.size := r_2.2.2
  clear p_2 r_2 HB2
  go_upto_region 4 with (fail)
  obtain ⟨W, hW⟩ : ∃ W, W = (w2.alloc (.cells #[.int .i64 s1, .int .i64 s2, .int .i64 s3] 23)).alloc (.cells #[.int .i64 t1, .int .i64 t2, .int .i64 t3] 23) := ⟨_, rfl⟩
  rw [← hW] at k_p k_r k_a k_b HB3 ⊢
  have sw : w2.heap.size + 1 < W.heap.size := k_b.2.2
  clear hW
  go_cut [6] (fun s6 wc => s6 = .pointer (some ⟨W.heap.size, 0, none⟩) ∧ Cs wc W.heap.size [.int .i64 t1, .int .i64 (wgt s1), .int .i64 s2, .int .i64 t2, .int .i64 t3] ∧ Cs wc w.heap.size [.string pn, .int .i64 pr, .int .i64 po, .slice a zs.length cap] ∧ Cs wc (w.heap.size + 1) [.int .i64 0, .int .i64 0, .int .i64 0, .int .i64 0, .int .i64 0] ∧ Below w.heap.size w wc)
  case first =>
    have SD : Cs (World.drew W) w2.heap.size [.int .i64 s1, .int .i64 s2, .int .i64 s3] ∧ Cs (World.drew W) (w2.heap.size + 1) [.int .i64 t1, .int .i64 t2, .int .i64 t3] := ⟨Cs.drew k_a, Cs.drew k_b⟩
    refine wp_region_noPanic ?_
    refine wp_region_held_drew (S := fun w' => Cs w' w2.heap.size [.int .i64 s1, .int .i64 s2, .int .i64 s3] ∧ Cs w' (w2.heap.size + 1) [.int .i64 t1, .int .i64 t2, .int .i64 t3]) (by kernel_rfl) ?_ (fun hHeld => ?_)
    · exact SD
    refine wpAnyH_take (i := 0) (v := ?_) rfl (by kernel_rfl) (by kernel_rfl) (by kernel_rfl) (fun _ _ _ h => h) (Or.inl ⟨by rfl, ?_⟩) (by assumption) ?_
    rotate_left
    · (intro wS hSw; have c0 := hSw.1.1 0 _ rfl; have c1 := hSw.1.1 1 _ rfl; have c2 := hSw.1.1 2 _ rfl; have cz := hSw.1.2.2; have d0 := hSw.2.1 0 _ rfl; have d1 := hSw.2.1 1 _ rfl; have d2 := hSw.2.1 2 _ rfl; have dz := hSw.2.2.2; go_simp; try with_reducible rfl)
    change wpAnyH _ _ _ _ _ _ _ (Act.put _ (some 19) _) _
    simp only [Act.put, List.setIfInBounds_toArray, List.set_cons_zero, List.set_cons_succ]
    refine wpAnyH_take (i := 1) (v := ?_) rfl (by kernel_rfl) (by kernel_rfl) (by kernel_rfl) (fun _ _ _ h => h) (Or.inl ⟨by rfl, ?_⟩) (by assumption) ?_
    rotate_left
    · (intro wS hSw; have c0 := hSw.1.1 0 _ rfl; have c1 := hSw.1.1 1 _ rfl; have c2 := hSw.1.1 2 _ rfl; have cz := hSw.1.2.2; have d0 := hSw.2.1 0 _ rfl; have d1 := hSw.2.1 1 _ rfl; have d2 := hSw.2.1 2 _ rfl; have dz := hSw.2.2.2; go_simp; try with_reducible rfl)
    change wpAnyH _ _ _ _ _ _ _ (Act.put _ (some 20) _) _
    simp only [Act.put, List.setIfInBounds_toArray, List.set_cons_zero, List.set_cons_succ]
    refine wpAnyH_take (i := 2) (v := ?_) rfl (by kernel_rfl) (by kernel_rfl) (by kernel_rfl) (fun _ _ _ h => h) (Or.inl ⟨by rfl, ?_⟩) (by assumption) ?_
    rotate_left
    · (intro wS hSw; have c0 := hSw.1.1 0 _ rfl; have c1 := hSw.1.1 1 _ rfl; have c2 := hSw.1.1 2 _ rfl; have cz := hSw.1.2.2; have d0 := hSw.2.1 0 _ rfl; have d1 := hSw.2.1 1 _ rfl; have d2 := hSw.2.1 2 _ rfl; have dz := hSw.2.2.2; go_simp; try with_reducible rfl)
    change wpAnyH _ _ _ _ _ _ _ (Act.put _ (some 21) _) _
    simp only [Act.put, List.setIfInBounds_toArray, List.set_cons_zero, List.set_cons_succ]
    refine wpAnyH_take (i := 3) (v := ?_) rfl (by kernel_rfl) (by kernel_rfl) (by kernel_rfl) (fun _ _ _ h => h) (Or.inl ⟨by rfl, ?_⟩) (by assumption) ?_
    rotate_left
    · (intro wS hSw; have c0 := hSw.1.1 0 _ rfl; have c1 := hSw.1.1 1 _ rfl; have c2 := hSw.1.1 2 _ rfl; have cz := hSw.1.2.2; have d0 := hSw.2.1 0 _ rfl; have d1 := hSw.2.1 1 _ rfl; have d2 := hSw.2.1 2 _ rfl; have dz := hSw.2.2.2; go_simp; try with_reducible rfl)
    change wpAnyH _ _ _ _ _ _ _ (Act.put _ (some 22) _) _
    simp only [Act.put, List.setIfInBounds_toArray, List.set_cons_zero, List.set_cons_succ]
    refine wpAnyH_take (i := 5) (v := ?_) rfl (by kernel_rfl) (by kernel_rfl) (by kernel_rfl) (fun _ _ _ h => h) (Or.inl ⟨by rfl, ?_⟩) (by assumption) ?_
    rotate_left
    · (intro wS hSw; have c0 := hSw.1.1 0 _ rfl; have c1 := hSw.1.1 1 _ rfl; have c2 := hSw.1.1 2 _ rfl; have cz := hSw.1.2.2; have d0 := hSw.2.1 0 _ rfl; have d1 := hSw.2.1 1 _ rfl; have d2 := hSw.2.1 2 _ rfl; have dz := hSw.2.2.2; go_simp; try with_reducible rfl)
    change wpAnyH _ _ _ _ _ _ _ (Act.put _ (some 24) _) _
    simp only [Act.put, List.setIfInBounds_toArray, List.set_cons_zero, List.set_cons_succ]
    refine wpAnyH_take (i := 6) (v := ?_) rfl (by kernel_rfl) (by kernel_rfl) (by kernel_rfl) (fun _ _ _ h => h) (Or.inl ⟨by rfl, ?_⟩) (by assumption) ?_
    rotate_left
    · (intro wS hSw; have c0 := hSw.1.1 0 _ rfl; have c1 := hSw.1.1 1 _ rfl; have c2 := hSw.1.1 2 _ rfl; have cz := hSw.1.2.2; have d0 := hSw.2.1 0 _ rfl; have d1 := hSw.2.1 1 _ rfl; have d2 := hSw.2.1 2 _ rfl; have dz := hSw.2.2.2; go_simp; try with_reducible rfl)
    change wpAnyH _ _ _ _ _ _ _ (Act.put _ (some 25) _) _
    simp only [Act.put, List.setIfInBounds_toArray, List.set_cons_zero, List.set_cons_succ]
    refine wpAnyH_take (i := 7) (v := ?_) rfl (by kernel_rfl) (by kernel_rfl) (by kernel_rfl) (fun _ _ _ h => h) (Or.inl ⟨by rfl, ?_⟩) (by assumption) ?_
    rotate_left
    · (intro wS hSw; have c0 := hSw.1.1 0 _ rfl; have c1 := hSw.1.1 1 _ rfl; have c2 := hSw.1.1 2 _ rfl; have cz := hSw.1.2.2; have d0 := hSw.2.1 0 _ rfl; have d1 := hSw.2.1 1 _ rfl; have d2 := hSw.2.1 2 _ rfl; have dz := hSw.2.2.2; go_simp; try with_reducible rfl)
    change wpAnyH _ _ _ _ _ _ _ (Act.put _ (some 26) _) _
    simp only [Act.put, List.setIfInBounds_toArray, List.set_cons_zero, List.set_cons_succ]
    refine wpAnyH_take (i := 8) (v := ?_) rfl (by kernel_rfl) (by kernel_rfl) (by kernel_rfl) (fun _ _ _ h => h) (Or.inl ⟨by rfl, ?_⟩) (by assumption) ?_
    rotate_left
    · (intro wS hSw; have c0 := hSw.1.1 0 _ rfl; have c1 := hSw.1.1 1 _ rfl; have c2 := hSw.1.1 2 _ rfl; have cz := hSw.1.2.2; have d0 := hSw.2.1 0 _ rfl; have d1 := hSw.2.1 1 _ rfl; have d2 := hSw.2.1 2 _ rfl; have dz := hSw.2.2.2; go_simp; try with_reducible rfl)
    change wpAnyH _ _ _ _ _ _ _ (Act.put _ (some 27) _) _
    simp only [Act.put, List.setIfInBounds_toArray, List.set_cons_zero, List.set_cons_succ]
    refine wpAnyH_take (i := 9) (v := ?_) rfl (by kernel_rfl) (by kernel_rfl) (by kernel_rfl) (fun _ _ _ h => h) (Or.inl ⟨by rfl, ?_⟩) (by assumption) ?_
    rotate_left
    · (intro wS hSw; have c0 := hSw.1.1 0 _ rfl; have c1 := hSw.1.1 1 _ rfl; have c2 := hSw.1.1 2 _ rfl; have cz := hSw.1.2.2; have d0 := hSw.2.1 0 _ rfl; have d1 := hSw.2.1 1 _ rfl; have d2 := hSw.2.1 2 _ rfl; have dz := hSw.2.2.2; go_simp; try with_reducible rfl)
    change wpAnyH _ _ _ _ _ _ _ (Act.put _ (some 28) _) _
    simp only [Act.put, List.setIfInBounds_toArray, List.set_cons_zero, List.set_cons_succ]
    refine wpAnyH_take (i := 10) (v := ?_) rfl (by kernel_rfl) (by kernel_rfl) (by kernel_rfl) (fun _ _ _ h => h) (Or.inl ⟨by rfl, ?_⟩) (by assumption) ?_
    rotate_left
    · (intro wS hSw; have c0 := hSw.1.1 0 _ rfl; have c1 := hSw.1.1 1 _ rfl; have c2 := hSw.1.1 2 _ rfl; have cz := hSw.1.2.2; have d0 := hSw.2.1 0 _ rfl; have d1 := hSw.2.1 1 _ rfl; have d2 := hSw.2.1 2 _ rfl; have dz := hSw.2.2.2; go_simp; try with_reducible rfl)
    change wpAnyH _ _ _ _ _ _ _ (Act.put _ (some 29) _) _
    simp only [Act.put, List.setIfInBounds_toArray, List.set_cons_zero, List.set_cons_succ]
    refine wpAnyH_ready (rs := [4, 12]) (by kernel_rfl) (by simp) ?_
    refine AllReadyH.cons rfl (fun K hK => ?_) (AllReadyH.cons rfl (fun K hK => ?_) AllReadyH.nil)
    ·
      go_simp
      refine (rweight_is s1 _).mono ?_
      rintro e _ ⟨rfl, rfl⟩
      (try go_wp2_with (fail))
      refine hK.out _ _ ?_ (fun hHeld => ?_)
      · assumption
      clear hK K
      refine wpAnyH_take (i := 11) (v := ?_) rfl (by kernel_rfl) (by kernel_rfl) (by kernel_rfl) (fun _ _ _ h => h) (Or.inl ⟨by rfl, ?_⟩) (by assumption) ?_
      rotate_left
      · (intro wS hSw; have c0 := hSw.1.1 0 _ rfl; have c1 := hSw.1.1 1 _ rfl; have c2 := hSw.1.1 2 _ rfl; have cz := hSw.1.2.2; have d0 := hSw.2.1 0 _ rfl; have d1 := hSw.2.1 1 _ rfl; have d2 := hSw.2.1 2 _ rfl; have dz := hSw.2.2.2; go_simp; try with_reducible rfl)
      change wpAnyH _ _ _ _ _ _ _ (Act.put _ (some 30) _) _
      simp only [Act.put, List.setIfInBounds_toArray, List.set_cons_zero, List.set_cons_succ]
      refine wpAnyH_ready (rs := [12]) (by kernel_rfl) (by simp) ?_
      refine AllReadyH.cons rfl (fun K hK => ?_) AllReadyH.nil
      go_wp2_with (fail)
      have SA : Cs ((World.drew W).alloc (.cells #[.int .i64 0, .int .i64 0, .int .i64 0, .int .i64 0, .int .i64 0] 33)) w2.heap.size [.int .i64 s1, .int .i64 s2, .int .i64 s3] ∧ Cs ((World.drew W).alloc (.cells #[.int .i64 0, .int .i64 0, .int .i64 0, .int .i64 0, .int .i64 0] 33)) (w2.heap.size + 1) [.int .i64 t1, .int .i64 t2, .int .i64 t3] := ⟨(Cs.drew k_a).alloc _, (Cs.drew k_b).alloc _⟩
      refine hK.out _ _ ?_ (fun hHeld => ?_)
      · exact SA
      clear hK K
      refine wpAnyH_ready (rs := [13]) (by kernel_rfl) (by simp) ?_
      refine AllReadyH.cons rfl (fun K hK => ?_) AllReadyH.nil
      go_wp2_with (fail)
      refine hK.out _ _ ?_ (fun hHeld => ?_)
      · exact ⟨(k_a.alloc _).drew, (k_b.alloc _).drew⟩
      clear hK K
      refine wpAnyH_done (by kernel_rfl) ?_ _
      refine NoPanic.normal ?_
      go_wp2_with (fail)
      go_meet
      case rel => exact ⟨rfl, (Cs.new _ _ _ _ rfl).drew, (k_p.alloc _).drew, (k_r.alloc _).drew, (HB3.alloc (by have := HB3.size; omega) _).drew⟩
    ·
      go_wp2_with (fail)
      have SA : Cs ((World.drew W).alloc (.cells #[.int .i64 0, .int .i64 0, .int .i64 0, .int .i64 0, .int .i64 0] 33)) w2.heap.size [.int .i64 s1, .int .i64 s2, .int .i64 s3] ∧ Cs ((World.drew W).alloc (.cells #[.int .i64 0, .int .i64 0, .int .i64 0, .int .i64 0, .int .i64 0] 33)) (w2.heap.size + 1) [.int .i64 t1, .int .i64 t2, .int .i64 t3] := ⟨(Cs.drew k_a).alloc _, (Cs.drew k_b).alloc _⟩
      refine hK.out _ _ ?_ (fun hHeld => ?_)
      · exact SA
      clear hK K
      refine wpAnyH_ready (rs := [4]) (by kernel_rfl) (by simp) ?_
      refine AllReadyH.cons rfl (fun K hK => ?_) AllReadyH.nil
      go_simp
      refine (rweight_is s1 _).mono ?_
      rintro e _ ⟨rfl, rfl⟩
      (try go_wp2_with (fail))
      refine hK.out _ _ ?_ (fun hHeld => ?_)
      · assumption
      clear hK K
      refine wpAnyH_take (i := 11) (v := ?_) rfl (by kernel_rfl) (by kernel_rfl) (by kernel_rfl) (fun _ _ _ h => h) (Or.inl ⟨by rfl, ?_⟩) (by assumption) ?_
      rotate_left
      · (intro wS hSw; have c0 := hSw.1.1 0 _ rfl; have c1 := hSw.1.1 1 _ rfl; have c2 := hSw.1.1 2 _ rfl; have cz := hSw.1.2.2; have d0 := hSw.2.1 0 _ rfl; have d1 := hSw.2.1 1 _ rfl; have d2 := hSw.2.1 2 _ rfl; have dz := hSw.2.2.2; go_simp; try with_reducible rfl)
      change wpAnyH _ _ _ _ _ _ _ (Act.put _ (some 30) _) _
      simp only [Act.put, List.setIfInBounds_toArray, List.set_cons_zero, List.set_cons_succ]
      refine wpAnyH_ready (rs := [13]) (by kernel_rfl) (by simp) ?_
      refine AllReadyH.cons rfl (fun K hK => ?_) AllReadyH.nil
      go_wp2_with (fail)
      refine hK.out _ _ ?_ (fun hHeld => ?_)
      · exact ⟨(k_a.alloc _).drew, (k_b.alloc _).drew⟩
      clear hK K
      refine wpAnyH_done (by kernel_rfl) ?_ _
      refine NoPanic.normal ?_
      go_wp2_with (fail)
      go_meet
      case rel => exact ⟨rfl, (Cs.new _ _ _ _ rfl).drew, (k_p.alloc _).drew, (k_r.alloc _).drew, (HB3.alloc (by have := HB3.size; omega) _).drew⟩
  case rest =>
    clear k_p k_r k_a k_b HB3
    obtain ⟨rfl, k_k, k_p, k_r, HB⟩ := hcut
    obtain ⟨kb, hkb⟩ : ∃ kb, kb = W.heap.size := ⟨_, rfl⟩
    rw [← hkb] at k_k ⊢
    have k1 : w.heap.size + 1 < kb := by omega
    have p3 := k_p.1 3 _ rfl
    have pz := k_p.2.2
    clear hkb sw f12 hsw1
    go_wp2
    clear p3 pz
    go_loopw [34] (fun f wr => ∃ j : Nat, f = .int .i64 j ∧ j ≤ zs.length ∧ Cs wr kb [.int .i64 (pick (NC j) t1), .int .i64 (wgt s1), .int .i64 s2, .int .i64 (pick (NM j) t2), .int .i64 t3] ∧ Cs wr (w.heap.size + 1) [.int .i64 0, .int .i64 0, .int .i64 0, .int .i64 0, .int .i64 0] ∧ Below w.heap.size w wr) (fun f _ => zs.length - (intOf f).toNat)
    case atStart => exact ⟨0, rfl, by omega, by rw [HNC.out.zero, HNM.out.zero]; exact k_k, k_r, HB⟩
    case round =>
      clear k_k k_p k_r HB
      obtain ⟨j, rfl, jl, q_k, q_r, HB⟩ := hrel
      have hs := HB.size
      have kz := q_k.2.2
      by_cases cj : j < zs.length
      · obtain ⟨⟨m, rc, rm, rh, lc, lm, lh, x, y, z⟩, hdj⟩ : ∃ d, zs[j]? = some d := ⟨zs[j], List.getElem?_eq_getElem cj⟩
        obtain ⟨-, b, off, rfl, T10⟩ := H3.out j _ hdj
        have EC : Hid (NC (j + 1) = (NC j || (lc == 0))) := HNC.out.next j _ hdj
        have EM : Hid (NM (j + 1) = (NM j || (lm == 0))) := HNM.out.next j _ hdj
        obtain ⟨c0, c1, c2, c3, c4, c5, c6, c7, c8, c9⟩ := T10.later HB
        simp only at c0 c1 c2 c3 c4 c5 c6 c7 c8 c9
        have j0 : (0 : Int) ≤ (j : Int) := by omega
        have j1 : (j : Int) < (zs.length : Int) := by omega
        have x0 : wr.cell? ⟨kb, 0, none⟩ = some (.int .i64 (pick (NC j) t1)) := q_k.1 0 _ rfl
        have x3 : wr.cell? ⟨kb, 3, none⟩ = some (.int .i64 (pick (NM j) t2)) := q_k.1 3 _ rfl
        have y0 : wr.frozen? ⟨kb, 0, none⟩ = false := q_k.2.1 0 (by simp)
        have y3 : wr.frozen? ⟨kb, 3, none⟩ = false := q_k.2.1 3 (by simp)
        have lu : limV 0 = 4611686018427387904 := rfl
        clear T10 hdj
        by_cases e : lc = 0
        · subst e
          have PC : Hid (pick (NC (j + 1)) t1 = 4611686018427387904) := by unfold Hid; rw [EC.out]; exact pick_on _ _
          by_cases f : lm = 0
          · subst f
            have PM : Hid (pick (NM (j + 1)) t2 = 4611686018427387904) := by unfold Hid; rw [EM.out]; exact pick_on _ _
            clear EC EM
            go_wp2_with (fail)
            refine (rlimit_is 0 _).mono ?_
            rintro e _ ⟨rfl, rfl⟩
            rw [lu]
            go_wp2_with (fail)
            refine (rlimit_is 0 _).mono ?_
            rintro e _ ⟨rfl, rfl⟩
            rw [lu]
            go_wp2
            go_roundw
            case rel => exact ⟨j + 1, by go_num, by omega, by rw [PC.out, PM.out]; exact ((q_k.set 0 _ (by simp)).set 3 _ (by simp)).alloc _, (Cs.beside (Cs.beside q_r _ _ (by omega)) _ _ (by omega)).alloc _, by go_grown⟩
            case measure => simp [intOf]; omega
          · have f0 : (lm == 0) = false := by simp [f]
            have PM : Hid (pick (NM (j + 1)) t2 = pick (NM j) t2) := by unfold Hid; rw [EM.out, f0]; exact pick_off _ _
            clear EC EM f
            go_wp2_with (fail)
            refine (rlimit_is 0 _).mono ?_
            rintro e _ ⟨rfl, rfl⟩
            rw [lu]
            go_wp2
            go_roundw
            case rel => exact ⟨j + 1, by go_num, by omega, by rw [PC.out, PM.out]; exact (q_k.set 0 _ (by simp)).alloc _, (Cs.beside q_r _ _ (by omega)).alloc _, by go_grown⟩
            case measure => simp [intOf]; omega
        · have e0 : (lc == 0) = false := by simp [e]
          have PC : Hid (pick (NC (j + 1)) t1 = pick (NC j) t1) := by unfold Hid; rw [EC.out, e0]; exact pick_off _ _
          by_cases f : lm = 0
          · subst f
            have PM : Hid (pick (NM (j + 1)) t2 = 4611686018427387904) := by unfold Hid; rw [EM.out]; exact pick_on _ _
            clear EC EM e
            go_wp2_with (fail)
            refine (rlimit_is 0 _).mono ?_
            rintro e _ ⟨rfl, rfl⟩
            rw [lu]
            go_wp2
            go_roundw
            case rel => exact ⟨j + 1, by go_num, by omega, by rw [PC.out, PM.out]; exact (q_k.set 3 _ (by simp)).alloc _, (Cs.beside q_r _ _ (by omega)).alloc _, by go_grown⟩
            case measure => simp [intOf]; omega
          · have f0 : (lm == 0) = false := by simp [f]
            have PM : Hid (pick (NM (j + 1)) t2 = pick (NM j) t2) := by unfold Hid; rw [EM.out, f0]; exact pick_off _ _
            clear EC EM e f
            go_wp2
            go_roundw
            case rel => exact ⟨j + 1, by go_num, by omega, by rw [PC.out, PM.out]; exact q_k.alloc _, q_r.alloc _, by go_grown⟩
            case measure => simp [intOf]; omega
      · obtain rfl : j = zs.length := by omega
        generalize pick (NC zs.length) t1 = v0 at *
        generalize pick (NM zs.length) t2 = v3 at *
        generalize wgt s1 = v1 at *
        have x0 : wr.cell? ⟨kb, 0, none⟩ = some (.int .i64 v0) := q_k.1 0 _ rfl
        have x1 : wr.cell? ⟨kb, 1, none⟩ = some (.int .i64 v1) := q_k.1 1 _ rfl
        have x2 : wr.cell? ⟨kb, 2, none⟩ = some (.int .i64 s2) := q_k.1 2 _ rfl
        have x3 : wr.cell? ⟨kb, 3, none⟩ = some (.int .i64 v3) := q_k.1 3 _ rfl
        have x4 : wr.cell? ⟨kb, 4, none⟩ = some (.int .i64 t3) := q_k.1 4 _ rfl
        have r0 : wr.cell? ⟨w.heap.size + 1, 0, none⟩ = some (.int .i64 0) := q_r.1 0 _ rfl
        have r1 : wr.cell? ⟨w.heap.size + 1, 1, none⟩ = some (.int .i64 0) := q_r.1 1 _ rfl
        have r2 : wr.cell? ⟨w.heap.size + 1, 2, none⟩ = some (.int .i64 0) := q_r.1 2 _ rfl
        have r3 : wr.cell? ⟨w.heap.size + 1, 3, none⟩ = some (.int .i64 0) := q_r.1 3 _ rfl
        have r4 : wr.cell? ⟨w.heap.size + 1, 4, none⟩ = some (.int .i64 0) := q_r.1 4 _ rfl
        have rF0 : wr.frozen? ⟨w.heap.size + 1, 0, none⟩ = false := q_r.2.1 0 (by simp)
        have rF1 : wr.frozen? ⟨w.heap.size + 1, 1, none⟩ = false := q_r.2.1 1 (by simp)
        have rF2 : wr.frozen? ⟨w.heap.size + 1, 2, none⟩ = false := q_r.2.1 2 (by simp)
        have rF3 : wr.frozen? ⟨w.heap.size + 1, 3, none⟩ = false := q_r.2.1 3 (by simp)
        have rF4 : wr.frozen? ⟨w.heap.size + 1, 4, none⟩ = false := q_r.2.1 4 (by simp)
        have rz := q_r.2.2
        clear q_k q_r
        go_wp2
        refine bodyPost_ret (v := R) (by rw [X.out]; simp [results, Tryd.results13, go_sem, r0, r1, r2, r3, r4]) rfl ⟨rfl, by go_grown⟩

end Go.Proofs.YtaeejemknmjglaaDoor.Sp
