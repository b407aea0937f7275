/-
  The statement KnobsOf as a contract at this program. Conditions: the containers read as a list; the names' lengths fit the machine; the tables of the program lie as its text lays them.
-/
import Derived.Test.YtaeejemknmjglaaDoorRH
import Derived.Test.YtaeejemknmjglaaDoorRG
namespace Go.Proofs.YtaeejemknmjglaaDoor.Sp
open Go.RowKit

set_option maxHeartbeats 1000000 in
set_option maxRecDepth 100000 in
theorem great_is {v : Value} {zs : List Ct} (pn : ByteArray) (pr po : Int) (w : World) (h : RdC w v zs) :
    Calls Tryd.prog 9 #[.agg #[.string pn, .int .i64 pr, .int .i64 po, v]] w fun e w' => ∃ g : Int, e = .returned (.int .i64 g) ∧ (51 < zs.length → g = 5000) ∧ Below w.heap.size w w' := by
  obtain ⟨a, cap, rfl, h1, h2, h3⟩ := h
  have H3 : Hid (∀ (j : Nat) (c : Ct), zs[j]? = some c → c.n.size ≤ maxLen ∧ ∃ b off : Nat, a = some ⟨b, off, none⟩ ∧ Ten w b (off + j * 10) c) := h3
  clear h3
  have zl : zs.length ≤ maxLen := by omega
  unfold maxLen at zl
  go_enter Tryd.func9, Tryd.ntmps9
  go_wp2
  go_loopw [3, 12] (fun s3 f wr => ∃ (j : Nat) (n : Int), s3 = .int .i64 n ∧ f = .int .i64 j ∧ j ≤ zs.length ∧ j ≤ 51 ∧ Below w.heap.size w wr) (fun _ f _ => zs.length - (intOf f).toNat)
  case atStart => exact ⟨0, _, rfl, rfl, by omega, by omega, by go_grown⟩
  case round =>
    obtain ⟨j, n, rfl, rfl, jl, j5, HB⟩ := hrel
    have hs := HB.size
    by_cases cj : j < zs.length
    · obtain ⟨⟨m, rc, rm, rh, lc, lm, lh, x, y, z⟩, hdj⟩ : ∃ d, zs[j]? = some d := ⟨zs[j], List.getElem?_eq_getElem cj⟩
      obtain ⟨-, b, off, rfl, T⟩ := H3.out j _ hdj
      obtain ⟨c0, c1, c2, c3, c4, c5, c6, c7, c8, c9⟩ := T.later HB
      simp only at c0 c1 c2 c3 c4 c5 c6 c7 c8 c9
      have j0 : (0 : Int) ≤ (j : Int) := by omega
      have j1 : (j : Int) < (zs.length : Int) := by omega
      clear T hdj
      by_cases k : (50 : Int) < (j : Int)
      · go_wp2
        go_ret
        exact ⟨_, rfl, fun _ => rfl, by go_grown⟩
      · go_wp2
        go_roundw
        case rel => exact ⟨j + 1, _, rfl, by go_num, by omega, by omega, by go_grown⟩
        case measure => simp [intOf]; omega
    · go_wp2
      go_ret
      exact ⟨_, rfl, fun h => by omega, by go_grown⟩

set_option maxHeartbeats 4000000 in
set_option maxRecDepth 100000 in
theorem knobsOf_any (m : ByteArray) (rc rm rh lc lm lh : Int) (x y z : Bool) {v : Value} {zs : List Ct} (pn : ByteArray) (pr po : Int) (hn : m.size ≤ maxLen) (hm : pn.size ≤ maxLen) (w : World) (hL : LaidK w) (h : RdC w v zs) :
    Calls Tryd.prog 3 #[.agg #[.string m, .int .i64 rc, .int .i64 rm, .int .i64 rh, .int .i64 lc, .int .i64 lm, .int .i64 lh, .bool x, .bool y, .bool z], .agg #[.string pn, .int .i64 pr, .int .i64 po, v]] w fun e w' => e = .returned (.bool true) ∧ Below w.heap.size w w' := by
  have HL : Hid (LaidK w) := hL
  have HZ : Hid (RdC w v zs) := h
  have HN : Hid (m.size ≤ maxLen) := hn
  have HM : Hid (pn.size ≤ maxLen) := hm
  clear hL h hn hm
  obtain ⟨a, cap, rfl, -⟩ := id HZ.out
  go_enter Tryd.func3, Tryd.ntmps3
  go_wp2_with (fail)
  refine (firstK_is _ ((HL.out.alloc _).alloc _)).mono ?_
  rintro e w1 ⟨rfl, hw1⟩
  have HBw1 : Below w.heap.size w w1 := Below.trans (by go_grown) (hw1.mono (by first | omega | (simp; done) | (simp; omega)))
  have p_c : Cs w1 (w.heap.size) [.string m, .int .i64 rc, .int .i64 rm, .int .i64 rh, .int .i64 lc, .int .i64 lm, .int .i64 lh, .bool x, .bool y, .bool z] := Cs.later hw1 (by repeat (first | assumption | (refine Cs.new _ _ _ _ ?_; simp; done) | refine Cs.alloc ?_ _ | refine Cs.drew ?_ | (refine Cs.beside ?_ _ _ (by omega))))
  have p_p : Cs w1 (w.heap.size + 1) [.string pn, .int .i64 pr, .int .i64 po, .slice a zs.length cap] := Cs.later hw1 (by repeat (first | assumption | (refine Cs.new _ _ _ _ ?_; simp; done) | refine Cs.alloc ?_ _ | refine Cs.drew ?_ | (refine Cs.beside ?_ _ _ (by omega))))
  have q_c := p_c
  have c0 : w1.cell? ⟨w.heap.size, 0, none⟩ = some (.string m) := p_c.1 0 _ rfl
  have c1 : w1.cell? ⟨w.heap.size, 1, none⟩ = some (.int .i64 rc) := p_c.1 1 _ rfl
  have c2 : w1.cell? ⟨w.heap.size, 2, none⟩ = some (.int .i64 rm) := p_c.1 2 _ rfl
  have c3 : w1.cell? ⟨w.heap.size, 3, none⟩ = some (.int .i64 rh) := p_c.1 3 _ rfl
  have c4 : w1.cell? ⟨w.heap.size, 4, none⟩ = some (.int .i64 lc) := p_c.1 4 _ rfl
  have c5 : w1.cell? ⟨w.heap.size, 5, none⟩ = some (.int .i64 lm) := p_c.1 5 _ rfl
  have c6 : w1.cell? ⟨w.heap.size, 6, none⟩ = some (.int .i64 lh) := p_c.1 6 _ rfl
  have c7 : w1.cell? ⟨w.heap.size, 7, none⟩ = some (.bool x) := p_c.1 7 _ rfl
  have c8 : w1.cell? ⟨w.heap.size, 8, none⟩ = some (.bool y) := p_c.1 8 _ rfl
  have c9 : w1.cell? ⟨w.heap.size, 9, none⟩ = some (.bool z) := p_c.1 9 _ rfl
  have cz : w.heap.size < w1.heap.size := p_c.2.2
  clear p_c
  have q_p := p_p
  have p0 : w1.cell? ⟨w.heap.size + 1, 0, none⟩ = some (.string pn) := p_p.1 0 _ rfl
  have p1 : w1.cell? ⟨w.heap.size + 1, 1, none⟩ = some (.int .i64 pr) := p_p.1 1 _ rfl
  have p2 : w1.cell? ⟨w.heap.size + 1, 2, none⟩ = some (.int .i64 po) := p_p.1 2 _ rfl
  have p3 : w1.cell? ⟨w.heap.size + 1, 3, none⟩ = some (.slice a zs.length cap) := p_p.1 3 _ rfl
  have pz : w.heap.size + 1 < w1.heap.size := p_p.2.2
  clear p_p
  have hsw1 := hw1.size
  (try simp at hsw1)
  clear hw1
  have L1 : Hid (LaidK w1) := HL.out.later HBw1
  have Z1 : Hid (RdC w1 (.slice a zs.length cap) zs) := HZ.out.later HBw1
  clear HL HZ
  by_cases n3 : 300 < (m.size : Int)
  · go_wp2
    go_ret
    exact ⟨rfl, by go_grown⟩
  go_wp2_with (fail)
  refine (great_is pn pr po _ Z1.out).mono ?_
  rintro e w2 ⟨G, rfl, -, hw2⟩
  have HB2 : Below w.heap.size w w2 := HBw1.trans (hw2.mono HBw1.size)
  have c_2 := Cs.later hw2 q_c
  have p_2 := Cs.later hw2 q_p
  have L2 : Hid (LaidK w2) := L1.out.later hw2
  have Z2 : Hid (RdC w2 (.slice a zs.length cap) zs) := Z1.out.later hw2
  clear q_c q_p c0 c1 c2 c3 c4 c5 c6 c7 c8 c9 cz p0 p1 p2 p3 pz hw2 HBw1 L1 Z1
  by_cases g2 : 2000 < G
  · go_wp2
    go_ret
    exact ⟨rfl, HB2⟩
  obtain ⟨v0, v1, v2, v3, v4, hv⟩ : ∃ v0 v1 v2 v3 v4 : Int, (if ctB m rc rm rh lc lm lh = true then kctV rc rm lc lm lh else k0V) = .agg #[.int .i64 v0, .int .i64 v1, .int .i64 v2, .int .i64 v3, .int .i64 v4] := by
    by_cases k : ctB m rc rm rh lc lm lh = true
    · exact ⟨_, _, _, _, _, by rw [if_pos k]⟩
    · exact ⟨_, _, _, _, _, by rw [if_neg k]⟩
  obtain ⟨u0, u1, u2, u3, u4, hu⟩ : ∃ u0 u1 u2 u3 u4 : Int, (if podB pn pr po zs = true then podV zs else k0V) = .agg #[.int .i64 u0, .int .i64 u1, .int .i64 u2, .int .i64 u3, .int .i64 u4] := by
    by_cases k : podB pn pr po zs = true
    · exact ⟨_, _, _, _, _, by rw [if_pos k]⟩
    · exact ⟨_, _, _, _, _, by rw [if_neg k]⟩
  have C1 : Hid (∀ w, LaidK w → Calls Tryd.prog 10 #[.agg #[.string m, .int .i64 rc, .int .i64 rm, .int .i64 rh, .int .i64 lc, .int .i64 lm, .int .i64 lh, .bool x, .bool y, .bool z]] w fun e w' => e = .returned (.agg #[.int .i64 v0, .int .i64 v1, .int .i64 v2, .int .i64 v3, .int .i64 v4]) ∧ Below w.heap.size w w') := fun w h => by rw [← hv]; exact containerK_is m rc rm rh lc lm lh x y z HN.out w h.1
  have C2 : Hid (∀ w, Calls Tryd.prog 11 #[.agg #[.string m, .int .i64 rc, .int .i64 rm, .int .i64 rh, .int .i64 lc, .int .i64 lm, .int .i64 lh, .bool x, .bool y, .bool z]] w fun e w' => e = .returned (.agg #[.int .i64 v0, .int .i64 v1, .int .i64 v2, .int .i64 v3, .int .i64 v4]) ∧ Below w.heap.size w w') := fun w => by rw [← hv]; exact rcontainerK_is m rc rm rh lc lm lh x y z HN.out w
  have C3 : Hid (∀ w, LaidK w → RdC w (.slice a zs.length cap) zs → Calls Tryd.prog 12 #[.agg #[.string pn, .int .i64 pr, .int .i64 po, .slice a zs.length cap]] w fun e w' => e = .returned (.agg #[.int .i64 u0, .int .i64 u1, .int .i64 u2, .int .i64 u3, .int .i64 u4]) ∧ Below w.heap.size w w') := fun w h1 h2 => by rw [← hu]; exact podK_is pn pr po HM.out w h1.1 h2
  have C4 : Hid (∀ w, RdC w (.slice a zs.length cap) zs → Calls Tryd.prog 13 #[.agg #[.string pn, .int .i64 pr, .int .i64 po, .slice a zs.length cap]] w fun e w' => e = .returned (.agg #[.int .i64 u0, .int .i64 u1, .int .i64 u2, .int .i64 u3, .int .i64 u4]) ∧ Below w.heap.size w w') := fun w h2 => by rw [← hu]; exact rpodK_is pn pr po HM.out w h2
  clear hv hu HN HM
  go_upto_region 5 with (fail)
  clear n3 g2
  have F_0 : Hid ((Cs _ w.heap.size [.string m, .int .i64 rc, .int .i64 rm, .int .i64 rh, .int .i64 lc, .int .i64 lm, .int .i64 lh, .bool x, .bool y, .bool z] ∧ Cs _ (w.heap.size + 1) [.string pn, .int .i64 pr, .int .i64 po, .slice a zs.length cap]) ∧ LaidK _ ∧ RdC _ (.slice a zs.length cap) zs ∧ Below w.heap.size w _) := ⟨⟨Cs.drew c_2, Cs.drew p_2⟩, L2.out.later (Below.drew (Below.refl _ _)), Z2.out.later (Below.drew (Below.refl _ _)), Below.drew HB2⟩
  refine wp_region_noPanic ?_
  refine wp_region_held_drew (S := fun w' => Cs w' w.heap.size [.string m, .int .i64 rc, .int .i64 rm, .int .i64 rh, .int .i64 lc, .int .i64 lm, .int .i64 lh, .bool x, .bool y, .bool z] ∧ Cs w' (w.heap.size + 1) [.string pn, .int .i64 pr, .int .i64 po, .slice a zs.length cap]) (by kernel_rfl) ?_ (fun hHeld => ?_)
  · exact F_0.out.1
  refine wpAnyH_take (i := 0) (v := ?_) rfl (by kernel_rfl) (by kernel_rfl) (by kernel_rfl) (fun _ _ _ h => h) (Or.inl ⟨by rfl, ?_⟩) (by assumption) ?_
  rotate_left
  · (intro wS hSw; have c0 := hSw.1.1 0 _ rfl; have c1 := hSw.1.1 1 _ rfl; have c2 := hSw.1.1 2 _ rfl; have c3 := hSw.1.1 3 _ rfl; have c4 := hSw.1.1 4 _ rfl; have c5 := hSw.1.1 5 _ rfl; have c6 := hSw.1.1 6 _ rfl; have c7 := hSw.1.1 7 _ rfl; have c8 := hSw.1.1 8 _ rfl; have c9 := hSw.1.1 9 _ rfl; have cz := hSw.1.2.2; have p0 := hSw.2.1 0 _ rfl; have p1 := hSw.2.1 1 _ rfl; have p2 := hSw.2.1 2 _ rfl; have p3 := hSw.2.1 3 _ rfl; have pz := hSw.2.2.2; go_simp; try with_reducible rfl)
  change wpAnyH _ _ _ _ _ _ _ (Act.put _ (some 16) _) _
  simp only [Act.put, List.setIfInBounds_toArray, List.set_cons_zero, List.set_cons_succ]
  refine wpAnyH_take (i := 2) (v := ?_) rfl (by kernel_rfl) (by kernel_rfl) (by kernel_rfl) (fun _ _ _ h => h) (Or.inl ⟨by rfl, ?_⟩) (by assumption) ?_
  rotate_left
  · (intro wS hSw; have c0 := hSw.1.1 0 _ rfl; have c1 := hSw.1.1 1 _ rfl; have c2 := hSw.1.1 2 _ rfl; have c3 := hSw.1.1 3 _ rfl; have c4 := hSw.1.1 4 _ rfl; have c5 := hSw.1.1 5 _ rfl; have c6 := hSw.1.1 6 _ rfl; have c7 := hSw.1.1 7 _ rfl; have c8 := hSw.1.1 8 _ rfl; have c9 := hSw.1.1 9 _ rfl; have cz := hSw.1.2.2; have p0 := hSw.2.1 0 _ rfl; have p1 := hSw.2.1 1 _ rfl; have p2 := hSw.2.1 2 _ rfl; have p3 := hSw.2.1 3 _ rfl; have pz := hSw.2.2.2; go_simp; try with_reducible rfl)
  change wpAnyH _ _ _ _ _ _ _ (Act.put _ (some 18) _) _
  simp only [Act.put, List.setIfInBounds_toArray, List.set_cons_zero, List.set_cons_succ]
  refine wpAnyH_ready (rs := [1]) (by kernel_rfl) (by simp) ?_
  refine AllReadyH.cons rfl (fun K hK => ?_) AllReadyH.nil
  go_simp
  refine (C1.out _ F_0.out.2.1).mono ?_
  rintro e v1 ⟨rfl, hv1⟩
  have F_1 : Hid ((Cs v1 w.heap.size [.string m, .int .i64 rc, .int .i64 rm, .int .i64 rh, .int .i64 lc, .int .i64 lm, .int .i64 lh, .bool x, .bool y, .bool z] ∧ Cs v1 (w.heap.size + 1) [.string pn, .int .i64 pr, .int .i64 po, .slice a zs.length cap]) ∧ LaidK v1 ∧ RdC v1 (.slice a zs.length cap) zs ∧ Below w.heap.size w v1) := ⟨⟨Cs.later hv1 F_0.out.1.1, Cs.later hv1 F_0.out.1.2⟩, F_0.out.2.1.later hv1, F_0.out.2.2.1.later hv1, F_0.out.2.2.2.trans (hv1.mono F_0.out.2.2.2.size)⟩
  clear hv1 F_0
  (try go_wp2_with (fail))
  refine hK.out _ _ ?_ (fun hHeld => ?_)
  · exact F_1.out.1
  clear hK K
  refine wpAnyH_ready (rs := [3]) (by kernel_rfl) (by simp) ?_
  refine AllReadyH.cons rfl (fun K hK => ?_) AllReadyH.nil
  go_simp
  refine (C2.out _).mono ?_
  rintro e v2 ⟨rfl, hv2⟩
  have F_2 : Hid ((Cs v2 w.heap.size [.string m, .int .i64 rc, .int .i64 rm, .int .i64 rh, .int .i64 lc, .int .i64 lm, .int .i64 lh, .bool x, .bool y, .bool z] ∧ Cs v2 (w.heap.size + 1) [.string pn, .int .i64 pr, .int .i64 po, .slice a zs.length cap]) ∧ LaidK v2 ∧ RdC v2 (.slice a zs.length cap) zs ∧ Below w.heap.size w v2) := ⟨⟨Cs.later hv2 F_1.out.1.1, Cs.later hv2 F_1.out.1.2⟩, F_1.out.2.1.later hv2, F_1.out.2.2.1.later hv2, F_1.out.2.2.2.trans (hv2.mono F_1.out.2.2.2.size)⟩
  clear hv2 F_1
  (try go_wp2_with (fail))
  refine hK.out _ _ ?_ (fun hHeld => ?_)
  · exact F_2.out.1
  clear hK K
  refine wpAnyH_take (i := 4) (v := ?_) rfl (by kernel_rfl) (by kernel_rfl) (by kernel_rfl) (fun _ _ _ h => h) (Or.inl ⟨by rfl, ?_⟩) (by assumption) ?_
  rotate_left
  · (intro wS hSw; have c0 := hSw.1.1 0 _ rfl; have c1 := hSw.1.1 1 _ rfl; have c2 := hSw.1.1 2 _ rfl; have c3 := hSw.1.1 3 _ rfl; have c4 := hSw.1.1 4 _ rfl; have c5 := hSw.1.1 5 _ rfl; have c6 := hSw.1.1 6 _ rfl; have c7 := hSw.1.1 7 _ rfl; have c8 := hSw.1.1 8 _ rfl; have c9 := hSw.1.1 9 _ rfl; have cz := hSw.1.2.2; have p0 := hSw.2.1 0 _ rfl; have p1 := hSw.2.1 1 _ rfl; have p2 := hSw.2.1 2 _ rfl; have p3 := hSw.2.1 3 _ rfl; have pz := hSw.2.2.2; go_simp; try with_reducible rfl)
  change wpAnyH _ _ _ _ _ _ _ (Act.put _ (some 20) _) _
  simp only [Act.put, List.setIfInBounds_toArray, List.set_cons_zero, List.set_cons_succ]
  refine wpAnyH_take (i := 5) (v := ?_) rfl (by kernel_rfl) (by kernel_rfl) (by kernel_rfl) (fun _ _ _ h => h) (Or.inl ⟨by rfl, ?_⟩) (by assumption) ?_
  rotate_left
  · (intro wS hSw; have c0 := hSw.1.1 0 _ rfl; have c1 := hSw.1.1 1 _ rfl; have c2 := hSw.1.1 2 _ rfl; have c3 := hSw.1.1 3 _ rfl; have c4 := hSw.1.1 4 _ rfl; have c5 := hSw.1.1 5 _ rfl; have c6 := hSw.1.1 6 _ rfl; have c7 := hSw.1.1 7 _ rfl; have c8 := hSw.1.1 8 _ rfl; have c9 := hSw.1.1 9 _ rfl; have cz := hSw.1.2.2; have p0 := hSw.2.1 0 _ rfl; have p1 := hSw.2.1 1 _ rfl; have p2 := hSw.2.1 2 _ rfl; have p3 := hSw.2.1 3 _ rfl; have pz := hSw.2.2.2; go_simp; try with_reducible rfl)
  change wpAnyH _ _ _ _ _ _ _ (Act.put _ (some 21) _) _
  simp only [Act.put, List.setIfInBounds_toArray, List.set_cons_zero, List.set_cons_succ]
  refine wpAnyH_take (i := 6) (v := ?_) rfl (by kernel_rfl) (by kernel_rfl) (by kernel_rfl) (fun _ _ _ h => h) (Or.inl ⟨by rfl, ?_⟩) (by assumption) ?_
  rotate_left
  · (intro wS hSw; have c0 := hSw.1.1 0 _ rfl; have c1 := hSw.1.1 1 _ rfl; have c2 := hSw.1.1 2 _ rfl; have c3 := hSw.1.1 3 _ rfl; have c4 := hSw.1.1 4 _ rfl; have c5 := hSw.1.1 5 _ rfl; have c6 := hSw.1.1 6 _ rfl; have c7 := hSw.1.1 7 _ rfl; have c8 := hSw.1.1 8 _ rfl; have c9 := hSw.1.1 9 _ rfl; have cz := hSw.1.2.2; have p0 := hSw.2.1 0 _ rfl; have p1 := hSw.2.1 1 _ rfl; have p2 := hSw.2.1 2 _ rfl; have p3 := hSw.2.1 3 _ rfl; have pz := hSw.2.2.2; go_simp; try with_reducible rfl)
  change wpAnyH _ _ _ _ _ _ _ (Act.put _ (some 22) _) _
  simp only [Act.put, List.setIfInBounds_toArray, List.set_cons_zero, List.set_cons_succ]
  refine wpAnyH_take (i := 8) (v := ?_) rfl (by kernel_rfl) (by kernel_rfl) (by kernel_rfl) (fun _ _ _ h => h) (Or.inl ⟨by rfl, ?_⟩) (by assumption) ?_
  rotate_left
  · (intro wS hSw; have c0 := hSw.1.1 0 _ rfl; have c1 := hSw.1.1 1 _ rfl; have c2 := hSw.1.1 2 _ rfl; have c3 := hSw.1.1 3 _ rfl; have c4 := hSw.1.1 4 _ rfl; have c5 := hSw.1.1 5 _ rfl; have c6 := hSw.1.1 6 _ rfl; have c7 := hSw.1.1 7 _ rfl; have c8 := hSw.1.1 8 _ rfl; have c9 := hSw.1.1 9 _ rfl; have cz := hSw.1.2.2; have p0 := hSw.2.1 0 _ rfl; have p1 := hSw.2.1 1 _ rfl; have p2 := hSw.2.1 2 _ rfl; have p3 := hSw.2.1 3 _ rfl; have pz := hSw.2.2.2; go_simp; try with_reducible rfl)
  change wpAnyH _ _ _ _ _ _ _ (Act.put _ (some 24) _) _
  simp only [Act.put, List.setIfInBounds_toArray, List.set_cons_zero, List.set_cons_succ]
  refine wpAnyH_ready (rs := [7]) (by kernel_rfl) (by simp) ?_
  refine AllReadyH.cons rfl (fun K hK => ?_) AllReadyH.nil
  go_simp
  refine (C3.out _ F_2.out.2.1 F_2.out.2.2.1).mono ?_
  rintro e v3 ⟨rfl, hv3⟩
  have F_3 : Hid ((Cs v3 w.heap.size [.string m, .int .i64 rc, .int .i64 rm, .int .i64 rh, .int .i64 lc, .int .i64 lm, .int .i64 lh, .bool x, .bool y, .bool z] ∧ Cs v3 (w.heap.size + 1) [.string pn, .int .i64 pr, .int .i64 po, .slice a zs.length cap]) ∧ LaidK v3 ∧ RdC v3 (.slice a zs.length cap) zs ∧ Below w.heap.size w v3) := ⟨⟨Cs.later hv3 F_2.out.1.1, Cs.later hv3 F_2.out.1.2⟩, F_2.out.2.1.later hv3, F_2.out.2.2.1.later hv3, F_2.out.2.2.2.trans (hv3.mono F_2.out.2.2.2.size)⟩
  clear hv3 F_2
  (try go_wp2_with (fail))
  refine hK.out _ _ ?_ (fun hHeld => ?_)
  · exact F_3.out.1
  clear hK K
  refine wpAnyH_ready (rs := [9]) (by kernel_rfl) (by simp) ?_
  refine AllReadyH.cons rfl (fun K hK => ?_) AllReadyH.nil
  go_simp
  refine (C4.out _ F_3.out.2.2.1).mono ?_
  rintro e v4 ⟨rfl, hv4⟩
  have F_4 : Hid ((Cs v4 w.heap.size [.string m, .int .i64 rc, .int .i64 rm, .int .i64 rh, .int .i64 lc, .int .i64 lm, .int .i64 lh, .bool x, .bool y, .bool z] ∧ Cs v4 (w.heap.size + 1) [.string pn, .int .i64 pr, .int .i64 po, .slice a zs.length cap]) ∧ LaidK v4 ∧ RdC v4 (.slice a zs.length cap) zs ∧ Below w.heap.size w v4) := ⟨⟨Cs.later hv4 F_3.out.1.1, Cs.later hv4 F_3.out.1.2⟩, F_3.out.2.1.later hv4, F_3.out.2.2.1.later hv4, F_3.out.2.2.2.trans (hv4.mono F_3.out.2.2.2.size)⟩
  clear hv4 F_3
  (try go_wp2_with (fail))
  refine hK.out _ _ ?_ (fun hHeld => ?_)
  · exact F_4.out.1
  clear hK K
  refine wpAnyH_take (i := 10) (v := ?_) rfl (by kernel_rfl) (by kernel_rfl) (by kernel_rfl) (fun _ _ _ h => h) (Or.inl ⟨by rfl, ?_⟩) (by assumption) ?_
  rotate_left
  · (intro wS hSw; have c0 := hSw.1.1 0 _ rfl; have c1 := hSw.1.1 1 _ rfl; have c2 := hSw.1.1 2 _ rfl; have c3 := hSw.1.1 3 _ rfl; have c4 := hSw.1.1 4 _ rfl; have c5 := hSw.1.1 5 _ rfl; have c6 := hSw.1.1 6 _ rfl; have c7 := hSw.1.1 7 _ rfl; have c8 := hSw.1.1 8 _ rfl; have c9 := hSw.1.1 9 _ rfl; have cz := hSw.1.2.2; have p0 := hSw.2.1 0 _ rfl; have p1 := hSw.2.1 1 _ rfl; have p2 := hSw.2.1 2 _ rfl; have p3 := hSw.2.1 3 _ rfl; have pz := hSw.2.2.2; go_simp; try with_reducible rfl)
  change wpAnyH _ _ _ _ _ _ _ (Act.put _ (some 26) _) _
  simp only [Act.put, List.setIfInBounds_toArray, List.set_cons_zero, List.set_cons_succ]
  refine wpAnyH_take (i := 11) (v := ?_) rfl (by kernel_rfl) (by kernel_rfl) (by kernel_rfl) (fun _ _ _ h => h) (Or.inl ⟨by rfl, ?_⟩) (by assumption) ?_
  rotate_left
  · (intro wS hSw; have c0 := hSw.1.1 0 _ rfl; have c1 := hSw.1.1 1 _ rfl; have c2 := hSw.1.1 2 _ rfl; have c3 := hSw.1.1 3 _ rfl; have c4 := hSw.1.1 4 _ rfl; have c5 := hSw.1.1 5 _ rfl; have c6 := hSw.1.1 6 _ rfl; have c7 := hSw.1.1 7 _ rfl; have c8 := hSw.1.1 8 _ rfl; have c9 := hSw.1.1 9 _ rfl; have cz := hSw.1.2.2; have p0 := hSw.2.1 0 _ rfl; have p1 := hSw.2.1 1 _ rfl; have p2 := hSw.2.1 2 _ rfl; have p3 := hSw.2.1 3 _ rfl; have pz := hSw.2.2.2; go_simp; try with_reducible rfl)
  change wpAnyH _ _ _ _ _ _ _ (Act.put _ (some 27) _) _
  simp only [Act.put, List.setIfInBounds_toArray, List.set_cons_zero, List.set_cons_succ]
  refine wpAnyH_take (i := 12) (v := ?_) rfl (by kernel_rfl) (by kernel_rfl) (by kernel_rfl) (fun _ _ _ h => h) (Or.inl ⟨by rfl, ?_⟩) (by assumption) ?_
  rotate_left
  · (intro wS hSw; have c0 := hSw.1.1 0 _ rfl; have c1 := hSw.1.1 1 _ rfl; have c2 := hSw.1.1 2 _ rfl; have c3 := hSw.1.1 3 _ rfl; have c4 := hSw.1.1 4 _ rfl; have c5 := hSw.1.1 5 _ rfl; have c6 := hSw.1.1 6 _ rfl; have c7 := hSw.1.1 7 _ rfl; have c8 := hSw.1.1 8 _ rfl; have c9 := hSw.1.1 9 _ rfl; have cz := hSw.1.2.2; have p0 := hSw.2.1 0 _ rfl; have p1 := hSw.2.1 1 _ rfl; have p2 := hSw.2.1 2 _ rfl; have p3 := hSw.2.1 3 _ rfl; have pz := hSw.2.2.2; go_simp; try with_reducible rfl)
  change wpAnyH _ _ _ _ _ _ _ (Act.put _ (some 28) _) _
  simp only [Act.put, List.setIfInBounds_toArray, List.set_cons_zero, List.set_cons_succ]
  refine wpAnyH_take (i := 14) (v := ?_) rfl (by kernel_rfl) (by kernel_rfl) (by kernel_rfl) (fun _ _ _ h => h) (Or.inl ⟨by rfl, ?_⟩) (by assumption) ?_
  rotate_left
  · (intro wS hSw; have c0 := hSw.1.1 0 _ rfl; have c1 := hSw.1.1 1 _ rfl; have c2 := hSw.1.1 2 _ rfl; have c3 := hSw.1.1 3 _ rfl; have c4 := hSw.1.1 4 _ rfl; have c5 := hSw.1.1 5 _ rfl; have c6 := hSw.1.1 6 _ rfl; have c7 := hSw.1.1 7 _ rfl; have c8 := hSw.1.1 8 _ rfl; have c9 := hSw.1.1 9 _ rfl; have cz := hSw.1.2.2; have p0 := hSw.2.1 0 _ rfl; have p1 := hSw.2.1 1 _ rfl; have p2 := hSw.2.1 2 _ rfl; have p3 := hSw.2.1 3 _ rfl; have pz := hSw.2.2.2; go_simp; try with_reducible rfl)
  change wpAnyH _ _ _ _ _ _ _ (Act.put _ (some 30) _) _
  simp only [Act.put, List.setIfInBounds_toArray, List.set_cons_zero, List.set_cons_succ]
  refine wpAnyH_ready (rs := [13]) (by kernel_rfl) (by simp) ?_
  refine AllReadyH.cons rfl (fun K hK => ?_) AllReadyH.nil
  go_simp
  refine (root_is _).mono ?_
  rintro e v5 ⟨rfl, hv5⟩
  have F_5 : Hid ((Cs v5 w.heap.size [.string m, .int .i64 rc, .int .i64 rm, .int .i64 rh, .int .i64 lc, .int .i64 lm, .int .i64 lh, .bool x, .bool y, .bool z] ∧ Cs v5 (w.heap.size + 1) [.string pn, .int .i64 pr, .int .i64 po, .slice a zs.length cap]) ∧ LaidK v5 ∧ RdC v5 (.slice a zs.length cap) zs ∧ Below w.heap.size w v5) := ⟨⟨Cs.later hv5 F_4.out.1.1, Cs.later hv5 F_4.out.1.2⟩, F_4.out.2.1.later hv5, F_4.out.2.2.1.later hv5, F_4.out.2.2.2.trans (hv5.mono F_4.out.2.2.2.size)⟩
  clear hv5 F_4
  (try go_wp2_with (fail))
  refine hK.out _ _ ?_ (fun hHeld => ?_)
  · exact F_5.out.1
  clear hK K
  refine wpAnyH_take (i := 15) (v := ?_) rfl (by kernel_rfl) (by kernel_rfl) (by kernel_rfl) (fun _ _ _ h => h) (Or.inl ⟨by rfl, ?_⟩) (by assumption) ?_
  rotate_left
  · (intro wS hSw; have c0 := hSw.1.1 0 _ rfl; have c1 := hSw.1.1 1 _ rfl; have c2 := hSw.1.1 2 _ rfl; have c3 := hSw.1.1 3 _ rfl; have c4 := hSw.1.1 4 _ rfl; have c5 := hSw.1.1 5 _ rfl; have c6 := hSw.1.1 6 _ rfl; have c7 := hSw.1.1 7 _ rfl; have c8 := hSw.1.1 8 _ rfl; have c9 := hSw.1.1 9 _ rfl; have cz := hSw.1.2.2; have p0 := hSw.2.1 0 _ rfl; have p1 := hSw.2.1 1 _ rfl; have p2 := hSw.2.1 2 _ rfl; have p3 := hSw.2.1 3 _ rfl; have pz := hSw.2.2.2; go_simp; try with_reducible rfl)
  change wpAnyH _ _ _ _ _ _ _ (Act.put _ (some 31) _) _
  simp only [Act.put, List.setIfInBounds_toArray, List.set_cons_zero, List.set_cons_succ]
  refine wpAnyH_take (i := 16) (v := ?_) rfl (by kernel_rfl) (by kernel_rfl) (by kernel_rfl) (fun _ _ _ h => h) (Or.inl ⟨by rfl, ?_⟩) (by assumption) ?_
  rotate_left
  · (intro wS hSw; have c0 := hSw.1.1 0 _ rfl; have c1 := hSw.1.1 1 _ rfl; have c2 := hSw.1.1 2 _ rfl; have c3 := hSw.1.1 3 _ rfl; have c4 := hSw.1.1 4 _ rfl; have c5 := hSw.1.1 5 _ rfl; have c6 := hSw.1.1 6 _ rfl; have c7 := hSw.1.1 7 _ rfl; have c8 := hSw.1.1 8 _ rfl; have c9 := hSw.1.1 9 _ rfl; have cz := hSw.1.2.2; have p0 := hSw.2.1 0 _ rfl; have p1 := hSw.2.1 1 _ rfl; have p2 := hSw.2.1 2 _ rfl; have p3 := hSw.2.1 3 _ rfl; have pz := hSw.2.2.2; go_simp; try with_reducible rfl)
  change wpAnyH _ _ _ _ _ _ _ (Act.put _ (some 32) _) _
  simp only [Act.put, List.setIfInBounds_toArray, List.set_cons_zero, List.set_cons_succ]
  refine wpAnyH_take (i := 17) (v := ?_) rfl (by kernel_rfl) (by kernel_rfl) (by kernel_rfl) (fun _ _ _ h => h) (Or.inl ⟨by rfl, ?_⟩) (by assumption) ?_
  rotate_left
  · (intro wS hSw; have c0 := hSw.1.1 0 _ rfl; have c1 := hSw.1.1 1 _ rfl; have c2 := hSw.1.1 2 _ rfl; have c3 := hSw.1.1 3 _ rfl; have c4 := hSw.1.1 4 _ rfl; have c5 := hSw.1.1 5 _ rfl; have c6 := hSw.1.1 6 _ rfl; have c7 := hSw.1.1 7 _ rfl; have c8 := hSw.1.1 8 _ rfl; have c9 := hSw.1.1 9 _ rfl; have cz := hSw.1.2.2; have p0 := hSw.2.1 0 _ rfl; have p1 := hSw.2.1 1 _ rfl; have p2 := hSw.2.1 2 _ rfl; have p3 := hSw.2.1 3 _ rfl; have pz := hSw.2.2.2; go_simp; try with_reducible rfl)
  change wpAnyH _ _ _ _ _ _ _ (Act.put _ (some 4) _) _
  simp only [Act.put, List.setIfInBounds_toArray, List.set_cons_zero, List.set_cons_succ]
  refine wpAnyH_done (by kernel_rfl) ?_ _
  refine NoPanic.normal ?_
  have F9 := F_5.out.2.2.2
  go_wp2_with (fail)
  go_ret
  exact ⟨rfl, F9⟩

end Go.Proofs.YtaeejemknmjglaaDoor.Sp
