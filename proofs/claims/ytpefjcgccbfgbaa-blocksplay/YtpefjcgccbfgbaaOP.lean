/-
  The law BlocksPlay at this program: who holds what, in a table and its clones, is the document's. Conditions: the argument reads as a case.
-/
import Derived.Test.YtpefjcgccbfgbaaOH
import Derived.Deep.CutRange
import Derived.Deep.CutBlock
import Derived.Lib.MinMax
namespace Go.Proofs.Ytpefjcgccbfgbaa.Bk
open Go.RowKit

set_option maxHeartbeats 40000000 in
set_option maxRecDepth 100000 in
theorem play_is {zv ov : Value} {zs : List Zn} {qs : List Oq} (zo ki : Int) (w : World) (hz : RdZ w zv zs) (ho : RdO w ov qs) (wz : (Lit.int .i64 zo).wf = true) (wk : (Lit.int .i64 ki).wf = true) :
    Calls Try.prog 3 #[.agg #[zv, ov, .int .i64 zo, .int .i64 ki]] w fun e w' => e = .returned (.bool true) ∧ Below w.heap.size w w' := by
  have HZ : Hid (RdZ w zv zs) := hz
  have HO : Hid (RdO w ov qs) := ho
  have WZ : Hid ((Lit.int .i64 zo).wf = true ∧ (Lit.int .i64 ki).wf = true) := ⟨wz, wk⟩
  obtain ⟨A, hA⟩ : ∃ A, A = greatB qs := ⟨_, rfl⟩
  have HA : Hid (A = greatB qs) := hA
  have GA : Hid (∀ w1, Below w.heap.size w w1 → Calls Try.prog 7 #[ov] w1 fun e w' => e = .returned (.bool A) ∧ Below w1.heap.size w1 w') := fun w1 hb => by rw [hA]; exact great_is w1 (ho.later hb)
  obtain ⟨R, hR⟩ : ∃ R, R = fits zs := ⟨_, rfl⟩
  have HR : Hid (R = fits zs) := hR
  have NW : Hid (∀ w1, Below w.heap.size w w1 → Calls Try.prog 8 #[zv] w1 fun e w' => NewPost w1 R zs e w') := fun w1 hb => by rw [hR]; exact new_is w1 (hz.later hb)
  have RF : Hid (∀ w1, Below w.heap.size w w1 → Calls Try.prog 9 #[zv] w1 fun e w' => e = .returned (.bool R) ∧ Below w1.heap.size w1 w') := fun w1 hb => by rw [hR]; exact rfits_is w1 (hz.later hb)
  clear hA hR wz wk
  obtain ⟨az, cz, rfl, -, zm, -⟩ := hz
  obtain ⟨ao, co, rfl, oc, om, ho3⟩ := ho
  have HO3 : Hid (∀ (j : Nat) (x : Oq), qs[j]? = some x → GdK x.p x.c x.k ∧ ∃ b off : Nat, ao = some ⟨b, off, none⟩ ∧ ElO w b (off + j * 13) x) := ho3
  have zl : qs.length ≤ maxLen := by omega
  unfold maxLen at zl
  clear ho3
  go_enter Try.func3, Try.ntmps3
  go_wp2_with (fail)
  have q0 : Cs (w.alloc (.cells #[.slice az zs.length cz, .slice ao qs.length co, .int .i64 zo, .int .i64 ki] 25)) w.heap.size [.slice az zs.length cz, .slice ao qs.length co, .int .i64 zo, .int .i64 ki] := Cs.new _ _ _ _ rfl
  have HB0 : Below w.heap.size w (w.alloc (.cells #[.slice az zs.length cz, .slice ao qs.length co, .int .i64 zo, .int .i64 ki] 25)) := by go_grown
  obtain ⟨b1, hb1⟩ : ∃ b1, b1 = w.heap.size := ⟨_, rfl⟩
  have e1 : Value.pointer (some ⟨w.heap.size, 0, none⟩) = .pointer (some ⟨b1, 0, none⟩) := by rw [hb1]
  have q0' : Cs (w.alloc (.cells #[.slice az zs.length cz, .slice ao qs.length co, .int .i64 zo, .int .i64 ki] 25)) b1 [.slice az zs.length cz, .slice ao qs.length co, .int .i64 zo, .int .i64 ki] := by rw [hb1]; exact q0
  rw [e1]
  clear hb1 e1 q0
  refine (first_is _).mono ?_
  rintro e w1 ⟨rfl, hb⟩
  have q1 := Cs.later hb q0'
  have HB1 := HB0.trans (hb.mono HB0.size)
  clear q0' HB0 hb
  go_upto_region 3 with (fail)
  have BW : Hid (Below w1.heap.size w1 _) := Below.drew (Below.refl _ _)
  refine wp_region_noPanic ?_
  refine wp_region_held_drew (S := fun w' => Cs w' b1 [.slice az zs.length cz, .slice ao qs.length co, .int .i64 zo, .int .i64 ki]) (by kernel_rfl) ?_ (fun hHeld => ?_)
  · exact Cs.later BW.out q1
  generalize World.drew _ = wd0 at *
  refine wpAnyH_take (i := 0) (v := ?_) rfl (by kernel_rfl) (by kernel_rfl) (by kernel_rfl) (fun _ _ _ h => h) (Or.inl ⟨by rfl, ?_⟩) (by assumption) ?_
  rotate_left
  · (intro wS hSw; have c0 := hSw.1 0 _ rfl; have c1 := hSw.1 1 _ rfl; have c2 := hSw.1 2 _ rfl; have c3 := hSw.1 3 _ rfl; go_simp; try with_reducible rfl)
  change wpAnyH _ _ _ _ _ _ _ (Act.put _ (some 31) _) _
  simp only [Act.put, List.setIfInBounds_toArray, List.set_cons_zero, List.set_cons_succ]
  refine wpAnyH_take (i := 1) (v := ?_) rfl (by kernel_rfl) (by kernel_rfl) (by kernel_rfl) (fun _ _ _ h => h) (Or.inl ⟨by rfl, ?_⟩) (by assumption) ?_
  rotate_left
  · (intro wS hSw; have c0 := hSw.1 0 _ rfl; have c1 := hSw.1 1 _ rfl; have c2 := hSw.1 2 _ rfl; have c3 := hSw.1 3 _ rfl; go_simp; try with_reducible rfl)
  change wpAnyH _ _ _ _ _ _ _ (Act.put _ (some 32) _) _
  simp only [Act.put, List.setIfInBounds_toArray, List.set_cons_zero, List.set_cons_succ]
  refine wpAnyH_take (i := 2) (v := ?_) rfl (by kernel_rfl) (by kernel_rfl) (by kernel_rfl) (fun _ _ _ h => h) (Or.inl ⟨by rfl, ?_⟩) (by assumption) ?_
  rotate_left
  · (intro wS hSw; have c0 := hSw.1 0 _ rfl; have c1 := hSw.1 1 _ rfl; have c2 := hSw.1 2 _ rfl; have c3 := hSw.1 3 _ rfl; go_simp; try with_reducible rfl)
  change wpAnyH _ _ _ _ _ _ _ (Act.put _ (some 33) _) _
  simp only [Act.put, List.setIfInBounds_toArray, List.set_cons_zero, List.set_cons_succ]
  refine wpAnyH_take (i := 3) (v := ?_) rfl (by kernel_rfl) (by kernel_rfl) (by kernel_rfl) (fun _ _ _ h => h) (Or.inl ⟨by rfl, ?_⟩) (by assumption) ?_
  rotate_left
  · (intro wS hSw; have c0 := hSw.1 0 _ rfl; have c1 := hSw.1 1 _ rfl; have c2 := hSw.1 2 _ rfl; have c3 := hSw.1 3 _ rfl; go_simp; try with_reducible rfl)
  change wpAnyH _ _ _ _ _ _ _ (Act.put _ (some 34) _) _
  simp only [Act.put, List.setIfInBounds_toArray, List.set_cons_zero, List.set_cons_succ]
  refine wpAnyH_take (i := 4) (v := ?_) rfl (by kernel_rfl) (by kernel_rfl) (by kernel_rfl) (fun _ _ _ h => h) (Or.inl ⟨by rfl, ?_⟩) (by assumption) ?_
  rotate_left
  · (intro wS hSw; have c0 := hSw.1 0 _ rfl; have c1 := hSw.1 1 _ rfl; have c2 := hSw.1 2 _ rfl; have c3 := hSw.1 3 _ rfl; go_simp; try with_reducible rfl)
  change wpAnyH _ _ _ _ _ _ _ (Act.put _ (some 35) _) _
  simp only [Act.put, List.setIfInBounds_toArray, List.set_cons_zero, List.set_cons_succ]
  refine wpAnyH_take (i := 5) (v := ?_) rfl (by kernel_rfl) (by kernel_rfl) (by kernel_rfl) (fun _ _ _ h => h) (Or.inl ⟨by rfl, ?_⟩) (by assumption) ?_
  rotate_left
  · (intro wS hSw; have c0 := hSw.1 0 _ rfl; have c1 := hSw.1 1 _ rfl; have c2 := hSw.1 2 _ rfl; have c3 := hSw.1 3 _ rfl; go_simp; try with_reducible rfl)
  change wpAnyH _ _ _ _ _ _ _ (Act.put _ (some 36) _) _
  simp only [Act.put, List.setIfInBounds_toArray, List.set_cons_zero, List.set_cons_succ]
  refine wpAnyH_take (i := 6) (v := ?_) rfl (by kernel_rfl) (by kernel_rfl) (by kernel_rfl) (fun _ _ _ h => h) (Or.inl ⟨by rfl, ?_⟩) (by assumption) ?_
  rotate_left
  · (intro wS hSw; have c0 := hSw.1 0 _ rfl; have c1 := hSw.1 1 _ rfl; have c2 := hSw.1 2 _ rfl; have c3 := hSw.1 3 _ rfl; go_simp; try with_reducible rfl)
  change wpAnyH _ _ _ _ _ _ _ (Act.put _ (some 37) _) _
  simp only [Act.put, List.setIfInBounds_toArray, List.set_cons_zero, List.set_cons_succ]
  refine wpAnyH_take (i := 7) (v := ?_) rfl (by kernel_rfl) (by kernel_rfl) (by kernel_rfl) (fun _ _ _ h => h) (Or.inl ⟨by rfl, ?_⟩) (by assumption) ?_
  rotate_left
  · (intro wS hSw; have c0 := hSw.1 0 _ rfl; have c1 := hSw.1 1 _ rfl; have c2 := hSw.1 2 _ rfl; have c3 := hSw.1 3 _ rfl; go_simp; try with_reducible rfl)
  change wpAnyH _ _ _ _ _ _ _ (Act.put _ (some 38) _) _
  simp only [Act.put, List.setIfInBounds_toArray, List.set_cons_zero, List.set_cons_succ]
  refine wpAnyH_take (i := 8) (v := ?_) rfl (by kernel_rfl) (by kernel_rfl) (by kernel_rfl) (fun _ _ _ h => h) (Or.inl ⟨by rfl, ?_⟩) (by assumption) ?_
  rotate_left
  · (intro wS hSw; have c0 := hSw.1 0 _ rfl; have c1 := hSw.1 1 _ rfl; have c2 := hSw.1 2 _ rfl; have c3 := hSw.1 3 _ rfl; go_simp; try with_reducible rfl)
  change wpAnyH _ _ _ _ _ _ _ (Act.put _ (some 3) _) _
  simp only [Act.put, List.setIfInBounds_toArray, List.set_cons_zero, List.set_cons_succ]
  refine wpAnyH_take (i := 9) (v := ?_) rfl (by kernel_rfl) (by kernel_rfl) (by kernel_rfl) (fun _ _ _ h => h) (Or.inl ⟨by rfl, ?_⟩) (by assumption) ?_
  rotate_left
  · (intro wS hSw; have c0 := hSw.1 0 _ rfl; have c1 := hSw.1 1 _ rfl; have c2 := hSw.1 2 _ rfl; have c3 := hSw.1 3 _ rfl; go_simp; try with_reducible rfl)
  change wpAnyH _ _ _ _ _ _ _ (Act.put _ (some 4) _) _
  simp only [Act.put, List.setIfInBounds_toArray, List.set_cons_zero, List.set_cons_succ]
  refine wpAnyH_take (i := 10) (v := ?_) rfl (by kernel_rfl) (by kernel_rfl) (by kernel_rfl) (fun _ _ _ h => h) (Or.inl ⟨by rfl, ?_⟩) (by assumption) ?_
  rotate_left
  · (intro wS hSw; have c0 := hSw.1 0 _ rfl; have c1 := hSw.1 1 _ rfl; have c2 := hSw.1 2 _ rfl; have c3 := hSw.1 3 _ rfl; go_simp; try with_reducible rfl)
  change wpAnyH _ _ _ _ _ _ _ (Act.put _ (some 5) _) _
  simp only [Act.put, List.setIfInBounds_toArray, List.set_cons_zero, List.set_cons_succ]
  refine wpAnyH_take (i := 11) (v := ?_) rfl (by kernel_rfl) (by kernel_rfl) (by kernel_rfl) (fun _ _ _ h => h) (Or.inl ⟨by rfl, ?_⟩) (by assumption) ?_
  rotate_left
  · (intro wS hSw; have c0 := hSw.1 0 _ rfl; have c1 := hSw.1 1 _ rfl; have c2 := hSw.1 2 _ rfl; have c3 := hSw.1 3 _ rfl; go_simp; try with_reducible rfl)
  change wpAnyH _ _ _ _ _ _ _ (Act.put _ (some 6) _) _
  simp only [Act.put, List.setIfInBounds_toArray, List.set_cons_zero, List.set_cons_succ]
  refine wpAnyH_done (by kernel_rfl) ?_ _
  refine NoPanic.normal ?_
  have HB2 : Below w.heap.size w wd0 := HB1.trans (BW.out.mono HB1.size)
  clear q1 HB1 BW
  go_wp2_with (fail)
  refine (GA.out _ HB2).mono ?_
  rintro e w3 ⟨rfl, hb⟩
  have HB3 := HB2.trans (hb.mono HB2.size)
  clear HB2 hb
  cases A with
  | true =>
    clear HA GA NW RF HO3
    go_wp2
    go_ret
    exact ⟨rfl, HB3⟩
  | false =>
    obtain ⟨hn, hl⟩ := great_no HA.out.symm
    have HN : Hid (qs.length ≤ 60) := hn
    clear HA GA hn hl
    by_cases n20 : (20 : Int) < (zs.length : Int)
    · clear NW RF HO3
      go_wp2
      go_ret
      exact ⟨rfl, HB3⟩
    go_wp2_with (fail)
    refine (NW.out w3 HB3).mono ?_
    rintro e w4 ⟨hb, P4⟩
    have HB4 := HB3.trans (hb.mono HB3.size)
    have S3 : Hid (w.heap.size ≤ w3.heap.size) := HB3.size
    clear NW HB3 hb
    rcases P4 with ⟨rfl, b, m, rfl, T4, lb, lm⟩ | ⟨rfl, rfl⟩
    case inr =>
      have sm : ∀ w1 : World, Sem.run Try.prog (Op.equalIn 10000 47 (spV nought) (.agg #[.int .i64 0, .int .i64 0, .int .i64 0, .int .i64 0, .int .i64 0, .int .i64 0, .int .i64 0, .int .i64 0])) w1 = .ok true w1 := fun w1 => sp_eq 9998 nought nought w1
      go_wp2_with (fail)
      refine (RF.out w4 HB4).mono ?_
      rintro e x0 ⟨rfl, hb⟩
      have N0 := HB4.trans (hb.mono HB4.size)
      clear HB4 hb RF HO3
      go_wp2_with (fail)
      refine (zone_nil _).mono ?_
      rintro e x1 ⟨rfl, hb⟩
      have N1 : Below w.heap.size w x1 := by first | exact N0.trans (hb.mono N0.size) | exact (N0.alloc N0.size _).trans (hb.mono (N0.alloc N0.size _).size)
      clear N0 hb
      go_wp2_with (fail)
      refine (zones_nil _).mono ?_
      rintro e x2 ⟨rfl, hb⟩
      have N2 : Below w.heap.size w x2 := by first | exact N1.trans (hb.mono N1.size) | exact (N1.alloc N1.size _).trans (hb.mono (N1.alloc N1.size _).size)
      clear N1 hb
      go_wp2_with (fail)
      refine (troom_nil _).mono ?_
      rintro e x3 ⟨rfl, hb⟩
      have N3 : Below w.heap.size w x3 := by first | exact N2.trans (hb.mono N2.size) | exact (N2.alloc N2.size _).trans (hb.mono (N2.alloc N2.size _).size)
      clear N2 hb
      go_wp2_with (fail)
      refine (free_nil _).mono ?_
      rintro e x4 ⟨rfl, hb⟩
      have N4 : Below w.heap.size w x4 := by first | exact N3.trans (hb.mono N3.size) | exact (N3.alloc N3.size _).trans (hb.mono (N3.alloc N3.size _).size)
      clear N3 hb
      go_wp2_with (fail)
      refine (release_nil _ _).mono ?_
      rintro e x5 ⟨rfl, hb⟩
      have N5 : Below w.heap.size w x5 := by first | exact N4.trans (hb.mono N4.size) | exact (N4.alloc N4.size _).trans (hb.mono (N4.alloc N4.size _).size)
      clear N4 hb
      go_wp2_with (fail)
      refine (lawrows_nil 9 (by omega) _).mono ?_
      rintro e x6 ⟨v9, rfl, rd, hb⟩
      have N6 : Below w.heap.size w x6 := by first | exact N5.trans (hb.mono N5.size) | exact (N5.alloc N5.size _).trans (hb.mono (N5.alloc N5.size _).size)
      clear N5 hb
      obtain ⟨av, cv, rfl, -, -, -⟩ := rd
      go_wp2_with (fail)
      refine (put_nil _ _ _ nought _).mono ?_
      rintro e x7 ⟨rfl, hb⟩
      have N7 : Below w.heap.size w x7 := by first | exact N6.trans (hb.mono N6.size) | exact (N6.alloc N6.size _).trans (hb.mono (N6.alloc N6.size _).size)
      clear N6 hb
      go_wp2_with (fail)
      refine (held_nil _ _ _ _).mono ?_
      rintro e x8 ⟨rfl, hb⟩
      have N8 : Below w.heap.size w x8 := by first | exact N7.trans (hb.mono N7.size) | exact (N7.alloc N7.size _).trans (hb.mono (N7.alloc N7.size _).size)
      clear N7 hb
      go_wp2_with (fail)
      refine (frees_nil _).mono ?_
      rintro e x9 ⟨rfl, hb⟩
      have N9 : Below w.heap.size w x9 := by first | exact N8.trans (hb.mono N8.size) | exact (N8.alloc N8.size _).trans (hb.mono (N8.alloc N8.size _).size)
      clear N8 hb
      go_wp2_with (fail)
      refine (clone_nil _).mono ?_
      rintro e x10 ⟨rfl, hb⟩
      have N10 : Below w.heap.size w x10 := by first | exact N9.trans (hb.mono N9.size) | exact (N9.alloc N9.size _).trans (hb.mono (N9.alloc N9.size _).size)
      clear N9 hb
      go_wp2_with (fail)
      refine (same_nil _).mono ?_
      rintro e x11 ⟨rfl, hb⟩
      have N11 : Below w.heap.size w x11 := by first | exact N10.trans (hb.mono N10.size) | exact (N10.alloc N10.size _).trans (hb.mono (N10.alloc N10.size _).size)
      clear N10 hb
      go_wp2
      go_ret
      exact ⟨rfl, N11⟩
    have HFT : Hid (fits zs = true) := HR.out.symm
    have HB6 := HB4
    go_wp2_with (fail)
    refine (RF.out w4 HB4).mono ?_
    rintro e w5 ⟨rfl, hb⟩
    have T5 := Tb.later hb T4
    have HB5 := HB4.trans (hb.mono HB4.size)
    have LM : Hid (w.heap.size ≤ m) := Nat.le_trans S3.out lm
    clear RF HB4 HB6 hb T4 lb lm S3
    go_upto_region 11 with (fail)
    have B1 : Below w5.heap.size w5 (w5.alloc (.cells #[tbV b] 28)) := (Below.refl _ _).alloc (Nat.le_refl _) _
    have B2 : Below (w5.alloc (.cells #[tbV b] 28)).heap.size (w5.alloc (.cells #[tbV b] 28)) ((w5.alloc (.cells #[tbV b] 28)).alloc (.cells #[.slice az zs.length cz, .slice none 0 0] 54)) := (Below.refl _ _).alloc (Nat.le_refl _) _
    have T6 := Tb.later B1 T5
    have T7 := Tb.later B2 T6
    have B7 : Below w5.heap.size w5 ((w5.alloc (.cells #[tbV b] 28)).alloc (.cells #[.slice az zs.length cz, .slice none 0 0] 54)) := B1.trans (B2.mono B1.size)
    have HB7 := HB5.trans (B7.mono HB5.size)
    have sz : (w5.alloc (.cells #[tbV b] 28)).heap.size = w5.heap.size + 1 := World.size_alloc _ _
    have OA5 : OwnA (w5.alloc (.cells #[tbV b] 28)) w.heap.size (.slice (some ⟨w5.heap.size, 0, none⟩) 1 1) [⟨b, m, [], .slice none 0 0, []⟩] := World.ownsRow_lit w5 #[tbV b] 1 HB5.size (by unfold maxLen; omega) rfl
    have OT5 : OwnT ((w5.alloc (.cells #[tbV b] 28)).alloc (.cells #[.slice az zs.length cz, .slice none 0 0] 54)) w.heap.size (.slice az zs.length cz) (.slice (some ⟨(w5.alloc (.cells #[tbV b] 28)).heap.size, 0, none⟩) 1 1) [⟨b, m, [], .slice none 0 0, []⟩] := World.ownsRow_lit (w5.alloc (.cells #[tbV b] 28)) #[.slice az zs.length cz, .slice none 0 0] 1 (by have := HB5.size; omega) (by unfold maxLen; omega) rfl
    have F5 := (Off.new T5 (Nat.le_refl _)).kept T5 (below_grown B7) (by simp)
    have F6 := (Off.new T6 (Nat.le_refl _)).kept T6 (below_grown B2) (by simp)
    rw [sz] at OT5 F6
    have SY : Sys ((w5.alloc (.cells #[tbV b] 28)).alloc (.cells #[.slice az zs.length cz, .slice none 0 0] 54)) w.heap.size 0 zs (.slice az zs.length cz) w5.heap.size 1 (w5.heap.size + 1) 1 [⟨b, m, [], .slice none 0 0, []⟩] :=
      ⟨⟨⟨fun e he => by rw [List.mem_singleton.1 he]; exact ⟨T7, Ord.nil (fits_all HFT.out), Nat.le_refl _⟩, fun e he => by rw [List.mem_singleton.1 he]; exact OwnW.nil _ _,
        fun i j e f hi hj hn => by have a := (List.getElem?_eq_some_iff.1 hi).1; have c := (List.getElem?_eq_some_iff.1 hj).1; simp at a c; omega, fun e he => by rw [List.mem_singleton.1 he]; exact LM.out⟩,
       own_later OA5 B2, OT5, fun e he => by rw [List.mem_singleton.1 he]; exact F5, fun e he => by rw [List.mem_singleton.1 he]; exact F6, by simp, by simp⟩, fun e he => by rw [List.mem_singleton.1 he]⟩
    clear T5 T6 T7 OA5 OT5 F5 F6 B1 B2 B7 HB5 LM
    go_wp2
    go_loopw [11, 12, 123] (fun s11 s12 f wr => ∃ (j : Nat) (es : List Ent) (ga ca gw cw : Nat), f = .int .i64 j ∧ s11 = .slice (some ⟨ga, 0, none⟩) es.length ca ∧ s12 = .slice (some ⟨gw, 0, none⟩) es.length cw ∧ j ≤ qs.length ∧ Sys wr w.heap.size j zs (.slice az zs.length cz) ga ca gw cw es ∧ Below w.heap.size w wr) (fun _ _ f _ => qs.length - (intOf f).toNat)
    case atStart => exact ⟨0, _, _, _, _, _, rfl, rfl, rfl, Nat.zero_le _, SY, HB7⟩
    case round =>
      clear SY HB7 sz
      obtain ⟨j, es, ga, ca, gw, cw, rfl, rfl, rfl, jl, SY, HB⟩ := hrel
      by_cases cj : j < qs.length
      · obtain ⟨x, hx⟩ : ∃ x, qs[j]? = some x := ⟨qs[j], List.getElem?_eq_getElem cj⟩
        obtain ⟨gx, bo, off, rfl, TT⟩ := HO3.out j x hx
        obtain ⟨t0, t1, t2, t3, t4, t5, t6, t7, t8, t9, t10, t11, t12⟩ := TT.later HB
        have j0 : (0 : Int) ≤ (j : Int) := by omega
        have j1 : (j : Int) < (qs.length : Int) := by omega
        have GX : Hid (GdK x.p x.c x.k) := gx
        have n0 := SY.lo
        have n4 := SY.hi
        clear TT hx HO3 gx
        go_upto_region 14 with (fail)
        have q9 : Cs (wr.alloc (.cells #[.int .i64 x.kd, .int .i64 x.pl, .string x.p, .string x.c, .int .i64 x.k, .int .i64 (x.s 0), .int .i64 (x.s 1), .int .i64 (x.s 2), .int .i64 (x.s 3), .int .i64 (x.s 4), .int .i64 (x.s 5), .int .i64 (x.s 6), .int .i64 (x.s 7)] 57)) wr.heap.size (opL x) := Cs.new _ _ _ _ rfl
        have HB9 : Below w.heap.size w (wr.alloc (.cells #[.int .i64 x.kd, .int .i64 x.pl, .string x.p, .string x.c, .int .i64 x.k, .int .i64 (x.s 0), .int .i64 (x.s 1), .int .i64 (x.s 2), .int .i64 (x.s 3), .int .i64 (x.s 4), .int .i64 (x.s 5), .int .i64 (x.s 6), .int .i64 (x.s 7)] 57)) := HB.alloc HB.size _
        have SY9 := SY.later ((Below.refl _ _).alloc (Nat.le_refl _) (.cells #[.int .i64 x.kd, .int .i64 x.pl, .string x.p, .string x.c, .int .i64 x.k, .int .i64 (x.s 0), .int .i64 (x.s 1), .int .i64 (x.s 2), .int .i64 (x.s 3), .int .i64 (x.s 4), .int .i64 (x.s 5), .int .i64 (x.s 6), .int .i64 (x.s 7)] 57))
        obtain ⟨b9, hb9⟩ : ∃ b9, b9 = wr.heap.size := ⟨_, rfl⟩
        rw [← hb9] at q9 ⊢
        clear hb9
        generalize wr.alloc (.cells #[.int .i64 x.kd, .int .i64 x.pl, .string x.p, .string x.c, .int .i64 x.k, .int .i64 (x.s 0), .int .i64 (x.s 1), .int .i64 (x.s 2), .int .i64 (x.s 3), .int .i64 (x.s 4), .int .i64 (x.s 5), .int .i64 (x.s 6), .int .i64 (x.s 7)] 57) = W9 at *
        clear t0 t1 t2 t3 t4 t5 t6 t7 t8 t9 t10 t11 t12 HB SY
        have d0 := q9.1 0 _ rfl
        have d1 := q9.1 1 _ rfl
        have dz := q9.2.2
        obtain ⟨at_, ha, EA⟩ := at_is x.pl n0 n4
        obtain ⟨e, he⟩ : ∃ e, es[at_]? = some e := ⟨es[at_], List.getElem?_eq_getElem ha⟩
        by_cases k6 : (IntKind.u64.wrap x.kd).tmod 7 = 6
        case pos =>
          by_cases n3 : es.length < 4
          · as_aux_lemma =>
            have n3' : (es.length : Int) < 4 := by omega
            have hm := List.mem_of_getElem? he
            have A9 := SY9.st.tab e hm
            have e5 := SY9.eq e hm
            have OW9 := SY9.st.row e hm
            obtain ⟨eb, em, ls, elv, ems⟩ := e
            obtain rfl : ems = ls := e5
            obtain ⟨la, lc, el⟩ := OW9.form
            have el' : elv = .slice la ems.length lc := el
            subst el'
            have HE : Hid (es[at_]? = some ⟨eb, em, ems, .slice la ems.length lc, ems⟩) := he
            have AO : Hid (Ord zs ems ∧ ems.length ≤ j) := ⟨A9.ord, A9.len⟩
            have EQ : Hid (∀ e ∈ es, e.ms = e.ls) := SY9.eq
            have ML : Hid (∀ f ∈ es, f.m < W9.heap.size) := fun f hf => (SY9.st.tab f hf).tb.map.lt
            have CN : Hid (∀ w1, Sys0 w1 w.heap.size j zs (.slice az zs.length cz) ga ca gw cw es → Calls Try.prog 19 #[tbV eb] w1 fun e w' => ∃ b' m', e = .returned (tbV b') ∧ Nw w' zs ga gw b' m' ems ∧ ((∀ f ∈ es, f.m ≠ m') ∧ w.heap.size ≤ m') ∧ Below w1.heap.size w1 w') := fun w1 h1 => by
              refine (clone_new w1 (h1.st.tab _ (List.mem_of_getElem? HE.out)).tb).mono fun e w' ⟨b', m', k1, k2, k3, k4⟩ => ⟨b', m', k1, Nw.new k2 k3 (World.ownsRow.lt h1.oa ga rfl).2 (World.ownsRow.lt h1.ow gw rfl).2, ⟨fun f hf x => ?_, ?_⟩, k4⟩
              · have a := (h1.st.tab f hf).tb.map.lt
                have b := k3.2.1
                omega
              · have a := (World.ownsRow.lt h1.oa ga rfl)
                have b := k3.2.1
                omega
            clear A9 OW9 el hm he ML
            go_upto_region 28 with (fail)
            rw [EA]
            have SY0 := SY9.toSys0
            clear SY9
            have HBx : Hid (Below w.heap.size w _) := HB9.trans ((Below.drew (Below.refl _ _)).mono HB9.size)
            have SY : Hid (Sys0 _ w.heap.size j zs (.slice az zs.length cz) ga ca gw cw es) := SY0.later (Below.drew (Below.refl _ _))
            refine wp_region_noPanic ?_
            refine wp_region_held_drew (S := fun w' => w'.cell? ⟨ga, at_, none⟩ = some (tbV eb) ∧ w'.cell? ⟨gw, at_ * 2, none⟩ = some (.slice az zs.length cz) ∧ w'.cell? ⟨gw, at_ * 2 + 1, none⟩ = some (.slice la ems.length lc)) (by kernel_rfl) ?_ (fun hHeld => ?_)
            · exact (by first | exact ⟨(SY.out.cells HE.out).1, (SY.out.cells HE.out).2⟩ | exact ⟨MD.out.ca, MD.out.cells HE.out⟩)
            generalize World.drew _ = wd0 at *
            refine wpAnyH_take (i := 0) (v := ?_) rfl (by kernel_rfl) (by kernel_rfl) (by kernel_rfl) (fun _ _ _ h => h) (Or.inl ⟨by rfl, ?_⟩) (by assumption) ?_
            rotate_left
            · (intro wS hSw; have g0 := hSw.1; have g1 := hSw.2.1; have g2 := hSw.2.2; go_simp; try with_reducible rfl)
            change wpAnyH _ _ _ _ _ _ _ (Act.put _ (some 221) _) _
            simp only [Act.put, List.setIfInBounds_toArray, List.set_cons_zero, List.set_cons_succ]
            refine wpAnyH_take (i := 1) (v := ?_) rfl (by kernel_rfl) (by kernel_rfl) (by kernel_rfl) (fun _ _ _ h => h) (Or.inl ⟨by rfl, ?_⟩) (by assumption) ?_
            rotate_left
            · (intro wS hSw; have g0 := hSw.1; have g1 := hSw.2.1; have g2 := hSw.2.2; go_simp; try with_reducible rfl)
            change wpAnyH _ _ _ _ _ _ _ (Act.put _ (some 222) _) _
            simp only [Act.put, List.setIfInBounds_toArray, List.set_cons_zero, List.set_cons_succ]
            refine wpAnyH_take (i := 2) (v := ?_) rfl (by kernel_rfl) (by kernel_rfl) (by kernel_rfl) (fun _ _ _ h => h) (Or.inl ⟨by rfl, ?_⟩) (by assumption) ?_
            rotate_left
            · (intro wS hSw; have g0 := hSw.1; have g1 := hSw.2.1; have g2 := hSw.2.2; go_simp; try with_reducible rfl)
            change wpAnyH _ _ _ _ _ _ _ (Act.put _ (some 223) _) _
            simp only [Act.put, List.setIfInBounds_toArray, List.set_cons_zero, List.set_cons_succ]
            refine wpAnyH_take (i := 3) (v := ?_) rfl (by kernel_rfl) (by kernel_rfl) (by kernel_rfl) (fun _ _ _ h => h) (Or.inl ⟨by rfl, ?_⟩) (by assumption) ?_
            rotate_left
            · (intro wS hSw; have g0 := hSw.1; have g1 := hSw.2.1; have g2 := hSw.2.2; go_simp; try with_reducible rfl)
            change wpAnyH _ _ _ _ _ _ _ (Act.put _ (some 224) _) _
            simp only [Act.put, List.setIfInBounds_toArray, List.set_cons_zero, List.set_cons_succ]
            refine wpAnyH_take (i := 4) (v := ?_) rfl (by kernel_rfl) (by kernel_rfl) (by kernel_rfl) (fun _ _ _ h => h) (Or.inl ⟨by rfl, ?_⟩) (by assumption) ?_
            rotate_left
            · (intro wS hSw; have g0 := hSw.1; have g1 := hSw.2.1; have g2 := hSw.2.2; go_simp; try with_reducible rfl)
            change wpAnyH _ _ _ _ _ _ _ (Act.put _ (some 225) _) _
            simp only [Act.put, List.setIfInBounds_toArray, List.set_cons_zero, List.set_cons_succ]
            refine wpAnyH_take (i := 8) (v := ?_) rfl (by kernel_rfl) (by kernel_rfl) (by kernel_rfl) (fun _ _ _ h => h) (Or.inl ⟨by rfl, ?_⟩) (by assumption) ?_
            rotate_left
            · (intro wS hSw; have g0 := hSw.1; have g1 := hSw.2.1; have g2 := hSw.2.2; go_simp; try with_reducible rfl)
            change wpAnyH _ _ _ _ _ _ _ (Act.put _ (some 229) _) _
            simp only [Act.put, List.setIfInBounds_toArray, List.set_cons_zero, List.set_cons_succ]
            refine wpAnyH_take (i := 9) (v := ?_) rfl (by kernel_rfl) (by kernel_rfl) (by kernel_rfl) (fun _ _ _ h => h) (Or.inl ⟨by rfl, ?_⟩) (by assumption) ?_
            rotate_left
            · (intro wS hSw; have g0 := hSw.1; have g1 := hSw.2.1; have g2 := hSw.2.2; go_simp; try with_reducible rfl)
            change wpAnyH _ _ _ _ _ _ _ (Act.put _ (some 230) _) _
            simp only [Act.put, List.setIfInBounds_toArray, List.set_cons_zero, List.set_cons_succ]
            refine wpAnyH_take (i := 10) (v := ?_) rfl (by kernel_rfl) (by kernel_rfl) (by kernel_rfl) (fun _ _ _ h => h) (Or.inl ⟨by rfl, ?_⟩) (by assumption) ?_
            rotate_left
            · (intro wS hSw; have g0 := hSw.1; have g1 := hSw.2.1; have g2 := hSw.2.2; go_simp; try with_reducible rfl)
            change wpAnyH _ _ _ _ _ _ _ (Act.put _ (some 231) _) _
            simp only [Act.put, List.setIfInBounds_toArray, List.set_cons_zero, List.set_cons_succ]
            refine wpAnyH_take (i := 11) (v := ?_) rfl (by kernel_rfl) (by kernel_rfl) (by kernel_rfl) (fun _ _ _ h => h) (Or.inl ⟨by rfl, ?_⟩) (by assumption) ?_
            rotate_left
            · (intro wS hSw; have g0 := hSw.1; have g1 := hSw.2.1; have g2 := hSw.2.2; go_simp; try with_reducible rfl)
            change wpAnyH _ _ _ _ _ _ _ (Act.put _ (some 232) _) _
            simp only [Act.put, List.setIfInBounds_toArray, List.set_cons_zero, List.set_cons_succ]
            refine wpAnyH_take (i := 12) (v := ?_) rfl (by kernel_rfl) (by kernel_rfl) (by kernel_rfl) (fun _ _ _ h => h) (Or.inl ⟨by rfl, ?_⟩) (by assumption) ?_
            rotate_left
            · (intro wS hSw; have g0 := hSw.1; have g1 := hSw.2.1; have g2 := hSw.2.2; go_simp; try with_reducible rfl)
            change wpAnyH _ _ _ _ _ _ _ (Act.put _ (some 233) _) _
            simp only [Act.put, List.setIfInBounds_toArray, List.set_cons_zero, List.set_cons_succ]
            refine wpAnyH_ready (rs := [5, 13]) (by kernel_rfl) (by simp) ?_
            refine AllReadyH.cons rfl (fun K hK => ?_) (AllReadyH.cons rfl (fun K hK => ?_) AllReadyH.nil)
            ·
              go_simp
              refine (CN.out _ SY.out).mono ?_
              rintro e v1 ⟨b', m', rfl, nw, mN, hv1⟩
              have HBx' : Hid (Below w.heap.size w v1) := HBx.out.trans (hv1.mono HBx.out.size)
              have SY' : Hid (Sys0 v1 w.heap.size j zs (.slice az zs.length cz) ga ca gw cw es) := SY.out.later hv1
              have NW' : Hid (Nw v1 zs ga gw b' m' ems) := nw
              have MN' : Hid ((∀ f ∈ es, f.m ≠ m') ∧ w.heap.size ≤ m') := mN
              clear hv1 HBx SY
              have HBx := HBx'
              clear HBx'
              have SY := SY'
              clear SY'
              have NW := NW'
              clear NW'
              have MN := MN'
              clear MN'
              (try go_wp2_with (fail))
              refine hK.out _ _ ?_ (fun hHeld => ?_)
              · exact (by first | exact ⟨(SY.out.cells HE.out).1, (SY.out.cells HE.out).2⟩ | exact ⟨MD.out.ca, MD.out.cells HE.out⟩)
              clear hK K
              refine wpAnyH_ready (rs := [6, 13]) (by kernel_rfl) (by simp) ?_
              refine AllReadyH.cons rfl (fun K hK => ?_) (AllReadyH.cons rfl (fun K hK => ?_) AllReadyH.nil)
              ·
                go_simp
                obtain ⟨pB, hpB⟩ : ∃ pB, pB = v1.heap.size := ⟨_, rfl⟩
                have HBx' : Hid (Below w.heap.size w (v1.alloc (.cells #[tbV b'] 28))) := HBx.out.alloc HBx.out.size _
                have SY' : Hid (Sys0 (v1.alloc (.cells #[tbV b'] 28)) w.heap.size j zs (.slice az zs.length cz) ga ca gw cw es) := SY.out.later ((Below.refl _ _).alloc (Nat.le_refl _) _)
                have NW' : Hid (Nw (v1.alloc (.cells #[tbV b'] 28)) zs ga gw b' m' ems) := NW.out.later ((Below.refl _ _).alloc (Nat.le_refl _) _)
                have MN' : Hid ((∀ f ∈ es, f.m ≠ m') ∧ w.heap.size ≤ m') := MN.out
                have PB' : Hid (Cs (v1.alloc (.cells #[tbV b'] 28)) pB [tbV b']) := by rw [hpB]; exact Cs.new _ _ _ _ rfl
                clear HBx SY NW MN
                have HBx := HBx'
                clear HBx'
                have SY := SY'
                clear SY'
                have NW := NW'
                clear NW'
                have MN := MN'
                clear MN'
                have PB := PB'
                clear PB'
                refine hK.out _ _ ?_ (fun hHeld => ?_)
                · exact (by first | exact ⟨(SY.out.cells HE.out).1, (SY.out.cells HE.out).2⟩ | exact ⟨MD.out.ca, MD.out.cells HE.out⟩)
                clear hK K
                rw [← hpB]
                clear hpB
                generalize v1.alloc (.cells #[tbV b'] 28) = wA2 at *
                refine wpAnyH_ready (rs := [7, 13]) (by kernel_rfl) (by simp) ?_
                refine AllReadyH.cons rfl (fun K hK => ?_) (AllReadyH.cons rfl (fun K hK => ?_) AllReadyH.nil)
                ·
                  obtain ⟨g1, c1, wC, hrC, mC, hgC, gaB⟩ := SY.out.addA (e := ⟨b', m', ems, .slice la ems.length lc, ems⟩) NW.out PB.out HE.out HBx.out.size 52
                  have HBx' : Hid (Below w.heap.size w wC) := HBx.out.grown hgC HBx.out.size fun k hk => by injection hk with hk; omega
                  have MD : Hid (Mid wC w.heap.size j zs (.slice az zs.length cz) ga g1 c1 gw cw es ⟨b', m', ems, .slice la ems.length lc, ems⟩ at_ (tbV eb)) := mC
                  rw [if_pos (by rfl)]
                  refine wp_append rfl rfl rfl hrC ?_
                  change K (Act.put _ (some 228) _) _
                  simp only [Act.put, List.setIfInBounds_toArray, List.set_cons_zero, List.set_cons_succ]
                  refine hK.out _ _ ?_ (fun hHeld => ?_)
                  · exact ⟨MD.out.ca, MD.out.cells HE.out⟩
                  clear hK K hrC mC hgC gaB SY NW PB HBx
                  have HBx := HBx'
                  clear HBx'
                  refine wpAnyH_ready (rs := [13]) (by kernel_rfl) (by simp) ?_
                  refine AllReadyH.cons rfl (fun K hK => ?_) AllReadyH.nil
                  go_simp
                  obtain ⟨pD, hpD⟩ : ∃ pD, pD = wC.heap.size := ⟨_, rfl⟩
                  have HBx' : Hid (Below w.heap.size w (wC.alloc (.cells #[.slice az zs.length cz, .slice la ems.length lc] 54))) := HBx.out.alloc HBx.out.size _
                  have MD' : Hid (Mid (wC.alloc (.cells #[.slice az zs.length cz, .slice la ems.length lc] 54)) w.heap.size j zs (.slice az zs.length cz) ga g1 c1 gw cw es ⟨b', m', ems, .slice la ems.length lc, ems⟩ at_ (tbV eb)) := MD.out.later ((Below.refl _ _).alloc (Nat.le_refl _) _)
                  have MN' : Hid ((∀ f ∈ es, f.m ≠ m') ∧ w.heap.size ≤ m') := MN.out
                  have PD' : Hid (Cs (wC.alloc (.cells #[.slice az zs.length cz, .slice la ems.length lc] 54)) pD [.slice az zs.length cz, .slice la ems.length lc] ∧ ga ≠ pD) := by rw [hpD]; exact ⟨Cs.new _ _ _ _ rfl, Nat.ne_of_lt MD.out.lt⟩
                  clear HBx MD MN
                  have HBx := HBx'
                  clear HBx'
                  have MD := MD'
                  clear MD'
                  have MN := MN'
                  clear MN'
                  have PD := PD'
                  clear PD'
                  refine hK.out _ _ ?_ (fun hHeld => ?_)
                  · exact (by first | exact ⟨(SY.out.cells HE.out).1, (SY.out.cells HE.out).2⟩ | exact ⟨MD.out.ca, MD.out.cells HE.out⟩)
                  clear hK K
                  rw [← hpD]
                  clear hpD
                  generalize wC.alloc (.cells #[.slice az zs.length cz, .slice la ems.length lc] 54) = wA4 at *
                  refine wpAnyH_ready (rs := [14]) (by kernel_rfl) (by simp) ?_
                  refine AllReadyH.cons rfl (fun K hK => ?_) AllReadyH.nil
                  obtain ⟨g2, c2, wE, hrE, sE, hgE, gwB, caE, kE⟩ := MD.out.addT PD.out.1 ⟨rfl, rfl⟩ (show OwnW _ 0 (.slice la ems.length lc) ems from MD.out.st.row ⟨eb, em, ems, .slice la ems.length lc, ems⟩ (List.mem_of_getElem? HE.out)) AO.out.1 AO.out.2 MN.out.1 MN.out.2 n3 HBx.out.size 55
                  have HBx' : Hid (Below w.heap.size w wE) := HBx.out.grown hgE HBx.out.size fun k hk => by injection hk with hk; omega
                  have FE : Hid (Sys0 wE w.heap.size j zs (.slice az zs.length cz) g1 c1 g2 c2 (es ++ [⟨b', m', ems, .slice la ems.length lc, ems⟩]) ∧ wE.cell? ⟨ga, at_, none⟩ = some (tbV eb) ∧ wE.cell? ⟨gw, at_ * 2, none⟩ = some (.slice az zs.length cz) ∧ wE.cell? ⟨gw, at_ * 2 + 1, none⟩ = some (.slice la ems.length lc)) := ⟨sE, caE, by rw [kE _ (by omega)]; exact (MD.out.cells HE.out).1, by rw [kE _ (by omega)]; exact (MD.out.cells HE.out).2⟩
                  rw [if_pos (by rfl)]
                  refine wp_append rfl rfl rfl hrE ?_
                  change K (Act.put _ (some 235) _) _
                  simp only [Act.put, List.setIfInBounds_toArray, List.set_cons_zero, List.set_cons_succ]
                  refine hK.out _ _ ?_ (fun hHeld => ?_)
                  · exact FE.out.2
                  clear hK K hrE sE hgE gwB caE kE MD PD HBx
                  have HBx := HBx'
                  clear HBx'
                  refine wpAnyH_take (i := 15) (v := ?_) rfl (by kernel_rfl) (by kernel_rfl) (by kernel_rfl) (fun _ _ _ h => h) (Or.inl ⟨by rfl, ?_⟩) (by assumption) ?_
                  rotate_left
                  · (intro wS hSw; have g0 := hSw.1; have g1 := hSw.2.1; have g2 := hSw.2.2; go_simp; try with_reducible rfl)
                  change wpAnyH _ _ _ _ _ _ _ (Act.put _ (some 11) _) _
                  simp only [Act.put, List.setIfInBounds_toArray, List.set_cons_zero, List.set_cons_succ]
                  refine wpAnyH_take (i := 16) (v := ?_) rfl (by kernel_rfl) (by kernel_rfl) (by kernel_rfl) (fun _ _ _ h => h) (Or.inl ⟨by rfl, ?_⟩) (by assumption) ?_
                  rotate_left
                  · (intro wS hSw; have g0 := hSw.1; have g1 := hSw.2.1; have g2 := hSw.2.2; go_simp; try with_reducible rfl)
                  change wpAnyH _ _ _ _ _ _ _ (Act.put _ (some 12) _) _
                  simp only [Act.put, List.setIfInBounds_toArray, List.set_cons_zero, List.set_cons_succ]
                  refine wpAnyH_done (by kernel_rfl) ?_ _
                  refine NoPanic.normal ?_
                  have LL : Hid ((es ++ [(⟨b', m', ems, .slice la ems.length lc, ems⟩ : Ent)]).length = es.length + 1) := List.length_append ..
                  have SYm : Hid (Sys wE w.heap.size (j + 1) zs (.slice az zs.length cz) g1 c1 g2 c2 (es ++ [⟨b', m', ems, .slice la ems.length lc, ems⟩])) := Sys.more ⟨FE.out.1, fun f hf => by rcases List.mem_append.1 hf with hf | hf; exact EQ.out f hf; rw [List.mem_singleton.1 hf]⟩
                  clear FE SY0 HB9 CN AO HE EQ
                  go_wp2
                  go_roundw
                  case rel => exact ⟨j + 1, es ++ [⟨b', m', ems, .slice la ems.length lc, ems⟩], g1, c1, g2, c2, by go_num, by rw [LL.out], by rw [LL.out], by omega, SYm.out, HBx.out⟩
                  case measure => simp [intOf]; omega
                ·
                  go_simp
                  obtain ⟨pD, hpD⟩ : ∃ pD, pD = wA2.heap.size := ⟨_, rfl⟩
                  have HBx' : Hid (Below w.heap.size w (wA2.alloc (.cells #[.slice az zs.length cz, .slice la ems.length lc] 54))) := HBx.out.alloc HBx.out.size _
                  have SY' : Hid (Sys0 (wA2.alloc (.cells #[.slice az zs.length cz, .slice la ems.length lc] 54)) w.heap.size j zs (.slice az zs.length cz) ga ca gw cw es) := SY.out.later ((Below.refl _ _).alloc (Nat.le_refl _) _)
                  have NW' : Hid (Nw (wA2.alloc (.cells #[.slice az zs.length cz, .slice la ems.length lc] 54)) zs ga gw b' m' ems) := NW.out.later ((Below.refl _ _).alloc (Nat.le_refl _) _)
                  have MN' : Hid ((∀ f ∈ es, f.m ≠ m') ∧ w.heap.size ≤ m') := MN.out
                  have PB' : Hid (Cs (wA2.alloc (.cells #[.slice az zs.length cz, .slice la ems.length lc] 54)) pB [tbV b']) := PB.out.alloc _
                  have PD' : Hid (Cs (wA2.alloc (.cells #[.slice az zs.length cz, .slice la ems.length lc] 54)) pD [.slice az zs.length cz, .slice la ems.length lc] ∧ ga ≠ pD) := by rw [hpD]; exact ⟨Cs.new _ _ _ _ rfl, Nat.ne_of_lt (World.ownsRow.lt SY.out.oa ga rfl).2⟩
                  clear HBx SY NW MN PB
                  have HBx := HBx'
                  clear HBx'
                  have SY := SY'
                  clear SY'
                  have NW := NW'
                  clear NW'
                  have MN := MN'
                  clear MN'
                  have PB := PB'
                  clear PB'
                  have PD := PD'
                  clear PD'
                  refine hK.out _ _ ?_ (fun hHeld => ?_)
                  · exact (by first | exact ⟨(SY.out.cells HE.out).1, (SY.out.cells HE.out).2⟩ | exact ⟨MD.out.ca, MD.out.cells HE.out⟩)
                  clear hK K
                  rw [← hpD]
                  clear hpD
                  generalize wA2.alloc (.cells #[.slice az zs.length cz, .slice la ems.length lc] 54) = wA6 at *
                  refine wpAnyH_ready (rs := [7]) (by kernel_rfl) (by simp) ?_
                  refine AllReadyH.cons rfl (fun K hK => ?_) AllReadyH.nil
                  obtain ⟨g1, c1, wC, hrC, mC, hgC, gaB⟩ := SY.out.addA (e := ⟨b', m', ems, .slice la ems.length lc, ems⟩) NW.out PB.out HE.out HBx.out.size 52
                  have HBx' : Hid (Below w.heap.size w wC) := HBx.out.grown hgC HBx.out.size fun k hk => by injection hk with hk; omega
                  have MD : Hid (Mid wC w.heap.size j zs (.slice az zs.length cz) ga g1 c1 gw cw es ⟨b', m', ems, .slice la ems.length lc, ems⟩ at_ (tbV eb)) := mC
                  have PD' : Hid (Cs wC pD [.slice az zs.length cz, .slice la ems.length lc] ∧ ga ≠ pD) := ⟨PD.out.1.grown hgC fun x => PD.out.2 (Option.some.inj x).symm, PD.out.2⟩
                  rw [if_pos (by rfl)]
                  refine wp_append rfl rfl rfl hrC ?_
                  change K (Act.put _ (some 228) _) _
                  simp only [Act.put, List.setIfInBounds_toArray, List.set_cons_zero, List.set_cons_succ]
                  refine hK.out _ _ ?_ (fun hHeld => ?_)
                  · exact ⟨MD.out.ca, MD.out.cells HE.out⟩
                  clear hK K hrC mC hgC gaB SY NW PB HBx PD
                  have HBx := HBx'
                  clear HBx'
                  have PD := PD'
                  clear PD'
                  refine wpAnyH_ready (rs := [14]) (by kernel_rfl) (by simp) ?_
                  refine AllReadyH.cons rfl (fun K hK => ?_) AllReadyH.nil
                  obtain ⟨g2, c2, wE, hrE, sE, hgE, gwB, caE, kE⟩ := MD.out.addT PD.out.1 ⟨rfl, rfl⟩ (show OwnW _ 0 (.slice la ems.length lc) ems from MD.out.st.row ⟨eb, em, ems, .slice la ems.length lc, ems⟩ (List.mem_of_getElem? HE.out)) AO.out.1 AO.out.2 MN.out.1 MN.out.2 n3 HBx.out.size 55
                  have HBx' : Hid (Below w.heap.size w wE) := HBx.out.grown hgE HBx.out.size fun k hk => by injection hk with hk; omega
                  have FE : Hid (Sys0 wE w.heap.size j zs (.slice az zs.length cz) g1 c1 g2 c2 (es ++ [⟨b', m', ems, .slice la ems.length lc, ems⟩]) ∧ wE.cell? ⟨ga, at_, none⟩ = some (tbV eb) ∧ wE.cell? ⟨gw, at_ * 2, none⟩ = some (.slice az zs.length cz) ∧ wE.cell? ⟨gw, at_ * 2 + 1, none⟩ = some (.slice la ems.length lc)) := ⟨sE, caE, by rw [kE _ (by omega)]; exact (MD.out.cells HE.out).1, by rw [kE _ (by omega)]; exact (MD.out.cells HE.out).2⟩
                  rw [if_pos (by rfl)]
                  refine wp_append rfl rfl rfl hrE ?_
                  change K (Act.put _ (some 235) _) _
                  simp only [Act.put, List.setIfInBounds_toArray, List.set_cons_zero, List.set_cons_succ]
                  refine hK.out _ _ ?_ (fun hHeld => ?_)
                  · exact FE.out.2
                  clear hK K hrE sE hgE gwB caE kE MD PD HBx
                  have HBx := HBx'
                  clear HBx'
                  refine wpAnyH_take (i := 15) (v := ?_) rfl (by kernel_rfl) (by kernel_rfl) (by kernel_rfl) (fun _ _ _ h => h) (Or.inl ⟨by rfl, ?_⟩) (by assumption) ?_
                  rotate_left
                  · (intro wS hSw; have g0 := hSw.1; have g1 := hSw.2.1; have g2 := hSw.2.2; go_simp; try with_reducible rfl)
                  change wpAnyH _ _ _ _ _ _ _ (Act.put _ (some 11) _) _
                  simp only [Act.put, List.setIfInBounds_toArray, List.set_cons_zero, List.set_cons_succ]
                  refine wpAnyH_take (i := 16) (v := ?_) rfl (by kernel_rfl) (by kernel_rfl) (by kernel_rfl) (fun _ _ _ h => h) (Or.inl ⟨by rfl, ?_⟩) (by assumption) ?_
                  rotate_left
                  · (intro wS hSw; have g0 := hSw.1; have g1 := hSw.2.1; have g2 := hSw.2.2; go_simp; try with_reducible rfl)
                  change wpAnyH _ _ _ _ _ _ _ (Act.put _ (some 12) _) _
                  simp only [Act.put, List.setIfInBounds_toArray, List.set_cons_zero, List.set_cons_succ]
                  refine wpAnyH_done (by kernel_rfl) ?_ _
                  refine NoPanic.normal ?_
                  have LL : Hid ((es ++ [(⟨b', m', ems, .slice la ems.length lc, ems⟩ : Ent)]).length = es.length + 1) := List.length_append ..
                  have SYm : Hid (Sys wE w.heap.size (j + 1) zs (.slice az zs.length cz) g1 c1 g2 c2 (es ++ [⟨b', m', ems, .slice la ems.length lc, ems⟩])) := Sys.more ⟨FE.out.1, fun f hf => by rcases List.mem_append.1 hf with hf | hf; exact EQ.out f hf; rw [List.mem_singleton.1 hf]⟩
                  clear FE SY0 HB9 CN AO HE EQ
                  go_wp2
                  go_roundw
                  case rel => exact ⟨j + 1, es ++ [⟨b', m', ems, .slice la ems.length lc, ems⟩], g1, c1, g2, c2, by go_num, by rw [LL.out], by rw [LL.out], by omega, SYm.out, HBx.out⟩
                  case measure => simp [intOf]; omega
              ·
                go_simp
                obtain ⟨pD, hpD⟩ : ∃ pD, pD = v1.heap.size := ⟨_, rfl⟩
                have HBx' : Hid (Below w.heap.size w (v1.alloc (.cells #[.slice az zs.length cz, .slice la ems.length lc] 54))) := HBx.out.alloc HBx.out.size _
                have SY' : Hid (Sys0 (v1.alloc (.cells #[.slice az zs.length cz, .slice la ems.length lc] 54)) w.heap.size j zs (.slice az zs.length cz) ga ca gw cw es) := SY.out.later ((Below.refl _ _).alloc (Nat.le_refl _) _)
                have NW' : Hid (Nw (v1.alloc (.cells #[.slice az zs.length cz, .slice la ems.length lc] 54)) zs ga gw b' m' ems) := NW.out.later ((Below.refl _ _).alloc (Nat.le_refl _) _)
                have MN' : Hid ((∀ f ∈ es, f.m ≠ m') ∧ w.heap.size ≤ m') := MN.out
                have PD' : Hid (Cs (v1.alloc (.cells #[.slice az zs.length cz, .slice la ems.length lc] 54)) pD [.slice az zs.length cz, .slice la ems.length lc] ∧ ga ≠ pD) := by rw [hpD]; exact ⟨Cs.new _ _ _ _ rfl, Nat.ne_of_lt (World.ownsRow.lt SY.out.oa ga rfl).2⟩
                clear HBx SY NW MN
                have HBx := HBx'
                clear HBx'
                have SY := SY'
                clear SY'
                have NW := NW'
                clear NW'
                have MN := MN'
                clear MN'
                have PD := PD'
                clear PD'
                refine hK.out _ _ ?_ (fun hHeld => ?_)
                · exact (by first | exact ⟨(SY.out.cells HE.out).1, (SY.out.cells HE.out).2⟩ | exact ⟨MD.out.ca, MD.out.cells HE.out⟩)
                clear hK K
                rw [← hpD]
                clear hpD
                generalize v1.alloc (.cells #[.slice az zs.length cz, .slice la ems.length lc] 54) = wA9 at *
                refine wpAnyH_ready (rs := [6]) (by kernel_rfl) (by simp) ?_
                refine AllReadyH.cons rfl (fun K hK => ?_) AllReadyH.nil
                go_simp
                obtain ⟨pB, hpB⟩ : ∃ pB, pB = wA9.heap.size := ⟨_, rfl⟩
                have HBx' : Hid (Below w.heap.size w (wA9.alloc (.cells #[tbV b'] 28))) := HBx.out.alloc HBx.out.size _
                have SY' : Hid (Sys0 (wA9.alloc (.cells #[tbV b'] 28)) w.heap.size j zs (.slice az zs.length cz) ga ca gw cw es) := SY.out.later ((Below.refl _ _).alloc (Nat.le_refl _) _)
                have NW' : Hid (Nw (wA9.alloc (.cells #[tbV b'] 28)) zs ga gw b' m' ems) := NW.out.later ((Below.refl _ _).alloc (Nat.le_refl _) _)
                have MN' : Hid ((∀ f ∈ es, f.m ≠ m') ∧ w.heap.size ≤ m') := MN.out
                have PD' : Hid (Cs (wA9.alloc (.cells #[tbV b'] 28)) pD [.slice az zs.length cz, .slice la ems.length lc] ∧ ga ≠ pD) := ⟨PD.out.1.alloc _, PD.out.2⟩
                have PB' : Hid (Cs (wA9.alloc (.cells #[tbV b'] 28)) pB [tbV b']) := by rw [hpB]; exact Cs.new _ _ _ _ rfl
                clear HBx SY NW MN PD
                have HBx := HBx'
                clear HBx'
                have SY := SY'
                clear SY'
                have NW := NW'
                clear NW'
                have MN := MN'
                clear MN'
                have PD := PD'
                clear PD'
                have PB := PB'
                clear PB'
                refine hK.out _ _ ?_ (fun hHeld => ?_)
                · exact (by first | exact ⟨(SY.out.cells HE.out).1, (SY.out.cells HE.out).2⟩ | exact ⟨MD.out.ca, MD.out.cells HE.out⟩)
                clear hK K
                rw [← hpB]
                clear hpB
                generalize wA9.alloc (.cells #[tbV b'] 28) = wA10 at *
                refine wpAnyH_ready (rs := [7]) (by kernel_rfl) (by simp) ?_
                refine AllReadyH.cons rfl (fun K hK => ?_) AllReadyH.nil
                obtain ⟨g1, c1, wC, hrC, mC, hgC, gaB⟩ := SY.out.addA (e := ⟨b', m', ems, .slice la ems.length lc, ems⟩) NW.out PB.out HE.out HBx.out.size 52
                have HBx' : Hid (Below w.heap.size w wC) := HBx.out.grown hgC HBx.out.size fun k hk => by injection hk with hk; omega
                have MD : Hid (Mid wC w.heap.size j zs (.slice az zs.length cz) ga g1 c1 gw cw es ⟨b', m', ems, .slice la ems.length lc, ems⟩ at_ (tbV eb)) := mC
                have PD' : Hid (Cs wC pD [.slice az zs.length cz, .slice la ems.length lc] ∧ ga ≠ pD) := ⟨PD.out.1.grown hgC fun x => PD.out.2 (Option.some.inj x).symm, PD.out.2⟩
                rw [if_pos (by rfl)]
                refine wp_append rfl rfl rfl hrC ?_
                change K (Act.put _ (some 228) _) _
                simp only [Act.put, List.setIfInBounds_toArray, List.set_cons_zero, List.set_cons_succ]
                refine hK.out _ _ ?_ (fun hHeld => ?_)
                · exact ⟨MD.out.ca, MD.out.cells HE.out⟩
                clear hK K hrC mC hgC gaB SY NW PB HBx PD
                have HBx := HBx'
                clear HBx'
                have PD := PD'
                clear PD'
                refine wpAnyH_ready (rs := [14]) (by kernel_rfl) (by simp) ?_
                refine AllReadyH.cons rfl (fun K hK => ?_) AllReadyH.nil
                obtain ⟨g2, c2, wE, hrE, sE, hgE, gwB, caE, kE⟩ := MD.out.addT PD.out.1 ⟨rfl, rfl⟩ (show OwnW _ 0 (.slice la ems.length lc) ems from MD.out.st.row ⟨eb, em, ems, .slice la ems.length lc, ems⟩ (List.mem_of_getElem? HE.out)) AO.out.1 AO.out.2 MN.out.1 MN.out.2 n3 HBx.out.size 55
                have HBx' : Hid (Below w.heap.size w wE) := HBx.out.grown hgE HBx.out.size fun k hk => by injection hk with hk; omega
                have FE : Hid (Sys0 wE w.heap.size j zs (.slice az zs.length cz) g1 c1 g2 c2 (es ++ [⟨b', m', ems, .slice la ems.length lc, ems⟩]) ∧ wE.cell? ⟨ga, at_, none⟩ = some (tbV eb) ∧ wE.cell? ⟨gw, at_ * 2, none⟩ = some (.slice az zs.length cz) ∧ wE.cell? ⟨gw, at_ * 2 + 1, none⟩ = some (.slice la ems.length lc)) := ⟨sE, caE, by rw [kE _ (by omega)]; exact (MD.out.cells HE.out).1, by rw [kE _ (by omega)]; exact (MD.out.cells HE.out).2⟩
                rw [if_pos (by rfl)]
                refine wp_append rfl rfl rfl hrE ?_
                change K (Act.put _ (some 235) _) _
                simp only [Act.put, List.setIfInBounds_toArray, List.set_cons_zero, List.set_cons_succ]
                refine hK.out _ _ ?_ (fun hHeld => ?_)
                · exact FE.out.2
                clear hK K hrE sE hgE gwB caE kE MD PD HBx
                have HBx := HBx'
                clear HBx'
                refine wpAnyH_take (i := 15) (v := ?_) rfl (by kernel_rfl) (by kernel_rfl) (by kernel_rfl) (fun _ _ _ h => h) (Or.inl ⟨by rfl, ?_⟩) (by assumption) ?_
                rotate_left
                · (intro wS hSw; have g0 := hSw.1; have g1 := hSw.2.1; have g2 := hSw.2.2; go_simp; try with_reducible rfl)
                change wpAnyH _ _ _ _ _ _ _ (Act.put _ (some 11) _) _
                simp only [Act.put, List.setIfInBounds_toArray, List.set_cons_zero, List.set_cons_succ]
                refine wpAnyH_take (i := 16) (v := ?_) rfl (by kernel_rfl) (by kernel_rfl) (by kernel_rfl) (fun _ _ _ h => h) (Or.inl ⟨by rfl, ?_⟩) (by assumption) ?_
                rotate_left
                · (intro wS hSw; have g0 := hSw.1; have g1 := hSw.2.1; have g2 := hSw.2.2; go_simp; try with_reducible rfl)
                change wpAnyH _ _ _ _ _ _ _ (Act.put _ (some 12) _) _
                simp only [Act.put, List.setIfInBounds_toArray, List.set_cons_zero, List.set_cons_succ]
                refine wpAnyH_done (by kernel_rfl) ?_ _
                refine NoPanic.normal ?_
                have LL : Hid ((es ++ [(⟨b', m', ems, .slice la ems.length lc, ems⟩ : Ent)]).length = es.length + 1) := List.length_append ..
                have SYm : Hid (Sys wE w.heap.size (j + 1) zs (.slice az zs.length cz) g1 c1 g2 c2 (es ++ [⟨b', m', ems, .slice la ems.length lc, ems⟩])) := Sys.more ⟨FE.out.1, fun f hf => by rcases List.mem_append.1 hf with hf | hf; exact EQ.out f hf; rw [List.mem_singleton.1 hf]⟩
                clear FE SY0 HB9 CN AO HE EQ
                go_wp2
                go_roundw
                case rel => exact ⟨j + 1, es ++ [⟨b', m', ems, .slice la ems.length lc, ems⟩], g1, c1, g2, c2, by go_num, by rw [LL.out], by rw [LL.out], by omega, SYm.out, HBx.out⟩
                case measure => simp [intOf]; omega
            ·
              go_simp
              obtain ⟨pD, hpD⟩ : ∃ pD, pD = wd0.heap.size := ⟨_, rfl⟩
              have HBx' : Hid (Below w.heap.size w (wd0.alloc (.cells #[.slice az zs.length cz, .slice la ems.length lc] 54))) := HBx.out.alloc HBx.out.size _
              have SY' : Hid (Sys0 (wd0.alloc (.cells #[.slice az zs.length cz, .slice la ems.length lc] 54)) w.heap.size j zs (.slice az zs.length cz) ga ca gw cw es) := SY.out.later ((Below.refl _ _).alloc (Nat.le_refl _) _)
              have PD' : Hid (Cs (wd0.alloc (.cells #[.slice az zs.length cz, .slice la ems.length lc] 54)) pD [.slice az zs.length cz, .slice la ems.length lc] ∧ ga ≠ pD) := by rw [hpD]; exact ⟨Cs.new _ _ _ _ rfl, Nat.ne_of_lt (World.ownsRow.lt SY.out.oa ga rfl).2⟩
              clear HBx SY
              have HBx := HBx'
              clear HBx'
              have SY := SY'
              clear SY'
              have PD := PD'
              clear PD'
              refine hK.out _ _ ?_ (fun hHeld => ?_)
              · exact (by first | exact ⟨(SY.out.cells HE.out).1, (SY.out.cells HE.out).2⟩ | exact ⟨MD.out.ca, MD.out.cells HE.out⟩)
              clear hK K
              rw [← hpD]
              clear hpD
              generalize wd0.alloc (.cells #[.slice az zs.length cz, .slice la ems.length lc] 54) = wA13 at *
              refine wpAnyH_ready (rs := [5]) (by kernel_rfl) (by simp) ?_
              refine AllReadyH.cons rfl (fun K hK => ?_) AllReadyH.nil
              go_simp
              refine (CN.out _ SY.out).mono ?_
              rintro e v14 ⟨b', m', rfl, nw, mN, hv14⟩
              have HBx' : Hid (Below w.heap.size w v14) := HBx.out.trans (hv14.mono HBx.out.size)
              have SY' : Hid (Sys0 v14 w.heap.size j zs (.slice az zs.length cz) ga ca gw cw es) := SY.out.later hv14
              have PD' : Hid (Cs v14 pD [.slice az zs.length cz, .slice la ems.length lc] ∧ ga ≠ pD) := ⟨Cs.later hv14 PD.out.1, PD.out.2⟩
              have NW' : Hid (Nw v14 zs ga gw b' m' ems) := nw
              have MN' : Hid ((∀ f ∈ es, f.m ≠ m') ∧ w.heap.size ≤ m') := mN
              clear hv14 HBx SY PD
              have HBx := HBx'
              clear HBx'
              have SY := SY'
              clear SY'
              have PD := PD'
              clear PD'
              have NW := NW'
              clear NW'
              have MN := MN'
              clear MN'
              (try go_wp2_with (fail))
              refine hK.out _ _ ?_ (fun hHeld => ?_)
              · exact (by first | exact ⟨(SY.out.cells HE.out).1, (SY.out.cells HE.out).2⟩ | exact ⟨MD.out.ca, MD.out.cells HE.out⟩)
              clear hK K
              refine wpAnyH_ready (rs := [6]) (by kernel_rfl) (by simp) ?_
              refine AllReadyH.cons rfl (fun K hK => ?_) AllReadyH.nil
              go_simp
              obtain ⟨pB, hpB⟩ : ∃ pB, pB = v14.heap.size := ⟨_, rfl⟩
              have HBx' : Hid (Below w.heap.size w (v14.alloc (.cells #[tbV b'] 28))) := HBx.out.alloc HBx.out.size _
              have SY' : Hid (Sys0 (v14.alloc (.cells #[tbV b'] 28)) w.heap.size j zs (.slice az zs.length cz) ga ca gw cw es) := SY.out.later ((Below.refl _ _).alloc (Nat.le_refl _) _)
              have PD' : Hid (Cs (v14.alloc (.cells #[tbV b'] 28)) pD [.slice az zs.length cz, .slice la ems.length lc] ∧ ga ≠ pD) := ⟨PD.out.1.alloc _, PD.out.2⟩
              have NW' : Hid (Nw (v14.alloc (.cells #[tbV b'] 28)) zs ga gw b' m' ems) := NW.out.later ((Below.refl _ _).alloc (Nat.le_refl _) _)
              have MN' : Hid ((∀ f ∈ es, f.m ≠ m') ∧ w.heap.size ≤ m') := MN.out
              have PB' : Hid (Cs (v14.alloc (.cells #[tbV b'] 28)) pB [tbV b']) := by rw [hpB]; exact Cs.new _ _ _ _ rfl
              clear HBx SY PD NW MN
              have HBx := HBx'
              clear HBx'
              have SY := SY'
              clear SY'
              have PD := PD'
              clear PD'
              have NW := NW'
              clear NW'
              have MN := MN'
              clear MN'
              have PB := PB'
              clear PB'
              refine hK.out _ _ ?_ (fun hHeld => ?_)
              · exact (by first | exact ⟨(SY.out.cells HE.out).1, (SY.out.cells HE.out).2⟩ | exact ⟨MD.out.ca, MD.out.cells HE.out⟩)
              clear hK K
              rw [← hpB]
              clear hpB
              generalize v14.alloc (.cells #[tbV b'] 28) = wA15 at *
              refine wpAnyH_ready (rs := [7]) (by kernel_rfl) (by simp) ?_
              refine AllReadyH.cons rfl (fun K hK => ?_) AllReadyH.nil
              obtain ⟨g1, c1, wC, hrC, mC, hgC, gaB⟩ := SY.out.addA (e := ⟨b', m', ems, .slice la ems.length lc, ems⟩) NW.out PB.out HE.out HBx.out.size 52
              have HBx' : Hid (Below w.heap.size w wC) := HBx.out.grown hgC HBx.out.size fun k hk => by injection hk with hk; omega
              have MD : Hid (Mid wC w.heap.size j zs (.slice az zs.length cz) ga g1 c1 gw cw es ⟨b', m', ems, .slice la ems.length lc, ems⟩ at_ (tbV eb)) := mC
              have PD' : Hid (Cs wC pD [.slice az zs.length cz, .slice la ems.length lc] ∧ ga ≠ pD) := ⟨PD.out.1.grown hgC fun x => PD.out.2 (Option.some.inj x).symm, PD.out.2⟩
              rw [if_pos (by rfl)]
              refine wp_append rfl rfl rfl hrC ?_
              change K (Act.put _ (some 228) _) _
              simp only [Act.put, List.setIfInBounds_toArray, List.set_cons_zero, List.set_cons_succ]
              refine hK.out _ _ ?_ (fun hHeld => ?_)
              · exact ⟨MD.out.ca, MD.out.cells HE.out⟩
              clear hK K hrC mC hgC gaB SY NW PB HBx PD
              have HBx := HBx'
              clear HBx'
              have PD := PD'
              clear PD'
              refine wpAnyH_ready (rs := [14]) (by kernel_rfl) (by simp) ?_
              refine AllReadyH.cons rfl (fun K hK => ?_) AllReadyH.nil
              obtain ⟨g2, c2, wE, hrE, sE, hgE, gwB, caE, kE⟩ := MD.out.addT PD.out.1 ⟨rfl, rfl⟩ (show OwnW _ 0 (.slice la ems.length lc) ems from MD.out.st.row ⟨eb, em, ems, .slice la ems.length lc, ems⟩ (List.mem_of_getElem? HE.out)) AO.out.1 AO.out.2 MN.out.1 MN.out.2 n3 HBx.out.size 55
              have HBx' : Hid (Below w.heap.size w wE) := HBx.out.grown hgE HBx.out.size fun k hk => by injection hk with hk; omega
              have FE : Hid (Sys0 wE w.heap.size j zs (.slice az zs.length cz) g1 c1 g2 c2 (es ++ [⟨b', m', ems, .slice la ems.length lc, ems⟩]) ∧ wE.cell? ⟨ga, at_, none⟩ = some (tbV eb) ∧ wE.cell? ⟨gw, at_ * 2, none⟩ = some (.slice az zs.length cz) ∧ wE.cell? ⟨gw, at_ * 2 + 1, none⟩ = some (.slice la ems.length lc)) := ⟨sE, caE, by rw [kE _ (by omega)]; exact (MD.out.cells HE.out).1, by rw [kE _ (by omega)]; exact (MD.out.cells HE.out).2⟩
              rw [if_pos (by rfl)]
              refine wp_append rfl rfl rfl hrE ?_
              change K (Act.put _ (some 235) _) _
              simp only [Act.put, List.setIfInBounds_toArray, List.set_cons_zero, List.set_cons_succ]
              refine hK.out _ _ ?_ (fun hHeld => ?_)
              · exact FE.out.2
              clear hK K hrE sE hgE gwB caE kE MD PD HBx
              have HBx := HBx'
              clear HBx'
              refine wpAnyH_take (i := 15) (v := ?_) rfl (by kernel_rfl) (by kernel_rfl) (by kernel_rfl) (fun _ _ _ h => h) (Or.inl ⟨by rfl, ?_⟩) (by assumption) ?_
              rotate_left
              · (intro wS hSw; have g0 := hSw.1; have g1 := hSw.2.1; have g2 := hSw.2.2; go_simp; try with_reducible rfl)
              change wpAnyH _ _ _ _ _ _ _ (Act.put _ (some 11) _) _
              simp only [Act.put, List.setIfInBounds_toArray, List.set_cons_zero, List.set_cons_succ]
              refine wpAnyH_take (i := 16) (v := ?_) rfl (by kernel_rfl) (by kernel_rfl) (by kernel_rfl) (fun _ _ _ h => h) (Or.inl ⟨by rfl, ?_⟩) (by assumption) ?_
              rotate_left
              · (intro wS hSw; have g0 := hSw.1; have g1 := hSw.2.1; have g2 := hSw.2.2; go_simp; try with_reducible rfl)
              change wpAnyH _ _ _ _ _ _ _ (Act.put _ (some 12) _) _
              simp only [Act.put, List.setIfInBounds_toArray, List.set_cons_zero, List.set_cons_succ]
              refine wpAnyH_done (by kernel_rfl) ?_ _
              refine NoPanic.normal ?_
              have LL : Hid ((es ++ [(⟨b', m', ems, .slice la ems.length lc, ems⟩ : Ent)]).length = es.length + 1) := List.length_append ..
              have SYm : Hid (Sys wE w.heap.size (j + 1) zs (.slice az zs.length cz) g1 c1 g2 c2 (es ++ [⟨b', m', ems, .slice la ems.length lc, ems⟩])) := Sys.more ⟨FE.out.1, fun f hf => by rcases List.mem_append.1 hf with hf | hf; exact EQ.out f hf; rw [List.mem_singleton.1 hf]⟩
              clear FE SY0 HB9 CN AO HE EQ
              go_wp2
              go_roundw
              case rel => exact ⟨j + 1, es ++ [⟨b', m', ems, .slice la ems.length lc, ems⟩], g1, c1, g2, c2, by go_num, by rw [LL.out], by rw [LL.out], by omega, SYm.out, HBx.out⟩
              case measure => simp [intOf]; omega
          · have n3' : ¬ (es.length : Int) < 4 := by omega
            have SYn : Sys W9 w.heap.size (j + 1) zs (.slice az zs.length cz) ga ca gw cw es := SY9.more
            clear SY9
            go_wp2
            go_roundw
            case rel => exact ⟨j + 1, es, ga, ca, gw, cw, by go_num, rfl, rfl, by omega, SYn, HB9⟩
            case measure => simp [intOf]; omega
        case neg =>
          obtain ⟨ca0, cg0, cg1⟩ := SY9.cells he
          have hm := List.mem_of_getElem? he
          have A9 := SY9.st.tab e hm
          have e5 := SY9.eq e hm
          have OW9 := SY9.st.row e hm
          obtain ⟨eb, em, ls, elv, ems⟩ := e
          obtain rfl : ems = ls := e5
          obtain ⟨la, lc, el⟩ := OW9.form
          have el' : elv = .slice la ems.length lc := el
          subst el'
          have OWx : OwnW W9 0 (.slice la ems.length lc) ems := OW9
          have GS : Hid (∀ r ∈ ems, r.p.size ≤ maxLen ∧ r.c.size ≤ maxLen) := fun r hr => (A9.tb.map.good r hr).1
          have hlen : ems.length ≤ j := A9.len
          have nq := HN.out
          have bm : w.heap.size ≤ em := SY9.st.lm _ hm
          have HE : Hid (es[at_]? = some ⟨eb, em, ems, .slice la ems.length lc, ems⟩) := he
          have b9l := q9.2.2
          clear OW9 el hm he
          by_cases k5 : (IntKind.u64.wrap x.kd).tmod 7 = 5
          case pos =>
            as_aux_lemma =>
            obtain ⟨xs, hxs⟩ : ∃ xs, xs = rel x.p ems := ⟨_, rfl⟩
            have XL : Hid (xs.length ≤ ems.length) := by rw [hxs]; exact rel_len _ _
            have RL : Hid (∀ w1, Below W9.heap.size W9 w1 → Calls Try.prog 21 #[.agg #[.slice az zs.length cz, .slice la ems.length lc], .string x.p] w1 fun e' w' => ∃ (oa : Option Addr) (oc : Nat), e' = .returned (.agg #[.slice az zs.length cz, .slice oa xs.length oc]) ∧ OwnW w' 0 (.slice oa xs.length oc) xs ∧ Below w1.heap.size w1 w') := fun w1 hb => by
              rw [hxs]
              refine (rrelease_is az zs.length cz x.p w1 ((OWx.read GS.out).later hb) (by omega)).mono fun e' w' ⟨o, h1, h2, h3⟩ => ?_
              obtain ⟨oa, oc, rfl⟩ := h2.form
              exact ⟨oa, oc, h1, h2.mono (Nat.zero_le _), h3⟩
            have AF : Hid (∀ w1 w2, Below W9.heap.size W9 w1 → Tb w2 eb em zs xs → w1.grownBy w2 (some em) → Sys0 w2 w.heap.size (j + 1) zs (.slice az zs.length cz) ga ca gw cw (es.set at_ ⟨eb, em, xs, .slice la ems.length lc, ems⟩)) := fun w1 w2 hb t hg => by
              have := ((SY9.later hb).toSys0).turn HE.out hg (ls' := xs) (by rw [hxs] at t ⊢; exact A9.rel t)
              exact this
            have RE0 : Hid (∀ w1, Below W9.heap.size W9 w1 → Calls Try.prog 14 #[tbV eb, .string x.p] w1 fun e w' => e = .returned (.int .i64 ((ems.length : Int) - xs.length)) ∧ Tb w' eb em zs xs ∧ w1.grownBy w' (some em)) := fun w1 hb => by
              rw [hxs]
              exact release_is x.p w1 (Tb.later hb A9.tb) (by omega)
            have MW : Hid (MapW W9 em ems) := A9.tb.map
            clear OWx A9 hxs GX GS
            go_upto_region 22 with (fail)
            rw [EA]
            go_cut [17] from 184 to 191 (fun s17 wc => ∃ (p17 : Nat) (oa : Option Addr) (oc : Nat), s17 = .pointer (some ⟨p17, 0, none⟩) ∧ Cs wc p17 [.slice az zs.length cz, .slice oa xs.length oc] ∧ OwnW wc 0 (.slice oa xs.length oc) xs ∧ Below W9.heap.size W9 wc)
            case first =>
              clear RE0 AF MW XL
              have BW : Hid (Below W9.heap.size W9 _) := Below.drew (Below.refl _ _)
              refine wp_region_noPanic ?_
              refine wp_region_held_drew (S := fun w' => Cs w' b9 (opL x) ∧ w'.cell? ⟨gw, at_ * 2, none⟩ = some (.slice az zs.length cz) ∧ w'.cell? ⟨gw, at_ * 2 + 1, none⟩ = some (.slice la ems.length lc)) (by kernel_rfl) ?_ (fun hHeld => ?_)
              · exact ⟨Cs.later BW.out q9, cell_later BW.out cg0, cell_later BW.out cg1⟩
              generalize World.drew _ = wd0 at *
              refine wpAnyH_take (i := 0) (v := ?_) rfl (by kernel_rfl) (by kernel_rfl) (by kernel_rfl) (fun _ _ _ h => h) (Or.inl ⟨by rfl, ?_⟩) (by assumption) ?_
              rotate_left
              · (intro wS hSw; have d2 := hSw.1.1 2 _ rfl; have g0 := hSw.2.1; have g1 := hSw.2.2; have d9z := hSw.1.2.2; go_simp; try with_reducible rfl)
              change wpAnyH _ _ _ _ _ _ _ (Act.put _ (some 184) _) _
              simp only [Act.put, List.setIfInBounds_toArray, List.set_cons_zero, List.set_cons_succ]
              refine wpAnyH_take (i := 1) (v := ?_) rfl (by kernel_rfl) (by kernel_rfl) (by kernel_rfl) (fun _ _ _ h => h) (Or.inl ⟨by rfl, ?_⟩) (by assumption) ?_
              rotate_left
              · (intro wS hSw; have d2 := hSw.1.1 2 _ rfl; have g0 := hSw.2.1; have g1 := hSw.2.2; have d9z := hSw.1.2.2; go_simp; try with_reducible rfl)
              change wpAnyH _ _ _ _ _ _ _ (Act.put _ (some 185) _) _
              simp only [Act.put, List.setIfInBounds_toArray, List.set_cons_zero, List.set_cons_succ]
              refine wpAnyH_take (i := 2) (v := ?_) rfl (by kernel_rfl) (by kernel_rfl) (by kernel_rfl) (fun _ _ _ h => h) (Or.inl ⟨by rfl, ?_⟩) (by assumption) ?_
              rotate_left
              · (intro wS hSw; have d2 := hSw.1.1 2 _ rfl; have g0 := hSw.2.1; have g1 := hSw.2.2; have d9z := hSw.1.2.2; go_simp; try with_reducible rfl)
              change wpAnyH _ _ _ _ _ _ _ (Act.put _ (some 186) _) _
              simp only [Act.put, List.setIfInBounds_toArray, List.set_cons_zero, List.set_cons_succ]
              refine wpAnyH_take (i := 3) (v := ?_) rfl (by kernel_rfl) (by kernel_rfl) (by kernel_rfl) (fun _ _ _ h => h) (Or.inl ⟨by rfl, ?_⟩) (by assumption) ?_
              rotate_left
              · (intro wS hSw; have d2 := hSw.1.1 2 _ rfl; have g0 := hSw.2.1; have g1 := hSw.2.2; have d9z := hSw.1.2.2; go_simp; try with_reducible rfl)
              change wpAnyH _ _ _ _ _ _ _ (Act.put _ (some 187) _) _
              simp only [Act.put, List.setIfInBounds_toArray, List.set_cons_zero, List.set_cons_succ]
              refine wpAnyH_take (i := 4) (v := ?_) rfl (by kernel_rfl) (by kernel_rfl) (by kernel_rfl) (fun _ _ _ h => h) (Or.inl ⟨by rfl, ?_⟩) (by assumption) ?_
              rotate_left
              · (intro wS hSw; have d2 := hSw.1.1 2 _ rfl; have g0 := hSw.2.1; have g1 := hSw.2.2; have d9z := hSw.1.2.2; go_simp; try with_reducible rfl)
              change wpAnyH _ _ _ _ _ _ _ (Act.put _ (some 188) _) _
              simp only [Act.put, List.setIfInBounds_toArray, List.set_cons_zero, List.set_cons_succ]
              refine wpAnyH_take (i := 5) (v := ?_) rfl (by kernel_rfl) (by kernel_rfl) (by kernel_rfl) (fun _ _ _ h => h) (Or.inl ⟨by rfl, ?_⟩) (by assumption) ?_
              rotate_left
              · (intro wS hSw; have d2 := hSw.1.1 2 _ rfl; have g0 := hSw.2.1; have g1 := hSw.2.2; have d9z := hSw.1.2.2; go_simp; try with_reducible rfl)
              change wpAnyH _ _ _ _ _ _ _ (Act.put _ (some 189) _) _
              simp only [Act.put, List.setIfInBounds_toArray, List.set_cons_zero, List.set_cons_succ]
              refine wpAnyH_take (i := 6) (v := ?_) rfl (by kernel_rfl) (by kernel_rfl) (by kernel_rfl) (fun _ _ _ h => h) (Or.inl ⟨by rfl, ?_⟩) (by assumption) ?_
              rotate_left
              · (intro wS hSw; have d2 := hSw.1.1 2 _ rfl; have g0 := hSw.2.1; have g1 := hSw.2.2; have d9z := hSw.1.2.2; go_simp; try with_reducible rfl)
              change wpAnyH _ _ _ _ _ _ _ (Act.put _ (some 190) _) _
              simp only [Act.put, List.setIfInBounds_toArray, List.set_cons_zero, List.set_cons_succ]
              refine wpAnyH_ready (rs := [7, 8]) (by kernel_rfl) (by simp) ?_
              refine AllReadyH.cons rfl (fun K hK => ?_) (AllReadyH.cons rfl (fun K hK => ?_) AllReadyH.nil)
              ·
                go_simp
                refine (RL.out _ BW.out).mono ?_
                rintro e v1 ⟨oa, oc, rfl, own, hv1⟩
                have BW' : Hid (Below W9.heap.size W9 v1) := BW.out.trans (hv1.mono BW.out.size)
                have XO' : Hid (OwnW v1 0 (.slice oa xs.length oc) xs) := own
                clear hv1 BW
                have BW := BW'
                clear BW'
                have XO := XO'
                clear XO'
                (try go_wp2_with (fail))
                refine hK.out _ _ ?_ (fun hHeld => ?_)
                · exact ⟨Cs.later BW.out q9, cell_later BW.out cg0, cell_later BW.out cg1⟩
                clear hK K
                refine wpAnyH_ready (rs := [8]) (by kernel_rfl) (by simp) ?_
                refine AllReadyH.cons rfl (fun K hK => ?_) AllReadyH.nil
                go_simp
                obtain ⟨p17, hp17⟩ : ∃ p17, p17 = v1.heap.size := ⟨_, rfl⟩
                have BW' : Hid (Below W9.heap.size W9 (v1.alloc (.cells #[.slice none 0 0, .slice none 0 0] 54))) := BW.out.alloc BW.out.size _
                have XO' : Hid (OwnW (v1.alloc (.cells #[.slice none 0 0, .slice none 0 0] 54)) 0 (.slice oa xs.length oc) xs) := XO.out.alloc _
                have N17' : Hid (Cs (v1.alloc (.cells #[.slice none 0 0, .slice none 0 0] 54)) p17 [.slice none 0 0, .slice none 0 0] ∧ W9.heap.size ≤ p17) := by rw [hp17]; exact ⟨Cs.new _ _ _ _ rfl, BW.out.size⟩
                have NT' : Hid (NoRw (v1.alloc (.cells #[.slice none 0 0, .slice none 0 0] 54)) p17) := by rw [hp17]; exact alloc_type _ _ (by decide)
                clear BW XO
                have BW := BW'
                clear BW'
                have XO := XO'
                clear XO'
                have N17 := N17'
                clear N17'
                have NT := NT'
                clear NT'
                refine hK.out _ _ ?_ (fun hHeld => ?_)
                · exact ⟨Cs.later BW.out q9, cell_later BW.out cg0, cell_later BW.out cg1⟩
                clear hK K
                rw [← hp17]
                clear hp17
                generalize v1.alloc (.cells #[.slice none 0 0, .slice none 0 0] 54) = wA2 at *
                refine wpAnyH_ready (rs := [9]) (by kernel_rfl) (by simp) ?_
                refine AllReadyH.cons rfl (fun K hK => ?_) AllReadyH.nil
                have c0 := N17.out.1.1 0 _ rfl
                have c1 := N17.out.1.1 1 _ rfl
                have f0 := N17.out.1.2.1 0 (by show 0 < 2; omega)
                have f1 := N17.out.1.2.1 1 (by show 1 < 2; omega)
                have hg1 : wA2.grownBy ((wA2.setCell ⟨p17, 0, none⟩ (.slice az zs.length cz)).setCell ⟨p17, 1, none⟩ (.slice oa xs.length oc)) (some p17) := (own_set wA2 p17 0 _).trans (own_set _ p17 1 _)
                have BW' : Hid (Below W9.heap.size W9 ((wA2.setCell ⟨p17, 0, none⟩ (.slice az zs.length cz)).setCell ⟨p17, 1, none⟩ (.slice oa xs.length oc))) := (BW.out.setCell (p := ⟨p17, 0, none⟩) N17.out.2 _).setCell (p := ⟨p17, 1, none⟩) N17.out.2 _
                have XO' : Hid (OwnW ((wA2.setCell ⟨p17, 0, none⟩ (.slice az zs.length cz)).setCell ⟨p17, 1, none⟩ (.slice oa xs.length oc)) 0 (.slice oa xs.length oc) xs) := own_off XO.out hg1 NT.out
                have N17' : Hid (Cs ((wA2.setCell ⟨p17, 0, none⟩ (.slice az zs.length cz)).setCell ⟨p17, 1, none⟩ (.slice oa xs.length oc)) p17 [.slice az zs.length cz, .slice oa xs.length oc]) := (N17.out.1.set 0 (.slice az zs.length cz) (by simp)).set 1 (.slice oa xs.length oc) (by simp)
                clear N17 BW XO NT hg1
                have BW := BW'
                have N17 := N17'
                have XO := XO'
                clear BW' N17' XO'
                go_wp2_with (fail)
                refine hK.out _ _ ?_ (fun hHeld => ?_)
                · exact ⟨Cs.later BW.out q9, cell_later BW.out cg0, cell_later BW.out cg1⟩
                clear hK K c0 c1 f0 f1
                generalize ((wA2.setCell ⟨p17, 0, none⟩ (.slice az zs.length cz)).setCell ⟨p17, 1, none⟩ (.slice oa xs.length oc)) = wS at *
                refine wpAnyH_done (by kernel_rfl) ?_ _
                refine NoPanic.normal ?_
                (try go_wp2)
                go_meet
                case rel => exact ⟨p17, oa, oc, rfl, N17.out, XO.out, BW.out⟩
              ·
                go_simp
                obtain ⟨p17, hp17⟩ : ∃ p17, p17 = wd0.heap.size := ⟨_, rfl⟩
                have BW' : Hid (Below W9.heap.size W9 (wd0.alloc (.cells #[.slice none 0 0, .slice none 0 0] 54))) := BW.out.alloc BW.out.size _
                have N17' : Hid (Cs (wd0.alloc (.cells #[.slice none 0 0, .slice none 0 0] 54)) p17 [.slice none 0 0, .slice none 0 0] ∧ W9.heap.size ≤ p17) := by rw [hp17]; exact ⟨Cs.new _ _ _ _ rfl, BW.out.size⟩
                have NT' : Hid (NoRw (wd0.alloc (.cells #[.slice none 0 0, .slice none 0 0] 54)) p17) := by rw [hp17]; exact alloc_type _ _ (by decide)
                clear BW
                have BW := BW'
                clear BW'
                have N17 := N17'
                clear N17'
                have NT := NT'
                clear NT'
                refine hK.out _ _ ?_ (fun hHeld => ?_)
                · exact ⟨Cs.later BW.out q9, cell_later BW.out cg0, cell_later BW.out cg1⟩
                clear hK K
                rw [← hp17]
                clear hp17
                generalize wd0.alloc (.cells #[.slice none 0 0, .slice none 0 0] 54) = wA4 at *
                refine wpAnyH_ready (rs := [7]) (by kernel_rfl) (by simp) ?_
                refine AllReadyH.cons rfl (fun K hK => ?_) AllReadyH.nil
                go_simp
                refine (RL.out _ BW.out).mono ?_
                rintro e v5 ⟨oa, oc, rfl, own, hv5⟩
                have BW' : Hid (Below W9.heap.size W9 v5) := BW.out.trans (hv5.mono BW.out.size)
                have N17' : Hid (Cs v5 p17 [.slice none 0 0, .slice none 0 0] ∧ W9.heap.size ≤ p17) := ⟨Cs.later hv5 N17.out.1, N17.out.2⟩
                have NT' : Hid (NoRw v5 p17) := type_later NT.out hv5 N17.out.1.2.2
                have XO' : Hid (OwnW v5 0 (.slice oa xs.length oc) xs) := own
                clear hv5 BW N17 NT
                have BW := BW'
                clear BW'
                have N17 := N17'
                clear N17'
                have NT := NT'
                clear NT'
                have XO := XO'
                clear XO'
                (try go_wp2_with (fail))
                refine hK.out _ _ ?_ (fun hHeld => ?_)
                · exact ⟨Cs.later BW.out q9, cell_later BW.out cg0, cell_later BW.out cg1⟩
                clear hK K
                refine wpAnyH_ready (rs := [9]) (by kernel_rfl) (by simp) ?_
                refine AllReadyH.cons rfl (fun K hK => ?_) AllReadyH.nil
                have c0 := N17.out.1.1 0 _ rfl
                have c1 := N17.out.1.1 1 _ rfl
                have f0 := N17.out.1.2.1 0 (by show 0 < 2; omega)
                have f1 := N17.out.1.2.1 1 (by show 1 < 2; omega)
                have hg1 : v5.grownBy ((v5.setCell ⟨p17, 0, none⟩ (.slice az zs.length cz)).setCell ⟨p17, 1, none⟩ (.slice oa xs.length oc)) (some p17) := (own_set v5 p17 0 _).trans (own_set _ p17 1 _)
                have BW' : Hid (Below W9.heap.size W9 ((v5.setCell ⟨p17, 0, none⟩ (.slice az zs.length cz)).setCell ⟨p17, 1, none⟩ (.slice oa xs.length oc))) := (BW.out.setCell (p := ⟨p17, 0, none⟩) N17.out.2 _).setCell (p := ⟨p17, 1, none⟩) N17.out.2 _
                have XO' : Hid (OwnW ((v5.setCell ⟨p17, 0, none⟩ (.slice az zs.length cz)).setCell ⟨p17, 1, none⟩ (.slice oa xs.length oc)) 0 (.slice oa xs.length oc) xs) := own_off XO.out hg1 NT.out
                have N17' : Hid (Cs ((v5.setCell ⟨p17, 0, none⟩ (.slice az zs.length cz)).setCell ⟨p17, 1, none⟩ (.slice oa xs.length oc)) p17 [.slice az zs.length cz, .slice oa xs.length oc]) := (N17.out.1.set 0 (.slice az zs.length cz) (by simp)).set 1 (.slice oa xs.length oc) (by simp)
                clear N17 BW XO NT hg1
                have BW := BW'
                have N17 := N17'
                have XO := XO'
                clear BW' N17' XO'
                go_wp2_with (fail)
                refine hK.out _ _ ?_ (fun hHeld => ?_)
                · exact ⟨Cs.later BW.out q9, cell_later BW.out cg0, cell_later BW.out cg1⟩
                clear hK K c0 c1 f0 f1
                generalize ((v5.setCell ⟨p17, 0, none⟩ (.slice az zs.length cz)).setCell ⟨p17, 1, none⟩ (.slice oa xs.length oc)) = wS at *
                refine wpAnyH_done (by kernel_rfl) ?_ _
                refine NoPanic.normal ?_
                (try go_wp2)
                go_meet
                case rel => exact ⟨p17, oa, oc, rfl, N17.out, XO.out, BW.out⟩
            case rest =>
              obtain ⟨p17, oa, oc, rfl, N17, XO, BW⟩ := hcut
              obtain ⟨w22, hw22⟩ : ∃ x, x = wc := ⟨_, rfl⟩
              rw [← hw22] at N17 XO BW ⊢
              clear hw22
              have q22 := Cs.later BW q9
              have cga := cell_later BW ca0
              have cgw := cell_later BW cg1
              have hl2 := (List.getElem?_eq_some_iff.1 HE.out).1
              have RE : Hid (∀ w1, Below w22.heap.size w22 w1 → Calls Try.prog 14 #[tbV eb, .string x.p] w1 fun e w' => e = .returned (.int .i64 ((ems.length : Int) - xs.length)) ∧
                  (Sys0 w' w.heap.size (j + 1) zs (.slice az zs.length cz) ga ca gw cw (es.set at_ ⟨eb, em, xs, .slice la ems.length lc, ems⟩) ∧ Cs w' b9 (opL x) ∧ Cs w' p17 [.slice az zs.length cz, .slice oa xs.length oc] ∧ OwnW w' 0 (.slice oa xs.length oc) xs ∧ Below w.heap.size w w')) := fun w1 hb => by
                have hb9 := BW.trans (hb.mono BW.size)
                refine (RE0.out w1 hb9).mono fun e w' ⟨h1, h2, h3⟩ => ⟨h1, AF.out w1 w' hb9 h2 h3, ?_, ?_, ?_, ?_⟩
                · exact (Cs.later hb q22).grown h3 fun e => (cs_map (MapW.later hb9 MW.out) (Cs.later hb q22)) (Option.some.inj e).symm
                · exact (Cs.later hb N17).grown h3 fun e => (cs_map (MapW.later hb9 MW.out) (Cs.later hb N17)) (Option.some.inj e).symm
                · exact own_off (OwnW.later XO hb) h3 fun cur => (MapW.later hb9 MW.out).obj cur _ _
                · exact (HB9.trans (hb9.mono HB9.size)).grown h3 (by have := (HB9.trans (hb9.mono HB9.size)).size; omega) fun k hk => by injection hk with hk; omega
              have xl := XL.out
              have WR : IntKind.i64.wrap ((ems.length : Int) - (xs.length : Int)) = (ems.length : Int) - (xs.length : Int) := IntWalk.i64_in _ (by omega)
              clear xl
              clear RE0 AF MW RL ca0 cg0 cg1 q9
              go_upto_region 23 with (fail)
              go_cut [210] from 192 to 210 (fun s wc => s = .bool false ∧ (Sys0 wc w.heap.size (j + 1) zs (.slice az zs.length cz) ga ca gw cw (es.set at_ ⟨eb, em, xs, .slice la ems.length lc, ems⟩) ∧ Cs wc b9 (opL x) ∧ Cs wc p17 [.slice az zs.length cz, .slice oa xs.length oc] ∧ OwnW wc 0 (.slice oa xs.length oc) xs ∧ Below w.heap.size w wc))
              case first =>
                have F_0 : Hid (Below w22.heap.size w22 _) := Below.drew (Below.refl _ _)
                refine wp_region_noPanic ?_
                refine wp_region_held_drew (S := fun w' => Cs w' b9 (opL x) ∧ Cs w' p17 [.slice az zs.length cz, .slice oa xs.length oc] ∧ w'.cell? ⟨ga, at_, none⟩ = some (tbV eb) ∧ w'.cell? ⟨gw, at_ * 2 + 1, none⟩ = some (.slice la ems.length lc)) (by kernel_rfl) ?_ (fun hHeld => ?_)
                · exact ⟨Cs.later F_0.out q22, Cs.later F_0.out N17, cell_later F_0.out cga, cell_later F_0.out cgw⟩
                refine wpAnyH_take (i := 0) (v := ?_) rfl (by kernel_rfl) (by kernel_rfl) (by kernel_rfl) (fun _ _ _ h => h) (Or.inl ⟨by rfl, ?_⟩) (by assumption) ?_
                rotate_left
                · (intro wS hSw; have d2 := hSw.1.1 2 _ rfl; have p1 := hSw.2.1.1 1 _ rfl; have g0 := hSw.2.2.1; have g1 := hSw.2.2.2; have d9z := hSw.1.2.2; have p9z := hSw.2.1.2.2; go_simp; try with_reducible rfl)
                change wpAnyH _ _ _ _ _ _ _ (Act.put _ (some 192) _) _
                simp only [Act.put, List.setIfInBounds_toArray, List.set_cons_zero, List.set_cons_succ]
                refine wpAnyH_take (i := 1) (v := ?_) rfl (by kernel_rfl) (by kernel_rfl) (by kernel_rfl) (fun _ _ _ h => h) (Or.inl ⟨by rfl, ?_⟩) (by assumption) ?_
                rotate_left
                · (intro wS hSw; have d2 := hSw.1.1 2 _ rfl; have p1 := hSw.2.1.1 1 _ rfl; have g0 := hSw.2.2.1; have g1 := hSw.2.2.2; have d9z := hSw.1.2.2; have p9z := hSw.2.1.2.2; go_simp; try with_reducible rfl)
                change wpAnyH _ _ _ _ _ _ _ (Act.put _ (some 193) _) _
                simp only [Act.put, List.setIfInBounds_toArray, List.set_cons_zero, List.set_cons_succ]
                refine wpAnyH_take (i := 2) (v := ?_) rfl (by kernel_rfl) (by kernel_rfl) (by kernel_rfl) (fun _ _ _ h => h) (Or.inl ⟨by rfl, ?_⟩) (by assumption) ?_
                rotate_left
                · (intro wS hSw; have d2 := hSw.1.1 2 _ rfl; have p1 := hSw.2.1.1 1 _ rfl; have g0 := hSw.2.2.1; have g1 := hSw.2.2.2; have d9z := hSw.1.2.2; have p9z := hSw.2.1.2.2; go_simp; try with_reducible rfl)
                change wpAnyH _ _ _ _ _ _ _ (Act.put _ (some 194) _) _
                simp only [Act.put, List.setIfInBounds_toArray, List.set_cons_zero, List.set_cons_succ]
                refine wpAnyH_take (i := 3) (v := ?_) rfl (by kernel_rfl) (by kernel_rfl) (by kernel_rfl) (fun _ _ _ h => h) (Or.inl ⟨by rfl, ?_⟩) (by assumption) ?_
                rotate_left
                · (intro wS hSw; have d2 := hSw.1.1 2 _ rfl; have p1 := hSw.2.1.1 1 _ rfl; have g0 := hSw.2.2.1; have g1 := hSw.2.2.2; have d9z := hSw.1.2.2; have p9z := hSw.2.1.2.2; go_simp; try with_reducible rfl)
                change wpAnyH _ _ _ _ _ _ _ (Act.put _ (some 195) _) _
                simp only [Act.put, List.setIfInBounds_toArray, List.set_cons_zero, List.set_cons_succ]
                refine wpAnyH_take (i := 4) (v := ?_) rfl (by kernel_rfl) (by kernel_rfl) (by kernel_rfl) (fun _ _ _ h => h) (Or.inl ⟨by rfl, ?_⟩) (by assumption) ?_
                rotate_left
                · (intro wS hSw; have d2 := hSw.1.1 2 _ rfl; have p1 := hSw.2.1.1 1 _ rfl; have g0 := hSw.2.2.1; have g1 := hSw.2.2.2; have d9z := hSw.1.2.2; have p9z := hSw.2.1.2.2; go_simp; try with_reducible rfl)
                change wpAnyH _ _ _ _ _ _ _ (Act.put _ (some 196) _) _
                simp only [Act.put, List.setIfInBounds_toArray, List.set_cons_zero, List.set_cons_succ]
                refine wpAnyH_take (i := 5) (v := ?_) rfl (by kernel_rfl) (by kernel_rfl) (by kernel_rfl) (fun _ _ _ h => h) (Or.inl ⟨by rfl, ?_⟩) (by assumption) ?_
                rotate_left
                · (intro wS hSw; have d2 := hSw.1.1 2 _ rfl; have p1 := hSw.2.1.1 1 _ rfl; have g0 := hSw.2.2.1; have g1 := hSw.2.2.2; have d9z := hSw.1.2.2; have p9z := hSw.2.1.2.2; go_simp; try with_reducible rfl)
                change wpAnyH _ _ _ _ _ _ _ (Act.put _ (some 197) _) _
                simp only [Act.put, List.setIfInBounds_toArray, List.set_cons_zero, List.set_cons_succ]
                refine wpAnyH_take (i := 6) (v := ?_) rfl (by kernel_rfl) (by kernel_rfl) (by kernel_rfl) (fun _ _ _ h => h) (Or.inl ⟨by rfl, ?_⟩) (by assumption) ?_
                rotate_left
                · (intro wS hSw; have d2 := hSw.1.1 2 _ rfl; have p1 := hSw.2.1.1 1 _ rfl; have g0 := hSw.2.2.1; have g1 := hSw.2.2.2; have d9z := hSw.1.2.2; have p9z := hSw.2.1.2.2; go_simp; try with_reducible rfl)
                change wpAnyH _ _ _ _ _ _ _ (Act.put _ (some 198) _) _
                simp only [Act.put, List.setIfInBounds_toArray, List.set_cons_zero, List.set_cons_succ]
                refine wpAnyH_take (i := 8) (v := ?_) rfl (by kernel_rfl) (by kernel_rfl) (by kernel_rfl) (fun _ _ _ h => h) (Or.inl ⟨by rfl, ?_⟩) (by assumption) ?_
                rotate_left
                · (intro wS hSw; have d2 := hSw.1.1 2 _ rfl; have p1 := hSw.2.1.1 1 _ rfl; have g0 := hSw.2.2.1; have g1 := hSw.2.2.2; have d9z := hSw.1.2.2; have p9z := hSw.2.1.2.2; go_simp; try with_reducible rfl)
                change wpAnyH _ _ _ _ _ _ _ (Act.put _ (some 200) _) _
                simp only [Act.put, List.setIfInBounds_toArray, List.set_cons_zero, List.set_cons_succ]
                refine wpAnyH_take (i := 9) (v := ?_) rfl (by kernel_rfl) (by kernel_rfl) (by kernel_rfl) (fun _ _ _ h => h) (Or.inl ⟨by rfl, ?_⟩) (by assumption) ?_
                rotate_left
                · (intro wS hSw; have d2 := hSw.1.1 2 _ rfl; have p1 := hSw.2.1.1 1 _ rfl; have g0 := hSw.2.2.1; have g1 := hSw.2.2.2; have d9z := hSw.1.2.2; have p9z := hSw.2.1.2.2; go_simp; try with_reducible rfl)
                change wpAnyH _ _ _ _ _ _ _ (Act.put _ (some 201) _) _
                simp only [Act.put, List.setIfInBounds_toArray, List.set_cons_zero, List.set_cons_succ]
                refine wpAnyH_take (i := 10) (v := ?_) rfl (by kernel_rfl) (by kernel_rfl) (by kernel_rfl) (fun _ _ _ h => h) (Or.inl ⟨by rfl, ?_⟩) (by assumption) ?_
                rotate_left
                · (intro wS hSw; have d2 := hSw.1.1 2 _ rfl; have p1 := hSw.2.1.1 1 _ rfl; have g0 := hSw.2.2.1; have g1 := hSw.2.2.2; have d9z := hSw.1.2.2; have p9z := hSw.2.1.2.2; go_simp; try with_reducible rfl)
                change wpAnyH _ _ _ _ _ _ _ (Act.put _ (some 202) _) _
                simp only [Act.put, List.setIfInBounds_toArray, List.set_cons_zero, List.set_cons_succ]
                refine wpAnyH_take (i := 11) (v := ?_) rfl (by kernel_rfl) (by kernel_rfl) (by kernel_rfl) (fun _ _ _ h => h) (Or.inl ⟨by rfl, ?_⟩) (by assumption) ?_
                rotate_left
                · (intro wS hSw; have d2 := hSw.1.1 2 _ rfl; have p1 := hSw.2.1.1 1 _ rfl; have g0 := hSw.2.2.1; have g1 := hSw.2.2.2; have d9z := hSw.1.2.2; have p9z := hSw.2.1.2.2; go_simp; try with_reducible rfl)
                change wpAnyH _ _ _ _ _ _ _ (Act.put _ (some 203) _) _
                simp only [Act.put, List.setIfInBounds_toArray, List.set_cons_zero, List.set_cons_succ]
                refine wpAnyH_take (i := 12) (v := ?_) rfl (by kernel_rfl) (by kernel_rfl) (by kernel_rfl) (fun _ _ _ h => h) (Or.inl ⟨by rfl, ?_⟩) (by assumption) ?_
                rotate_left
                · (intro wS hSw; have d2 := hSw.1.1 2 _ rfl; have p1 := hSw.2.1.1 1 _ rfl; have g0 := hSw.2.2.1; have g1 := hSw.2.2.2; have d9z := hSw.1.2.2; have p9z := hSw.2.1.2.2; go_simp; try with_reducible rfl)
                change wpAnyH _ _ _ _ _ _ _ (Act.put _ (some 204) _) _
                simp only [Act.put, List.setIfInBounds_toArray, List.set_cons_zero, List.set_cons_succ]
                refine wpAnyH_take (i := 13) (v := ?_) rfl (by kernel_rfl) (by kernel_rfl) (by kernel_rfl) (fun _ _ _ h => h) (Or.inl ⟨by rfl, ?_⟩) (by assumption) ?_
                rotate_left
                · (intro wS hSw; have d2 := hSw.1.1 2 _ rfl; have p1 := hSw.2.1.1 1 _ rfl; have g0 := hSw.2.2.1; have g1 := hSw.2.2.2; have d9z := hSw.1.2.2; have p9z := hSw.2.1.2.2; go_simp; try with_reducible rfl)
                change wpAnyH _ _ _ _ _ _ _ (Act.put _ (some 205) _) _
                simp only [Act.put, List.setIfInBounds_toArray, List.set_cons_zero, List.set_cons_succ]
                refine wpAnyH_take (i := 14) (v := ?_) rfl (by kernel_rfl) (by kernel_rfl) (by kernel_rfl) (fun _ _ _ h => h) (Or.inl ⟨by rfl, ?_⟩) (by assumption) ?_
                rotate_left
                · (intro wS hSw; have d2 := hSw.1.1 2 _ rfl; have p1 := hSw.2.1.1 1 _ rfl; have g0 := hSw.2.2.1; have g1 := hSw.2.2.2; have d9z := hSw.1.2.2; have p9z := hSw.2.1.2.2; go_simp; try with_reducible rfl)
                change wpAnyH _ _ _ _ _ _ _ (Act.put _ (some 206) _) _
                simp only [Act.put, List.setIfInBounds_toArray, List.set_cons_zero, List.set_cons_succ]
                refine wpAnyH_take (i := 15) (v := ?_) rfl (by kernel_rfl) (by kernel_rfl) (by kernel_rfl) (fun _ _ _ h => h) (Or.inl ⟨by rfl, ?_⟩) (by assumption) ?_
                rotate_left
                · (intro wS hSw; have d2 := hSw.1.1 2 _ rfl; have p1 := hSw.2.1.1 1 _ rfl; have g0 := hSw.2.2.1; have g1 := hSw.2.2.2; have d9z := hSw.1.2.2; have p9z := hSw.2.1.2.2; go_simp; try with_reducible rfl)
                change wpAnyH _ _ _ _ _ _ _ (Act.put _ (some 207) _) _
                simp only [Act.put, List.setIfInBounds_toArray, List.set_cons_zero, List.set_cons_succ]
                refine wpAnyH_take (i := 16) (v := ?_) rfl (by kernel_rfl) (by kernel_rfl) (by kernel_rfl) (fun _ _ _ h => h) (Or.inl ⟨by rfl, ?_⟩) (by assumption) ?_
                rotate_left
                · (intro wS hSw; have d2 := hSw.1.1 2 _ rfl; have p1 := hSw.2.1.1 1 _ rfl; have g0 := hSw.2.2.1; have g1 := hSw.2.2.2; have d9z := hSw.1.2.2; have p9z := hSw.2.1.2.2; go_simp; try with_reducible rfl)
                change wpAnyH _ _ _ _ _ _ _ (Act.put _ (some 208) _) _
                simp only [Act.put, List.setIfInBounds_toArray, List.set_cons_zero, List.set_cons_succ]
                refine wpAnyH_take (i := 17) (v := ?_) rfl (by kernel_rfl) (by kernel_rfl) (by kernel_rfl) (fun _ _ _ h => h) (Or.inl ⟨by rfl, ?_⟩) (by assumption) ?_
                rotate_left
                · (intro wS hSw; have d2 := hSw.1.1 2 _ rfl; have p1 := hSw.2.1.1 1 _ rfl; have g0 := hSw.2.2.1; have g1 := hSw.2.2.2; have d9z := hSw.1.2.2; have p9z := hSw.2.1.2.2; go_simp; try with_reducible rfl)
                change wpAnyH _ _ _ _ _ _ _ (Act.put _ (some 209) _) _
                simp only [Act.put, List.setIfInBounds_toArray, List.set_cons_zero, List.set_cons_succ]
                refine wpAnyH_ready (rs := [7]) (by kernel_rfl) (by simp) ?_
                refine AllReadyH.cons rfl (fun K hK => ?_) AllReadyH.nil
                go_simp
                refine (RE.out _ F_0.out).mono ?_
                rintro e v1 ⟨rfl, hv1⟩
                have F_1 : Hid ((Sys0 v1 w.heap.size (j + 1) zs (.slice az zs.length cz) ga ca gw cw (es.set at_ ⟨eb, em, xs, .slice la ems.length lc, ems⟩) ∧ Cs v1 b9 (opL x) ∧ Cs v1 p17 [.slice az zs.length cz, .slice oa xs.length oc] ∧ OwnW v1 0 (.slice oa xs.length oc) xs ∧ Below w.heap.size w v1)) := hv1
                clear hv1 F_0
                (try go_wp2_with (fail))
                refine hK.out _ _ ?_ (fun hHeld => ?_)
                · exact ⟨F_1.out.2.1, F_1.out.2.2.1, (F_1.out.1.cells (i := at_) (by rw [List.getElem?_set_self hl2])).1, (F_1.out.1.cells (i := at_) (by rw [List.getElem?_set_self hl2])).2.2⟩
                clear hK K
                refine wpAnyH_take (i := 18) (v := ?_) rfl (by kernel_rfl) (by kernel_rfl) (by kernel_rfl) (fun _ _ _ h => h) (Or.inl ⟨by rfl, ?_⟩) (by assumption) ?_
                rotate_left
                · (intro wS hSw; have d2 := hSw.1.1 2 _ rfl; have p1 := hSw.2.1.1 1 _ rfl; have g0 := hSw.2.2.1; have g1 := hSw.2.2.2; have d9z := hSw.1.2.2; have p9z := hSw.2.1.2.2; go_simp; try with_reducible rfl)
                change wpAnyH _ _ _ _ _ _ _ (Act.put _ (some 210) _) _
                simp only [Act.put, List.setIfInBounds_toArray, List.set_cons_zero, List.set_cons_succ]
                refine wpAnyH_done (by kernel_rfl) ?_ _
                refine NoPanic.normal ?_
                (try go_wp2)
                go_meet
                case rel => exact ⟨by simp, F_1.out⟩
              case rest =>
                obtain ⟨rfl, SYk, q25, N25, XO25, HB25⟩ := hcut
                have SY22 := SY9.later BW
                clear RE q22 cga cgw N17 XO HB9 dz d0 d1 WR
                obtain ⟨-, cgz, cgx⟩ := SYk.cells (i := at_) (by rw [List.getElem?_set_self hl2])
                have fg0 := SYk.frozen (at_ * 2)
                have fg1 := SYk.frozen (at_ * 2 + 1)
                have c0 := N25.1 0 _ rfl
                have c1 := N25.1 1 _ rfl
                have z17 := N25.2.2
                obtain ⟨SYn, gS, gb⟩ := SY22.step HE.out SYk XO25
                have HBn := HB25.grown gS HB25.size fun k hk => by injection hk with hk; omega
                have LL : Hid ((es.set at_ ⟨eb, em, xs, .slice oa xs.length oc, xs⟩).length = es.length) := List.length_set ..
                have HSn : Hid (Sys _ _ _ _ _ _ _ _ _ _) := SYn
                have HHn : Hid (Below _ _ _) := HBn
                clear SYk N25 XO25 HB25 gS gb SYn HBn SY22 BW SY9
                go_wp2
                go_roundw
                case rel => exact ⟨j + 1, es.set at_ ⟨eb, em, xs, .slice oa xs.length oc, xs⟩, ga, ca, gw, cw, by go_num, by rw [LL.out], by rw [LL.out], by omega, HSn.out, HHn.out⟩
                case measure => simp [intOf]; omega
          case neg =>
            as_aux_lemma =>
            obtain ⟨E, hE⟩ : ∃ E, E = putE zs ems x.p x.c x.k x.s := ⟨_, rfl⟩
            obtain ⟨xs, hxs⟩ : ∃ xs, xs = putL zs ems x.p x.c x.k x.s := ⟨_, rfl⟩
            have RP : Hid (∀ w1, Below W9.heap.size W9 w1 → Calls Try.prog 22 #[.agg #[.slice az zs.length cz, .slice la ems.length lc], ownV x.p x.c x.k, spV x.s] w1 fun e' w' => ∃ (oa : Option Addr) (oc : Nat), e' = .returned (.tuple #[.agg #[.slice az zs.length cz, .slice oa xs.length oc], .int .i64 E]) ∧ OwnW w' 0 (.slice oa xs.length oc) xs ∧ Below w1.heap.size w1 w') := fun w1 hb => by
              rw [hxs, hE]
              refine (rput_is x.p x.c x.k x.s w1 (HZ.out.later (HB9.trans (hb.mono HB9.size))) HFT.out (OwnW.later OWx hb) GS.out A9.ord GX.out (by omega)).mono fun e' w' ⟨o, h1, h2, h3⟩ => ?_
              obtain ⟨oa, oc, rfl⟩ := h2.form
              exact ⟨oa, oc, h1, h2, h3⟩
            have AF : Hid (∀ w1 w2, Below W9.heap.size W9 w1 → Tb w2 eb em zs xs → w1.grownBy w2 (some em) → Sys0 w2 w.heap.size (j + 1) zs (.slice az zs.length cz) ga ca gw cw (es.set at_ ⟨eb, em, xs, .slice la ems.length lc, ems⟩)) := fun w1 w2 hb t hg => by
              have := ((SY9.later hb).toSys0).turn HE.out hg (ls' := xs) (by rw [hxs] at t ⊢; exact A9.put t)
              exact this
            have RE0 : Hid (∀ w1, Below W9.heap.size W9 w1 → Calls Try.prog 16 #[tbV eb, ownV x.p x.c x.k, spV x.s] w1 fun e w' => e = .returned (.int .i64 E) ∧ Tb w' eb em zs xs ∧ w1.grownBy w' (some em)) := fun w1 hb => by
              rw [hxs, hE]
              exact put_is x.p x.c x.k x.s w1 (Tb.later hb A9.tb) A9.ord.sound GX.out (by unfold maxLen; omega)
            have MW : Hid (MapW W9 em ems) := A9.tb.map
            clear OWx A9 hxs hE GS
            have b5 : ((IntKind.u64.wrap x.kd).tmod 7 == 5) = false := by simpa using k5
            have b6 : ((IntKind.u64.wrap x.kd).tmod 7 == 6) = false := by simpa using k6
            go_upto_region 16 with (fail)
            rw [EA]
            (try rw [b5])
            (try rw [b6])
            go_cut [18, 19] from 139 to 150 (fun s18 s19 wc => ∃ (p18 : Nat) (oa : Option Addr) (oc : Nat), s18 = .pointer (some ⟨p18, 0, none⟩) ∧ s19 = .int .i64 E ∧ Cs wc p18 [.slice az zs.length cz, .slice oa xs.length oc] ∧ OwnW wc 0 (.slice oa xs.length oc) xs ∧ Below W9.heap.size W9 wc)
            case first =>
              clear RE0 AF MW
              have BW : Hid (Below W9.heap.size W9 _) := Below.drew (Below.refl _ _)
              refine wp_region_noPanic ?_
              refine wp_region_held_drew (S := fun w' => Cs w' b9 (opL x) ∧ w'.cell? ⟨gw, at_ * 2, none⟩ = some (.slice az zs.length cz) ∧ w'.cell? ⟨gw, at_ * 2 + 1, none⟩ = some (.slice la ems.length lc)) (by kernel_rfl) ?_ (fun hHeld => ?_)
              · exact ⟨Cs.later BW.out q9, cell_later BW.out cg0, cell_later BW.out cg1⟩
              generalize World.drew _ = wd0 at *
              refine wpAnyH_take (i := 0) (v := ?_) rfl (by kernel_rfl) (by kernel_rfl) (by kernel_rfl) (fun _ _ _ h => h) (Or.inl ⟨by rfl, ?_⟩) (by assumption) ?_
              rotate_left
              · (intro wS hSw; have d2 := hSw.1.1 2 _ rfl; have d3 := hSw.1.1 3 _ rfl; have d4 := hSw.1.1 4 _ rfl; have d5 := hSw.1.1 5 _ rfl; have d6 := hSw.1.1 6 _ rfl; have d7 := hSw.1.1 7 _ rfl; have d8 := hSw.1.1 8 _ rfl; have d9 := hSw.1.1 9 _ rfl; have d10 := hSw.1.1 10 _ rfl; have d11 := hSw.1.1 11 _ rfl; have d12 := hSw.1.1 12 _ rfl; have g0 := hSw.2.1; have g1 := hSw.2.2; have d9z := hSw.1.2.2; go_simp; try with_reducible rfl)
              change wpAnyH _ _ _ _ _ _ _ (Act.put _ (some 140) _) _
              simp only [Act.put, List.setIfInBounds_toArray, List.set_cons_zero, List.set_cons_succ]
              refine wpAnyH_take (i := 1) (v := ?_) rfl (by kernel_rfl) (by kernel_rfl) (by kernel_rfl) (fun _ _ _ h => h) (Or.inl ⟨by rfl, ?_⟩) (by assumption) ?_
              rotate_left
              · (intro wS hSw; have d2 := hSw.1.1 2 _ rfl; have d3 := hSw.1.1 3 _ rfl; have d4 := hSw.1.1 4 _ rfl; have d5 := hSw.1.1 5 _ rfl; have d6 := hSw.1.1 6 _ rfl; have d7 := hSw.1.1 7 _ rfl; have d8 := hSw.1.1 8 _ rfl; have d9 := hSw.1.1 9 _ rfl; have d10 := hSw.1.1 10 _ rfl; have d11 := hSw.1.1 11 _ rfl; have d12 := hSw.1.1 12 _ rfl; have g0 := hSw.2.1; have g1 := hSw.2.2; have d9z := hSw.1.2.2; go_simp; try with_reducible rfl)
              change wpAnyH _ _ _ _ _ _ _ (Act.put _ (some 141) _) _
              simp only [Act.put, List.setIfInBounds_toArray, List.set_cons_zero, List.set_cons_succ]
              refine wpAnyH_take (i := 2) (v := ?_) rfl (by kernel_rfl) (by kernel_rfl) (by kernel_rfl) (fun _ _ _ h => h) (Or.inl ⟨by rfl, ?_⟩) (by assumption) ?_
              rotate_left
              · (intro wS hSw; have d2 := hSw.1.1 2 _ rfl; have d3 := hSw.1.1 3 _ rfl; have d4 := hSw.1.1 4 _ rfl; have d5 := hSw.1.1 5 _ rfl; have d6 := hSw.1.1 6 _ rfl; have d7 := hSw.1.1 7 _ rfl; have d8 := hSw.1.1 8 _ rfl; have d9 := hSw.1.1 9 _ rfl; have d10 := hSw.1.1 10 _ rfl; have d11 := hSw.1.1 11 _ rfl; have d12 := hSw.1.1 12 _ rfl; have g0 := hSw.2.1; have g1 := hSw.2.2; have d9z := hSw.1.2.2; go_simp; try with_reducible rfl)
              change wpAnyH _ _ _ _ _ _ _ (Act.put _ (some 142) _) _
              simp only [Act.put, List.setIfInBounds_toArray, List.set_cons_zero, List.set_cons_succ]
              refine wpAnyH_take (i := 3) (v := ?_) rfl (by kernel_rfl) (by kernel_rfl) (by kernel_rfl) (fun _ _ _ h => h) (Or.inl ⟨by rfl, ?_⟩) (by assumption) ?_
              rotate_left
              · (intro wS hSw; have d2 := hSw.1.1 2 _ rfl; have d3 := hSw.1.1 3 _ rfl; have d4 := hSw.1.1 4 _ rfl; have d5 := hSw.1.1 5 _ rfl; have d6 := hSw.1.1 6 _ rfl; have d7 := hSw.1.1 7 _ rfl; have d8 := hSw.1.1 8 _ rfl; have d9 := hSw.1.1 9 _ rfl; have d10 := hSw.1.1 10 _ rfl; have d11 := hSw.1.1 11 _ rfl; have d12 := hSw.1.1 12 _ rfl; have g0 := hSw.2.1; have g1 := hSw.2.2; have d9z := hSw.1.2.2; go_simp; try with_reducible rfl)
              change wpAnyH _ _ _ _ _ _ _ (Act.put _ (some 143) _) _
              simp only [Act.put, List.setIfInBounds_toArray, List.set_cons_zero, List.set_cons_succ]
              refine wpAnyH_take (i := 4) (v := ?_) rfl (by kernel_rfl) (by kernel_rfl) (by kernel_rfl) (fun _ _ _ h => h) (Or.inl ⟨by rfl, ?_⟩) (by assumption) ?_
              rotate_left
              · (intro wS hSw; have d2 := hSw.1.1 2 _ rfl; have d3 := hSw.1.1 3 _ rfl; have d4 := hSw.1.1 4 _ rfl; have d5 := hSw.1.1 5 _ rfl; have d6 := hSw.1.1 6 _ rfl; have d7 := hSw.1.1 7 _ rfl; have d8 := hSw.1.1 8 _ rfl; have d9 := hSw.1.1 9 _ rfl; have d10 := hSw.1.1 10 _ rfl; have d11 := hSw.1.1 11 _ rfl; have d12 := hSw.1.1 12 _ rfl; have g0 := hSw.2.1; have g1 := hSw.2.2; have d9z := hSw.1.2.2; go_simp; try with_reducible rfl)
              change wpAnyH _ _ _ _ _ _ _ (Act.put _ (some 144) _) _
              simp only [Act.put, List.setIfInBounds_toArray, List.set_cons_zero, List.set_cons_succ]
              refine wpAnyH_take (i := 5) (v := ?_) rfl (by kernel_rfl) (by kernel_rfl) (by kernel_rfl) (fun _ _ _ h => h) (Or.inl ⟨by rfl, ?_⟩) (by assumption) ?_
              rotate_left
              · (intro wS hSw; have d2 := hSw.1.1 2 _ rfl; have d3 := hSw.1.1 3 _ rfl; have d4 := hSw.1.1 4 _ rfl; have d5 := hSw.1.1 5 _ rfl; have d6 := hSw.1.1 6 _ rfl; have d7 := hSw.1.1 7 _ rfl; have d8 := hSw.1.1 8 _ rfl; have d9 := hSw.1.1 9 _ rfl; have d10 := hSw.1.1 10 _ rfl; have d11 := hSw.1.1 11 _ rfl; have d12 := hSw.1.1 12 _ rfl; have g0 := hSw.2.1; have g1 := hSw.2.2; have d9z := hSw.1.2.2; go_simp; try with_reducible rfl)
              change wpAnyH _ _ _ _ _ _ _ (Act.put _ (some 145) _) _
              simp only [Act.put, List.setIfInBounds_toArray, List.set_cons_zero, List.set_cons_succ]
              refine wpAnyH_take (i := 6) (v := ?_) rfl (by kernel_rfl) (by kernel_rfl) (by kernel_rfl) (fun _ _ _ h => h) (Or.inl ⟨by rfl, ?_⟩) (by assumption) ?_
              rotate_left
              · (intro wS hSw; have d2 := hSw.1.1 2 _ rfl; have d3 := hSw.1.1 3 _ rfl; have d4 := hSw.1.1 4 _ rfl; have d5 := hSw.1.1 5 _ rfl; have d6 := hSw.1.1 6 _ rfl; have d7 := hSw.1.1 7 _ rfl; have d8 := hSw.1.1 8 _ rfl; have d9 := hSw.1.1 9 _ rfl; have d10 := hSw.1.1 10 _ rfl; have d11 := hSw.1.1 11 _ rfl; have d12 := hSw.1.1 12 _ rfl; have g0 := hSw.2.1; have g1 := hSw.2.2; have d9z := hSw.1.2.2; go_simp; try with_reducible rfl)
              change wpAnyH _ _ _ _ _ _ _ (Act.put _ (some 146) _) _
              simp only [Act.put, List.setIfInBounds_toArray, List.set_cons_zero, List.set_cons_succ]
              refine wpAnyH_take (i := 7) (v := ?_) rfl (by kernel_rfl) (by kernel_rfl) (by kernel_rfl) (fun _ _ _ h => h) (Or.inl ⟨by rfl, ?_⟩) (by assumption) ?_
              rotate_left
              · (intro wS hSw; have d2 := hSw.1.1 2 _ rfl; have d3 := hSw.1.1 3 _ rfl; have d4 := hSw.1.1 4 _ rfl; have d5 := hSw.1.1 5 _ rfl; have d6 := hSw.1.1 6 _ rfl; have d7 := hSw.1.1 7 _ rfl; have d8 := hSw.1.1 8 _ rfl; have d9 := hSw.1.1 9 _ rfl; have d10 := hSw.1.1 10 _ rfl; have d11 := hSw.1.1 11 _ rfl; have d12 := hSw.1.1 12 _ rfl; have g0 := hSw.2.1; have g1 := hSw.2.2; have d9z := hSw.1.2.2; go_simp; try with_reducible rfl)
              change wpAnyH _ _ _ _ _ _ _ (Act.put _ (some 147) _) _
              simp only [Act.put, List.setIfInBounds_toArray, List.set_cons_zero, List.set_cons_succ]
              refine wpAnyH_ready (rs := [8, 12]) (by kernel_rfl) (by simp) ?_
              refine AllReadyH.cons rfl (fun K hK => ?_) (AllReadyH.cons rfl (fun K hK => ?_) AllReadyH.nil)
              ·
                go_simp
                refine (RP.out _ BW.out).mono ?_
                rintro e v1 ⟨oa, oc, rfl, own, hv1⟩
                have BW' : Hid (Below W9.heap.size W9 v1) := BW.out.trans (hv1.mono BW.out.size)
                have XO' : Hid (OwnW v1 0 (.slice oa xs.length oc) xs) := own
                clear hv1 BW
                have BW := BW'
                clear BW'
                have XO := XO'
                clear XO'
                (try go_wp2_with (fail))
                refine hK.out _ _ ?_ (fun hHeld => ?_)
                · exact ⟨Cs.later BW.out q9, cell_later BW.out cg0, cell_later BW.out cg1⟩
                clear hK K
                refine wpAnyH_take (i := 9) (v := ?_) rfl (by kernel_rfl) (by kernel_rfl) (by kernel_rfl) (fun _ _ _ h => h) (Or.inl ⟨by rfl, ?_⟩) (by assumption) ?_
                rotate_left
                · (intro wS hSw; have d2 := hSw.1.1 2 _ rfl; have d3 := hSw.1.1 3 _ rfl; have d4 := hSw.1.1 4 _ rfl; have d5 := hSw.1.1 5 _ rfl; have d6 := hSw.1.1 6 _ rfl; have d7 := hSw.1.1 7 _ rfl; have d8 := hSw.1.1 8 _ rfl; have d9 := hSw.1.1 9 _ rfl; have d10 := hSw.1.1 10 _ rfl; have d11 := hSw.1.1 11 _ rfl; have d12 := hSw.1.1 12 _ rfl; have g0 := hSw.2.1; have g1 := hSw.2.2; have d9z := hSw.1.2.2; go_simp; try with_reducible rfl)
                change wpAnyH _ _ _ _ _ _ _ (Act.put _ (some 139) _) _
                simp only [Act.put, List.setIfInBounds_toArray, List.set_cons_zero, List.set_cons_succ]
                refine wpAnyH_take (i := 10) (v := ?_) rfl (by kernel_rfl) (by kernel_rfl) (by kernel_rfl) (fun _ _ _ h => h) (Or.inl ⟨by rfl, ?_⟩) (by assumption) ?_
                rotate_left
                · (intro wS hSw; have d2 := hSw.1.1 2 _ rfl; have d3 := hSw.1.1 3 _ rfl; have d4 := hSw.1.1 4 _ rfl; have d5 := hSw.1.1 5 _ rfl; have d6 := hSw.1.1 6 _ rfl; have d7 := hSw.1.1 7 _ rfl; have d8 := hSw.1.1 8 _ rfl; have d9 := hSw.1.1 9 _ rfl; have d10 := hSw.1.1 10 _ rfl; have d11 := hSw.1.1 11 _ rfl; have d12 := hSw.1.1 12 _ rfl; have g0 := hSw.2.1; have g1 := hSw.2.2; have d9z := hSw.1.2.2; go_simp; try with_reducible rfl)
                change wpAnyH _ _ _ _ _ _ _ (Act.put _ (some 149) _) _
                simp only [Act.put, List.setIfInBounds_toArray, List.set_cons_zero, List.set_cons_succ]
                refine wpAnyH_take (i := 11) (v := ?_) rfl (by kernel_rfl) (by kernel_rfl) (by kernel_rfl) (fun _ _ _ h => h) (Or.inl ⟨by rfl, ?_⟩) (by assumption) ?_
                rotate_left
                · (intro wS hSw; have d2 := hSw.1.1 2 _ rfl; have d3 := hSw.1.1 3 _ rfl; have d4 := hSw.1.1 4 _ rfl; have d5 := hSw.1.1 5 _ rfl; have d6 := hSw.1.1 6 _ rfl; have d7 := hSw.1.1 7 _ rfl; have d8 := hSw.1.1 8 _ rfl; have d9 := hSw.1.1 9 _ rfl; have d10 := hSw.1.1 10 _ rfl; have d11 := hSw.1.1 11 _ rfl; have d12 := hSw.1.1 12 _ rfl; have g0 := hSw.2.1; have g1 := hSw.2.2; have d9z := hSw.1.2.2; go_simp; try with_reducible rfl)
                change wpAnyH _ _ _ _ _ _ _ (Act.put _ (some 150) _) _
                simp only [Act.put, List.setIfInBounds_toArray, List.set_cons_zero, List.set_cons_succ]
                refine wpAnyH_ready (rs := [12]) (by kernel_rfl) (by simp) ?_
                refine AllReadyH.cons rfl (fun K hK => ?_) AllReadyH.nil
                go_simp
                obtain ⟨p17, hp17⟩ : ∃ p17, p17 = v1.heap.size := ⟨_, rfl⟩
                have BW' : Hid (Below W9.heap.size W9 (v1.alloc (.cells #[.slice none 0 0, .slice none 0 0] 54))) := BW.out.alloc BW.out.size _
                have XO' : Hid (OwnW (v1.alloc (.cells #[.slice none 0 0, .slice none 0 0] 54)) 0 (.slice oa xs.length oc) xs) := XO.out.alloc _
                have N17' : Hid (Cs (v1.alloc (.cells #[.slice none 0 0, .slice none 0 0] 54)) p17 [.slice none 0 0, .slice none 0 0] ∧ W9.heap.size ≤ p17) := by rw [hp17]; exact ⟨Cs.new _ _ _ _ rfl, BW.out.size⟩
                have NT' : Hid (NoRw (v1.alloc (.cells #[.slice none 0 0, .slice none 0 0] 54)) p17) := by rw [hp17]; exact alloc_type _ _ (by decide)
                clear BW XO
                have BW := BW'
                clear BW'
                have XO := XO'
                clear XO'
                have N17 := N17'
                clear N17'
                have NT := NT'
                clear NT'
                refine hK.out _ _ ?_ (fun hHeld => ?_)
                · exact ⟨Cs.later BW.out q9, cell_later BW.out cg0, cell_later BW.out cg1⟩
                clear hK K
                rw [← hp17]
                clear hp17
                generalize v1.alloc (.cells #[.slice none 0 0, .slice none 0 0] 54) = wA2 at *
                refine wpAnyH_ready (rs := [13]) (by kernel_rfl) (by simp) ?_
                refine AllReadyH.cons rfl (fun K hK => ?_) AllReadyH.nil
                have c0 := N17.out.1.1 0 _ rfl
                have c1 := N17.out.1.1 1 _ rfl
                have f0 := N17.out.1.2.1 0 (by show 0 < 2; omega)
                have f1 := N17.out.1.2.1 1 (by show 1 < 2; omega)
                have hg1 : wA2.grownBy ((wA2.setCell ⟨p17, 0, none⟩ (.slice az zs.length cz)).setCell ⟨p17, 1, none⟩ (.slice oa xs.length oc)) (some p17) := (own_set wA2 p17 0 _).trans (own_set _ p17 1 _)
                have BW' : Hid (Below W9.heap.size W9 ((wA2.setCell ⟨p17, 0, none⟩ (.slice az zs.length cz)).setCell ⟨p17, 1, none⟩ (.slice oa xs.length oc))) := (BW.out.setCell (p := ⟨p17, 0, none⟩) N17.out.2 _).setCell (p := ⟨p17, 1, none⟩) N17.out.2 _
                have XO' : Hid (OwnW ((wA2.setCell ⟨p17, 0, none⟩ (.slice az zs.length cz)).setCell ⟨p17, 1, none⟩ (.slice oa xs.length oc)) 0 (.slice oa xs.length oc) xs) := own_off XO.out hg1 NT.out
                have N17' : Hid (Cs ((wA2.setCell ⟨p17, 0, none⟩ (.slice az zs.length cz)).setCell ⟨p17, 1, none⟩ (.slice oa xs.length oc)) p17 [.slice az zs.length cz, .slice oa xs.length oc]) := (N17.out.1.set 0 (.slice az zs.length cz) (by simp)).set 1 (.slice oa xs.length oc) (by simp)
                clear N17 BW XO NT hg1
                have BW := BW'
                have N17 := N17'
                have XO := XO'
                clear BW' N17' XO'
                go_wp2_with (fail)
                refine hK.out _ _ ?_ (fun hHeld => ?_)
                · exact ⟨Cs.later BW.out q9, cell_later BW.out cg0, cell_later BW.out cg1⟩
                clear hK K c0 c1 f0 f1
                generalize ((wA2.setCell ⟨p17, 0, none⟩ (.slice az zs.length cz)).setCell ⟨p17, 1, none⟩ (.slice oa xs.length oc)) = wS at *
                refine wpAnyH_take (i := 14) (v := ?_) rfl (by kernel_rfl) (by kernel_rfl) (by kernel_rfl) (fun _ _ _ h => h) (Or.inl ⟨by rfl, ?_⟩) (by assumption) ?_
                rotate_left
                · (intro wS hSw; have d2 := hSw.1.1 2 _ rfl; have d3 := hSw.1.1 3 _ rfl; have d4 := hSw.1.1 4 _ rfl; have d5 := hSw.1.1 5 _ rfl; have d6 := hSw.1.1 6 _ rfl; have d7 := hSw.1.1 7 _ rfl; have d8 := hSw.1.1 8 _ rfl; have d9 := hSw.1.1 9 _ rfl; have d10 := hSw.1.1 10 _ rfl; have d11 := hSw.1.1 11 _ rfl; have d12 := hSw.1.1 12 _ rfl; have g0 := hSw.2.1; have g1 := hSw.2.2; have d9z := hSw.1.2.2; go_simp; try with_reducible rfl)
                change wpAnyH _ _ _ _ _ _ _ (Act.put _ (some 19) _) _
                simp only [Act.put, List.setIfInBounds_toArray, List.set_cons_zero, List.set_cons_succ]
                refine wpAnyH_done (by kernel_rfl) ?_ _
                refine NoPanic.normal ?_
                (try go_wp2)
                go_meet
                case rel => exact ⟨p17, oa, oc, rfl, rfl, N17.out, XO.out, BW.out⟩
              ·
                go_simp
                obtain ⟨p17, hp17⟩ : ∃ p17, p17 = wd0.heap.size := ⟨_, rfl⟩
                have BW' : Hid (Below W9.heap.size W9 (wd0.alloc (.cells #[.slice none 0 0, .slice none 0 0] 54))) := BW.out.alloc BW.out.size _
                have N17' : Hid (Cs (wd0.alloc (.cells #[.slice none 0 0, .slice none 0 0] 54)) p17 [.slice none 0 0, .slice none 0 0] ∧ W9.heap.size ≤ p17) := by rw [hp17]; exact ⟨Cs.new _ _ _ _ rfl, BW.out.size⟩
                have NT' : Hid (NoRw (wd0.alloc (.cells #[.slice none 0 0, .slice none 0 0] 54)) p17) := by rw [hp17]; exact alloc_type _ _ (by decide)
                clear BW
                have BW := BW'
                clear BW'
                have N17 := N17'
                clear N17'
                have NT := NT'
                clear NT'
                refine hK.out _ _ ?_ (fun hHeld => ?_)
                · exact ⟨Cs.later BW.out q9, cell_later BW.out cg0, cell_later BW.out cg1⟩
                clear hK K
                rw [← hp17]
                clear hp17
                generalize wd0.alloc (.cells #[.slice none 0 0, .slice none 0 0] 54) = wA4 at *
                refine wpAnyH_ready (rs := [8]) (by kernel_rfl) (by simp) ?_
                refine AllReadyH.cons rfl (fun K hK => ?_) AllReadyH.nil
                go_simp
                refine (RP.out _ BW.out).mono ?_
                rintro e v5 ⟨oa, oc, rfl, own, hv5⟩
                have BW' : Hid (Below W9.heap.size W9 v5) := BW.out.trans (hv5.mono BW.out.size)
                have N17' : Hid (Cs v5 p17 [.slice none 0 0, .slice none 0 0] ∧ W9.heap.size ≤ p17) := ⟨Cs.later hv5 N17.out.1, N17.out.2⟩
                have NT' : Hid (NoRw v5 p17) := type_later NT.out hv5 N17.out.1.2.2
                have XO' : Hid (OwnW v5 0 (.slice oa xs.length oc) xs) := own
                clear hv5 BW N17 NT
                have BW := BW'
                clear BW'
                have N17 := N17'
                clear N17'
                have NT := NT'
                clear NT'
                have XO := XO'
                clear XO'
                (try go_wp2_with (fail))
                refine hK.out _ _ ?_ (fun hHeld => ?_)
                · exact ⟨Cs.later BW.out q9, cell_later BW.out cg0, cell_later BW.out cg1⟩
                clear hK K
                refine wpAnyH_take (i := 9) (v := ?_) rfl (by kernel_rfl) (by kernel_rfl) (by kernel_rfl) (fun _ _ _ h => h) (Or.inl ⟨by rfl, ?_⟩) (by assumption) ?_
                rotate_left
                · (intro wS hSw; have d2 := hSw.1.1 2 _ rfl; have d3 := hSw.1.1 3 _ rfl; have d4 := hSw.1.1 4 _ rfl; have d5 := hSw.1.1 5 _ rfl; have d6 := hSw.1.1 6 _ rfl; have d7 := hSw.1.1 7 _ rfl; have d8 := hSw.1.1 8 _ rfl; have d9 := hSw.1.1 9 _ rfl; have d10 := hSw.1.1 10 _ rfl; have d11 := hSw.1.1 11 _ rfl; have d12 := hSw.1.1 12 _ rfl; have g0 := hSw.2.1; have g1 := hSw.2.2; have d9z := hSw.1.2.2; go_simp; try with_reducible rfl)
                change wpAnyH _ _ _ _ _ _ _ (Act.put _ (some 139) _) _
                simp only [Act.put, List.setIfInBounds_toArray, List.set_cons_zero, List.set_cons_succ]
                refine wpAnyH_take (i := 10) (v := ?_) rfl (by kernel_rfl) (by kernel_rfl) (by kernel_rfl) (fun _ _ _ h => h) (Or.inl ⟨by rfl, ?_⟩) (by assumption) ?_
                rotate_left
                · (intro wS hSw; have d2 := hSw.1.1 2 _ rfl; have d3 := hSw.1.1 3 _ rfl; have d4 := hSw.1.1 4 _ rfl; have d5 := hSw.1.1 5 _ rfl; have d6 := hSw.1.1 6 _ rfl; have d7 := hSw.1.1 7 _ rfl; have d8 := hSw.1.1 8 _ rfl; have d9 := hSw.1.1 9 _ rfl; have d10 := hSw.1.1 10 _ rfl; have d11 := hSw.1.1 11 _ rfl; have d12 := hSw.1.1 12 _ rfl; have g0 := hSw.2.1; have g1 := hSw.2.2; have d9z := hSw.1.2.2; go_simp; try with_reducible rfl)
                change wpAnyH _ _ _ _ _ _ _ (Act.put _ (some 149) _) _
                simp only [Act.put, List.setIfInBounds_toArray, List.set_cons_zero, List.set_cons_succ]
                refine wpAnyH_take (i := 11) (v := ?_) rfl (by kernel_rfl) (by kernel_rfl) (by kernel_rfl) (fun _ _ _ h => h) (Or.inl ⟨by rfl, ?_⟩) (by assumption) ?_
                rotate_left
                · (intro wS hSw; have d2 := hSw.1.1 2 _ rfl; have d3 := hSw.1.1 3 _ rfl; have d4 := hSw.1.1 4 _ rfl; have d5 := hSw.1.1 5 _ rfl; have d6 := hSw.1.1 6 _ rfl; have d7 := hSw.1.1 7 _ rfl; have d8 := hSw.1.1 8 _ rfl; have d9 := hSw.1.1 9 _ rfl; have d10 := hSw.1.1 10 _ rfl; have d11 := hSw.1.1 11 _ rfl; have d12 := hSw.1.1 12 _ rfl; have g0 := hSw.2.1; have g1 := hSw.2.2; have d9z := hSw.1.2.2; go_simp; try with_reducible rfl)
                change wpAnyH _ _ _ _ _ _ _ (Act.put _ (some 150) _) _
                simp only [Act.put, List.setIfInBounds_toArray, List.set_cons_zero, List.set_cons_succ]
                refine wpAnyH_ready (rs := [13]) (by kernel_rfl) (by simp) ?_
                refine AllReadyH.cons rfl (fun K hK => ?_) AllReadyH.nil
                have c0 := N17.out.1.1 0 _ rfl
                have c1 := N17.out.1.1 1 _ rfl
                have f0 := N17.out.1.2.1 0 (by show 0 < 2; omega)
                have f1 := N17.out.1.2.1 1 (by show 1 < 2; omega)
                have hg1 : v5.grownBy ((v5.setCell ⟨p17, 0, none⟩ (.slice az zs.length cz)).setCell ⟨p17, 1, none⟩ (.slice oa xs.length oc)) (some p17) := (own_set v5 p17 0 _).trans (own_set _ p17 1 _)
                have BW' : Hid (Below W9.heap.size W9 ((v5.setCell ⟨p17, 0, none⟩ (.slice az zs.length cz)).setCell ⟨p17, 1, none⟩ (.slice oa xs.length oc))) := (BW.out.setCell (p := ⟨p17, 0, none⟩) N17.out.2 _).setCell (p := ⟨p17, 1, none⟩) N17.out.2 _
                have XO' : Hid (OwnW ((v5.setCell ⟨p17, 0, none⟩ (.slice az zs.length cz)).setCell ⟨p17, 1, none⟩ (.slice oa xs.length oc)) 0 (.slice oa xs.length oc) xs) := own_off XO.out hg1 NT.out
                have N17' : Hid (Cs ((v5.setCell ⟨p17, 0, none⟩ (.slice az zs.length cz)).setCell ⟨p17, 1, none⟩ (.slice oa xs.length oc)) p17 [.slice az zs.length cz, .slice oa xs.length oc]) := (N17.out.1.set 0 (.slice az zs.length cz) (by simp)).set 1 (.slice oa xs.length oc) (by simp)
                clear N17 BW XO NT hg1
                have BW := BW'
                have N17 := N17'
                have XO := XO'
                clear BW' N17' XO'
                go_wp2_with (fail)
                refine hK.out _ _ ?_ (fun hHeld => ?_)
                · exact ⟨Cs.later BW.out q9, cell_later BW.out cg0, cell_later BW.out cg1⟩
                clear hK K c0 c1 f0 f1
                generalize ((v5.setCell ⟨p17, 0, none⟩ (.slice az zs.length cz)).setCell ⟨p17, 1, none⟩ (.slice oa xs.length oc)) = wS at *
                refine wpAnyH_take (i := 14) (v := ?_) rfl (by kernel_rfl) (by kernel_rfl) (by kernel_rfl) (fun _ _ _ h => h) (Or.inl ⟨by rfl, ?_⟩) (by assumption) ?_
                rotate_left
                · (intro wS hSw; have d2 := hSw.1.1 2 _ rfl; have d3 := hSw.1.1 3 _ rfl; have d4 := hSw.1.1 4 _ rfl; have d5 := hSw.1.1 5 _ rfl; have d6 := hSw.1.1 6 _ rfl; have d7 := hSw.1.1 7 _ rfl; have d8 := hSw.1.1 8 _ rfl; have d9 := hSw.1.1 9 _ rfl; have d10 := hSw.1.1 10 _ rfl; have d11 := hSw.1.1 11 _ rfl; have d12 := hSw.1.1 12 _ rfl; have g0 := hSw.2.1; have g1 := hSw.2.2; have d9z := hSw.1.2.2; go_simp; try with_reducible rfl)
                change wpAnyH _ _ _ _ _ _ _ (Act.put _ (some 19) _) _
                simp only [Act.put, List.setIfInBounds_toArray, List.set_cons_zero, List.set_cons_succ]
                refine wpAnyH_done (by kernel_rfl) ?_ _
                refine NoPanic.normal ?_
                (try go_wp2)
                go_meet
                case rel => exact ⟨p17, oa, oc, rfl, rfl, N17.out, XO.out, BW.out⟩
            case rest =>
              obtain ⟨p17, oa, oc, rfl, rfl, N17, XO, BW⟩ := hcut
              obtain ⟨w22, hw22⟩ : ∃ x, x = wc := ⟨_, rfl⟩
              rw [← hw22] at N17 XO BW ⊢
              clear hw22
              have q22 := Cs.later BW q9
              have cga := cell_later BW ca0
              have hl2 := (List.getElem?_eq_some_iff.1 HE.out).1
              have RE : Hid (∀ w1, Below w22.heap.size w22 w1 → Calls Try.prog 16 #[tbV eb, ownV x.p x.c x.k, spV x.s] w1 fun e w' => e = .returned (.int .i64 E) ∧
                  (Sys0 w' w.heap.size (j + 1) zs (.slice az zs.length cz) ga ca gw cw (es.set at_ ⟨eb, em, xs, .slice la ems.length lc, ems⟩) ∧ Cs w' b9 (opL x) ∧ Cs w' p17 [.slice az zs.length cz, .slice oa xs.length oc] ∧ OwnW w' 0 (.slice oa xs.length oc) xs ∧ Below w.heap.size w w')) := fun w1 hb => by
                have hb9 := BW.trans (hb.mono BW.size)
                refine (RE0.out w1 hb9).mono fun e w' ⟨h1, h2, h3⟩ => ⟨h1, AF.out w1 w' hb9 h2 h3, ?_, ?_, ?_, ?_⟩
                · exact (Cs.later hb q22).grown h3 fun e => (cs_map (MapW.later hb9 MW.out) (Cs.later hb q22)) (Option.some.inj e).symm
                · exact (Cs.later hb N17).grown h3 fun e => (cs_map (MapW.later hb9 MW.out) (Cs.later hb N17)) (Option.some.inj e).symm
                · exact own_off (OwnW.later XO hb) h3 fun cur => (MapW.later hb9 MW.out).obj cur _ _
                · exact (HB9.trans (hb9.mono HB9.size)).grown h3 (by have := (HB9.trans (hb9.mono HB9.size)).size; omega) fun k hk => by injection hk with hk; omega
              clear RE0 AF MW RP ca0 cg0 cg1 q9
              go_upto_region 17 with (fail)
              go_cut [20] from 151 to 159 (fun s wc => s = .int .i64 E ∧ (Sys0 wc w.heap.size (j + 1) zs (.slice az zs.length cz) ga ca gw cw (es.set at_ ⟨eb, em, xs, .slice la ems.length lc, ems⟩) ∧ Cs wc b9 (opL x) ∧ Cs wc p17 [.slice az zs.length cz, .slice oa xs.length oc] ∧ OwnW wc 0 (.slice oa xs.length oc) xs ∧ Below w.heap.size w wc))
              case first =>
                have F_0 : Hid (Below w22.heap.size w22 _) := Below.drew (Below.refl _ _)
                refine wp_region_noPanic ?_
                refine wp_region_held_drew (S := fun w' => Cs w' b9 (opL x) ∧ w'.cell? ⟨ga, at_, none⟩ = some (tbV eb)) (by kernel_rfl) ?_ (fun hHeld => ?_)
                · exact ⟨Cs.later F_0.out q22, cell_later F_0.out cga⟩
                refine wpAnyH_take (i := 0) (v := ?_) rfl (by kernel_rfl) (by kernel_rfl) (by kernel_rfl) (fun _ _ _ h => h) (Or.inl ⟨by rfl, ?_⟩) (by assumption) ?_
                rotate_left
                · (intro wS hSw; have d2 := hSw.1.1 2 _ rfl; have d3 := hSw.1.1 3 _ rfl; have d4 := hSw.1.1 4 _ rfl; have d5 := hSw.1.1 5 _ rfl; have d6 := hSw.1.1 6 _ rfl; have d7 := hSw.1.1 7 _ rfl; have d8 := hSw.1.1 8 _ rfl; have d9 := hSw.1.1 9 _ rfl; have d10 := hSw.1.1 10 _ rfl; have d11 := hSw.1.1 11 _ rfl; have d12 := hSw.1.1 12 _ rfl; have g0 := hSw.2; have d9z := hSw.1.2.2; go_simp; try with_reducible rfl)
                change wpAnyH _ _ _ _ _ _ _ (Act.put _ (some 151) _) _
                simp only [Act.put, List.setIfInBounds_toArray, List.set_cons_zero, List.set_cons_succ]
                refine wpAnyH_take (i := 1) (v := ?_) rfl (by kernel_rfl) (by kernel_rfl) (by kernel_rfl) (fun _ _ _ h => h) (Or.inl ⟨by rfl, ?_⟩) (by assumption) ?_
                rotate_left
                · (intro wS hSw; have d2 := hSw.1.1 2 _ rfl; have d3 := hSw.1.1 3 _ rfl; have d4 := hSw.1.1 4 _ rfl; have d5 := hSw.1.1 5 _ rfl; have d6 := hSw.1.1 6 _ rfl; have d7 := hSw.1.1 7 _ rfl; have d8 := hSw.1.1 8 _ rfl; have d9 := hSw.1.1 9 _ rfl; have d10 := hSw.1.1 10 _ rfl; have d11 := hSw.1.1 11 _ rfl; have d12 := hSw.1.1 12 _ rfl; have g0 := hSw.2; have d9z := hSw.1.2.2; go_simp; try with_reducible rfl)
                change wpAnyH _ _ _ _ _ _ _ (Act.put _ (some 152) _) _
                simp only [Act.put, List.setIfInBounds_toArray, List.set_cons_zero, List.set_cons_succ]
                refine wpAnyH_take (i := 2) (v := ?_) rfl (by kernel_rfl) (by kernel_rfl) (by kernel_rfl) (fun _ _ _ h => h) (Or.inl ⟨by rfl, ?_⟩) (by assumption) ?_
                rotate_left
                · (intro wS hSw; have d2 := hSw.1.1 2 _ rfl; have d3 := hSw.1.1 3 _ rfl; have d4 := hSw.1.1 4 _ rfl; have d5 := hSw.1.1 5 _ rfl; have d6 := hSw.1.1 6 _ rfl; have d7 := hSw.1.1 7 _ rfl; have d8 := hSw.1.1 8 _ rfl; have d9 := hSw.1.1 9 _ rfl; have d10 := hSw.1.1 10 _ rfl; have d11 := hSw.1.1 11 _ rfl; have d12 := hSw.1.1 12 _ rfl; have g0 := hSw.2; have d9z := hSw.1.2.2; go_simp; try with_reducible rfl)
                change wpAnyH _ _ _ _ _ _ _ (Act.put _ (some 153) _) _
                simp only [Act.put, List.setIfInBounds_toArray, List.set_cons_zero, List.set_cons_succ]
                refine wpAnyH_take (i := 3) (v := ?_) rfl (by kernel_rfl) (by kernel_rfl) (by kernel_rfl) (fun _ _ _ h => h) (Or.inl ⟨by rfl, ?_⟩) (by assumption) ?_
                rotate_left
                · (intro wS hSw; have d2 := hSw.1.1 2 _ rfl; have d3 := hSw.1.1 3 _ rfl; have d4 := hSw.1.1 4 _ rfl; have d5 := hSw.1.1 5 _ rfl; have d6 := hSw.1.1 6 _ rfl; have d7 := hSw.1.1 7 _ rfl; have d8 := hSw.1.1 8 _ rfl; have d9 := hSw.1.1 9 _ rfl; have d10 := hSw.1.1 10 _ rfl; have d11 := hSw.1.1 11 _ rfl; have d12 := hSw.1.1 12 _ rfl; have g0 := hSw.2; have d9z := hSw.1.2.2; go_simp; try with_reducible rfl)
                change wpAnyH _ _ _ _ _ _ _ (Act.put _ (some 154) _) _
                simp only [Act.put, List.setIfInBounds_toArray, List.set_cons_zero, List.set_cons_succ]
                refine wpAnyH_take (i := 4) (v := ?_) rfl (by kernel_rfl) (by kernel_rfl) (by kernel_rfl) (fun _ _ _ h => h) (Or.inl ⟨by rfl, ?_⟩) (by assumption) ?_
                rotate_left
                · (intro wS hSw; have d2 := hSw.1.1 2 _ rfl; have d3 := hSw.1.1 3 _ rfl; have d4 := hSw.1.1 4 _ rfl; have d5 := hSw.1.1 5 _ rfl; have d6 := hSw.1.1 6 _ rfl; have d7 := hSw.1.1 7 _ rfl; have d8 := hSw.1.1 8 _ rfl; have d9 := hSw.1.1 9 _ rfl; have d10 := hSw.1.1 10 _ rfl; have d11 := hSw.1.1 11 _ rfl; have d12 := hSw.1.1 12 _ rfl; have g0 := hSw.2; have d9z := hSw.1.2.2; go_simp; try with_reducible rfl)
                change wpAnyH _ _ _ _ _ _ _ (Act.put _ (some 155) _) _
                simp only [Act.put, List.setIfInBounds_toArray, List.set_cons_zero, List.set_cons_succ]
                refine wpAnyH_take (i := 5) (v := ?_) rfl (by kernel_rfl) (by kernel_rfl) (by kernel_rfl) (fun _ _ _ h => h) (Or.inl ⟨by rfl, ?_⟩) (by assumption) ?_
                rotate_left
                · (intro wS hSw; have d2 := hSw.1.1 2 _ rfl; have d3 := hSw.1.1 3 _ rfl; have d4 := hSw.1.1 4 _ rfl; have d5 := hSw.1.1 5 _ rfl; have d6 := hSw.1.1 6 _ rfl; have d7 := hSw.1.1 7 _ rfl; have d8 := hSw.1.1 8 _ rfl; have d9 := hSw.1.1 9 _ rfl; have d10 := hSw.1.1 10 _ rfl; have d11 := hSw.1.1 11 _ rfl; have d12 := hSw.1.1 12 _ rfl; have g0 := hSw.2; have d9z := hSw.1.2.2; go_simp; try with_reducible rfl)
                change wpAnyH _ _ _ _ _ _ _ (Act.put _ (some 156) _) _
                simp only [Act.put, List.setIfInBounds_toArray, List.set_cons_zero, List.set_cons_succ]
                refine wpAnyH_take (i := 6) (v := ?_) rfl (by kernel_rfl) (by kernel_rfl) (by kernel_rfl) (fun _ _ _ h => h) (Or.inl ⟨by rfl, ?_⟩) (by assumption) ?_
                rotate_left
                · (intro wS hSw; have d2 := hSw.1.1 2 _ rfl; have d3 := hSw.1.1 3 _ rfl; have d4 := hSw.1.1 4 _ rfl; have d5 := hSw.1.1 5 _ rfl; have d6 := hSw.1.1 6 _ rfl; have d7 := hSw.1.1 7 _ rfl; have d8 := hSw.1.1 8 _ rfl; have d9 := hSw.1.1 9 _ rfl; have d10 := hSw.1.1 10 _ rfl; have d11 := hSw.1.1 11 _ rfl; have d12 := hSw.1.1 12 _ rfl; have g0 := hSw.2; have d9z := hSw.1.2.2; go_simp; try with_reducible rfl)
                change wpAnyH _ _ _ _ _ _ _ (Act.put _ (some 157) _) _
                simp only [Act.put, List.setIfInBounds_toArray, List.set_cons_zero, List.set_cons_succ]
                refine wpAnyH_take (i := 7) (v := ?_) rfl (by kernel_rfl) (by kernel_rfl) (by kernel_rfl) (fun _ _ _ h => h) (Or.inl ⟨by rfl, ?_⟩) (by assumption) ?_
                rotate_left
                · (intro wS hSw; have d2 := hSw.1.1 2 _ rfl; have d3 := hSw.1.1 3 _ rfl; have d4 := hSw.1.1 4 _ rfl; have d5 := hSw.1.1 5 _ rfl; have d6 := hSw.1.1 6 _ rfl; have d7 := hSw.1.1 7 _ rfl; have d8 := hSw.1.1 8 _ rfl; have d9 := hSw.1.1 9 _ rfl; have d10 := hSw.1.1 10 _ rfl; have d11 := hSw.1.1 11 _ rfl; have d12 := hSw.1.1 12 _ rfl; have g0 := hSw.2; have d9z := hSw.1.2.2; go_simp; try with_reducible rfl)
                change wpAnyH _ _ _ _ _ _ _ (Act.put _ (some 158) _) _
                simp only [Act.put, List.setIfInBounds_toArray, List.set_cons_zero, List.set_cons_succ]
                refine wpAnyH_ready (rs := [8]) (by kernel_rfl) (by simp) ?_
                refine AllReadyH.cons rfl (fun K hK => ?_) AllReadyH.nil
                go_simp
                refine (RE.out _ F_0.out).mono ?_
                rintro e v1 ⟨rfl, hv1⟩
                have F_1 : Hid ((Sys0 v1 w.heap.size (j + 1) zs (.slice az zs.length cz) ga ca gw cw (es.set at_ ⟨eb, em, xs, .slice la ems.length lc, ems⟩) ∧ Cs v1 b9 (opL x) ∧ Cs v1 p17 [.slice az zs.length cz, .slice oa xs.length oc] ∧ OwnW v1 0 (.slice oa xs.length oc) xs ∧ Below w.heap.size w v1)) := hv1
                clear hv1 F_0
                (try go_wp2_with (fail))
                refine hK.out _ _ ?_ (fun hHeld => ?_)
                · exact ⟨F_1.out.2.1, (F_1.out.1.cells (i := at_) (by rw [List.getElem?_set_self hl2])).1⟩
                clear hK K
                refine wpAnyH_take (i := 9) (v := ?_) rfl (by kernel_rfl) (by kernel_rfl) (by kernel_rfl) (fun _ _ _ h => h) (Or.inl ⟨by rfl, ?_⟩) (by assumption) ?_
                rotate_left
                · (intro wS hSw; have d2 := hSw.1.1 2 _ rfl; have d3 := hSw.1.1 3 _ rfl; have d4 := hSw.1.1 4 _ rfl; have d5 := hSw.1.1 5 _ rfl; have d6 := hSw.1.1 6 _ rfl; have d7 := hSw.1.1 7 _ rfl; have d8 := hSw.1.1 8 _ rfl; have d9 := hSw.1.1 9 _ rfl; have d10 := hSw.1.1 10 _ rfl; have d11 := hSw.1.1 11 _ rfl; have d12 := hSw.1.1 12 _ rfl; have g0 := hSw.2; have d9z := hSw.1.2.2; go_simp; try with_reducible rfl)
                change wpAnyH _ _ _ _ _ _ _ (Act.put _ (some 20) _) _
                simp only [Act.put, List.setIfInBounds_toArray, List.set_cons_zero, List.set_cons_succ]
                refine wpAnyH_done (by kernel_rfl) ?_ _
                refine NoPanic.normal ?_
                (try go_wp2)
                go_meet
                case rel => exact ⟨rfl, F_1.out⟩
              case rest =>
                obtain ⟨rfl, SYk, q25, N25, XO25, HB25⟩ := hcut
                obtain ⟨w24, hw24⟩ : ∃ x, x = wc := ⟨_, rfl⟩
                rw [← hw24] at SYk q25 N25 XO25 HB25 ⊢
                clear hw24
                have SY22 := SY9.later BW
                obtain ⟨cga24, cgw24, cgx24⟩ := SYk.cells (i := at_) (by rw [List.getElem?_set_self hl2])
                have T24 := SYk.st.tab ⟨eb, em, xs, .slice la ems.length lc, ems⟩ (List.mem_of_getElem? (i := at_) (by rw [List.getElem?_set_self hl2]))
                have hld1 : Hid (∀ w1, Below w24.heap.size w24 w1 → Calls Try.prog 17 #[tbV eb, ownV x.p x.c x.k] w1 fun e w' => e = .returned (spV (hld x.p x.c x.k xs)) ∧ Below w1.heap.size w1 w') := fun w1 hb => held_is x.p x.c x.k w1 (Tb.later hb T24.tb) GX.out
                have hld2 : Hid (∀ w1, Below w24.heap.size w24 w1 → Calls Try.prog 23 #[.agg #[.slice az zs.length cz, .slice oa xs.length oc], ownV x.p x.c x.k] w1 fun e w' => e = .returned (spV (hld x.p x.c x.k xs)) ∧ Below w1.heap.size w1 w') := fun w1 hb => rheld_is az zs.length cz x.p x.c x.k w1 ((XO25.read fun r hr => (T24.tb.map.good r hr).1).later hb)
                clear RE q22 cga N17 XO HB9 dz d0 d1 T24 GX
                have hsm : ∀ w1 : World, Sem.run Try.prog (Op.equalIn 10000 47 (spV (hld x.p x.c x.k xs)) (spV (hld x.p x.c x.k xs))) w1 = .ok true w1 := fun w1 => by
                  have := sp_eq 9998 (hld x.p x.c x.k xs) (hld x.p x.c x.k xs) w1
                  rw [show eqP (hld x.p x.c x.k xs) (hld x.p x.c x.k xs) = true by simp [eqP]] at this
                  exact this
                generalize hld x.p x.c x.k xs = hh at *
                go_upto_region 18 with (fail)
                go_cut [176] from 160 to 176 (fun s wc => s = .bool false ∧ Below w24.heap.size w24 wc)
                case first =>
                  have F_0 : Hid (Below w24.heap.size w24 _) := Below.drew (Below.refl _ _)
                  refine wp_region_noPanic ?_
                  refine wp_region_held_drew (S := fun w' => Cs w' b9 (opL x) ∧ Cs w' p17 [.slice az zs.length cz, .slice oa xs.length oc] ∧ w'.cell? ⟨ga, at_, none⟩ = some (tbV eb)) (by kernel_rfl) ?_ (fun hHeld => ?_)
                  · exact ⟨Cs.later F_0.out q25, Cs.later F_0.out N25, cell_later F_0.out cga24⟩
                  refine wpAnyH_take (i := 0) (v := ?_) rfl (by kernel_rfl) (by kernel_rfl) (by kernel_rfl) (fun _ _ _ h => h) (Or.inl ⟨by rfl, ?_⟩) (by assumption) ?_
                  rotate_left
                  · (intro wS hSw; have d2 := hSw.1.1 2 _ rfl; have d3 := hSw.1.1 3 _ rfl; have d4 := hSw.1.1 4 _ rfl; have p0 := hSw.2.1.1 0 _ rfl; have p1 := hSw.2.1.1 1 _ rfl; have g0 := hSw.2.2; have d9z := hSw.1.2.2; have p9z := hSw.2.1.2.2; go_simp; try with_reducible rfl)
                  change wpAnyH _ _ _ _ _ _ _ (Act.put _ (some 160) _) _
                  simp only [Act.put, List.setIfInBounds_toArray, List.set_cons_zero, List.set_cons_succ]
                  refine wpAnyH_take (i := 1) (v := ?_) rfl (by kernel_rfl) (by kernel_rfl) (by kernel_rfl) (fun _ _ _ h => h) (Or.inl ⟨by rfl, ?_⟩) (by assumption) ?_
                  rotate_left
                  · (intro wS hSw; have d2 := hSw.1.1 2 _ rfl; have d3 := hSw.1.1 3 _ rfl; have d4 := hSw.1.1 4 _ rfl; have p0 := hSw.2.1.1 0 _ rfl; have p1 := hSw.2.1.1 1 _ rfl; have g0 := hSw.2.2; have d9z := hSw.1.2.2; have p9z := hSw.2.1.2.2; go_simp; try with_reducible rfl)
                  change wpAnyH _ _ _ _ _ _ _ (Act.put _ (some 161) _) _
                  simp only [Act.put, List.setIfInBounds_toArray, List.set_cons_zero, List.set_cons_succ]
                  refine wpAnyH_take (i := 2) (v := ?_) rfl (by kernel_rfl) (by kernel_rfl) (by kernel_rfl) (fun _ _ _ h => h) (Or.inl ⟨by rfl, ?_⟩) (by assumption) ?_
                  rotate_left
                  · (intro wS hSw; have d2 := hSw.1.1 2 _ rfl; have d3 := hSw.1.1 3 _ rfl; have d4 := hSw.1.1 4 _ rfl; have p0 := hSw.2.1.1 0 _ rfl; have p1 := hSw.2.1.1 1 _ rfl; have g0 := hSw.2.2; have d9z := hSw.1.2.2; have p9z := hSw.2.1.2.2; go_simp; try with_reducible rfl)
                  change wpAnyH _ _ _ _ _ _ _ (Act.put _ (some 162) _) _
                  simp only [Act.put, List.setIfInBounds_toArray, List.set_cons_zero, List.set_cons_succ]
                  refine wpAnyH_take (i := 3) (v := ?_) rfl (by kernel_rfl) (by kernel_rfl) (by kernel_rfl) (fun _ _ _ h => h) (Or.inl ⟨by rfl, ?_⟩) (by assumption) ?_
                  rotate_left
                  · (intro wS hSw; have d2 := hSw.1.1 2 _ rfl; have d3 := hSw.1.1 3 _ rfl; have d4 := hSw.1.1 4 _ rfl; have p0 := hSw.2.1.1 0 _ rfl; have p1 := hSw.2.1.1 1 _ rfl; have g0 := hSw.2.2; have d9z := hSw.1.2.2; have p9z := hSw.2.1.2.2; go_simp; try with_reducible rfl)
                  change wpAnyH _ _ _ _ _ _ _ (Act.put _ (some 163) _) _
                  simp only [Act.put, List.setIfInBounds_toArray, List.set_cons_zero, List.set_cons_succ]
                  refine wpAnyH_take (i := 4) (v := ?_) rfl (by kernel_rfl) (by kernel_rfl) (by kernel_rfl) (fun _ _ _ h => h) (Or.inl ⟨by rfl, ?_⟩) (by assumption) ?_
                  rotate_left
                  · (intro wS hSw; have d2 := hSw.1.1 2 _ rfl; have d3 := hSw.1.1 3 _ rfl; have d4 := hSw.1.1 4 _ rfl; have p0 := hSw.2.1.1 0 _ rfl; have p1 := hSw.2.1.1 1 _ rfl; have g0 := hSw.2.2; have d9z := hSw.1.2.2; have p9z := hSw.2.1.2.2; go_simp; try with_reducible rfl)
                  change wpAnyH _ _ _ _ _ _ _ (Act.put _ (some 164) _) _
                  simp only [Act.put, List.setIfInBounds_toArray, List.set_cons_zero, List.set_cons_succ]
                  refine wpAnyH_take (i := 5) (v := ?_) rfl (by kernel_rfl) (by kernel_rfl) (by kernel_rfl) (fun _ _ _ h => h) (Or.inl ⟨by rfl, ?_⟩) (by assumption) ?_
                  rotate_left
                  · (intro wS hSw; have d2 := hSw.1.1 2 _ rfl; have d3 := hSw.1.1 3 _ rfl; have d4 := hSw.1.1 4 _ rfl; have p0 := hSw.2.1.1 0 _ rfl; have p1 := hSw.2.1.1 1 _ rfl; have g0 := hSw.2.2; have d9z := hSw.1.2.2; have p9z := hSw.2.1.2.2; go_simp; try with_reducible rfl)
                  change wpAnyH _ _ _ _ _ _ _ (Act.put _ (some 165) _) _
                  simp only [Act.put, List.setIfInBounds_toArray, List.set_cons_zero, List.set_cons_succ]
                  refine wpAnyH_take (i := 6) (v := ?_) rfl (by kernel_rfl) (by kernel_rfl) (by kernel_rfl) (fun _ _ _ h => h) (Or.inl ⟨by rfl, ?_⟩) (by assumption) ?_
                  rotate_left
                  · (intro wS hSw; have d2 := hSw.1.1 2 _ rfl; have d3 := hSw.1.1 3 _ rfl; have d4 := hSw.1.1 4 _ rfl; have p0 := hSw.2.1.1 0 _ rfl; have p1 := hSw.2.1.1 1 _ rfl; have g0 := hSw.2.2; have d9z := hSw.1.2.2; have p9z := hSw.2.1.2.2; go_simp; try with_reducible rfl)
                  change wpAnyH _ _ _ _ _ _ _ (Act.put _ (some 166) _) _
                  simp only [Act.put, List.setIfInBounds_toArray, List.set_cons_zero, List.set_cons_succ]
                  refine wpAnyH_take (i := 7) (v := ?_) rfl (by kernel_rfl) (by kernel_rfl) (by kernel_rfl) (fun _ _ _ h => h) (Or.inl ⟨by rfl, ?_⟩) (by assumption) ?_
                  rotate_left
                  · (intro wS hSw; have d2 := hSw.1.1 2 _ rfl; have d3 := hSw.1.1 3 _ rfl; have d4 := hSw.1.1 4 _ rfl; have p0 := hSw.2.1.1 0 _ rfl; have p1 := hSw.2.1.1 1 _ rfl; have g0 := hSw.2.2; have d9z := hSw.1.2.2; have p9z := hSw.2.1.2.2; go_simp; try with_reducible rfl)
                  change wpAnyH _ _ _ _ _ _ _ (Act.put _ (some 167) _) _
                  simp only [Act.put, List.setIfInBounds_toArray, List.set_cons_zero, List.set_cons_succ]
                  refine wpAnyH_take (i := 8) (v := ?_) rfl (by kernel_rfl) (by kernel_rfl) (by kernel_rfl) (fun _ _ _ h => h) (Or.inl ⟨by rfl, ?_⟩) (by assumption) ?_
                  rotate_left
                  · (intro wS hSw; have d2 := hSw.1.1 2 _ rfl; have d3 := hSw.1.1 3 _ rfl; have d4 := hSw.1.1 4 _ rfl; have p0 := hSw.2.1.1 0 _ rfl; have p1 := hSw.2.1.1 1 _ rfl; have g0 := hSw.2.2; have d9z := hSw.1.2.2; have p9z := hSw.2.1.2.2; go_simp; try with_reducible rfl)
                  change wpAnyH _ _ _ _ _ _ _ (Act.put _ (some 168) _) _
                  simp only [Act.put, List.setIfInBounds_toArray, List.set_cons_zero, List.set_cons_succ]
                  refine wpAnyH_take (i := 9) (v := ?_) rfl (by kernel_rfl) (by kernel_rfl) (by kernel_rfl) (fun _ _ _ h => h) (Or.inl ⟨by rfl, ?_⟩) (by assumption) ?_
                  rotate_left
                  · (intro wS hSw; have d2 := hSw.1.1 2 _ rfl; have d3 := hSw.1.1 3 _ rfl; have d4 := hSw.1.1 4 _ rfl; have p0 := hSw.2.1.1 0 _ rfl; have p1 := hSw.2.1.1 1 _ rfl; have g0 := hSw.2.2; have d9z := hSw.1.2.2; have p9z := hSw.2.1.2.2; go_simp; try with_reducible rfl)
                  change wpAnyH _ _ _ _ _ _ _ (Act.put _ (some 169) _) _
                  simp only [Act.put, List.setIfInBounds_toArray, List.set_cons_zero, List.set_cons_succ]
                  refine wpAnyH_take (i := 11) (v := ?_) rfl (by kernel_rfl) (by kernel_rfl) (by kernel_rfl) (fun _ _ _ h => h) (Or.inl ⟨by rfl, ?_⟩) (by assumption) ?_
                  rotate_left
                  · (intro wS hSw; have d2 := hSw.1.1 2 _ rfl; have d3 := hSw.1.1 3 _ rfl; have d4 := hSw.1.1 4 _ rfl; have p0 := hSw.2.1.1 0 _ rfl; have p1 := hSw.2.1.1 1 _ rfl; have g0 := hSw.2.2; have d9z := hSw.1.2.2; have p9z := hSw.2.1.2.2; go_simp; try with_reducible rfl)
                  change wpAnyH _ _ _ _ _ _ _ (Act.put _ (some 171) _) _
                  simp only [Act.put, List.setIfInBounds_toArray, List.set_cons_zero, List.set_cons_succ]
                  refine wpAnyH_take (i := 12) (v := ?_) rfl (by kernel_rfl) (by kernel_rfl) (by kernel_rfl) (fun _ _ _ h => h) (Or.inl ⟨by rfl, ?_⟩) (by assumption) ?_
                  rotate_left
                  · (intro wS hSw; have d2 := hSw.1.1 2 _ rfl; have d3 := hSw.1.1 3 _ rfl; have d4 := hSw.1.1 4 _ rfl; have p0 := hSw.2.1.1 0 _ rfl; have p1 := hSw.2.1.1 1 _ rfl; have g0 := hSw.2.2; have d9z := hSw.1.2.2; have p9z := hSw.2.1.2.2; go_simp; try with_reducible rfl)
                  change wpAnyH _ _ _ _ _ _ _ (Act.put _ (some 172) _) _
                  simp only [Act.put, List.setIfInBounds_toArray, List.set_cons_zero, List.set_cons_succ]
                  refine wpAnyH_take (i := 13) (v := ?_) rfl (by kernel_rfl) (by kernel_rfl) (by kernel_rfl) (fun _ _ _ h => h) (Or.inl ⟨by rfl, ?_⟩) (by assumption) ?_
                  rotate_left
                  · (intro wS hSw; have d2 := hSw.1.1 2 _ rfl; have d3 := hSw.1.1 3 _ rfl; have d4 := hSw.1.1 4 _ rfl; have p0 := hSw.2.1.1 0 _ rfl; have p1 := hSw.2.1.1 1 _ rfl; have g0 := hSw.2.2; have d9z := hSw.1.2.2; have p9z := hSw.2.1.2.2; go_simp; try with_reducible rfl)
                  change wpAnyH _ _ _ _ _ _ _ (Act.put _ (some 173) _) _
                  simp only [Act.put, List.setIfInBounds_toArray, List.set_cons_zero, List.set_cons_succ]
                  refine wpAnyH_ready (rs := [10]) (by kernel_rfl) (by simp) ?_
                  refine AllReadyH.cons rfl (fun K hK => ?_) AllReadyH.nil
                  go_simp
                  refine (hld1.out _ F_0.out).mono ?_
                  rintro e v1 ⟨rfl, hv1⟩
                  have F_1 : Hid (Below w24.heap.size w24 v1) := F_0.out.trans (hv1.mono F_0.out.size)
                  clear hv1 F_0
                  (try go_wp2_with (fail))
                  refine hK.out _ _ ?_ (fun hHeld => ?_)
                  · exact ⟨Cs.later F_1.out q25, Cs.later F_1.out N25, cell_later F_1.out cga24⟩
                  clear hK K
                  refine wpAnyH_ready (rs := [14]) (by kernel_rfl) (by simp) ?_
                  refine AllReadyH.cons rfl (fun K hK => ?_) AllReadyH.nil
                  go_simp
                  refine (hld2.out _ F_1.out).mono ?_
                  rintro e v2 ⟨rfl, hv2⟩
                  have F_2 : Hid (Below w24.heap.size w24 v2) := F_1.out.trans (hv2.mono F_1.out.size)
                  clear hv2 F_1
                  (try go_wp2_with (fail))
                  refine hK.out _ _ ?_ (fun hHeld => ?_)
                  · exact ⟨Cs.later F_2.out q25, Cs.later F_2.out N25, cell_later F_2.out cga24⟩
                  clear hK K
                  refine wpAnyH_take (i := 15) (v := ?_) rfl (by kernel_rfl) (by kernel_rfl) (by kernel_rfl) (fun _ _ _ h => h) (Or.inl ⟨by rfl, ?_⟩) (by assumption) ?_
                  rotate_left
                  · (intro wS hSw; have d2 := hSw.1.1 2 _ rfl; have d3 := hSw.1.1 3 _ rfl; have d4 := hSw.1.1 4 _ rfl; have p0 := hSw.2.1.1 0 _ rfl; have p1 := hSw.2.1.1 1 _ rfl; have g0 := hSw.2.2; have d9z := hSw.1.2.2; have p9z := hSw.2.1.2.2; go_simp; try with_reducible rfl)
                  change wpAnyH _ _ _ _ _ _ _ (Act.put _ (some 175) _) _
                  simp only [Act.put, List.setIfInBounds_toArray, List.set_cons_zero, List.set_cons_succ]
                  refine wpAnyH_take (i := 16) (v := ?_) rfl (by kernel_rfl) (by kernel_rfl) (by kernel_rfl) (fun _ _ _ h => h) (Or.inl ⟨by rfl, ?_⟩) (by assumption) ?_
                  rotate_left
                  · (intro wS hSw; have d2 := hSw.1.1 2 _ rfl; have d3 := hSw.1.1 3 _ rfl; have d4 := hSw.1.1 4 _ rfl; have p0 := hSw.2.1.1 0 _ rfl; have p1 := hSw.2.1.1 1 _ rfl; have g0 := hSw.2.2; have d9z := hSw.1.2.2; have p9z := hSw.2.1.2.2; go_simp; try with_reducible rfl)
                  change wpAnyH _ _ _ _ _ _ _ (Act.put _ (some 176) _) _
                  simp only [Act.put, List.setIfInBounds_toArray, List.set_cons_zero, List.set_cons_succ]
                  refine wpAnyH_done (by kernel_rfl) ?_ _
                  refine NoPanic.normal ?_
                  (try go_wp2)
                  go_meet
                  case rel => exact ⟨rfl, F_2.out⟩
                case rest =>
                  obtain ⟨rfl, hbc⟩ := hcut
                  replace SYk := SYk.later hbc
                  replace N25 := Cs.later hbc N25
                  replace XO25 := OwnW.later XO25 hbc
                  replace HB25 := HB25.trans (hbc.mono HB25.size)
                  clear hld1 hld2 hsm q25 cga24 cgw24 cgx24 hbc
                  obtain ⟨-, cgz, cgx⟩ := SYk.cells (i := at_) (by rw [List.getElem?_set_self hl2])
                  have fg0 := SYk.frozen (at_ * 2)
                  have fg1 := SYk.frozen (at_ * 2 + 1)
                  have c0 := N25.1 0 _ rfl
                  have c1 := N25.1 1 _ rfl
                  have z17 := N25.2.2
                  obtain ⟨SYn, gS, gb⟩ := SY22.step HE.out SYk XO25
                  have HBn := HB25.grown gS HB25.size fun k hk => by injection hk with hk; omega
                  have LL : Hid ((es.set at_ ⟨eb, em, xs, .slice oa xs.length oc, xs⟩).length = es.length) := List.length_set ..
                  have HSn : Hid (Sys _ _ _ _ _ _ _ _ _ _) := SYn
                  have HHn : Hid (Below _ _ _) := HBn
                  clear SYk N25 XO25 HB25 gS gb SYn HBn SY22 BW SY9
                  go_wp2
                  go_roundw
                  case rel => exact ⟨j + 1, es.set at_ ⟨eb, em, xs, .slice oa xs.length oc, xs⟩, ga, ca, gw, cw, by go_num, by rw [LL.out], by rw [LL.out], by omega, HSn.out, HHn.out⟩
                  case measure => simp [intOf]; omega
      · obtain rfl : j = qs.length := by omega
        as_aux_lemma =>
          obtain ⟨W2, hW2⟩ : ∃ x, x = wr := ⟨_, rfl⟩
          rw [← hW2] at SY HB ⊢
          clear hW2 HO3 cj jl HO
          obtain ⟨kk, hkk, kk0, kk1⟩ : ∃ kk : Int, max 0 (min ki 1) = kk ∧ 0 ≤ kk ∧ kk ≤ 1 := ⟨_, rfl, by omega, by omega⟩
          have HK : Hid (max 0 (min ki 1) = kk ∧ True) := ⟨hkk, trivial⟩
          have FF : Hid ((∀ z ∈ zs, Fit z) ∧ True) := ⟨fits_all HFT.out, trivial⟩
          have n0 := SY.lo
          have n4 := SY.hi
          have N60 := HN.out
          clear hkk kk0 kk1
          go_wp2
          go_loopw [239] (fun f wr => ∃ i : Nat, f = .int .i64 i ∧ i ≤ es.length ∧ Below W2.heap.size W2 wr) (fun f _ => es.length - (intOf f).toNat)
          case atStart => exact ⟨0, rfl, by omega, Below.refl _ _⟩
          case round =>
            obtain ⟨i, rfl, il, HC⟩ := hrel
            have HBl := HB.trans (HC.mono HB.size)
            by_cases ci : i < es.length
            · have SYl := SY.later HC
              obtain ⟨e, he⟩ : ∃ e, es[i]? = some e := ⟨es[i], List.getElem?_eq_getElem ci⟩
              obtain ⟨f, hf⟩ : ∃ e, es[0]? = some e := ⟨es[0]'(by omega), List.getElem?_eq_getElem _⟩
              obtain ⟨ca0, cg0, cg1⟩ := SYl.cells he
              obtain ⟨fa0, -, fg1⟩ := SYl.cells hf
              have A := SYl.st.tab e (List.mem_of_getElem? he)
              have e5 := SYl.eq e (List.mem_of_getElem? he)
              have OWe := SYl.st.row e (List.mem_of_getElem? he)
              have B := SYl.st.tab f (List.mem_of_getElem? hf)
              have f5 := SYl.eq f (List.mem_of_getElem? hf)
              have OWf := SYl.st.row f (List.mem_of_getElem? hf)
              clear he hf
              obtain ⟨eb, em, ls, elv, ems⟩ := e
              obtain rfl : ems = ls := e5
              obtain ⟨la, lc, el⟩ := OWe.form
              have el' : elv = .slice la ems.length lc := el
              subst el'
              obtain ⟨fb, fm, fls, flv, fms⟩ := f
              obtain rfl : fms = fls := f5
              obtain ⟨lf, lg, fl⟩ := OWf.form
              have fl' : flv = .slice lf fms.length lg := fl
              subst fl'
              have RDe : RdW wr (.slice la ems.length lc) ems := OwnW.read OWe fun r hr => (A.tb.map.good r hr).1
              have RDf : RdW wr (.slice lf fms.length lg) fms := OwnW.read OWf fun r hr => (B.tb.map.good r hr).1
              have el60 : ems.length ≤ qs.length := A.len
              have RZ : RdZ wr (.slice az zs.length cz) zs := HZ.out.later HBl
              obtain ⟨z, hz⟩ : ∃ z, z = zoneAt zs zo := ⟨_, rfl⟩
              obtain ⟨I, hI⟩ : ∃ I, I = isZ zs zo := ⟨_, rfl⟩
              obtain ⟨rv, hrv⟩ : ∃ rv, rv = roomV zs zo ki := ⟨_, rfl⟩
              obtain ⟨vv, hvv⟩ : ∃ vv, vv = freeV zs ems zo ki := ⟨_, rfl⟩
              obtain ⟨fv, hfv⟩ : ∃ fv, fv = freV zs ems kk := ⟨_, rfl⟩
              obtain ⟨sm, hsm⟩ : ∃ sm, sm = sameL ems fms := ⟨_, rfl⟩
              have C247 : Hid (∀ w1, Below wr.heap.size wr w1 → Calls Try.prog 10 #[tbV eb, .int .i64 zo] w1 fun e w' => e = .returned (.tuple #[zoneV z, .bool I]) ∧ Below w1.heap.size w1 w') := fun w1 hb => by rw [hz, hI]; exact zone_is zo w1 (Tb.later hb A.tb)
              have C259 : Hid (∀ w1, Below wr.heap.size wr w1 → Calls Try.prog 11 #[tbV eb] w1 fun e w' => e = .returned (.int .i64 zs.length) ∧ Below w1.heap.size w1 w') := fun w1 hb => zones_is w1 (Tb.later hb A.tb)
              have C283 : Hid (∀ w1, Below wr.heap.size wr w1 → Calls Try.prog 12 #[tbV eb, .int .i64 zo, .int .i64 ki] w1 fun e w' => e = .returned (.int .i64 rv) ∧ Below w1.heap.size w1 w') := fun w1 hb => by rw [hrv]; exact troom_is zo ki w1 (Tb.later hb A.tb)
              have C290 : Hid (∀ w1, Below wr.heap.size wr w1 → Calls Try.prog 24 #[.agg #[.slice az zs.length cz, .slice la ems.length lc], .int .i64 zo, .int .i64 ki] w1 fun e w' => e = .returned (.int .i64 rv) ∧ Below w1.heap.size w1 w') := fun w1 hb => by rw [hrv]; exact room_is la ems.length lc zo ki w1 (RZ.later hb) FF.out.1
              have C297 : Hid (∀ w1, Below wr.heap.size wr w1 → Calls Try.prog 13 #[tbV eb, .int .i64 zo, .int .i64 ki] w1 fun e w' => e = .returned (.int .i64 vv) ∧ Below w1.heap.size w1 w') := fun w1 hb => by rw [hvv, freeV_is HFT.out A.ord.sound]; exact free_is zo ki w1 (Tb.later hb A.tb) A.ord.sound
              have C304 : Hid (∀ w1, Below wr.heap.size wr w1 → Calls Try.prog 25 #[.agg #[.slice az zs.length cz, .slice la ems.length lc], .int .i64 zo, .int .i64 ki] w1 fun e w' => e = .returned (.int .i64 vv) ∧ Below w1.heap.size w1 w') := fun w1 hb => by rw [hvv]; exact rfree_is zo ki w1 (RZ.later hb) FF.out.1 (RDe.later hb)
              have C309 : Hid (∀ w1, Below wr.heap.size wr w1 → Calls Try.prog 15 #[tbV eb, .int .i64 500] w1 fun e w' => ∃ v, e = .returned v ∧ RdW w' v ems ∧ Below w1.heap.size w1 w') := fun w1 hb => by
                have := lawrows_is 500 (by omega) w1 (Tb.later hb A.tb) A.ord.sorted (show ems.length ≤ 1099511627776 by omega)
                rwa [List.take_of_length_le (show ems.length ≤ 500 by omega)] at this
              have C315 : Hid (∀ w1 v, Below wr.heap.size wr w1 → RdW w1 v ems → Calls Try.prog 26 #[v, .slice la ems.length lc] w1 fun e w' => e = .returned (.bool true) ∧ Below w1.heap.size w1 w') := fun w1 v hb hv => by
                have := rsame_is w1 hv (RDe.later hb)
                rwa [sameL_refl A.ord.sorted] at this
              have C323 : Hid (∀ w1, Below wr.heap.size wr w1 → Calls Try.prog 20 #[tbV eb, tbV fb] w1 fun e w' => e = .returned (.bool sm) ∧ Below w1.heap.size w1 w') := fun w1 hb => by
                rw [hsm, ← same_eq A.ord.sorted B.ord.sorted]
                exact same_is w1 (Tb.later hb A.tb) (Tb.later hb B.tb)
              have C333 : Hid (∀ w1, Below wr.heap.size wr w1 → Calls Try.prog 26 #[.slice la ems.length lc, .slice lf fms.length lg] w1 fun e w' => e = .returned (.bool sm) ∧ Below w1.heap.size w1 w') := fun w1 hb => by
                rw [hsm]
                exact rsame_is w1 (RDe.later hb) (RDf.later hb)
              have C341 : Hid (∀ w1, Below wr.heap.size wr w1 → Calls Try.prog 18 #[tbV eb, .int .i64 kk] w1 fun e w' => e = .returned (spV fv) ∧ Below w1.heap.size w1 w') := fun w1 hb => by rw [hfv]; exact frees_is kk w1 (Tb.later hb A.tb) A.ord.sound
              have C354 : Hid (∀ (n : Nat) w1, n < 8 → Below wr.heap.size wr w1 → Calls Try.prog 25 #[.agg #[.slice az zs.length cz, .slice la ems.length lc], .int .i64 (n : Int), .int .i64 kk] w1 fun e w' => e = .returned (.int .i64 (fv n)) ∧ Below w1.heap.size w1 w') := fun n w1 hn hb => by
                rw [hfv, ← frees_at HFT.out A.ord.sound hn kk]
                exact rfree_is (n : Int) kk w1 (RZ.later hb) FF.out.1 (RDe.later hb)
              have HI : Hid (I = isZ zs zo ∧ True) := ⟨hI, trivial⟩
              have HZZ : Hid (z = zoneAt zs zo ∧ True) := ⟨hz, trivial⟩
              have zsm : ∀ w1 : World, Sem.run Try.prog (Op.equalIn 10000 35 (zoneV z) (zoneV z)) w1 = .ok true w1 := fun w1 => by
                have := zone_eq z z w1
                rwa [eqZ_refl] at this
              have j0 : (0 : Int) ≤ (i : Int) := by omega
              have j1 : (i : Int) < (es.length : Int) := by omega
              have j2 : (0 : Int) < (es.length : Int) := by omega
              have RZH : Hid (RdZ wr (.slice az zs.length cz) zs) := RZ
              clear hz hI hrv hvv hfv hsm A B OWe OWf RDe RDf RZ SYl el fl
              go_wp2_with (fail)
              refine (C247.out wr (Below.refl _ _)).mono ?_
              rintro e w5 ⟨rfl, hb⟩
              clear C247
              go_upto_region 34 with (fail)
              have pz : Cs (w5.alloc (.cells #[.int .i64 z.b0, .int .i64 z.b1, .int .i64 z.r0, .int .i64 z.r1] 35)) w5.heap.size (znL z) := Cs.new _ _ _ _ rfl
              have g6 : Below wr.heap.size wr (w5.alloc (.cells #[.int .i64 z.b0, .int .i64 z.b1, .int .i64 z.r0, .int .i64 z.r1] 35)) := hb.alloc hb.size _
              obtain ⟨p23, hp⟩ : ∃ p, p = w5.heap.size := ⟨_, rfl⟩
              rw [← hp] at pz ⊢
              generalize w5.alloc (.cells #[.int .i64 z.b0, .int .i64 z.b1, .int .i64 z.r0, .int .i64 z.r1] 35) = w6 at *
              clear hp hb
              replace ca0 := cell_later g6 ca0
              replace cg0 := cell_later g6 cg0
              replace cg1 := cell_later g6 cg1
              replace fa0 := cell_later g6 fa0
              replace fg1 := cell_later g6 fg1
              have RZ6 : Hid (RdZ w6 (.slice az zs.length cz) zs) := RZH.out.later g6
              clear RZH
              go_cut [25] from 250 to 257 (fun s wc => s = .bool I ∧ wc = w6)
              case first =>
                have HI1 := HI.out.1
                clear HI HZZ zsm RZ6 C259 C283 C290 C297 C304 C309 C315 C323 C333 C341 C354
                by_cases h0 : 0 ≤ zo
                · by_cases h1 : zo < (zs.length : Int)
                  · obtain rfl : I = true := HI1.trans (decide_eq_true ⟨h0, h1⟩)
                    clear HI1
                    go_wp2_with (fail)
                    go_meet
                    case rel => exact ⟨rfl, rfl⟩
                  · obtain rfl : I = false := HI1.trans (decide_eq_false fun h => h1 h.2)
                    clear HI1
                    go_wp2_with (fail)
                    go_meet
                    case rel => exact ⟨rfl, rfl⟩
                · obtain rfl : I = false := HI1.trans (decide_eq_false fun h => h0 h.1)
                  clear HI1
                  go_wp2_with (fail)
                  go_meet
                  case rel => exact ⟨rfl, rfl⟩
              case rest =>
                obtain ⟨rfl, hwc⟩ := hcut
                rw [hwc]
                clear hwc
                go_upto_region 35 with (fail)
                go_cut [335] from 258 to 335 (fun s wc => s = .bool false ∧ Below w6.heap.size w6 wc)
                case first =>
                  clear C341 C354 HK
                  have HI1 := HI.out.1
                  have HZ1 := HZZ.out.1
                  clear HI HZZ
                  cases I with
                  | false =>
                    clear HI1 HZ1 RZ6 zsm
                    have F_0 : Hid (Below w6.heap.size w6 _) := Below.drew (Below.refl _ _)
                    refine wp_region_noPanic ?_
                    refine wp_region_held_drew (S := fun w' => Cs w' p23 (znL z) ∧ w'.cell? ⟨ga, i, none⟩ = some (tbV eb) ∧ w'.cell? ⟨ga, 0, none⟩ = some (tbV fb) ∧ w'.cell? ⟨gw, i * 2, none⟩ = some (.slice az zs.length cz) ∧ w'.cell? ⟨gw, i * 2 + 1, none⟩ = some (.slice la ems.length lc) ∧ w'.cell? ⟨gw, 0 * 2 + 1, none⟩ = some (.slice lf fms.length lg)) (by kernel_rfl) ?_ (fun hHeld => ?_)
                    · exact ⟨Cs.later F_0.out pz, cell_later F_0.out ca0, cell_later F_0.out fa0, cell_later F_0.out cg0, cell_later F_0.out cg1, cell_later F_0.out fg1⟩
                    refine wpAnyH_take (i := 0) (v := ?_) rfl (by kernel_rfl) (by kernel_rfl) (by kernel_rfl) (fun _ _ _ h => h) (Or.inl ⟨by rfl, ?_⟩) (by assumption) ?_
                    rotate_left
                    · (intro wS hSw; have p0 := hSw.1.1 0 _ rfl; have p1 := hSw.1.1 1 _ rfl; have p2 := hSw.1.1 2 _ rfl; have p3 := hSw.1.1 3 _ rfl; have pz9 := hSw.1.2.2; have g0 := hSw.2.1; have g1 := hSw.2.2.1; have g2 := hSw.2.2.2.1; have g3 := hSw.2.2.2.2.1; have g4 := hSw.2.2.2.2.2; go_simp; try with_reducible rfl)
                    change wpAnyH _ _ _ _ _ _ _ (Act.put _ (some 258) _) _
                    simp only [Act.put, List.setIfInBounds_toArray, List.set_cons_zero, List.set_cons_succ]
                    refine wpAnyH_take (i := 2) (v := ?_) rfl (by kernel_rfl) (by kernel_rfl) (by kernel_rfl) (fun _ _ _ h => h) (Or.inl ⟨by rfl, ?_⟩) (by assumption) ?_
                    rotate_left
                    · (intro wS hSw; have p0 := hSw.1.1 0 _ rfl; have p1 := hSw.1.1 1 _ rfl; have p2 := hSw.1.1 2 _ rfl; have p3 := hSw.1.1 3 _ rfl; have pz9 := hSw.1.2.2; have g0 := hSw.2.1; have g1 := hSw.2.2.1; have g2 := hSw.2.2.2.1; have g3 := hSw.2.2.2.2.1; have g4 := hSw.2.2.2.2.2; go_simp; try with_reducible rfl)
                    change wpAnyH _ _ _ _ _ _ _ (Act.put _ (some 260) _) _
                    simp only [Act.put, List.setIfInBounds_toArray, List.set_cons_zero, List.set_cons_succ]
                    refine wpAnyH_take (i := 3) (v := ?_) rfl (by kernel_rfl) (by kernel_rfl) (by kernel_rfl) (fun _ _ _ h => h) (Or.inl ⟨by rfl, ?_⟩) (by assumption) ?_
                    rotate_left
                    · (intro wS hSw; have p0 := hSw.1.1 0 _ rfl; have p1 := hSw.1.1 1 _ rfl; have p2 := hSw.1.1 2 _ rfl; have p3 := hSw.1.1 3 _ rfl; have pz9 := hSw.1.2.2; have g0 := hSw.2.1; have g1 := hSw.2.2.1; have g2 := hSw.2.2.2.1; have g3 := hSw.2.2.2.2.1; have g4 := hSw.2.2.2.2.2; go_simp; try with_reducible rfl)
                    change wpAnyH _ _ _ _ _ _ _ (Act.put _ (some 261) _) _
                    simp only [Act.put, List.setIfInBounds_toArray, List.set_cons_zero, List.set_cons_succ]
                    refine wpAnyH_ready (rs := [1]) (by kernel_rfl) (by simp) ?_
                    refine AllReadyH.cons rfl (fun K hK => ?_) AllReadyH.nil
                    go_simp
                    refine (C259.out _ (g6.trans (F_0.out.mono g6.size))).mono ?_
                    rintro e v1 ⟨rfl, hv1⟩
                    have F_1 : Hid (Below w6.heap.size w6 v1) := F_0.out.trans (hv1.mono F_0.out.size)
                    clear hv1 F_0
                    (try go_wp2_with (fail))
                    refine hK.out _ _ ?_ (fun hHeld => ?_)
                    · exact ⟨Cs.later F_1.out pz, cell_later F_1.out ca0, cell_later F_1.out fa0, cell_later F_1.out cg0, cell_later F_1.out cg1, cell_later F_1.out fg1⟩
                    clear hK K
                    as_aux_lemma =>
                    refine wpAnyH_take (i := 4) (v := ?_) rfl (by kernel_rfl) (by kernel_rfl) (by kernel_rfl) (fun _ _ _ h => h) (Or.inl ⟨by rfl, ?_⟩) (by assumption) ?_
                    rotate_left
                    · (intro wS hSw; have p0 := hSw.1.1 0 _ rfl; have p1 := hSw.1.1 1 _ rfl; have p2 := hSw.1.1 2 _ rfl; have p3 := hSw.1.1 3 _ rfl; have pz9 := hSw.1.2.2; have g0 := hSw.2.1; have g1 := hSw.2.2.1; have g2 := hSw.2.2.2.1; have g3 := hSw.2.2.2.2.1; have g4 := hSw.2.2.2.2.2; go_simp; try with_reducible rfl)
                    change wpAnyH _ _ _ _ _ _ _ (Act.put _ (some 262) _) _
                    simp only [Act.put, List.setIfInBounds_toArray, List.set_cons_zero, List.set_cons_succ]
                    refine wpAnyH_take (i := 5) (v := ?_) rfl (by kernel_rfl) (by kernel_rfl) (by kernel_rfl) (fun _ _ _ h => h) (Or.inl ⟨by rfl, ?_⟩) (by assumption) ?_
                    rotate_left
                    · (intro wS hSw; have p0 := hSw.1.1 0 _ rfl; have p1 := hSw.1.1 1 _ rfl; have p2 := hSw.1.1 2 _ rfl; have p3 := hSw.1.1 3 _ rfl; have pz9 := hSw.1.2.2; have g0 := hSw.2.1; have g1 := hSw.2.2.1; have g2 := hSw.2.2.2.1; have g3 := hSw.2.2.2.2.1; have g4 := hSw.2.2.2.2.2; go_simp; try with_reducible rfl)
                    change wpAnyH _ _ _ _ _ _ _ (Act.put _ (some 263) _) _
                    simp only [Act.put, List.setIfInBounds_toArray, List.set_cons_zero, List.set_cons_succ]
                    refine wpAnyH_take (i := 6) (v := ?_) rfl (by kernel_rfl) (by kernel_rfl) (by kernel_rfl) (fun _ _ _ h => h) (Or.inl ⟨by rfl, ?_⟩) (by assumption) ?_
                    rotate_left
                    · (intro wS hSw; have p0 := hSw.1.1 0 _ rfl; have p1 := hSw.1.1 1 _ rfl; have p2 := hSw.1.1 2 _ rfl; have p3 := hSw.1.1 3 _ rfl; have pz9 := hSw.1.2.2; have g0 := hSw.2.1; have g1 := hSw.2.2.1; have g2 := hSw.2.2.2.1; have g3 := hSw.2.2.2.2.1; have g4 := hSw.2.2.2.2.2; go_simp; try with_reducible rfl)
                    change wpAnyH _ _ _ _ _ _ _ (Act.put _ (some 264) _) _
                    simp only [Act.put, List.setIfInBounds_toArray, List.set_cons_zero, List.set_cons_succ]
                    refine wpAnyH_take (i := 7) (v := ?_) rfl (by kernel_rfl) (by kernel_rfl) (by kernel_rfl) (fun _ _ _ h => h) (Or.inl ⟨by rfl, ?_⟩) (by assumption) ?_
                    rotate_left
                    · (intro wS hSw; have p0 := hSw.1.1 0 _ rfl; have p1 := hSw.1.1 1 _ rfl; have p2 := hSw.1.1 2 _ rfl; have p3 := hSw.1.1 3 _ rfl; have pz9 := hSw.1.2.2; have g0 := hSw.2.1; have g1 := hSw.2.2.1; have g2 := hSw.2.2.2.1; have g3 := hSw.2.2.2.2.1; have g4 := hSw.2.2.2.2.2; go_simp; try with_reducible rfl)
                    change wpAnyH _ _ _ _ _ _ _ (Act.put _ (some 265) _) _
                    simp only [Act.put, List.setIfInBounds_toArray, List.set_cons_zero, List.set_cons_succ]
                    refine wpAnyH_take (i := 8) (v := ?_) rfl (by kernel_rfl) (by kernel_rfl) (by kernel_rfl) (fun _ _ _ h => h) (Or.inl ⟨by rfl, ?_⟩) (by assumption) ?_
                    rotate_left
                    · (intro wS hSw; have p0 := hSw.1.1 0 _ rfl; have p1 := hSw.1.1 1 _ rfl; have p2 := hSw.1.1 2 _ rfl; have p3 := hSw.1.1 3 _ rfl; have pz9 := hSw.1.2.2; have g0 := hSw.2.1; have g1 := hSw.2.2.1; have g2 := hSw.2.2.2.1; have g3 := hSw.2.2.2.2.1; have g4 := hSw.2.2.2.2.2; go_simp; try with_reducible rfl)
                    change wpAnyH _ _ _ _ _ _ _ (Act.put _ (some 266) _) _
                    simp only [Act.put, List.setIfInBounds_toArray, List.set_cons_zero, List.set_cons_succ]
                    refine wpAnyH_take (i := 9) (v := ?_) rfl (by kernel_rfl) (by kernel_rfl) (by kernel_rfl) (fun _ _ _ h => h) (Or.inl ⟨by rfl, ?_⟩) (by assumption) ?_
                    rotate_left
                    · (intro wS hSw; have p0 := hSw.1.1 0 _ rfl; have p1 := hSw.1.1 1 _ rfl; have p2 := hSw.1.1 2 _ rfl; have p3 := hSw.1.1 3 _ rfl; have pz9 := hSw.1.2.2; have g0 := hSw.2.1; have g1 := hSw.2.2.1; have g2 := hSw.2.2.2.1; have g3 := hSw.2.2.2.2.1; have g4 := hSw.2.2.2.2.2; go_simp; try with_reducible rfl)
                    change wpAnyH _ _ _ _ _ _ _ (Act.put _ (some 267) _) _
                    simp only [Act.put, List.setIfInBounds_toArray, List.set_cons_zero, List.set_cons_succ]
                    refine wpAnyH_take (i := 10) (v := ?_) rfl (by kernel_rfl) (by kernel_rfl) (by kernel_rfl) (fun _ _ _ h => h) (Or.inl ⟨by rfl, ?_⟩) (by assumption) ?_
                    rotate_left
                    · (intro wS hSw; have p0 := hSw.1.1 0 _ rfl; have p1 := hSw.1.1 1 _ rfl; have p2 := hSw.1.1 2 _ rfl; have p3 := hSw.1.1 3 _ rfl; have pz9 := hSw.1.2.2; have g0 := hSw.2.1; have g1 := hSw.2.2.1; have g2 := hSw.2.2.2.1; have g3 := hSw.2.2.2.2.1; have g4 := hSw.2.2.2.2.2; go_simp; try with_reducible rfl)
                    change wpAnyH _ _ _ _ _ _ _ (Act.put _ (some 268) _) _
                    simp only [Act.put, List.setIfInBounds_toArray, List.set_cons_zero, List.set_cons_succ]
                    refine wpAnyH_take (i := 11) (v := ?_) rfl (by kernel_rfl) (by kernel_rfl) (by kernel_rfl) (fun _ _ _ h => h) (Or.inl ⟨by rfl, ?_⟩) (by assumption) ?_
                    rotate_left
                    · (intro wS hSw; have p0 := hSw.1.1 0 _ rfl; have p1 := hSw.1.1 1 _ rfl; have p2 := hSw.1.1 2 _ rfl; have p3 := hSw.1.1 3 _ rfl; have pz9 := hSw.1.2.2; have g0 := hSw.2.1; have g1 := hSw.2.2.1; have g2 := hSw.2.2.2.1; have g3 := hSw.2.2.2.2.1; have g4 := hSw.2.2.2.2.2; go_simp; try with_reducible rfl)
                    change wpAnyH _ _ _ _ _ _ _ (Act.put _ (some 269) _) _
                    simp only [Act.put, List.setIfInBounds_toArray, List.set_cons_zero, List.set_cons_succ]
                    refine wpAnyH_take (i := 12) (v := ?_) rfl (by kernel_rfl) (by kernel_rfl) (by kernel_rfl) (fun _ _ _ h => h) (Or.inl ⟨by rfl, ?_⟩) (by assumption) ?_
                    rotate_left
                    · (intro wS hSw; have p0 := hSw.1.1 0 _ rfl; have p1 := hSw.1.1 1 _ rfl; have p2 := hSw.1.1 2 _ rfl; have p3 := hSw.1.1 3 _ rfl; have pz9 := hSw.1.2.2; have g0 := hSw.2.1; have g1 := hSw.2.2.1; have g2 := hSw.2.2.2.1; have g3 := hSw.2.2.2.2.1; have g4 := hSw.2.2.2.2.2; go_simp; try with_reducible rfl)
                    change wpAnyH _ _ _ _ _ _ _ (Act.put _ (some 270) _) _
                    simp only [Act.put, List.setIfInBounds_toArray, List.set_cons_zero, List.set_cons_succ]
                    refine wpAnyH_take (i := 13) (v := undef) rfl (by kernel_rfl) (by kernel_rfl) (by kernel_rfl) (fun _ _ _ h => h) (Or.inr ⟨by rfl, rfl⟩) (by assumption) ?_
                    change wpAnyH _ _ _ _ _ _ _ (Act.put _ (some 271) _) _
                    simp only [Act.put, List.setIfInBounds_toArray, List.set_cons_zero, List.set_cons_succ]
                    refine wpAnyH_take (i := 14) (v := undef) rfl (by kernel_rfl) (by kernel_rfl) (by kernel_rfl) (fun _ _ _ h => h) (Or.inr ⟨by rfl, rfl⟩) (by assumption) ?_
                    change wpAnyH _ _ _ _ _ _ _ (Act.put _ (some 272) _) _
                    simp only [Act.put, List.setIfInBounds_toArray, List.set_cons_zero, List.set_cons_succ]
                    refine wpAnyH_take (i := 15) (v := undef) rfl (by kernel_rfl) (by kernel_rfl) (by kernel_rfl) (fun _ _ _ h => h) (Or.inr ⟨by rfl, rfl⟩) (by assumption) ?_
                    change wpAnyH _ _ _ _ _ _ _ (Act.put _ (some 273) _) _
                    simp only [Act.put, List.setIfInBounds_toArray, List.set_cons_zero, List.set_cons_succ]
                    refine wpAnyH_take (i := 16) (v := undef) rfl (by kernel_rfl) (by kernel_rfl) (by kernel_rfl) (fun _ _ _ h => h) (Or.inr ⟨by rfl, rfl⟩) (by assumption) ?_
                    change wpAnyH _ _ _ _ _ _ _ (Act.put _ (some 274) _) _
                    simp only [Act.put, List.setIfInBounds_toArray, List.set_cons_zero, List.set_cons_succ]
                    refine wpAnyH_take (i := 17) (v := undef) rfl (by kernel_rfl) (by kernel_rfl) (by kernel_rfl) (fun _ _ _ h => h) (Or.inr ⟨by rfl, rfl⟩) (by assumption) ?_
                    change wpAnyH _ _ _ _ _ _ _ (Act.put _ (some 275) _) _
                    simp only [Act.put, List.setIfInBounds_toArray, List.set_cons_zero, List.set_cons_succ]
                    refine wpAnyH_take (i := 18) (v := undef) rfl (by kernel_rfl) (by kernel_rfl) (by kernel_rfl) (fun _ _ _ h => h) (Or.inr ⟨by rfl, rfl⟩) (by assumption) ?_
                    change wpAnyH _ _ _ _ _ _ _ (Act.put _ (some 276) _) _
                    simp only [Act.put, List.setIfInBounds_toArray, List.set_cons_zero, List.set_cons_succ]
                    refine wpAnyH_take (i := 19) (v := ?_) rfl (by kernel_rfl) (by kernel_rfl) (by kernel_rfl) (fun _ _ _ h => h) (Or.inl ⟨by rfl, ?_⟩) (by assumption) ?_
                    rotate_left
                    · (intro wS hSw; have p0 := hSw.1.1 0 _ rfl; have p1 := hSw.1.1 1 _ rfl; have p2 := hSw.1.1 2 _ rfl; have p3 := hSw.1.1 3 _ rfl; have pz9 := hSw.1.2.2; have g0 := hSw.2.1; have g1 := hSw.2.2.1; have g2 := hSw.2.2.2.1; have g3 := hSw.2.2.2.2.1; have g4 := hSw.2.2.2.2.2; go_simp; try with_reducible rfl)
                    change wpAnyH _ _ _ _ _ _ _ (Act.put _ (some 277) _) _
                    simp only [Act.put, List.setIfInBounds_toArray, List.set_cons_zero, List.set_cons_succ]
                    refine wpAnyH_take (i := 20) (v := ?_) rfl (by kernel_rfl) (by kernel_rfl) (by kernel_rfl) (fun _ _ _ h => h) (Or.inl ⟨by rfl, ?_⟩) (by assumption) ?_
                    rotate_left
                    · (intro wS hSw; have p0 := hSw.1.1 0 _ rfl; have p1 := hSw.1.1 1 _ rfl; have p2 := hSw.1.1 2 _ rfl; have p3 := hSw.1.1 3 _ rfl; have pz9 := hSw.1.2.2; have g0 := hSw.2.1; have g1 := hSw.2.2.1; have g2 := hSw.2.2.2.1; have g3 := hSw.2.2.2.2.1; have g4 := hSw.2.2.2.2.2; go_simp; try with_reducible rfl)
                    change wpAnyH _ _ _ _ _ _ _ (Act.put _ (some 278) _) _
                    simp only [Act.put, List.setIfInBounds_toArray, List.set_cons_zero, List.set_cons_succ]
                    refine wpAnyH_take (i := 21) (v := ?_) rfl (by kernel_rfl) (by kernel_rfl) (by kernel_rfl) (fun _ _ _ h => h) (Or.inl ⟨by rfl, ?_⟩) (by assumption) ?_
                    rotate_left
                    · (intro wS hSw; have p0 := hSw.1.1 0 _ rfl; have p1 := hSw.1.1 1 _ rfl; have p2 := hSw.1.1 2 _ rfl; have p3 := hSw.1.1 3 _ rfl; have pz9 := hSw.1.2.2; have g0 := hSw.2.1; have g1 := hSw.2.2.1; have g2 := hSw.2.2.2.1; have g3 := hSw.2.2.2.2.1; have g4 := hSw.2.2.2.2.2; go_simp; try with_reducible rfl)
                    change wpAnyH _ _ _ _ _ _ _ (Act.put _ (some 279) _) _
                    simp only [Act.put, List.setIfInBounds_toArray, List.set_cons_zero, List.set_cons_succ]
                    refine wpAnyH_take (i := 22) (v := ?_) rfl (by kernel_rfl) (by kernel_rfl) (by kernel_rfl) (fun _ _ _ h => h) (Or.inl ⟨by rfl, ?_⟩) (by assumption) ?_
                    rotate_left
                    · (intro wS hSw; have p0 := hSw.1.1 0 _ rfl; have p1 := hSw.1.1 1 _ rfl; have p2 := hSw.1.1 2 _ rfl; have p3 := hSw.1.1 3 _ rfl; have pz9 := hSw.1.2.2; have g0 := hSw.2.1; have g1 := hSw.2.2.1; have g2 := hSw.2.2.2.1; have g3 := hSw.2.2.2.2.1; have g4 := hSw.2.2.2.2.2; go_simp; try with_reducible rfl)
                    change wpAnyH _ _ _ _ _ _ _ (Act.put _ (some 280) _) _
                    simp only [Act.put, List.setIfInBounds_toArray, List.set_cons_zero, List.set_cons_succ]
                    refine wpAnyH_take (i := 23) (v := ?_) rfl (by kernel_rfl) (by kernel_rfl) (by kernel_rfl) (fun _ _ _ h => h) (Or.inl ⟨by rfl, ?_⟩) (by assumption) ?_
                    rotate_left
                    · (intro wS hSw; have p0 := hSw.1.1 0 _ rfl; have p1 := hSw.1.1 1 _ rfl; have p2 := hSw.1.1 2 _ rfl; have p3 := hSw.1.1 3 _ rfl; have pz9 := hSw.1.2.2; have g0 := hSw.2.1; have g1 := hSw.2.2.1; have g2 := hSw.2.2.2.1; have g3 := hSw.2.2.2.2.1; have g4 := hSw.2.2.2.2.2; go_simp; try with_reducible rfl)
                    change wpAnyH _ _ _ _ _ _ _ (Act.put _ (some 281) _) _
                    simp only [Act.put, List.setIfInBounds_toArray, List.set_cons_zero, List.set_cons_succ]
                    refine wpAnyH_take (i := 24) (v := ?_) rfl (by kernel_rfl) (by kernel_rfl) (by kernel_rfl) (fun _ _ _ h => h) (Or.inl ⟨by rfl, ?_⟩) (by assumption) ?_
                    rotate_left
                    · (intro wS hSw; have p0 := hSw.1.1 0 _ rfl; have p1 := hSw.1.1 1 _ rfl; have p2 := hSw.1.1 2 _ rfl; have p3 := hSw.1.1 3 _ rfl; have pz9 := hSw.1.2.2; have g0 := hSw.2.1; have g1 := hSw.2.2.1; have g2 := hSw.2.2.2.1; have g3 := hSw.2.2.2.2.1; have g4 := hSw.2.2.2.2.2; go_simp; try with_reducible rfl)
                    change wpAnyH _ _ _ _ _ _ _ (Act.put _ (some 282) _) _
                    simp only [Act.put, List.setIfInBounds_toArray, List.set_cons_zero, List.set_cons_succ]
                    refine wpAnyH_take (i := 26) (v := ?_) rfl (by kernel_rfl) (by kernel_rfl) (by kernel_rfl) (fun _ _ _ h => h) (Or.inl ⟨by rfl, ?_⟩) (by assumption) ?_
                    rotate_left
                    · (intro wS hSw; have p0 := hSw.1.1 0 _ rfl; have p1 := hSw.1.1 1 _ rfl; have p2 := hSw.1.1 2 _ rfl; have p3 := hSw.1.1 3 _ rfl; have pz9 := hSw.1.2.2; have g0 := hSw.2.1; have g1 := hSw.2.2.1; have g2 := hSw.2.2.2.1; have g3 := hSw.2.2.2.2.1; have g4 := hSw.2.2.2.2.2; go_simp; try with_reducible rfl)
                    change wpAnyH _ _ _ _ _ _ _ (Act.put _ (some 284) _) _
                    simp only [Act.put, List.setIfInBounds_toArray, List.set_cons_zero, List.set_cons_succ]
                    refine wpAnyH_take (i := 27) (v := ?_) rfl (by kernel_rfl) (by kernel_rfl) (by kernel_rfl) (fun _ _ _ h => h) (Or.inl ⟨by rfl, ?_⟩) (by assumption) ?_
                    rotate_left
                    · (intro wS hSw; have p0 := hSw.1.1 0 _ rfl; have p1 := hSw.1.1 1 _ rfl; have p2 := hSw.1.1 2 _ rfl; have p3 := hSw.1.1 3 _ rfl; have pz9 := hSw.1.2.2; have g0 := hSw.2.1; have g1 := hSw.2.2.1; have g2 := hSw.2.2.2.1; have g3 := hSw.2.2.2.2.1; have g4 := hSw.2.2.2.2.2; go_simp; try with_reducible rfl)
                    change wpAnyH _ _ _ _ _ _ _ (Act.put _ (some 285) _) _
                    simp only [Act.put, List.setIfInBounds_toArray, List.set_cons_zero, List.set_cons_succ]
                    refine wpAnyH_take (i := 28) (v := ?_) rfl (by kernel_rfl) (by kernel_rfl) (by kernel_rfl) (fun _ _ _ h => h) (Or.inl ⟨by rfl, ?_⟩) (by assumption) ?_
                    rotate_left
                    · (intro wS hSw; have p0 := hSw.1.1 0 _ rfl; have p1 := hSw.1.1 1 _ rfl; have p2 := hSw.1.1 2 _ rfl; have p3 := hSw.1.1 3 _ rfl; have pz9 := hSw.1.2.2; have g0 := hSw.2.1; have g1 := hSw.2.2.1; have g2 := hSw.2.2.2.1; have g3 := hSw.2.2.2.2.1; have g4 := hSw.2.2.2.2.2; go_simp; try with_reducible rfl)
                    change wpAnyH _ _ _ _ _ _ _ (Act.put _ (some 286) _) _
                    simp only [Act.put, List.setIfInBounds_toArray, List.set_cons_zero, List.set_cons_succ]
                    refine wpAnyH_take (i := 29) (v := ?_) rfl (by kernel_rfl) (by kernel_rfl) (by kernel_rfl) (fun _ _ _ h => h) (Or.inl ⟨by rfl, ?_⟩) (by assumption) ?_
                    rotate_left
                    · (intro wS hSw; have p0 := hSw.1.1 0 _ rfl; have p1 := hSw.1.1 1 _ rfl; have p2 := hSw.1.1 2 _ rfl; have p3 := hSw.1.1 3 _ rfl; have pz9 := hSw.1.2.2; have g0 := hSw.2.1; have g1 := hSw.2.2.1; have g2 := hSw.2.2.2.1; have g3 := hSw.2.2.2.2.1; have g4 := hSw.2.2.2.2.2; go_simp; try with_reducible rfl)
                    change wpAnyH _ _ _ _ _ _ _ (Act.put _ (some 287) _) _
                    simp only [Act.put, List.setIfInBounds_toArray, List.set_cons_zero, List.set_cons_succ]
                    refine wpAnyH_take (i := 30) (v := ?_) rfl (by kernel_rfl) (by kernel_rfl) (by kernel_rfl) (fun _ _ _ h => h) (Or.inl ⟨by rfl, ?_⟩) (by assumption) ?_
                    rotate_left
                    · (intro wS hSw; have p0 := hSw.1.1 0 _ rfl; have p1 := hSw.1.1 1 _ rfl; have p2 := hSw.1.1 2 _ rfl; have p3 := hSw.1.1 3 _ rfl; have pz9 := hSw.1.2.2; have g0 := hSw.2.1; have g1 := hSw.2.2.1; have g2 := hSw.2.2.2.1; have g3 := hSw.2.2.2.2.1; have g4 := hSw.2.2.2.2.2; go_simp; try with_reducible rfl)
                    change wpAnyH _ _ _ _ _ _ _ (Act.put _ (some 288) _) _
                    simp only [Act.put, List.setIfInBounds_toArray, List.set_cons_zero, List.set_cons_succ]
                    refine wpAnyH_take (i := 31) (v := ?_) rfl (by kernel_rfl) (by kernel_rfl) (by kernel_rfl) (fun _ _ _ h => h) (Or.inl ⟨by rfl, ?_⟩) (by assumption) ?_
                    rotate_left
                    · (intro wS hSw; have p0 := hSw.1.1 0 _ rfl; have p1 := hSw.1.1 1 _ rfl; have p2 := hSw.1.1 2 _ rfl; have p3 := hSw.1.1 3 _ rfl; have pz9 := hSw.1.2.2; have g0 := hSw.2.1; have g1 := hSw.2.2.1; have g2 := hSw.2.2.2.1; have g3 := hSw.2.2.2.2.1; have g4 := hSw.2.2.2.2.2; go_simp; try with_reducible rfl)
                    change wpAnyH _ _ _ _ _ _ _ (Act.put _ (some 289) _) _
                    simp only [Act.put, List.setIfInBounds_toArray, List.set_cons_zero, List.set_cons_succ]
                    refine wpAnyH_ready (rs := [25]) (by kernel_rfl) (by simp) ?_
                    refine AllReadyH.cons rfl (fun K hK => ?_) AllReadyH.nil
                    go_simp
                    refine (C283.out _ (g6.trans (F_1.out.mono g6.size))).mono ?_
                    rintro e v2 ⟨rfl, hv2⟩
                    have F_2 : Hid (Below w6.heap.size w6 v2) := F_1.out.trans (hv2.mono F_1.out.size)
                    clear hv2 F_1
                    (try go_wp2_with (fail))
                    refine hK.out _ _ ?_ (fun hHeld => ?_)
                    · exact ⟨Cs.later F_2.out pz, cell_later F_2.out ca0, cell_later F_2.out fa0, cell_later F_2.out cg0, cell_later F_2.out cg1, cell_later F_2.out fg1⟩
                    clear hK K
                    refine wpAnyH_ready (rs := [32]) (by kernel_rfl) (by simp) ?_
                    refine AllReadyH.cons rfl (fun K hK => ?_) AllReadyH.nil
                    go_simp
                    refine (C290.out _ (g6.trans (F_2.out.mono g6.size))).mono ?_
                    rintro e v3 ⟨rfl, hv3⟩
                    have F_3 : Hid (Below w6.heap.size w6 v3) := F_2.out.trans (hv3.mono F_2.out.size)
                    clear hv3 F_2
                    (try go_wp2_with (fail))
                    refine hK.out _ _ ?_ (fun hHeld => ?_)
                    · exact ⟨Cs.later F_3.out pz, cell_later F_3.out ca0, cell_later F_3.out fa0, cell_later F_3.out cg0, cell_later F_3.out cg1, cell_later F_3.out fg1⟩
                    clear hK K
                    as_aux_lemma =>
                    refine wpAnyH_take (i := 33) (v := ?_) rfl (by kernel_rfl) (by kernel_rfl) (by kernel_rfl) (fun _ _ _ h => h) (Or.inl ⟨by rfl, ?_⟩) (by assumption) ?_
                    rotate_left
                    · (intro wS hSw; have p0 := hSw.1.1 0 _ rfl; have p1 := hSw.1.1 1 _ rfl; have p2 := hSw.1.1 2 _ rfl; have p3 := hSw.1.1 3 _ rfl; have pz9 := hSw.1.2.2; have g0 := hSw.2.1; have g1 := hSw.2.2.1; have g2 := hSw.2.2.2.1; have g3 := hSw.2.2.2.2.1; have g4 := hSw.2.2.2.2.2; go_simp; try with_reducible rfl)
                    change wpAnyH _ _ _ _ _ _ _ (Act.put _ (some 291) _) _
                    simp only [Act.put, List.setIfInBounds_toArray, List.set_cons_zero, List.set_cons_succ]
                    refine wpAnyH_take (i := 34) (v := ?_) rfl (by kernel_rfl) (by kernel_rfl) (by kernel_rfl) (fun _ _ _ h => h) (Or.inl ⟨by rfl, ?_⟩) (by assumption) ?_
                    rotate_left
                    · (intro wS hSw; have p0 := hSw.1.1 0 _ rfl; have p1 := hSw.1.1 1 _ rfl; have p2 := hSw.1.1 2 _ rfl; have p3 := hSw.1.1 3 _ rfl; have pz9 := hSw.1.2.2; have g0 := hSw.2.1; have g1 := hSw.2.2.1; have g2 := hSw.2.2.2.1; have g3 := hSw.2.2.2.2.1; have g4 := hSw.2.2.2.2.2; go_simp; try with_reducible rfl)
                    change wpAnyH _ _ _ _ _ _ _ (Act.put _ (some 292) _) _
                    simp only [Act.put, List.setIfInBounds_toArray, List.set_cons_zero, List.set_cons_succ]
                    refine wpAnyH_take (i := 35) (v := ?_) rfl (by kernel_rfl) (by kernel_rfl) (by kernel_rfl) (fun _ _ _ h => h) (Or.inl ⟨by rfl, ?_⟩) (by assumption) ?_
                    rotate_left
                    · (intro wS hSw; have p0 := hSw.1.1 0 _ rfl; have p1 := hSw.1.1 1 _ rfl; have p2 := hSw.1.1 2 _ rfl; have p3 := hSw.1.1 3 _ rfl; have pz9 := hSw.1.2.2; have g0 := hSw.2.1; have g1 := hSw.2.2.1; have g2 := hSw.2.2.2.1; have g3 := hSw.2.2.2.2.1; have g4 := hSw.2.2.2.2.2; go_simp; try with_reducible rfl)
                    change wpAnyH _ _ _ _ _ _ _ (Act.put _ (some 293) _) _
                    simp only [Act.put, List.setIfInBounds_toArray, List.set_cons_zero, List.set_cons_succ]
                    refine wpAnyH_take (i := 36) (v := ?_) rfl (by kernel_rfl) (by kernel_rfl) (by kernel_rfl) (fun _ _ _ h => h) (Or.inl ⟨by rfl, ?_⟩) (by assumption) ?_
                    rotate_left
                    · (intro wS hSw; have p0 := hSw.1.1 0 _ rfl; have p1 := hSw.1.1 1 _ rfl; have p2 := hSw.1.1 2 _ rfl; have p3 := hSw.1.1 3 _ rfl; have pz9 := hSw.1.2.2; have g0 := hSw.2.1; have g1 := hSw.2.2.1; have g2 := hSw.2.2.2.1; have g3 := hSw.2.2.2.2.1; have g4 := hSw.2.2.2.2.2; go_simp; try with_reducible rfl)
                    change wpAnyH _ _ _ _ _ _ _ (Act.put _ (some 294) _) _
                    simp only [Act.put, List.setIfInBounds_toArray, List.set_cons_zero, List.set_cons_succ]
                    refine wpAnyH_take (i := 37) (v := ?_) rfl (by kernel_rfl) (by kernel_rfl) (by kernel_rfl) (fun _ _ _ h => h) (Or.inl ⟨by rfl, ?_⟩) (by assumption) ?_
                    rotate_left
                    · (intro wS hSw; have p0 := hSw.1.1 0 _ rfl; have p1 := hSw.1.1 1 _ rfl; have p2 := hSw.1.1 2 _ rfl; have p3 := hSw.1.1 3 _ rfl; have pz9 := hSw.1.2.2; have g0 := hSw.2.1; have g1 := hSw.2.2.1; have g2 := hSw.2.2.2.1; have g3 := hSw.2.2.2.2.1; have g4 := hSw.2.2.2.2.2; go_simp; try with_reducible rfl)
                    change wpAnyH _ _ _ _ _ _ _ (Act.put _ (some 295) _) _
                    simp only [Act.put, List.setIfInBounds_toArray, List.set_cons_zero, List.set_cons_succ]
                    refine wpAnyH_take (i := 38) (v := ?_) rfl (by kernel_rfl) (by kernel_rfl) (by kernel_rfl) (fun _ _ _ h => h) (Or.inl ⟨by rfl, ?_⟩) (by assumption) ?_
                    rotate_left
                    · (intro wS hSw; have p0 := hSw.1.1 0 _ rfl; have p1 := hSw.1.1 1 _ rfl; have p2 := hSw.1.1 2 _ rfl; have p3 := hSw.1.1 3 _ rfl; have pz9 := hSw.1.2.2; have g0 := hSw.2.1; have g1 := hSw.2.2.1; have g2 := hSw.2.2.2.1; have g3 := hSw.2.2.2.2.1; have g4 := hSw.2.2.2.2.2; go_simp; try with_reducible rfl)
                    change wpAnyH _ _ _ _ _ _ _ (Act.put _ (some 296) _) _
                    simp only [Act.put, List.setIfInBounds_toArray, List.set_cons_zero, List.set_cons_succ]
                    refine wpAnyH_take (i := 40) (v := ?_) rfl (by kernel_rfl) (by kernel_rfl) (by kernel_rfl) (fun _ _ _ h => h) (Or.inl ⟨by rfl, ?_⟩) (by assumption) ?_
                    rotate_left
                    · (intro wS hSw; have p0 := hSw.1.1 0 _ rfl; have p1 := hSw.1.1 1 _ rfl; have p2 := hSw.1.1 2 _ rfl; have p3 := hSw.1.1 3 _ rfl; have pz9 := hSw.1.2.2; have g0 := hSw.2.1; have g1 := hSw.2.2.1; have g2 := hSw.2.2.2.1; have g3 := hSw.2.2.2.2.1; have g4 := hSw.2.2.2.2.2; go_simp; try with_reducible rfl)
                    change wpAnyH _ _ _ _ _ _ _ (Act.put _ (some 298) _) _
                    simp only [Act.put, List.setIfInBounds_toArray, List.set_cons_zero, List.set_cons_succ]
                    refine wpAnyH_take (i := 41) (v := ?_) rfl (by kernel_rfl) (by kernel_rfl) (by kernel_rfl) (fun _ _ _ h => h) (Or.inl ⟨by rfl, ?_⟩) (by assumption) ?_
                    rotate_left
                    · (intro wS hSw; have p0 := hSw.1.1 0 _ rfl; have p1 := hSw.1.1 1 _ rfl; have p2 := hSw.1.1 2 _ rfl; have p3 := hSw.1.1 3 _ rfl; have pz9 := hSw.1.2.2; have g0 := hSw.2.1; have g1 := hSw.2.2.1; have g2 := hSw.2.2.2.1; have g3 := hSw.2.2.2.2.1; have g4 := hSw.2.2.2.2.2; go_simp; try with_reducible rfl)
                    change wpAnyH _ _ _ _ _ _ _ (Act.put _ (some 299) _) _
                    simp only [Act.put, List.setIfInBounds_toArray, List.set_cons_zero, List.set_cons_succ]
                    refine wpAnyH_take (i := 42) (v := ?_) rfl (by kernel_rfl) (by kernel_rfl) (by kernel_rfl) (fun _ _ _ h => h) (Or.inl ⟨by rfl, ?_⟩) (by assumption) ?_
                    rotate_left
                    · (intro wS hSw; have p0 := hSw.1.1 0 _ rfl; have p1 := hSw.1.1 1 _ rfl; have p2 := hSw.1.1 2 _ rfl; have p3 := hSw.1.1 3 _ rfl; have pz9 := hSw.1.2.2; have g0 := hSw.2.1; have g1 := hSw.2.2.1; have g2 := hSw.2.2.2.1; have g3 := hSw.2.2.2.2.1; have g4 := hSw.2.2.2.2.2; go_simp; try with_reducible rfl)
                    change wpAnyH _ _ _ _ _ _ _ (Act.put _ (some 300) _) _
                    simp only [Act.put, List.setIfInBounds_toArray, List.set_cons_zero, List.set_cons_succ]
                    refine wpAnyH_take (i := 43) (v := ?_) rfl (by kernel_rfl) (by kernel_rfl) (by kernel_rfl) (fun _ _ _ h => h) (Or.inl ⟨by rfl, ?_⟩) (by assumption) ?_
                    rotate_left
                    · (intro wS hSw; have p0 := hSw.1.1 0 _ rfl; have p1 := hSw.1.1 1 _ rfl; have p2 := hSw.1.1 2 _ rfl; have p3 := hSw.1.1 3 _ rfl; have pz9 := hSw.1.2.2; have g0 := hSw.2.1; have g1 := hSw.2.2.1; have g2 := hSw.2.2.2.1; have g3 := hSw.2.2.2.2.1; have g4 := hSw.2.2.2.2.2; go_simp; try with_reducible rfl)
                    change wpAnyH _ _ _ _ _ _ _ (Act.put _ (some 301) _) _
                    simp only [Act.put, List.setIfInBounds_toArray, List.set_cons_zero, List.set_cons_succ]
                    refine wpAnyH_take (i := 44) (v := ?_) rfl (by kernel_rfl) (by kernel_rfl) (by kernel_rfl) (fun _ _ _ h => h) (Or.inl ⟨by rfl, ?_⟩) (by assumption) ?_
                    rotate_left
                    · (intro wS hSw; have p0 := hSw.1.1 0 _ rfl; have p1 := hSw.1.1 1 _ rfl; have p2 := hSw.1.1 2 _ rfl; have p3 := hSw.1.1 3 _ rfl; have pz9 := hSw.1.2.2; have g0 := hSw.2.1; have g1 := hSw.2.2.1; have g2 := hSw.2.2.2.1; have g3 := hSw.2.2.2.2.1; have g4 := hSw.2.2.2.2.2; go_simp; try with_reducible rfl)
                    change wpAnyH _ _ _ _ _ _ _ (Act.put _ (some 302) _) _
                    simp only [Act.put, List.setIfInBounds_toArray, List.set_cons_zero, List.set_cons_succ]
                    refine wpAnyH_take (i := 45) (v := ?_) rfl (by kernel_rfl) (by kernel_rfl) (by kernel_rfl) (fun _ _ _ h => h) (Or.inl ⟨by rfl, ?_⟩) (by assumption) ?_
                    rotate_left
                    · (intro wS hSw; have p0 := hSw.1.1 0 _ rfl; have p1 := hSw.1.1 1 _ rfl; have p2 := hSw.1.1 2 _ rfl; have p3 := hSw.1.1 3 _ rfl; have pz9 := hSw.1.2.2; have g0 := hSw.2.1; have g1 := hSw.2.2.1; have g2 := hSw.2.2.2.1; have g3 := hSw.2.2.2.2.1; have g4 := hSw.2.2.2.2.2; go_simp; try with_reducible rfl)
                    change wpAnyH _ _ _ _ _ _ _ (Act.put _ (some 303) _) _
                    simp only [Act.put, List.setIfInBounds_toArray, List.set_cons_zero, List.set_cons_succ]
                    refine wpAnyH_ready (rs := [39]) (by kernel_rfl) (by simp) ?_
                    refine AllReadyH.cons rfl (fun K hK => ?_) AllReadyH.nil
                    go_simp
                    refine (C297.out _ (g6.trans (F_3.out.mono g6.size))).mono ?_
                    rintro e v4 ⟨rfl, hv4⟩
                    have F_4 : Hid (Below w6.heap.size w6 v4) := F_3.out.trans (hv4.mono F_3.out.size)
                    clear hv4 F_3
                    (try go_wp2_with (fail))
                    refine hK.out _ _ ?_ (fun hHeld => ?_)
                    · exact ⟨Cs.later F_4.out pz, cell_later F_4.out ca0, cell_later F_4.out fa0, cell_later F_4.out cg0, cell_later F_4.out cg1, cell_later F_4.out fg1⟩
                    clear hK K
                    refine wpAnyH_ready (rs := [46]) (by kernel_rfl) (by simp) ?_
                    refine AllReadyH.cons rfl (fun K hK => ?_) AllReadyH.nil
                    go_simp
                    refine (C304.out _ (g6.trans (F_4.out.mono g6.size))).mono ?_
                    rintro e v5 ⟨rfl, hv5⟩
                    have F_5 : Hid (Below w6.heap.size w6 v5) := F_4.out.trans (hv5.mono F_4.out.size)
                    clear hv5 F_4
                    (try go_wp2_with (fail))
                    refine hK.out _ _ ?_ (fun hHeld => ?_)
                    · exact ⟨Cs.later F_5.out pz, cell_later F_5.out ca0, cell_later F_5.out fa0, cell_later F_5.out cg0, cell_later F_5.out cg1, cell_later F_5.out fg1⟩
                    clear hK K
                    as_aux_lemma =>
                    refine wpAnyH_take (i := 47) (v := ?_) rfl (by kernel_rfl) (by kernel_rfl) (by kernel_rfl) (fun _ _ _ h => h) (Or.inl ⟨by rfl, ?_⟩) (by assumption) ?_
                    rotate_left
                    · (intro wS hSw; have p0 := hSw.1.1 0 _ rfl; have p1 := hSw.1.1 1 _ rfl; have p2 := hSw.1.1 2 _ rfl; have p3 := hSw.1.1 3 _ rfl; have pz9 := hSw.1.2.2; have g0 := hSw.2.1; have g1 := hSw.2.2.1; have g2 := hSw.2.2.2.1; have g3 := hSw.2.2.2.2.1; have g4 := hSw.2.2.2.2.2; go_simp; try with_reducible rfl)
                    change wpAnyH _ _ _ _ _ _ _ (Act.put _ (some 305) _) _
                    simp only [Act.put, List.setIfInBounds_toArray, List.set_cons_zero, List.set_cons_succ]
                    refine wpAnyH_take (i := 48) (v := ?_) rfl (by kernel_rfl) (by kernel_rfl) (by kernel_rfl) (fun _ _ _ h => h) (Or.inl ⟨by rfl, ?_⟩) (by assumption) ?_
                    rotate_left
                    · (intro wS hSw; have p0 := hSw.1.1 0 _ rfl; have p1 := hSw.1.1 1 _ rfl; have p2 := hSw.1.1 2 _ rfl; have p3 := hSw.1.1 3 _ rfl; have pz9 := hSw.1.2.2; have g0 := hSw.2.1; have g1 := hSw.2.2.1; have g2 := hSw.2.2.2.1; have g3 := hSw.2.2.2.2.1; have g4 := hSw.2.2.2.2.2; go_simp; try with_reducible rfl)
                    change wpAnyH _ _ _ _ _ _ _ (Act.put _ (some 306) _) _
                    simp only [Act.put, List.setIfInBounds_toArray, List.set_cons_zero, List.set_cons_succ]
                    refine wpAnyH_take (i := 49) (v := ?_) rfl (by kernel_rfl) (by kernel_rfl) (by kernel_rfl) (fun _ _ _ h => h) (Or.inl ⟨by rfl, ?_⟩) (by assumption) ?_
                    rotate_left
                    · (intro wS hSw; have p0 := hSw.1.1 0 _ rfl; have p1 := hSw.1.1 1 _ rfl; have p2 := hSw.1.1 2 _ rfl; have p3 := hSw.1.1 3 _ rfl; have pz9 := hSw.1.2.2; have g0 := hSw.2.1; have g1 := hSw.2.2.1; have g2 := hSw.2.2.2.1; have g3 := hSw.2.2.2.2.1; have g4 := hSw.2.2.2.2.2; go_simp; try with_reducible rfl)
                    change wpAnyH _ _ _ _ _ _ _ (Act.put _ (some 307) _) _
                    simp only [Act.put, List.setIfInBounds_toArray, List.set_cons_zero, List.set_cons_succ]
                    refine wpAnyH_take (i := 50) (v := ?_) rfl (by kernel_rfl) (by kernel_rfl) (by kernel_rfl) (fun _ _ _ h => h) (Or.inl ⟨by rfl, ?_⟩) (by assumption) ?_
                    rotate_left
                    · (intro wS hSw; have p0 := hSw.1.1 0 _ rfl; have p1 := hSw.1.1 1 _ rfl; have p2 := hSw.1.1 2 _ rfl; have p3 := hSw.1.1 3 _ rfl; have pz9 := hSw.1.2.2; have g0 := hSw.2.1; have g1 := hSw.2.2.1; have g2 := hSw.2.2.2.1; have g3 := hSw.2.2.2.2.1; have g4 := hSw.2.2.2.2.2; go_simp; try with_reducible rfl)
                    change wpAnyH _ _ _ _ _ _ _ (Act.put _ (some 308) _) _
                    simp only [Act.put, List.setIfInBounds_toArray, List.set_cons_zero, List.set_cons_succ]
                    refine wpAnyH_take (i := 52) (v := ?_) rfl (by kernel_rfl) (by kernel_rfl) (by kernel_rfl) (fun _ _ _ h => h) (Or.inl ⟨by rfl, ?_⟩) (by assumption) ?_
                    rotate_left
                    · (intro wS hSw; have p0 := hSw.1.1 0 _ rfl; have p1 := hSw.1.1 1 _ rfl; have p2 := hSw.1.1 2 _ rfl; have p3 := hSw.1.1 3 _ rfl; have pz9 := hSw.1.2.2; have g0 := hSw.2.1; have g1 := hSw.2.2.1; have g2 := hSw.2.2.2.1; have g3 := hSw.2.2.2.2.1; have g4 := hSw.2.2.2.2.2; go_simp; try with_reducible rfl)
                    change wpAnyH _ _ _ _ _ _ _ (Act.put _ (some 310) _) _
                    simp only [Act.put, List.setIfInBounds_toArray, List.set_cons_zero, List.set_cons_succ]
                    refine wpAnyH_take (i := 53) (v := ?_) rfl (by kernel_rfl) (by kernel_rfl) (by kernel_rfl) (fun _ _ _ h => h) (Or.inl ⟨by rfl, ?_⟩) (by assumption) ?_
                    rotate_left
                    · (intro wS hSw; have p0 := hSw.1.1 0 _ rfl; have p1 := hSw.1.1 1 _ rfl; have p2 := hSw.1.1 2 _ rfl; have p3 := hSw.1.1 3 _ rfl; have pz9 := hSw.1.2.2; have g0 := hSw.2.1; have g1 := hSw.2.2.1; have g2 := hSw.2.2.2.1; have g3 := hSw.2.2.2.2.1; have g4 := hSw.2.2.2.2.2; go_simp; try with_reducible rfl)
                    change wpAnyH _ _ _ _ _ _ _ (Act.put _ (some 311) _) _
                    simp only [Act.put, List.setIfInBounds_toArray, List.set_cons_zero, List.set_cons_succ]
                    refine wpAnyH_take (i := 54) (v := ?_) rfl (by kernel_rfl) (by kernel_rfl) (by kernel_rfl) (fun _ _ _ h => h) (Or.inl ⟨by rfl, ?_⟩) (by assumption) ?_
                    rotate_left
                    · (intro wS hSw; have p0 := hSw.1.1 0 _ rfl; have p1 := hSw.1.1 1 _ rfl; have p2 := hSw.1.1 2 _ rfl; have p3 := hSw.1.1 3 _ rfl; have pz9 := hSw.1.2.2; have g0 := hSw.2.1; have g1 := hSw.2.2.1; have g2 := hSw.2.2.2.1; have g3 := hSw.2.2.2.2.1; have g4 := hSw.2.2.2.2.2; go_simp; try with_reducible rfl)
                    change wpAnyH _ _ _ _ _ _ _ (Act.put _ (some 312) _) _
                    simp only [Act.put, List.setIfInBounds_toArray, List.set_cons_zero, List.set_cons_succ]
                    refine wpAnyH_take (i := 55) (v := ?_) rfl (by kernel_rfl) (by kernel_rfl) (by kernel_rfl) (fun _ _ _ h => h) (Or.inl ⟨by rfl, ?_⟩) (by assumption) ?_
                    rotate_left
                    · (intro wS hSw; have p0 := hSw.1.1 0 _ rfl; have p1 := hSw.1.1 1 _ rfl; have p2 := hSw.1.1 2 _ rfl; have p3 := hSw.1.1 3 _ rfl; have pz9 := hSw.1.2.2; have g0 := hSw.2.1; have g1 := hSw.2.2.1; have g2 := hSw.2.2.2.1; have g3 := hSw.2.2.2.2.1; have g4 := hSw.2.2.2.2.2; go_simp; try with_reducible rfl)
                    change wpAnyH _ _ _ _ _ _ _ (Act.put _ (some 313) _) _
                    simp only [Act.put, List.setIfInBounds_toArray, List.set_cons_zero, List.set_cons_succ]
                    refine wpAnyH_take (i := 56) (v := ?_) rfl (by kernel_rfl) (by kernel_rfl) (by kernel_rfl) (fun _ _ _ h => h) (Or.inl ⟨by rfl, ?_⟩) (by assumption) ?_
                    rotate_left
                    · (intro wS hSw; have p0 := hSw.1.1 0 _ rfl; have p1 := hSw.1.1 1 _ rfl; have p2 := hSw.1.1 2 _ rfl; have p3 := hSw.1.1 3 _ rfl; have pz9 := hSw.1.2.2; have g0 := hSw.2.1; have g1 := hSw.2.2.1; have g2 := hSw.2.2.2.1; have g3 := hSw.2.2.2.2.1; have g4 := hSw.2.2.2.2.2; go_simp; try with_reducible rfl)
                    change wpAnyH _ _ _ _ _ _ _ (Act.put _ (some 314) _) _
                    simp only [Act.put, List.setIfInBounds_toArray, List.set_cons_zero, List.set_cons_succ]
                    refine wpAnyH_ready (rs := [51]) (by kernel_rfl) (by simp) ?_
                    refine AllReadyH.cons rfl (fun K hK => ?_) AllReadyH.nil
                    go_simp
                    refine (C309.out _ (g6.trans (F_5.out.mono g6.size))).mono ?_
                    rintro e v6 ⟨_, rfl, ⟨av, cv, rfl, rd1, rd2, rd3⟩, hv6⟩
                    have F_6 : Hid ((Below w6.heap.size w6 v6 ∧ RdW v6 (.slice av ems.length cv) ems)) := ⟨F_5.out.trans (hv6.mono F_5.out.size), ⟨av, cv, rfl, rd1, rd2, rd3⟩⟩
                    clear hv6 F_5
                    (try go_wp2_with (fail))
                    refine hK.out _ _ ?_ (fun hHeld => ?_)
                    · exact ⟨Cs.later F_6.out.1 pz, cell_later F_6.out.1 ca0, cell_later F_6.out.1 fa0, cell_later F_6.out.1 cg0, cell_later F_6.out.1 cg1, cell_later F_6.out.1 fg1⟩
                    clear hK K
                    refine wpAnyH_ready (rs := [57]) (by kernel_rfl) (by simp) ?_
                    refine AllReadyH.cons rfl (fun K hK => ?_) AllReadyH.nil
                    go_simp
                    refine (C315.out _ _ (g6.trans (F_6.out.1.mono g6.size)) F_6.out.2).mono ?_
                    rintro e v7 ⟨rfl, hv7⟩
                    have F_7 : Hid (Below w6.heap.size w6 v7) := F_6.out.1.trans (hv7.mono F_6.out.1.size)
                    clear hv7 F_6
                    (try go_wp2_with (fail))
                    refine hK.out _ _ ?_ (fun hHeld => ?_)
                    · exact ⟨Cs.later F_7.out pz, cell_later F_7.out ca0, cell_later F_7.out fa0, cell_later F_7.out cg0, cell_later F_7.out cg1, cell_later F_7.out fg1⟩
                    clear hK K
                    as_aux_lemma =>
                    refine wpAnyH_take (i := 58) (v := ?_) rfl (by kernel_rfl) (by kernel_rfl) (by kernel_rfl) (fun _ _ _ h => h) (Or.inl ⟨by rfl, ?_⟩) (by assumption) ?_
                    rotate_left
                    · (intro wS hSw; have p0 := hSw.1.1 0 _ rfl; have p1 := hSw.1.1 1 _ rfl; have p2 := hSw.1.1 2 _ rfl; have p3 := hSw.1.1 3 _ rfl; have pz9 := hSw.1.2.2; have g0 := hSw.2.1; have g1 := hSw.2.2.1; have g2 := hSw.2.2.2.1; have g3 := hSw.2.2.2.2.1; have g4 := hSw.2.2.2.2.2; go_simp; try with_reducible rfl)
                    change wpAnyH _ _ _ _ _ _ _ (Act.put _ (some 316) _) _
                    simp only [Act.put, List.setIfInBounds_toArray, List.set_cons_zero, List.set_cons_succ]
                    refine wpAnyH_take (i := 59) (v := ?_) rfl (by kernel_rfl) (by kernel_rfl) (by kernel_rfl) (fun _ _ _ h => h) (Or.inl ⟨by rfl, ?_⟩) (by assumption) ?_
                    rotate_left
                    · (intro wS hSw; have p0 := hSw.1.1 0 _ rfl; have p1 := hSw.1.1 1 _ rfl; have p2 := hSw.1.1 2 _ rfl; have p3 := hSw.1.1 3 _ rfl; have pz9 := hSw.1.2.2; have g0 := hSw.2.1; have g1 := hSw.2.2.1; have g2 := hSw.2.2.2.1; have g3 := hSw.2.2.2.2.1; have g4 := hSw.2.2.2.2.2; go_simp; try with_reducible rfl)
                    change wpAnyH _ _ _ _ _ _ _ (Act.put _ (some 317) _) _
                    simp only [Act.put, List.setIfInBounds_toArray, List.set_cons_zero, List.set_cons_succ]
                    refine wpAnyH_take (i := 60) (v := ?_) rfl (by kernel_rfl) (by kernel_rfl) (by kernel_rfl) (fun _ _ _ h => h) (Or.inl ⟨by rfl, ?_⟩) (by assumption) ?_
                    rotate_left
                    · (intro wS hSw; have p0 := hSw.1.1 0 _ rfl; have p1 := hSw.1.1 1 _ rfl; have p2 := hSw.1.1 2 _ rfl; have p3 := hSw.1.1 3 _ rfl; have pz9 := hSw.1.2.2; have g0 := hSw.2.1; have g1 := hSw.2.2.1; have g2 := hSw.2.2.2.1; have g3 := hSw.2.2.2.2.1; have g4 := hSw.2.2.2.2.2; go_simp; try with_reducible rfl)
                    change wpAnyH _ _ _ _ _ _ _ (Act.put _ (some 318) _) _
                    simp only [Act.put, List.setIfInBounds_toArray, List.set_cons_zero, List.set_cons_succ]
                    refine wpAnyH_take (i := 61) (v := ?_) rfl (by kernel_rfl) (by kernel_rfl) (by kernel_rfl) (fun _ _ _ h => h) (Or.inl ⟨by rfl, ?_⟩) (by assumption) ?_
                    rotate_left
                    · (intro wS hSw; have p0 := hSw.1.1 0 _ rfl; have p1 := hSw.1.1 1 _ rfl; have p2 := hSw.1.1 2 _ rfl; have p3 := hSw.1.1 3 _ rfl; have pz9 := hSw.1.2.2; have g0 := hSw.2.1; have g1 := hSw.2.2.1; have g2 := hSw.2.2.2.1; have g3 := hSw.2.2.2.2.1; have g4 := hSw.2.2.2.2.2; go_simp; try with_reducible rfl)
                    change wpAnyH _ _ _ _ _ _ _ (Act.put _ (some 319) _) _
                    simp only [Act.put, List.setIfInBounds_toArray, List.set_cons_zero, List.set_cons_succ]
                    refine wpAnyH_take (i := 62) (v := ?_) rfl (by kernel_rfl) (by kernel_rfl) (by kernel_rfl) (fun _ _ _ h => h) (Or.inl ⟨by rfl, ?_⟩) (by assumption) ?_
                    rotate_left
                    · (intro wS hSw; have p0 := hSw.1.1 0 _ rfl; have p1 := hSw.1.1 1 _ rfl; have p2 := hSw.1.1 2 _ rfl; have p3 := hSw.1.1 3 _ rfl; have pz9 := hSw.1.2.2; have g0 := hSw.2.1; have g1 := hSw.2.2.1; have g2 := hSw.2.2.2.1; have g3 := hSw.2.2.2.2.1; have g4 := hSw.2.2.2.2.2; go_simp; try with_reducible rfl)
                    change wpAnyH _ _ _ _ _ _ _ (Act.put _ (some 320) _) _
                    simp only [Act.put, List.setIfInBounds_toArray, List.set_cons_zero, List.set_cons_succ]
                    refine wpAnyH_take (i := 63) (v := ?_) rfl (by kernel_rfl) (by kernel_rfl) (by kernel_rfl) (fun _ _ _ h => h) (Or.inl ⟨by rfl, ?_⟩) (by assumption) ?_
                    rotate_left
                    · (intro wS hSw; have p0 := hSw.1.1 0 _ rfl; have p1 := hSw.1.1 1 _ rfl; have p2 := hSw.1.1 2 _ rfl; have p3 := hSw.1.1 3 _ rfl; have pz9 := hSw.1.2.2; have g0 := hSw.2.1; have g1 := hSw.2.2.1; have g2 := hSw.2.2.2.1; have g3 := hSw.2.2.2.2.1; have g4 := hSw.2.2.2.2.2; go_simp; try with_reducible rfl)
                    change wpAnyH _ _ _ _ _ _ _ (Act.put _ (some 321) _) _
                    simp only [Act.put, List.setIfInBounds_toArray, List.set_cons_zero, List.set_cons_succ]
                    refine wpAnyH_take (i := 64) (v := ?_) rfl (by kernel_rfl) (by kernel_rfl) (by kernel_rfl) (fun _ _ _ h => h) (Or.inl ⟨by rfl, ?_⟩) (by assumption) ?_
                    rotate_left
                    · (intro wS hSw; have p0 := hSw.1.1 0 _ rfl; have p1 := hSw.1.1 1 _ rfl; have p2 := hSw.1.1 2 _ rfl; have p3 := hSw.1.1 3 _ rfl; have pz9 := hSw.1.2.2; have g0 := hSw.2.1; have g1 := hSw.2.2.1; have g2 := hSw.2.2.2.1; have g3 := hSw.2.2.2.2.1; have g4 := hSw.2.2.2.2.2; go_simp; try with_reducible rfl)
                    change wpAnyH _ _ _ _ _ _ _ (Act.put _ (some 322) _) _
                    simp only [Act.put, List.setIfInBounds_toArray, List.set_cons_zero, List.set_cons_succ]
                    refine wpAnyH_take (i := 66) (v := ?_) rfl (by kernel_rfl) (by kernel_rfl) (by kernel_rfl) (fun _ _ _ h => h) (Or.inl ⟨by rfl, ?_⟩) (by assumption) ?_
                    rotate_left
                    · (intro wS hSw; have p0 := hSw.1.1 0 _ rfl; have p1 := hSw.1.1 1 _ rfl; have p2 := hSw.1.1 2 _ rfl; have p3 := hSw.1.1 3 _ rfl; have pz9 := hSw.1.2.2; have g0 := hSw.2.1; have g1 := hSw.2.2.1; have g2 := hSw.2.2.2.1; have g3 := hSw.2.2.2.2.1; have g4 := hSw.2.2.2.2.2; go_simp; try with_reducible rfl)
                    change wpAnyH _ _ _ _ _ _ _ (Act.put _ (some 324) _) _
                    simp only [Act.put, List.setIfInBounds_toArray, List.set_cons_zero, List.set_cons_succ]
                    refine wpAnyH_take (i := 67) (v := ?_) rfl (by kernel_rfl) (by kernel_rfl) (by kernel_rfl) (fun _ _ _ h => h) (Or.inl ⟨by rfl, ?_⟩) (by assumption) ?_
                    rotate_left
                    · (intro wS hSw; have p0 := hSw.1.1 0 _ rfl; have p1 := hSw.1.1 1 _ rfl; have p2 := hSw.1.1 2 _ rfl; have p3 := hSw.1.1 3 _ rfl; have pz9 := hSw.1.2.2; have g0 := hSw.2.1; have g1 := hSw.2.2.1; have g2 := hSw.2.2.2.1; have g3 := hSw.2.2.2.2.1; have g4 := hSw.2.2.2.2.2; go_simp; try with_reducible rfl)
                    change wpAnyH _ _ _ _ _ _ _ (Act.put _ (some 325) _) _
                    simp only [Act.put, List.setIfInBounds_toArray, List.set_cons_zero, List.set_cons_succ]
                    refine wpAnyH_take (i := 68) (v := ?_) rfl (by kernel_rfl) (by kernel_rfl) (by kernel_rfl) (fun _ _ _ h => h) (Or.inl ⟨by rfl, ?_⟩) (by assumption) ?_
                    rotate_left
                    · (intro wS hSw; have p0 := hSw.1.1 0 _ rfl; have p1 := hSw.1.1 1 _ rfl; have p2 := hSw.1.1 2 _ rfl; have p3 := hSw.1.1 3 _ rfl; have pz9 := hSw.1.2.2; have g0 := hSw.2.1; have g1 := hSw.2.2.1; have g2 := hSw.2.2.2.1; have g3 := hSw.2.2.2.2.1; have g4 := hSw.2.2.2.2.2; go_simp; try with_reducible rfl)
                    change wpAnyH _ _ _ _ _ _ _ (Act.put _ (some 326) _) _
                    simp only [Act.put, List.setIfInBounds_toArray, List.set_cons_zero, List.set_cons_succ]
                    refine wpAnyH_take (i := 69) (v := ?_) rfl (by kernel_rfl) (by kernel_rfl) (by kernel_rfl) (fun _ _ _ h => h) (Or.inl ⟨by rfl, ?_⟩) (by assumption) ?_
                    rotate_left
                    · (intro wS hSw; have p0 := hSw.1.1 0 _ rfl; have p1 := hSw.1.1 1 _ rfl; have p2 := hSw.1.1 2 _ rfl; have p3 := hSw.1.1 3 _ rfl; have pz9 := hSw.1.2.2; have g0 := hSw.2.1; have g1 := hSw.2.2.1; have g2 := hSw.2.2.2.1; have g3 := hSw.2.2.2.2.1; have g4 := hSw.2.2.2.2.2; go_simp; try with_reducible rfl)
                    change wpAnyH _ _ _ _ _ _ _ (Act.put _ (some 327) _) _
                    simp only [Act.put, List.setIfInBounds_toArray, List.set_cons_zero, List.set_cons_succ]
                    refine wpAnyH_take (i := 70) (v := ?_) rfl (by kernel_rfl) (by kernel_rfl) (by kernel_rfl) (fun _ _ _ h => h) (Or.inl ⟨by rfl, ?_⟩) (by assumption) ?_
                    rotate_left
                    · (intro wS hSw; have p0 := hSw.1.1 0 _ rfl; have p1 := hSw.1.1 1 _ rfl; have p2 := hSw.1.1 2 _ rfl; have p3 := hSw.1.1 3 _ rfl; have pz9 := hSw.1.2.2; have g0 := hSw.2.1; have g1 := hSw.2.2.1; have g2 := hSw.2.2.2.1; have g3 := hSw.2.2.2.2.1; have g4 := hSw.2.2.2.2.2; go_simp; try with_reducible rfl)
                    change wpAnyH _ _ _ _ _ _ _ (Act.put _ (some 328) _) _
                    simp only [Act.put, List.setIfInBounds_toArray, List.set_cons_zero, List.set_cons_succ]
                    refine wpAnyH_take (i := 71) (v := ?_) rfl (by kernel_rfl) (by kernel_rfl) (by kernel_rfl) (fun _ _ _ h => h) (Or.inl ⟨by rfl, ?_⟩) (by assumption) ?_
                    rotate_left
                    · (intro wS hSw; have p0 := hSw.1.1 0 _ rfl; have p1 := hSw.1.1 1 _ rfl; have p2 := hSw.1.1 2 _ rfl; have p3 := hSw.1.1 3 _ rfl; have pz9 := hSw.1.2.2; have g0 := hSw.2.1; have g1 := hSw.2.2.1; have g2 := hSw.2.2.2.1; have g3 := hSw.2.2.2.2.1; have g4 := hSw.2.2.2.2.2; go_simp; try with_reducible rfl)
                    change wpAnyH _ _ _ _ _ _ _ (Act.put _ (some 329) _) _
                    simp only [Act.put, List.setIfInBounds_toArray, List.set_cons_zero, List.set_cons_succ]
                    refine wpAnyH_take (i := 72) (v := ?_) rfl (by kernel_rfl) (by kernel_rfl) (by kernel_rfl) (fun _ _ _ h => h) (Or.inl ⟨by rfl, ?_⟩) (by assumption) ?_
                    rotate_left
                    · (intro wS hSw; have p0 := hSw.1.1 0 _ rfl; have p1 := hSw.1.1 1 _ rfl; have p2 := hSw.1.1 2 _ rfl; have p3 := hSw.1.1 3 _ rfl; have pz9 := hSw.1.2.2; have g0 := hSw.2.1; have g1 := hSw.2.2.1; have g2 := hSw.2.2.2.1; have g3 := hSw.2.2.2.2.1; have g4 := hSw.2.2.2.2.2; go_simp; try with_reducible rfl)
                    change wpAnyH _ _ _ _ _ _ _ (Act.put _ (some 330) _) _
                    simp only [Act.put, List.setIfInBounds_toArray, List.set_cons_zero, List.set_cons_succ]
                    refine wpAnyH_take (i := 73) (v := ?_) rfl (by kernel_rfl) (by kernel_rfl) (by kernel_rfl) (fun _ _ _ h => h) (Or.inl ⟨by rfl, ?_⟩) (by assumption) ?_
                    rotate_left
                    · (intro wS hSw; have p0 := hSw.1.1 0 _ rfl; have p1 := hSw.1.1 1 _ rfl; have p2 := hSw.1.1 2 _ rfl; have p3 := hSw.1.1 3 _ rfl; have pz9 := hSw.1.2.2; have g0 := hSw.2.1; have g1 := hSw.2.2.1; have g2 := hSw.2.2.2.1; have g3 := hSw.2.2.2.2.1; have g4 := hSw.2.2.2.2.2; go_simp; try with_reducible rfl)
                    change wpAnyH _ _ _ _ _ _ _ (Act.put _ (some 331) _) _
                    simp only [Act.put, List.setIfInBounds_toArray, List.set_cons_zero, List.set_cons_succ]
                    refine wpAnyH_take (i := 74) (v := ?_) rfl (by kernel_rfl) (by kernel_rfl) (by kernel_rfl) (fun _ _ _ h => h) (Or.inl ⟨by rfl, ?_⟩) (by assumption) ?_
                    rotate_left
                    · (intro wS hSw; have p0 := hSw.1.1 0 _ rfl; have p1 := hSw.1.1 1 _ rfl; have p2 := hSw.1.1 2 _ rfl; have p3 := hSw.1.1 3 _ rfl; have pz9 := hSw.1.2.2; have g0 := hSw.2.1; have g1 := hSw.2.2.1; have g2 := hSw.2.2.2.1; have g3 := hSw.2.2.2.2.1; have g4 := hSw.2.2.2.2.2; go_simp; try with_reducible rfl)
                    change wpAnyH _ _ _ _ _ _ _ (Act.put _ (some 332) _) _
                    simp only [Act.put, List.setIfInBounds_toArray, List.set_cons_zero, List.set_cons_succ]
                    refine wpAnyH_ready (rs := [65]) (by kernel_rfl) (by simp) ?_
                    refine AllReadyH.cons rfl (fun K hK => ?_) AllReadyH.nil
                    go_simp
                    refine (C323.out _ (g6.trans (F_7.out.mono g6.size))).mono ?_
                    rintro e v8 ⟨rfl, hv8⟩
                    have F_8 : Hid (Below w6.heap.size w6 v8) := F_7.out.trans (hv8.mono F_7.out.size)
                    clear hv8 F_7
                    (try go_wp2_with (fail))
                    refine hK.out _ _ ?_ (fun hHeld => ?_)
                    · exact ⟨Cs.later F_8.out pz, cell_later F_8.out ca0, cell_later F_8.out fa0, cell_later F_8.out cg0, cell_later F_8.out cg1, cell_later F_8.out fg1⟩
                    clear hK K
                    as_aux_lemma =>
                    refine wpAnyH_ready (rs := [75]) (by kernel_rfl) (by simp) ?_
                    refine AllReadyH.cons rfl (fun K hK => ?_) AllReadyH.nil
                    go_simp
                    refine (C333.out _ (g6.trans (F_8.out.mono g6.size))).mono ?_
                    rintro e v9 ⟨rfl, hv9⟩
                    have F_9 : Hid (Below w6.heap.size w6 v9) := F_8.out.trans (hv9.mono F_8.out.size)
                    clear hv9 F_8
                    (try go_wp2_with (fail))
                    refine hK.out _ _ ?_ (fun hHeld => ?_)
                    · exact ⟨Cs.later F_9.out pz, cell_later F_9.out ca0, cell_later F_9.out fa0, cell_later F_9.out cg0, cell_later F_9.out cg1, cell_later F_9.out fg1⟩
                    clear hK K
                    refine wpAnyH_take (i := 76) (v := ?_) rfl (by kernel_rfl) (by kernel_rfl) (by kernel_rfl) (fun _ _ _ h => h) (Or.inl ⟨by rfl, ?_⟩) (by assumption) ?_
                    rotate_left
                    · (intro wS hSw; have p0 := hSw.1.1 0 _ rfl; have p1 := hSw.1.1 1 _ rfl; have p2 := hSw.1.1 2 _ rfl; have p3 := hSw.1.1 3 _ rfl; have pz9 := hSw.1.2.2; have g0 := hSw.2.1; have g1 := hSw.2.2.1; have g2 := hSw.2.2.2.1; have g3 := hSw.2.2.2.2.1; have g4 := hSw.2.2.2.2.2; go_simp; try with_reducible rfl)
                    change wpAnyH _ _ _ _ _ _ _ (Act.put _ (some 334) _) _
                    simp only [Act.put, List.setIfInBounds_toArray, List.set_cons_zero, List.set_cons_succ]
                    refine wpAnyH_take (i := 77) (v := ?_) rfl (by kernel_rfl) (by kernel_rfl) (by kernel_rfl) (fun _ _ _ h => h) (Or.inl ⟨by rfl, ?_⟩) (by assumption) ?_
                    rotate_left
                    · (intro wS hSw; have p0 := hSw.1.1 0 _ rfl; have p1 := hSw.1.1 1 _ rfl; have p2 := hSw.1.1 2 _ rfl; have p3 := hSw.1.1 3 _ rfl; have pz9 := hSw.1.2.2; have g0 := hSw.2.1; have g1 := hSw.2.2.1; have g2 := hSw.2.2.2.1; have g3 := hSw.2.2.2.2.1; have g4 := hSw.2.2.2.2.2; go_simp; try with_reducible rfl)
                    change wpAnyH _ _ _ _ _ _ _ (Act.put _ (some 335) _) _
                    simp only [Act.put, List.setIfInBounds_toArray, List.set_cons_zero, List.set_cons_succ]
                    refine wpAnyH_done (by kernel_rfl) ?_ _
                    refine NoPanic.normal ?_
                    (try go_wp2)
                    go_meet
                    case rel => exact ⟨by first | rfl | (cases sm <;> rfl), F_9.out⟩
                  | true =>
                    obtain ⟨zi, rfl⟩ : ∃ n : Nat, zo = (n : Int) := ⟨zo.toNat, by have := of_decide_eq_true HI1.symm; omega⟩
                    have zi1 : (zi : Int) < (zs.length : Int) := (of_decide_eq_true HI1.symm).2
                    have zi0 : (0 : Int) ≤ (zi : Int) := by omega
                    obtain ⟨y, hy⟩ : ∃ y, zs[zi]? = some y := ⟨zs[zi]'(by omega), List.getElem?_eq_getElem _⟩
                    rw [zoneAt_yes hy] at HZ1
                    subst HZ1
                    obtain ⟨a', cap', e1, -, -, k3⟩ := RZ6.out
                    injection e1 with e2 e3 e4
                    obtain ⟨zb, zoff, e5, EL⟩ := k3 zi _ hy
                    rw [← e2] at e5
                    subst e5
                    clear HI1 RZ6 e2 e3 e4 k3 hy
                    have F_0 : Hid (Below w6.heap.size w6 _) := Below.drew (Below.refl _ _)
                    refine wp_region_noPanic ?_
                    refine wp_region_held_drew (S := fun w' => Cs w' p23 (znL z) ∧ w'.cell? ⟨ga, i, none⟩ = some (tbV eb) ∧ w'.cell? ⟨ga, 0, none⟩ = some (tbV fb) ∧ w'.cell? ⟨gw, i * 2, none⟩ = some (.slice (some ⟨zb, zoff, none⟩) zs.length cz) ∧ w'.cell? ⟨gw, i * 2 + 1, none⟩ = some (.slice la ems.length lc) ∧ w'.cell? ⟨gw, 0 * 2 + 1, none⟩ = some (.slice lf fms.length lg) ∧ ElZ w' zb (zoff + zi * 4) z) (by kernel_rfl) ?_ (fun hHeld => ?_)
                    · exact ⟨Cs.later F_0.out pz, cell_later F_0.out ca0, cell_later F_0.out fa0, cell_later F_0.out cg0, cell_later F_0.out cg1, cell_later F_0.out fg1, EL.later F_0.out⟩
                    refine wpAnyH_take (i := 0) (v := ?_) rfl (by kernel_rfl) (by kernel_rfl) (by kernel_rfl) (fun _ _ _ h => h) (Or.inl ⟨by rfl, ?_⟩) (by assumption) ?_
                    rotate_left
                    · (intro wS hSw; have p0 := hSw.1.1 0 _ rfl; have p1 := hSw.1.1 1 _ rfl; have p2 := hSw.1.1 2 _ rfl; have p3 := hSw.1.1 3 _ rfl; have pz9 := hSw.1.2.2; have g0 := hSw.2.1; have g1 := hSw.2.2.1; have g2 := hSw.2.2.2.1; have g3 := hSw.2.2.2.2.1; have g4 := hSw.2.2.2.2.2.1; obtain ⟨e0, e1, e2, e3⟩ := hSw.2.2.2.2.2.2; go_simp; try with_reducible rfl)
                    change wpAnyH _ _ _ _ _ _ _ (Act.put _ (some 258) _) _
                    simp only [Act.put, List.setIfInBounds_toArray, List.set_cons_zero, List.set_cons_succ]
                    refine wpAnyH_take (i := 2) (v := ?_) rfl (by kernel_rfl) (by kernel_rfl) (by kernel_rfl) (fun _ _ _ h => h) (Or.inl ⟨by rfl, ?_⟩) (by assumption) ?_
                    rotate_left
                    · (intro wS hSw; have p0 := hSw.1.1 0 _ rfl; have p1 := hSw.1.1 1 _ rfl; have p2 := hSw.1.1 2 _ rfl; have p3 := hSw.1.1 3 _ rfl; have pz9 := hSw.1.2.2; have g0 := hSw.2.1; have g1 := hSw.2.2.1; have g2 := hSw.2.2.2.1; have g3 := hSw.2.2.2.2.1; have g4 := hSw.2.2.2.2.2.1; obtain ⟨e0, e1, e2, e3⟩ := hSw.2.2.2.2.2.2; go_simp; try with_reducible rfl)
                    change wpAnyH _ _ _ _ _ _ _ (Act.put _ (some 260) _) _
                    simp only [Act.put, List.setIfInBounds_toArray, List.set_cons_zero, List.set_cons_succ]
                    refine wpAnyH_take (i := 3) (v := ?_) rfl (by kernel_rfl) (by kernel_rfl) (by kernel_rfl) (fun _ _ _ h => h) (Or.inl ⟨by rfl, ?_⟩) (by assumption) ?_
                    rotate_left
                    · (intro wS hSw; have p0 := hSw.1.1 0 _ rfl; have p1 := hSw.1.1 1 _ rfl; have p2 := hSw.1.1 2 _ rfl; have p3 := hSw.1.1 3 _ rfl; have pz9 := hSw.1.2.2; have g0 := hSw.2.1; have g1 := hSw.2.2.1; have g2 := hSw.2.2.2.1; have g3 := hSw.2.2.2.2.1; have g4 := hSw.2.2.2.2.2.1; obtain ⟨e0, e1, e2, e3⟩ := hSw.2.2.2.2.2.2; go_simp; try with_reducible rfl)
                    change wpAnyH _ _ _ _ _ _ _ (Act.put _ (some 261) _) _
                    simp only [Act.put, List.setIfInBounds_toArray, List.set_cons_zero, List.set_cons_succ]
                    refine wpAnyH_ready (rs := [1]) (by kernel_rfl) (by simp) ?_
                    refine AllReadyH.cons rfl (fun K hK => ?_) AllReadyH.nil
                    go_simp
                    refine (C259.out _ (g6.trans (F_0.out.mono g6.size))).mono ?_
                    rintro e v1 ⟨rfl, hv1⟩
                    have F_1 : Hid (Below w6.heap.size w6 v1) := F_0.out.trans (hv1.mono F_0.out.size)
                    clear hv1 F_0
                    (try go_wp2_with (fail))
                    refine hK.out _ _ ?_ (fun hHeld => ?_)
                    · exact ⟨Cs.later F_1.out pz, cell_later F_1.out ca0, cell_later F_1.out fa0, cell_later F_1.out cg0, cell_later F_1.out cg1, cell_later F_1.out fg1, EL.later F_1.out⟩
                    clear hK K
                    as_aux_lemma =>
                    refine wpAnyH_take (i := 4) (v := ?_) rfl (by kernel_rfl) (by kernel_rfl) (by kernel_rfl) (fun _ _ _ h => h) (Or.inl ⟨by rfl, ?_⟩) (by assumption) ?_
                    rotate_left
                    · (intro wS hSw; have p0 := hSw.1.1 0 _ rfl; have p1 := hSw.1.1 1 _ rfl; have p2 := hSw.1.1 2 _ rfl; have p3 := hSw.1.1 3 _ rfl; have pz9 := hSw.1.2.2; have g0 := hSw.2.1; have g1 := hSw.2.2.1; have g2 := hSw.2.2.2.1; have g3 := hSw.2.2.2.2.1; have g4 := hSw.2.2.2.2.2.1; obtain ⟨e0, e1, e2, e3⟩ := hSw.2.2.2.2.2.2; go_simp; try with_reducible rfl)
                    change wpAnyH _ _ _ _ _ _ _ (Act.put _ (some 262) _) _
                    simp only [Act.put, List.setIfInBounds_toArray, List.set_cons_zero, List.set_cons_succ]
                    refine wpAnyH_take (i := 5) (v := ?_) rfl (by kernel_rfl) (by kernel_rfl) (by kernel_rfl) (fun _ _ _ h => h) (Or.inl ⟨by rfl, ?_⟩) (by assumption) ?_
                    rotate_left
                    · (intro wS hSw; have p0 := hSw.1.1 0 _ rfl; have p1 := hSw.1.1 1 _ rfl; have p2 := hSw.1.1 2 _ rfl; have p3 := hSw.1.1 3 _ rfl; have pz9 := hSw.1.2.2; have g0 := hSw.2.1; have g1 := hSw.2.2.1; have g2 := hSw.2.2.2.1; have g3 := hSw.2.2.2.2.1; have g4 := hSw.2.2.2.2.2.1; obtain ⟨e0, e1, e2, e3⟩ := hSw.2.2.2.2.2.2; go_simp; try with_reducible rfl)
                    change wpAnyH _ _ _ _ _ _ _ (Act.put _ (some 263) _) _
                    simp only [Act.put, List.setIfInBounds_toArray, List.set_cons_zero, List.set_cons_succ]
                    refine wpAnyH_take (i := 6) (v := ?_) rfl (by kernel_rfl) (by kernel_rfl) (by kernel_rfl) (fun _ _ _ h => h) (Or.inl ⟨by rfl, ?_⟩) (by assumption) ?_
                    rotate_left
                    · (intro wS hSw; have p0 := hSw.1.1 0 _ rfl; have p1 := hSw.1.1 1 _ rfl; have p2 := hSw.1.1 2 _ rfl; have p3 := hSw.1.1 3 _ rfl; have pz9 := hSw.1.2.2; have g0 := hSw.2.1; have g1 := hSw.2.2.1; have g2 := hSw.2.2.2.1; have g3 := hSw.2.2.2.2.1; have g4 := hSw.2.2.2.2.2.1; obtain ⟨e0, e1, e2, e3⟩ := hSw.2.2.2.2.2.2; go_simp; try with_reducible rfl)
                    change wpAnyH _ _ _ _ _ _ _ (Act.put _ (some 264) _) _
                    simp only [Act.put, List.setIfInBounds_toArray, List.set_cons_zero, List.set_cons_succ]
                    refine wpAnyH_take (i := 7) (v := ?_) rfl (by kernel_rfl) (by kernel_rfl) (by kernel_rfl) (fun _ _ _ h => h) (Or.inl ⟨by rfl, ?_⟩) (by assumption) ?_
                    rotate_left
                    · (intro wS hSw; have p0 := hSw.1.1 0 _ rfl; have p1 := hSw.1.1 1 _ rfl; have p2 := hSw.1.1 2 _ rfl; have p3 := hSw.1.1 3 _ rfl; have pz9 := hSw.1.2.2; have g0 := hSw.2.1; have g1 := hSw.2.2.1; have g2 := hSw.2.2.2.1; have g3 := hSw.2.2.2.2.1; have g4 := hSw.2.2.2.2.2.1; obtain ⟨e0, e1, e2, e3⟩ := hSw.2.2.2.2.2.2; go_simp; try with_reducible rfl)
                    change wpAnyH _ _ _ _ _ _ _ (Act.put _ (some 265) _) _
                    simp only [Act.put, List.setIfInBounds_toArray, List.set_cons_zero, List.set_cons_succ]
                    refine wpAnyH_take (i := 8) (v := ?_) rfl (by kernel_rfl) (by kernel_rfl) (by kernel_rfl) (fun _ _ _ h => h) (Or.inl ⟨by rfl, ?_⟩) (by assumption) ?_
                    rotate_left
                    · (intro wS hSw; have p0 := hSw.1.1 0 _ rfl; have p1 := hSw.1.1 1 _ rfl; have p2 := hSw.1.1 2 _ rfl; have p3 := hSw.1.1 3 _ rfl; have pz9 := hSw.1.2.2; have g0 := hSw.2.1; have g1 := hSw.2.2.1; have g2 := hSw.2.2.2.1; have g3 := hSw.2.2.2.2.1; have g4 := hSw.2.2.2.2.2.1; obtain ⟨e0, e1, e2, e3⟩ := hSw.2.2.2.2.2.2; go_simp; try with_reducible rfl)
                    change wpAnyH _ _ _ _ _ _ _ (Act.put _ (some 266) _) _
                    simp only [Act.put, List.setIfInBounds_toArray, List.set_cons_zero, List.set_cons_succ]
                    refine wpAnyH_take (i := 9) (v := ?_) rfl (by kernel_rfl) (by kernel_rfl) (by kernel_rfl) (fun _ _ _ h => h) (Or.inl ⟨by rfl, ?_⟩) (by assumption) ?_
                    rotate_left
                    · (intro wS hSw; have p0 := hSw.1.1 0 _ rfl; have p1 := hSw.1.1 1 _ rfl; have p2 := hSw.1.1 2 _ rfl; have p3 := hSw.1.1 3 _ rfl; have pz9 := hSw.1.2.2; have g0 := hSw.2.1; have g1 := hSw.2.2.1; have g2 := hSw.2.2.2.1; have g3 := hSw.2.2.2.2.1; have g4 := hSw.2.2.2.2.2.1; obtain ⟨e0, e1, e2, e3⟩ := hSw.2.2.2.2.2.2; go_simp; try with_reducible rfl)
                    change wpAnyH _ _ _ _ _ _ _ (Act.put _ (some 267) _) _
                    simp only [Act.put, List.setIfInBounds_toArray, List.set_cons_zero, List.set_cons_succ]
                    refine wpAnyH_take (i := 10) (v := ?_) rfl (by kernel_rfl) (by kernel_rfl) (by kernel_rfl) (fun _ _ _ h => h) (Or.inl ⟨by rfl, ?_⟩) (by assumption) ?_
                    rotate_left
                    · (intro wS hSw; have p0 := hSw.1.1 0 _ rfl; have p1 := hSw.1.1 1 _ rfl; have p2 := hSw.1.1 2 _ rfl; have p3 := hSw.1.1 3 _ rfl; have pz9 := hSw.1.2.2; have g0 := hSw.2.1; have g1 := hSw.2.2.1; have g2 := hSw.2.2.2.1; have g3 := hSw.2.2.2.2.1; have g4 := hSw.2.2.2.2.2.1; obtain ⟨e0, e1, e2, e3⟩ := hSw.2.2.2.2.2.2; go_simp; try with_reducible rfl)
                    change wpAnyH _ _ _ _ _ _ _ (Act.put _ (some 268) _) _
                    simp only [Act.put, List.setIfInBounds_toArray, List.set_cons_zero, List.set_cons_succ]
                    refine wpAnyH_take (i := 11) (v := ?_) rfl (by kernel_rfl) (by kernel_rfl) (by kernel_rfl) (fun _ _ _ h => h) (Or.inl ⟨by rfl, ?_⟩) (by assumption) ?_
                    rotate_left
                    · (intro wS hSw; have p0 := hSw.1.1 0 _ rfl; have p1 := hSw.1.1 1 _ rfl; have p2 := hSw.1.1 2 _ rfl; have p3 := hSw.1.1 3 _ rfl; have pz9 := hSw.1.2.2; have g0 := hSw.2.1; have g1 := hSw.2.2.1; have g2 := hSw.2.2.2.1; have g3 := hSw.2.2.2.2.1; have g4 := hSw.2.2.2.2.2.1; obtain ⟨e0, e1, e2, e3⟩ := hSw.2.2.2.2.2.2; go_simp; try with_reducible rfl)
                    change wpAnyH _ _ _ _ _ _ _ (Act.put _ (some 269) _) _
                    simp only [Act.put, List.setIfInBounds_toArray, List.set_cons_zero, List.set_cons_succ]
                    refine wpAnyH_take (i := 12) (v := ?_) rfl (by kernel_rfl) (by kernel_rfl) (by kernel_rfl) (fun _ _ _ h => h) (Or.inl ⟨by rfl, ?_⟩) (by assumption) ?_
                    rotate_left
                    · (intro wS hSw; have p0 := hSw.1.1 0 _ rfl; have p1 := hSw.1.1 1 _ rfl; have p2 := hSw.1.1 2 _ rfl; have p3 := hSw.1.1 3 _ rfl; have pz9 := hSw.1.2.2; have g0 := hSw.2.1; have g1 := hSw.2.2.1; have g2 := hSw.2.2.2.1; have g3 := hSw.2.2.2.2.1; have g4 := hSw.2.2.2.2.2.1; obtain ⟨e0, e1, e2, e3⟩ := hSw.2.2.2.2.2.2; go_simp; try with_reducible rfl)
                    change wpAnyH _ _ _ _ _ _ _ (Act.put _ (some 270) _) _
                    simp only [Act.put, List.setIfInBounds_toArray, List.set_cons_zero, List.set_cons_succ]
                    refine wpAnyH_take (i := 13) (v := ?_) rfl (by kernel_rfl) (by kernel_rfl) (by kernel_rfl) (fun _ _ _ h => h) (Or.inl ⟨by rfl, ?_⟩) (by assumption) ?_
                    rotate_left
                    · (intro wS hSw; have p0 := hSw.1.1 0 _ rfl; have p1 := hSw.1.1 1 _ rfl; have p2 := hSw.1.1 2 _ rfl; have p3 := hSw.1.1 3 _ rfl; have pz9 := hSw.1.2.2; have g0 := hSw.2.1; have g1 := hSw.2.2.1; have g2 := hSw.2.2.2.1; have g3 := hSw.2.2.2.2.1; have g4 := hSw.2.2.2.2.2.1; obtain ⟨e0, e1, e2, e3⟩ := hSw.2.2.2.2.2.2; go_simp; try with_reducible rfl)
                    change wpAnyH _ _ _ _ _ _ _ (Act.put _ (some 271) _) _
                    simp only [Act.put, List.setIfInBounds_toArray, List.set_cons_zero, List.set_cons_succ]
                    refine wpAnyH_take (i := 14) (v := ?_) rfl (by kernel_rfl) (by kernel_rfl) (by kernel_rfl) (fun _ _ _ h => h) (Or.inl ⟨by rfl, ?_⟩) (by assumption) ?_
                    rotate_left
                    · (intro wS hSw; have p0 := hSw.1.1 0 _ rfl; have p1 := hSw.1.1 1 _ rfl; have p2 := hSw.1.1 2 _ rfl; have p3 := hSw.1.1 3 _ rfl; have pz9 := hSw.1.2.2; have g0 := hSw.2.1; have g1 := hSw.2.2.1; have g2 := hSw.2.2.2.1; have g3 := hSw.2.2.2.2.1; have g4 := hSw.2.2.2.2.2.1; obtain ⟨e0, e1, e2, e3⟩ := hSw.2.2.2.2.2.2; go_simp; try with_reducible rfl)
                    change wpAnyH _ _ _ _ _ _ _ (Act.put _ (some 272) _) _
                    simp only [Act.put, List.setIfInBounds_toArray, List.set_cons_zero, List.set_cons_succ]
                    refine wpAnyH_take (i := 15) (v := ?_) rfl (by kernel_rfl) (by kernel_rfl) (by kernel_rfl) (fun _ _ _ h => h) (Or.inl ⟨by rfl, ?_⟩) (by assumption) ?_
                    rotate_left
                    · (intro wS hSw; have p0 := hSw.1.1 0 _ rfl; have p1 := hSw.1.1 1 _ rfl; have p2 := hSw.1.1 2 _ rfl; have p3 := hSw.1.1 3 _ rfl; have pz9 := hSw.1.2.2; have g0 := hSw.2.1; have g1 := hSw.2.2.1; have g2 := hSw.2.2.2.1; have g3 := hSw.2.2.2.2.1; have g4 := hSw.2.2.2.2.2.1; obtain ⟨e0, e1, e2, e3⟩ := hSw.2.2.2.2.2.2; go_simp; try with_reducible rfl)
                    change wpAnyH _ _ _ _ _ _ _ (Act.put _ (some 273) _) _
                    simp only [Act.put, List.setIfInBounds_toArray, List.set_cons_zero, List.set_cons_succ]
                    refine wpAnyH_take (i := 16) (v := ?_) rfl (by kernel_rfl) (by kernel_rfl) (by kernel_rfl) (fun _ _ _ h => h) (Or.inl ⟨by rfl, ?_⟩) (by assumption) ?_
                    rotate_left
                    · (intro wS hSw; have p0 := hSw.1.1 0 _ rfl; have p1 := hSw.1.1 1 _ rfl; have p2 := hSw.1.1 2 _ rfl; have p3 := hSw.1.1 3 _ rfl; have pz9 := hSw.1.2.2; have g0 := hSw.2.1; have g1 := hSw.2.2.1; have g2 := hSw.2.2.2.1; have g3 := hSw.2.2.2.2.1; have g4 := hSw.2.2.2.2.2.1; obtain ⟨e0, e1, e2, e3⟩ := hSw.2.2.2.2.2.2; go_simp; try with_reducible rfl)
                    change wpAnyH _ _ _ _ _ _ _ (Act.put _ (some 274) _) _
                    simp only [Act.put, List.setIfInBounds_toArray, List.set_cons_zero, List.set_cons_succ]
                    refine wpAnyH_take (i := 17) (v := ?_) rfl (by kernel_rfl) (by kernel_rfl) (by kernel_rfl) (fun _ _ _ h => h) (Or.inl ⟨by rfl, ?_⟩) (by assumption) ?_
                    rotate_left
                    · (intro wS hSw; have p0 := hSw.1.1 0 _ rfl; have p1 := hSw.1.1 1 _ rfl; have p2 := hSw.1.1 2 _ rfl; have p3 := hSw.1.1 3 _ rfl; have pz9 := hSw.1.2.2; have g0 := hSw.2.1; have g1 := hSw.2.2.1; have g2 := hSw.2.2.2.1; have g3 := hSw.2.2.2.2.1; have g4 := hSw.2.2.2.2.2.1; obtain ⟨e0, e1, e2, e3⟩ := hSw.2.2.2.2.2.2; go_simp; try with_reducible rfl)
                    change wpAnyH _ _ _ _ _ _ _ (Act.put _ (some 275) _) _
                    simp only [Act.put, List.setIfInBounds_toArray, List.set_cons_zero, List.set_cons_succ]
                    refine wpAnyH_take (i := 18) (v := ?_) rfl (by kernel_rfl) (by kernel_rfl) (by kernel_rfl) (fun _ _ _ h => h) (Or.inl ⟨by rfl, ?_⟩) (by assumption) ?_
                    rotate_left
                    · (intro wS hSw; have p0 := hSw.1.1 0 _ rfl; have p1 := hSw.1.1 1 _ rfl; have p2 := hSw.1.1 2 _ rfl; have p3 := hSw.1.1 3 _ rfl; have pz9 := hSw.1.2.2; have g0 := hSw.2.1; have g1 := hSw.2.2.1; have g2 := hSw.2.2.2.1; have g3 := hSw.2.2.2.2.1; have g4 := hSw.2.2.2.2.2.1; obtain ⟨e0, e1, e2, e3⟩ := hSw.2.2.2.2.2.2; go_simp; try with_reducible rfl)
                    change wpAnyH _ _ _ _ _ _ _ (Act.put _ (some 276) _) _
                    simp only [Act.put, List.setIfInBounds_toArray, List.set_cons_zero, List.set_cons_succ]
                    refine wpAnyH_take (i := 19) (v := ?_) rfl (by kernel_rfl) (by kernel_rfl) (by kernel_rfl) (fun _ _ _ h => h) (Or.inl ⟨by rfl, ?_⟩) (by assumption) ?_
                    rotate_left
                    · (intro wS hSw; have p0 := hSw.1.1 0 _ rfl; have p1 := hSw.1.1 1 _ rfl; have p2 := hSw.1.1 2 _ rfl; have p3 := hSw.1.1 3 _ rfl; have pz9 := hSw.1.2.2; have g0 := hSw.2.1; have g1 := hSw.2.2.1; have g2 := hSw.2.2.2.1; have g3 := hSw.2.2.2.2.1; have g4 := hSw.2.2.2.2.2.1; obtain ⟨e0, e1, e2, e3⟩ := hSw.2.2.2.2.2.2; go_simp; try with_reducible rfl)
                    change wpAnyH _ _ _ _ _ _ _ (Act.put _ (some 277) _) _
                    simp only [Act.put, List.setIfInBounds_toArray, List.set_cons_zero, List.set_cons_succ]
                    refine wpAnyH_take (i := 20) (v := ?_) rfl (by kernel_rfl) (by kernel_rfl) (by kernel_rfl) (fun _ _ _ h => h) (Or.inl ⟨by rfl, ?_⟩) (by assumption) ?_
                    rotate_left
                    · (intro wS hSw; have p0 := hSw.1.1 0 _ rfl; have p1 := hSw.1.1 1 _ rfl; have p2 := hSw.1.1 2 _ rfl; have p3 := hSw.1.1 3 _ rfl; have pz9 := hSw.1.2.2; have g0 := hSw.2.1; have g1 := hSw.2.2.1; have g2 := hSw.2.2.2.1; have g3 := hSw.2.2.2.2.1; have g4 := hSw.2.2.2.2.2.1; obtain ⟨e0, e1, e2, e3⟩ := hSw.2.2.2.2.2.2; go_simp; try with_reducible rfl)
                    change wpAnyH _ _ _ _ _ _ _ (Act.put _ (some 278) _) _
                    simp only [Act.put, List.setIfInBounds_toArray, List.set_cons_zero, List.set_cons_succ]
                    refine wpAnyH_take (i := 21) (v := ?_) rfl (by kernel_rfl) (by kernel_rfl) (by kernel_rfl) (fun _ _ _ h => h) (Or.inl ⟨by rfl, ?_⟩) (by assumption) ?_
                    rotate_left
                    · (intro wS hSw; have p0 := hSw.1.1 0 _ rfl; have p1 := hSw.1.1 1 _ rfl; have p2 := hSw.1.1 2 _ rfl; have p3 := hSw.1.1 3 _ rfl; have pz9 := hSw.1.2.2; have g0 := hSw.2.1; have g1 := hSw.2.2.1; have g2 := hSw.2.2.2.1; have g3 := hSw.2.2.2.2.1; have g4 := hSw.2.2.2.2.2.1; obtain ⟨e0, e1, e2, e3⟩ := hSw.2.2.2.2.2.2; go_simp; try with_reducible rfl)
                    change wpAnyH _ _ _ _ _ _ _ (Act.put _ (some 279) _) _
                    simp only [Act.put, List.setIfInBounds_toArray, List.set_cons_zero, List.set_cons_succ]
                    refine wpAnyH_take (i := 22) (v := ?_) rfl (by kernel_rfl) (by kernel_rfl) (by kernel_rfl) (fun _ _ _ h => h) (Or.inl ⟨by rfl, ?_⟩) (by assumption) ?_
                    rotate_left
                    · (intro wS hSw; have p0 := hSw.1.1 0 _ rfl; have p1 := hSw.1.1 1 _ rfl; have p2 := hSw.1.1 2 _ rfl; have p3 := hSw.1.1 3 _ rfl; have pz9 := hSw.1.2.2; have g0 := hSw.2.1; have g1 := hSw.2.2.1; have g2 := hSw.2.2.2.1; have g3 := hSw.2.2.2.2.1; have g4 := hSw.2.2.2.2.2.1; obtain ⟨e0, e1, e2, e3⟩ := hSw.2.2.2.2.2.2; go_simp; try with_reducible rfl)
                    change wpAnyH _ _ _ _ _ _ _ (Act.put _ (some 280) _) _
                    simp only [Act.put, List.setIfInBounds_toArray, List.set_cons_zero, List.set_cons_succ]
                    refine wpAnyH_take (i := 23) (v := ?_) rfl (by kernel_rfl) (by kernel_rfl) (by kernel_rfl) (fun _ _ _ h => h) (Or.inl ⟨by rfl, ?_⟩) (by assumption) ?_
                    rotate_left
                    · (intro wS hSw; have p0 := hSw.1.1 0 _ rfl; have p1 := hSw.1.1 1 _ rfl; have p2 := hSw.1.1 2 _ rfl; have p3 := hSw.1.1 3 _ rfl; have pz9 := hSw.1.2.2; have g0 := hSw.2.1; have g1 := hSw.2.2.1; have g2 := hSw.2.2.2.1; have g3 := hSw.2.2.2.2.1; have g4 := hSw.2.2.2.2.2.1; obtain ⟨e0, e1, e2, e3⟩ := hSw.2.2.2.2.2.2; go_simp; try with_reducible rfl)
                    change wpAnyH _ _ _ _ _ _ _ (Act.put _ (some 281) _) _
                    simp only [Act.put, List.setIfInBounds_toArray, List.set_cons_zero, List.set_cons_succ]
                    refine wpAnyH_take (i := 24) (v := ?_) rfl (by kernel_rfl) (by kernel_rfl) (by kernel_rfl) (fun _ _ _ h => h) (Or.inl ⟨by rfl, ?_⟩) (by assumption) ?_
                    rotate_left
                    · (intro wS hSw; have p0 := hSw.1.1 0 _ rfl; have p1 := hSw.1.1 1 _ rfl; have p2 := hSw.1.1 2 _ rfl; have p3 := hSw.1.1 3 _ rfl; have pz9 := hSw.1.2.2; have g0 := hSw.2.1; have g1 := hSw.2.2.1; have g2 := hSw.2.2.2.1; have g3 := hSw.2.2.2.2.1; have g4 := hSw.2.2.2.2.2.1; obtain ⟨e0, e1, e2, e3⟩ := hSw.2.2.2.2.2.2; go_simp; try with_reducible rfl)
                    change wpAnyH _ _ _ _ _ _ _ (Act.put _ (some 282) _) _
                    simp only [Act.put, List.setIfInBounds_toArray, List.set_cons_zero, List.set_cons_succ]
                    refine wpAnyH_take (i := 26) (v := ?_) rfl (by kernel_rfl) (by kernel_rfl) (by kernel_rfl) (fun _ _ _ h => h) (Or.inl ⟨by rfl, ?_⟩) (by assumption) ?_
                    rotate_left
                    · (intro wS hSw; have p0 := hSw.1.1 0 _ rfl; have p1 := hSw.1.1 1 _ rfl; have p2 := hSw.1.1 2 _ rfl; have p3 := hSw.1.1 3 _ rfl; have pz9 := hSw.1.2.2; have g0 := hSw.2.1; have g1 := hSw.2.2.1; have g2 := hSw.2.2.2.1; have g3 := hSw.2.2.2.2.1; have g4 := hSw.2.2.2.2.2.1; obtain ⟨e0, e1, e2, e3⟩ := hSw.2.2.2.2.2.2; go_simp; try with_reducible rfl)
                    change wpAnyH _ _ _ _ _ _ _ (Act.put _ (some 284) _) _
                    simp only [Act.put, List.setIfInBounds_toArray, List.set_cons_zero, List.set_cons_succ]
                    refine wpAnyH_take (i := 27) (v := ?_) rfl (by kernel_rfl) (by kernel_rfl) (by kernel_rfl) (fun _ _ _ h => h) (Or.inl ⟨by rfl, ?_⟩) (by assumption) ?_
                    rotate_left
                    · (intro wS hSw; have p0 := hSw.1.1 0 _ rfl; have p1 := hSw.1.1 1 _ rfl; have p2 := hSw.1.1 2 _ rfl; have p3 := hSw.1.1 3 _ rfl; have pz9 := hSw.1.2.2; have g0 := hSw.2.1; have g1 := hSw.2.2.1; have g2 := hSw.2.2.2.1; have g3 := hSw.2.2.2.2.1; have g4 := hSw.2.2.2.2.2.1; obtain ⟨e0, e1, e2, e3⟩ := hSw.2.2.2.2.2.2; go_simp; try with_reducible rfl)
                    change wpAnyH _ _ _ _ _ _ _ (Act.put _ (some 285) _) _
                    simp only [Act.put, List.setIfInBounds_toArray, List.set_cons_zero, List.set_cons_succ]
                    refine wpAnyH_take (i := 28) (v := ?_) rfl (by kernel_rfl) (by kernel_rfl) (by kernel_rfl) (fun _ _ _ h => h) (Or.inl ⟨by rfl, ?_⟩) (by assumption) ?_
                    rotate_left
                    · (intro wS hSw; have p0 := hSw.1.1 0 _ rfl; have p1 := hSw.1.1 1 _ rfl; have p2 := hSw.1.1 2 _ rfl; have p3 := hSw.1.1 3 _ rfl; have pz9 := hSw.1.2.2; have g0 := hSw.2.1; have g1 := hSw.2.2.1; have g2 := hSw.2.2.2.1; have g3 := hSw.2.2.2.2.1; have g4 := hSw.2.2.2.2.2.1; obtain ⟨e0, e1, e2, e3⟩ := hSw.2.2.2.2.2.2; go_simp; try with_reducible rfl)
                    change wpAnyH _ _ _ _ _ _ _ (Act.put _ (some 286) _) _
                    simp only [Act.put, List.setIfInBounds_toArray, List.set_cons_zero, List.set_cons_succ]
                    refine wpAnyH_take (i := 29) (v := ?_) rfl (by kernel_rfl) (by kernel_rfl) (by kernel_rfl) (fun _ _ _ h => h) (Or.inl ⟨by rfl, ?_⟩) (by assumption) ?_
                    rotate_left
                    · (intro wS hSw; have p0 := hSw.1.1 0 _ rfl; have p1 := hSw.1.1 1 _ rfl; have p2 := hSw.1.1 2 _ rfl; have p3 := hSw.1.1 3 _ rfl; have pz9 := hSw.1.2.2; have g0 := hSw.2.1; have g1 := hSw.2.2.1; have g2 := hSw.2.2.2.1; have g3 := hSw.2.2.2.2.1; have g4 := hSw.2.2.2.2.2.1; obtain ⟨e0, e1, e2, e3⟩ := hSw.2.2.2.2.2.2; go_simp; try with_reducible rfl)
                    change wpAnyH _ _ _ _ _ _ _ (Act.put _ (some 287) _) _
                    simp only [Act.put, List.setIfInBounds_toArray, List.set_cons_zero, List.set_cons_succ]
                    refine wpAnyH_take (i := 30) (v := ?_) rfl (by kernel_rfl) (by kernel_rfl) (by kernel_rfl) (fun _ _ _ h => h) (Or.inl ⟨by rfl, ?_⟩) (by assumption) ?_
                    rotate_left
                    · (intro wS hSw; have p0 := hSw.1.1 0 _ rfl; have p1 := hSw.1.1 1 _ rfl; have p2 := hSw.1.1 2 _ rfl; have p3 := hSw.1.1 3 _ rfl; have pz9 := hSw.1.2.2; have g0 := hSw.2.1; have g1 := hSw.2.2.1; have g2 := hSw.2.2.2.1; have g3 := hSw.2.2.2.2.1; have g4 := hSw.2.2.2.2.2.1; obtain ⟨e0, e1, e2, e3⟩ := hSw.2.2.2.2.2.2; go_simp; try with_reducible rfl)
                    change wpAnyH _ _ _ _ _ _ _ (Act.put _ (some 288) _) _
                    simp only [Act.put, List.setIfInBounds_toArray, List.set_cons_zero, List.set_cons_succ]
                    refine wpAnyH_take (i := 31) (v := ?_) rfl (by kernel_rfl) (by kernel_rfl) (by kernel_rfl) (fun _ _ _ h => h) (Or.inl ⟨by rfl, ?_⟩) (by assumption) ?_
                    rotate_left
                    · (intro wS hSw; have p0 := hSw.1.1 0 _ rfl; have p1 := hSw.1.1 1 _ rfl; have p2 := hSw.1.1 2 _ rfl; have p3 := hSw.1.1 3 _ rfl; have pz9 := hSw.1.2.2; have g0 := hSw.2.1; have g1 := hSw.2.2.1; have g2 := hSw.2.2.2.1; have g3 := hSw.2.2.2.2.1; have g4 := hSw.2.2.2.2.2.1; obtain ⟨e0, e1, e2, e3⟩ := hSw.2.2.2.2.2.2; go_simp; try with_reducible rfl)
                    change wpAnyH _ _ _ _ _ _ _ (Act.put _ (some 289) _) _
                    simp only [Act.put, List.setIfInBounds_toArray, List.set_cons_zero, List.set_cons_succ]
                    refine wpAnyH_ready (rs := [25]) (by kernel_rfl) (by simp) ?_
                    refine AllReadyH.cons rfl (fun K hK => ?_) AllReadyH.nil
                    go_simp
                    refine (C283.out _ (g6.trans (F_1.out.mono g6.size))).mono ?_
                    rintro e v2 ⟨rfl, hv2⟩
                    have F_2 : Hid (Below w6.heap.size w6 v2) := F_1.out.trans (hv2.mono F_1.out.size)
                    clear hv2 F_1
                    (try go_wp2_with (fail))
                    refine hK.out _ _ ?_ (fun hHeld => ?_)
                    · exact ⟨Cs.later F_2.out pz, cell_later F_2.out ca0, cell_later F_2.out fa0, cell_later F_2.out cg0, cell_later F_2.out cg1, cell_later F_2.out fg1, EL.later F_2.out⟩
                    clear hK K
                    refine wpAnyH_ready (rs := [32]) (by kernel_rfl) (by simp) ?_
                    refine AllReadyH.cons rfl (fun K hK => ?_) AllReadyH.nil
                    go_simp
                    refine (C290.out _ (g6.trans (F_2.out.mono g6.size))).mono ?_
                    rintro e v3 ⟨rfl, hv3⟩
                    have F_3 : Hid (Below w6.heap.size w6 v3) := F_2.out.trans (hv3.mono F_2.out.size)
                    clear hv3 F_2
                    (try go_wp2_with (fail))
                    refine hK.out _ _ ?_ (fun hHeld => ?_)
                    · exact ⟨Cs.later F_3.out pz, cell_later F_3.out ca0, cell_later F_3.out fa0, cell_later F_3.out cg0, cell_later F_3.out cg1, cell_later F_3.out fg1, EL.later F_3.out⟩
                    clear hK K
                    as_aux_lemma =>
                    refine wpAnyH_take (i := 33) (v := ?_) rfl (by kernel_rfl) (by kernel_rfl) (by kernel_rfl) (fun _ _ _ h => h) (Or.inl ⟨by rfl, ?_⟩) (by assumption) ?_
                    rotate_left
                    · (intro wS hSw; have p0 := hSw.1.1 0 _ rfl; have p1 := hSw.1.1 1 _ rfl; have p2 := hSw.1.1 2 _ rfl; have p3 := hSw.1.1 3 _ rfl; have pz9 := hSw.1.2.2; have g0 := hSw.2.1; have g1 := hSw.2.2.1; have g2 := hSw.2.2.2.1; have g3 := hSw.2.2.2.2.1; have g4 := hSw.2.2.2.2.2.1; obtain ⟨e0, e1, e2, e3⟩ := hSw.2.2.2.2.2.2; go_simp; try with_reducible rfl)
                    change wpAnyH _ _ _ _ _ _ _ (Act.put _ (some 291) _) _
                    simp only [Act.put, List.setIfInBounds_toArray, List.set_cons_zero, List.set_cons_succ]
                    refine wpAnyH_take (i := 34) (v := ?_) rfl (by kernel_rfl) (by kernel_rfl) (by kernel_rfl) (fun _ _ _ h => h) (Or.inl ⟨by rfl, ?_⟩) (by assumption) ?_
                    rotate_left
                    · (intro wS hSw; have p0 := hSw.1.1 0 _ rfl; have p1 := hSw.1.1 1 _ rfl; have p2 := hSw.1.1 2 _ rfl; have p3 := hSw.1.1 3 _ rfl; have pz9 := hSw.1.2.2; have g0 := hSw.2.1; have g1 := hSw.2.2.1; have g2 := hSw.2.2.2.1; have g3 := hSw.2.2.2.2.1; have g4 := hSw.2.2.2.2.2.1; obtain ⟨e0, e1, e2, e3⟩ := hSw.2.2.2.2.2.2; go_simp; try with_reducible rfl)
                    change wpAnyH _ _ _ _ _ _ _ (Act.put _ (some 292) _) _
                    simp only [Act.put, List.setIfInBounds_toArray, List.set_cons_zero, List.set_cons_succ]
                    refine wpAnyH_take (i := 35) (v := ?_) rfl (by kernel_rfl) (by kernel_rfl) (by kernel_rfl) (fun _ _ _ h => h) (Or.inl ⟨by rfl, ?_⟩) (by assumption) ?_
                    rotate_left
                    · (intro wS hSw; have p0 := hSw.1.1 0 _ rfl; have p1 := hSw.1.1 1 _ rfl; have p2 := hSw.1.1 2 _ rfl; have p3 := hSw.1.1 3 _ rfl; have pz9 := hSw.1.2.2; have g0 := hSw.2.1; have g1 := hSw.2.2.1; have g2 := hSw.2.2.2.1; have g3 := hSw.2.2.2.2.1; have g4 := hSw.2.2.2.2.2.1; obtain ⟨e0, e1, e2, e3⟩ := hSw.2.2.2.2.2.2; go_simp; try with_reducible rfl)
                    change wpAnyH _ _ _ _ _ _ _ (Act.put _ (some 293) _) _
                    simp only [Act.put, List.setIfInBounds_toArray, List.set_cons_zero, List.set_cons_succ]
                    refine wpAnyH_take (i := 36) (v := ?_) rfl (by kernel_rfl) (by kernel_rfl) (by kernel_rfl) (fun _ _ _ h => h) (Or.inl ⟨by rfl, ?_⟩) (by assumption) ?_
                    rotate_left
                    · (intro wS hSw; have p0 := hSw.1.1 0 _ rfl; have p1 := hSw.1.1 1 _ rfl; have p2 := hSw.1.1 2 _ rfl; have p3 := hSw.1.1 3 _ rfl; have pz9 := hSw.1.2.2; have g0 := hSw.2.1; have g1 := hSw.2.2.1; have g2 := hSw.2.2.2.1; have g3 := hSw.2.2.2.2.1; have g4 := hSw.2.2.2.2.2.1; obtain ⟨e0, e1, e2, e3⟩ := hSw.2.2.2.2.2.2; go_simp; try with_reducible rfl)
                    change wpAnyH _ _ _ _ _ _ _ (Act.put _ (some 294) _) _
                    simp only [Act.put, List.setIfInBounds_toArray, List.set_cons_zero, List.set_cons_succ]
                    refine wpAnyH_take (i := 37) (v := ?_) rfl (by kernel_rfl) (by kernel_rfl) (by kernel_rfl) (fun _ _ _ h => h) (Or.inl ⟨by rfl, ?_⟩) (by assumption) ?_
                    rotate_left
                    · (intro wS hSw; have p0 := hSw.1.1 0 _ rfl; have p1 := hSw.1.1 1 _ rfl; have p2 := hSw.1.1 2 _ rfl; have p3 := hSw.1.1 3 _ rfl; have pz9 := hSw.1.2.2; have g0 := hSw.2.1; have g1 := hSw.2.2.1; have g2 := hSw.2.2.2.1; have g3 := hSw.2.2.2.2.1; have g4 := hSw.2.2.2.2.2.1; obtain ⟨e0, e1, e2, e3⟩ := hSw.2.2.2.2.2.2; go_simp; try with_reducible rfl)
                    change wpAnyH _ _ _ _ _ _ _ (Act.put _ (some 295) _) _
                    simp only [Act.put, List.setIfInBounds_toArray, List.set_cons_zero, List.set_cons_succ]
                    refine wpAnyH_take (i := 38) (v := ?_) rfl (by kernel_rfl) (by kernel_rfl) (by kernel_rfl) (fun _ _ _ h => h) (Or.inl ⟨by rfl, ?_⟩) (by assumption) ?_
                    rotate_left
                    · (intro wS hSw; have p0 := hSw.1.1 0 _ rfl; have p1 := hSw.1.1 1 _ rfl; have p2 := hSw.1.1 2 _ rfl; have p3 := hSw.1.1 3 _ rfl; have pz9 := hSw.1.2.2; have g0 := hSw.2.1; have g1 := hSw.2.2.1; have g2 := hSw.2.2.2.1; have g3 := hSw.2.2.2.2.1; have g4 := hSw.2.2.2.2.2.1; obtain ⟨e0, e1, e2, e3⟩ := hSw.2.2.2.2.2.2; go_simp; try with_reducible rfl)
                    change wpAnyH _ _ _ _ _ _ _ (Act.put _ (some 296) _) _
                    simp only [Act.put, List.setIfInBounds_toArray, List.set_cons_zero, List.set_cons_succ]
                    refine wpAnyH_take (i := 40) (v := ?_) rfl (by kernel_rfl) (by kernel_rfl) (by kernel_rfl) (fun _ _ _ h => h) (Or.inl ⟨by rfl, ?_⟩) (by assumption) ?_
                    rotate_left
                    · (intro wS hSw; have p0 := hSw.1.1 0 _ rfl; have p1 := hSw.1.1 1 _ rfl; have p2 := hSw.1.1 2 _ rfl; have p3 := hSw.1.1 3 _ rfl; have pz9 := hSw.1.2.2; have g0 := hSw.2.1; have g1 := hSw.2.2.1; have g2 := hSw.2.2.2.1; have g3 := hSw.2.2.2.2.1; have g4 := hSw.2.2.2.2.2.1; obtain ⟨e0, e1, e2, e3⟩ := hSw.2.2.2.2.2.2; go_simp; try with_reducible rfl)
                    change wpAnyH _ _ _ _ _ _ _ (Act.put _ (some 298) _) _
                    simp only [Act.put, List.setIfInBounds_toArray, List.set_cons_zero, List.set_cons_succ]
                    refine wpAnyH_take (i := 41) (v := ?_) rfl (by kernel_rfl) (by kernel_rfl) (by kernel_rfl) (fun _ _ _ h => h) (Or.inl ⟨by rfl, ?_⟩) (by assumption) ?_
                    rotate_left
                    · (intro wS hSw; have p0 := hSw.1.1 0 _ rfl; have p1 := hSw.1.1 1 _ rfl; have p2 := hSw.1.1 2 _ rfl; have p3 := hSw.1.1 3 _ rfl; have pz9 := hSw.1.2.2; have g0 := hSw.2.1; have g1 := hSw.2.2.1; have g2 := hSw.2.2.2.1; have g3 := hSw.2.2.2.2.1; have g4 := hSw.2.2.2.2.2.1; obtain ⟨e0, e1, e2, e3⟩ := hSw.2.2.2.2.2.2; go_simp; try with_reducible rfl)
                    change wpAnyH _ _ _ _ _ _ _ (Act.put _ (some 299) _) _
                    simp only [Act.put, List.setIfInBounds_toArray, List.set_cons_zero, List.set_cons_succ]
                    refine wpAnyH_take (i := 42) (v := ?_) rfl (by kernel_rfl) (by kernel_rfl) (by kernel_rfl) (fun _ _ _ h => h) (Or.inl ⟨by rfl, ?_⟩) (by assumption) ?_
                    rotate_left
                    · (intro wS hSw; have p0 := hSw.1.1 0 _ rfl; have p1 := hSw.1.1 1 _ rfl; have p2 := hSw.1.1 2 _ rfl; have p3 := hSw.1.1 3 _ rfl; have pz9 := hSw.1.2.2; have g0 := hSw.2.1; have g1 := hSw.2.2.1; have g2 := hSw.2.2.2.1; have g3 := hSw.2.2.2.2.1; have g4 := hSw.2.2.2.2.2.1; obtain ⟨e0, e1, e2, e3⟩ := hSw.2.2.2.2.2.2; go_simp; try with_reducible rfl)
                    change wpAnyH _ _ _ _ _ _ _ (Act.put _ (some 300) _) _
                    simp only [Act.put, List.setIfInBounds_toArray, List.set_cons_zero, List.set_cons_succ]
                    refine wpAnyH_take (i := 43) (v := ?_) rfl (by kernel_rfl) (by kernel_rfl) (by kernel_rfl) (fun _ _ _ h => h) (Or.inl ⟨by rfl, ?_⟩) (by assumption) ?_
                    rotate_left
                    · (intro wS hSw; have p0 := hSw.1.1 0 _ rfl; have p1 := hSw.1.1 1 _ rfl; have p2 := hSw.1.1 2 _ rfl; have p3 := hSw.1.1 3 _ rfl; have pz9 := hSw.1.2.2; have g0 := hSw.2.1; have g1 := hSw.2.2.1; have g2 := hSw.2.2.2.1; have g3 := hSw.2.2.2.2.1; have g4 := hSw.2.2.2.2.2.1; obtain ⟨e0, e1, e2, e3⟩ := hSw.2.2.2.2.2.2; go_simp; try with_reducible rfl)
                    change wpAnyH _ _ _ _ _ _ _ (Act.put _ (some 301) _) _
                    simp only [Act.put, List.setIfInBounds_toArray, List.set_cons_zero, List.set_cons_succ]
                    refine wpAnyH_take (i := 44) (v := ?_) rfl (by kernel_rfl) (by kernel_rfl) (by kernel_rfl) (fun _ _ _ h => h) (Or.inl ⟨by rfl, ?_⟩) (by assumption) ?_
                    rotate_left
                    · (intro wS hSw; have p0 := hSw.1.1 0 _ rfl; have p1 := hSw.1.1 1 _ rfl; have p2 := hSw.1.1 2 _ rfl; have p3 := hSw.1.1 3 _ rfl; have pz9 := hSw.1.2.2; have g0 := hSw.2.1; have g1 := hSw.2.2.1; have g2 := hSw.2.2.2.1; have g3 := hSw.2.2.2.2.1; have g4 := hSw.2.2.2.2.2.1; obtain ⟨e0, e1, e2, e3⟩ := hSw.2.2.2.2.2.2; go_simp; try with_reducible rfl)
                    change wpAnyH _ _ _ _ _ _ _ (Act.put _ (some 302) _) _
                    simp only [Act.put, List.setIfInBounds_toArray, List.set_cons_zero, List.set_cons_succ]
                    refine wpAnyH_take (i := 45) (v := ?_) rfl (by kernel_rfl) (by kernel_rfl) (by kernel_rfl) (fun _ _ _ h => h) (Or.inl ⟨by rfl, ?_⟩) (by assumption) ?_
                    rotate_left
                    · (intro wS hSw; have p0 := hSw.1.1 0 _ rfl; have p1 := hSw.1.1 1 _ rfl; have p2 := hSw.1.1 2 _ rfl; have p3 := hSw.1.1 3 _ rfl; have pz9 := hSw.1.2.2; have g0 := hSw.2.1; have g1 := hSw.2.2.1; have g2 := hSw.2.2.2.1; have g3 := hSw.2.2.2.2.1; have g4 := hSw.2.2.2.2.2.1; obtain ⟨e0, e1, e2, e3⟩ := hSw.2.2.2.2.2.2; go_simp; try with_reducible rfl)
                    change wpAnyH _ _ _ _ _ _ _ (Act.put _ (some 303) _) _
                    simp only [Act.put, List.setIfInBounds_toArray, List.set_cons_zero, List.set_cons_succ]
                    refine wpAnyH_ready (rs := [39]) (by kernel_rfl) (by simp) ?_
                    refine AllReadyH.cons rfl (fun K hK => ?_) AllReadyH.nil
                    go_simp
                    refine (C297.out _ (g6.trans (F_3.out.mono g6.size))).mono ?_
                    rintro e v4 ⟨rfl, hv4⟩
                    have F_4 : Hid (Below w6.heap.size w6 v4) := F_3.out.trans (hv4.mono F_3.out.size)
                    clear hv4 F_3
                    (try go_wp2_with (fail))
                    refine hK.out _ _ ?_ (fun hHeld => ?_)
                    · exact ⟨Cs.later F_4.out pz, cell_later F_4.out ca0, cell_later F_4.out fa0, cell_later F_4.out cg0, cell_later F_4.out cg1, cell_later F_4.out fg1, EL.later F_4.out⟩
                    clear hK K
                    refine wpAnyH_ready (rs := [46]) (by kernel_rfl) (by simp) ?_
                    refine AllReadyH.cons rfl (fun K hK => ?_) AllReadyH.nil
                    go_simp
                    refine (C304.out _ (g6.trans (F_4.out.mono g6.size))).mono ?_
                    rintro e v5 ⟨rfl, hv5⟩
                    have F_5 : Hid (Below w6.heap.size w6 v5) := F_4.out.trans (hv5.mono F_4.out.size)
                    clear hv5 F_4
                    (try go_wp2_with (fail))
                    refine hK.out _ _ ?_ (fun hHeld => ?_)
                    · exact ⟨Cs.later F_5.out pz, cell_later F_5.out ca0, cell_later F_5.out fa0, cell_later F_5.out cg0, cell_later F_5.out cg1, cell_later F_5.out fg1, EL.later F_5.out⟩
                    clear hK K
                    as_aux_lemma =>
                    refine wpAnyH_take (i := 47) (v := ?_) rfl (by kernel_rfl) (by kernel_rfl) (by kernel_rfl) (fun _ _ _ h => h) (Or.inl ⟨by rfl, ?_⟩) (by assumption) ?_
                    rotate_left
                    · (intro wS hSw; have p0 := hSw.1.1 0 _ rfl; have p1 := hSw.1.1 1 _ rfl; have p2 := hSw.1.1 2 _ rfl; have p3 := hSw.1.1 3 _ rfl; have pz9 := hSw.1.2.2; have g0 := hSw.2.1; have g1 := hSw.2.2.1; have g2 := hSw.2.2.2.1; have g3 := hSw.2.2.2.2.1; have g4 := hSw.2.2.2.2.2.1; obtain ⟨e0, e1, e2, e3⟩ := hSw.2.2.2.2.2.2; go_simp; try with_reducible rfl)
                    change wpAnyH _ _ _ _ _ _ _ (Act.put _ (some 305) _) _
                    simp only [Act.put, List.setIfInBounds_toArray, List.set_cons_zero, List.set_cons_succ]
                    refine wpAnyH_take (i := 48) (v := ?_) rfl (by kernel_rfl) (by kernel_rfl) (by kernel_rfl) (fun _ _ _ h => h) (Or.inl ⟨by rfl, ?_⟩) (by assumption) ?_
                    rotate_left
                    · (intro wS hSw; have p0 := hSw.1.1 0 _ rfl; have p1 := hSw.1.1 1 _ rfl; have p2 := hSw.1.1 2 _ rfl; have p3 := hSw.1.1 3 _ rfl; have pz9 := hSw.1.2.2; have g0 := hSw.2.1; have g1 := hSw.2.2.1; have g2 := hSw.2.2.2.1; have g3 := hSw.2.2.2.2.1; have g4 := hSw.2.2.2.2.2.1; obtain ⟨e0, e1, e2, e3⟩ := hSw.2.2.2.2.2.2; go_simp; try with_reducible rfl)
                    change wpAnyH _ _ _ _ _ _ _ (Act.put _ (some 306) _) _
                    simp only [Act.put, List.setIfInBounds_toArray, List.set_cons_zero, List.set_cons_succ]
                    refine wpAnyH_take (i := 49) (v := ?_) rfl (by kernel_rfl) (by kernel_rfl) (by kernel_rfl) (fun _ _ _ h => h) (Or.inl ⟨by rfl, ?_⟩) (by assumption) ?_
                    rotate_left
                    · (intro wS hSw; have p0 := hSw.1.1 0 _ rfl; have p1 := hSw.1.1 1 _ rfl; have p2 := hSw.1.1 2 _ rfl; have p3 := hSw.1.1 3 _ rfl; have pz9 := hSw.1.2.2; have g0 := hSw.2.1; have g1 := hSw.2.2.1; have g2 := hSw.2.2.2.1; have g3 := hSw.2.2.2.2.1; have g4 := hSw.2.2.2.2.2.1; obtain ⟨e0, e1, e2, e3⟩ := hSw.2.2.2.2.2.2; go_simp; try with_reducible rfl)
                    change wpAnyH _ _ _ _ _ _ _ (Act.put _ (some 307) _) _
                    simp only [Act.put, List.setIfInBounds_toArray, List.set_cons_zero, List.set_cons_succ]
                    refine wpAnyH_take (i := 50) (v := ?_) rfl (by kernel_rfl) (by kernel_rfl) (by kernel_rfl) (fun _ _ _ h => h) (Or.inl ⟨by rfl, ?_⟩) (by assumption) ?_
                    rotate_left
                    · (intro wS hSw; have p0 := hSw.1.1 0 _ rfl; have p1 := hSw.1.1 1 _ rfl; have p2 := hSw.1.1 2 _ rfl; have p3 := hSw.1.1 3 _ rfl; have pz9 := hSw.1.2.2; have g0 := hSw.2.1; have g1 := hSw.2.2.1; have g2 := hSw.2.2.2.1; have g3 := hSw.2.2.2.2.1; have g4 := hSw.2.2.2.2.2.1; obtain ⟨e0, e1, e2, e3⟩ := hSw.2.2.2.2.2.2; go_simp; try with_reducible rfl)
                    change wpAnyH _ _ _ _ _ _ _ (Act.put _ (some 308) _) _
                    simp only [Act.put, List.setIfInBounds_toArray, List.set_cons_zero, List.set_cons_succ]
                    refine wpAnyH_take (i := 52) (v := ?_) rfl (by kernel_rfl) (by kernel_rfl) (by kernel_rfl) (fun _ _ _ h => h) (Or.inl ⟨by rfl, ?_⟩) (by assumption) ?_
                    rotate_left
                    · (intro wS hSw; have p0 := hSw.1.1 0 _ rfl; have p1 := hSw.1.1 1 _ rfl; have p2 := hSw.1.1 2 _ rfl; have p3 := hSw.1.1 3 _ rfl; have pz9 := hSw.1.2.2; have g0 := hSw.2.1; have g1 := hSw.2.2.1; have g2 := hSw.2.2.2.1; have g3 := hSw.2.2.2.2.1; have g4 := hSw.2.2.2.2.2.1; obtain ⟨e0, e1, e2, e3⟩ := hSw.2.2.2.2.2.2; go_simp; try with_reducible rfl)
                    change wpAnyH _ _ _ _ _ _ _ (Act.put _ (some 310) _) _
                    simp only [Act.put, List.setIfInBounds_toArray, List.set_cons_zero, List.set_cons_succ]
                    refine wpAnyH_take (i := 53) (v := ?_) rfl (by kernel_rfl) (by kernel_rfl) (by kernel_rfl) (fun _ _ _ h => h) (Or.inl ⟨by rfl, ?_⟩) (by assumption) ?_
                    rotate_left
                    · (intro wS hSw; have p0 := hSw.1.1 0 _ rfl; have p1 := hSw.1.1 1 _ rfl; have p2 := hSw.1.1 2 _ rfl; have p3 := hSw.1.1 3 _ rfl; have pz9 := hSw.1.2.2; have g0 := hSw.2.1; have g1 := hSw.2.2.1; have g2 := hSw.2.2.2.1; have g3 := hSw.2.2.2.2.1; have g4 := hSw.2.2.2.2.2.1; obtain ⟨e0, e1, e2, e3⟩ := hSw.2.2.2.2.2.2; go_simp; try with_reducible rfl)
                    change wpAnyH _ _ _ _ _ _ _ (Act.put _ (some 311) _) _
                    simp only [Act.put, List.setIfInBounds_toArray, List.set_cons_zero, List.set_cons_succ]
                    refine wpAnyH_take (i := 54) (v := ?_) rfl (by kernel_rfl) (by kernel_rfl) (by kernel_rfl) (fun _ _ _ h => h) (Or.inl ⟨by rfl, ?_⟩) (by assumption) ?_
                    rotate_left
                    · (intro wS hSw; have p0 := hSw.1.1 0 _ rfl; have p1 := hSw.1.1 1 _ rfl; have p2 := hSw.1.1 2 _ rfl; have p3 := hSw.1.1 3 _ rfl; have pz9 := hSw.1.2.2; have g0 := hSw.2.1; have g1 := hSw.2.2.1; have g2 := hSw.2.2.2.1; have g3 := hSw.2.2.2.2.1; have g4 := hSw.2.2.2.2.2.1; obtain ⟨e0, e1, e2, e3⟩ := hSw.2.2.2.2.2.2; go_simp; try with_reducible rfl)
                    change wpAnyH _ _ _ _ _ _ _ (Act.put _ (some 312) _) _
                    simp only [Act.put, List.setIfInBounds_toArray, List.set_cons_zero, List.set_cons_succ]
                    refine wpAnyH_take (i := 55) (v := ?_) rfl (by kernel_rfl) (by kernel_rfl) (by kernel_rfl) (fun _ _ _ h => h) (Or.inl ⟨by rfl, ?_⟩) (by assumption) ?_
                    rotate_left
                    · (intro wS hSw; have p0 := hSw.1.1 0 _ rfl; have p1 := hSw.1.1 1 _ rfl; have p2 := hSw.1.1 2 _ rfl; have p3 := hSw.1.1 3 _ rfl; have pz9 := hSw.1.2.2; have g0 := hSw.2.1; have g1 := hSw.2.2.1; have g2 := hSw.2.2.2.1; have g3 := hSw.2.2.2.2.1; have g4 := hSw.2.2.2.2.2.1; obtain ⟨e0, e1, e2, e3⟩ := hSw.2.2.2.2.2.2; go_simp; try with_reducible rfl)
                    change wpAnyH _ _ _ _ _ _ _ (Act.put _ (some 313) _) _
                    simp only [Act.put, List.setIfInBounds_toArray, List.set_cons_zero, List.set_cons_succ]
                    refine wpAnyH_take (i := 56) (v := ?_) rfl (by kernel_rfl) (by kernel_rfl) (by kernel_rfl) (fun _ _ _ h => h) (Or.inl ⟨by rfl, ?_⟩) (by assumption) ?_
                    rotate_left
                    · (intro wS hSw; have p0 := hSw.1.1 0 _ rfl; have p1 := hSw.1.1 1 _ rfl; have p2 := hSw.1.1 2 _ rfl; have p3 := hSw.1.1 3 _ rfl; have pz9 := hSw.1.2.2; have g0 := hSw.2.1; have g1 := hSw.2.2.1; have g2 := hSw.2.2.2.1; have g3 := hSw.2.2.2.2.1; have g4 := hSw.2.2.2.2.2.1; obtain ⟨e0, e1, e2, e3⟩ := hSw.2.2.2.2.2.2; go_simp; try with_reducible rfl)
                    change wpAnyH _ _ _ _ _ _ _ (Act.put _ (some 314) _) _
                    simp only [Act.put, List.setIfInBounds_toArray, List.set_cons_zero, List.set_cons_succ]
                    refine wpAnyH_ready (rs := [51]) (by kernel_rfl) (by simp) ?_
                    refine AllReadyH.cons rfl (fun K hK => ?_) AllReadyH.nil
                    go_simp
                    refine (C309.out _ (g6.trans (F_5.out.mono g6.size))).mono ?_
                    rintro e v6 ⟨_, rfl, ⟨av, cv, rfl, rd1, rd2, rd3⟩, hv6⟩
                    have F_6 : Hid ((Below w6.heap.size w6 v6 ∧ RdW v6 (.slice av ems.length cv) ems)) := ⟨F_5.out.trans (hv6.mono F_5.out.size), ⟨av, cv, rfl, rd1, rd2, rd3⟩⟩
                    clear hv6 F_5
                    (try go_wp2_with (fail))
                    refine hK.out _ _ ?_ (fun hHeld => ?_)
                    · exact ⟨Cs.later F_6.out.1 pz, cell_later F_6.out.1 ca0, cell_later F_6.out.1 fa0, cell_later F_6.out.1 cg0, cell_later F_6.out.1 cg1, cell_later F_6.out.1 fg1, EL.later F_6.out.1⟩
                    clear hK K
                    refine wpAnyH_ready (rs := [57]) (by kernel_rfl) (by simp) ?_
                    refine AllReadyH.cons rfl (fun K hK => ?_) AllReadyH.nil
                    go_simp
                    refine (C315.out _ _ (g6.trans (F_6.out.1.mono g6.size)) F_6.out.2).mono ?_
                    rintro e v7 ⟨rfl, hv7⟩
                    have F_7 : Hid (Below w6.heap.size w6 v7) := F_6.out.1.trans (hv7.mono F_6.out.1.size)
                    clear hv7 F_6
                    (try go_wp2_with (fail))
                    refine hK.out _ _ ?_ (fun hHeld => ?_)
                    · exact ⟨Cs.later F_7.out pz, cell_later F_7.out ca0, cell_later F_7.out fa0, cell_later F_7.out cg0, cell_later F_7.out cg1, cell_later F_7.out fg1, EL.later F_7.out⟩
                    clear hK K
                    as_aux_lemma =>
                    refine wpAnyH_take (i := 58) (v := ?_) rfl (by kernel_rfl) (by kernel_rfl) (by kernel_rfl) (fun _ _ _ h => h) (Or.inl ⟨by rfl, ?_⟩) (by assumption) ?_
                    rotate_left
                    · (intro wS hSw; have p0 := hSw.1.1 0 _ rfl; have p1 := hSw.1.1 1 _ rfl; have p2 := hSw.1.1 2 _ rfl; have p3 := hSw.1.1 3 _ rfl; have pz9 := hSw.1.2.2; have g0 := hSw.2.1; have g1 := hSw.2.2.1; have g2 := hSw.2.2.2.1; have g3 := hSw.2.2.2.2.1; have g4 := hSw.2.2.2.2.2.1; obtain ⟨e0, e1, e2, e3⟩ := hSw.2.2.2.2.2.2; go_simp; try with_reducible rfl)
                    change wpAnyH _ _ _ _ _ _ _ (Act.put _ (some 316) _) _
                    simp only [Act.put, List.setIfInBounds_toArray, List.set_cons_zero, List.set_cons_succ]
                    refine wpAnyH_take (i := 59) (v := ?_) rfl (by kernel_rfl) (by kernel_rfl) (by kernel_rfl) (fun _ _ _ h => h) (Or.inl ⟨by rfl, ?_⟩) (by assumption) ?_
                    rotate_left
                    · (intro wS hSw; have p0 := hSw.1.1 0 _ rfl; have p1 := hSw.1.1 1 _ rfl; have p2 := hSw.1.1 2 _ rfl; have p3 := hSw.1.1 3 _ rfl; have pz9 := hSw.1.2.2; have g0 := hSw.2.1; have g1 := hSw.2.2.1; have g2 := hSw.2.2.2.1; have g3 := hSw.2.2.2.2.1; have g4 := hSw.2.2.2.2.2.1; obtain ⟨e0, e1, e2, e3⟩ := hSw.2.2.2.2.2.2; go_simp; try with_reducible rfl)
                    change wpAnyH _ _ _ _ _ _ _ (Act.put _ (some 317) _) _
                    simp only [Act.put, List.setIfInBounds_toArray, List.set_cons_zero, List.set_cons_succ]
                    refine wpAnyH_take (i := 60) (v := ?_) rfl (by kernel_rfl) (by kernel_rfl) (by kernel_rfl) (fun _ _ _ h => h) (Or.inl ⟨by rfl, ?_⟩) (by assumption) ?_
                    rotate_left
                    · (intro wS hSw; have p0 := hSw.1.1 0 _ rfl; have p1 := hSw.1.1 1 _ rfl; have p2 := hSw.1.1 2 _ rfl; have p3 := hSw.1.1 3 _ rfl; have pz9 := hSw.1.2.2; have g0 := hSw.2.1; have g1 := hSw.2.2.1; have g2 := hSw.2.2.2.1; have g3 := hSw.2.2.2.2.1; have g4 := hSw.2.2.2.2.2.1; obtain ⟨e0, e1, e2, e3⟩ := hSw.2.2.2.2.2.2; go_simp; try with_reducible rfl)
                    change wpAnyH _ _ _ _ _ _ _ (Act.put _ (some 318) _) _
                    simp only [Act.put, List.setIfInBounds_toArray, List.set_cons_zero, List.set_cons_succ]
                    refine wpAnyH_take (i := 61) (v := ?_) rfl (by kernel_rfl) (by kernel_rfl) (by kernel_rfl) (fun _ _ _ h => h) (Or.inl ⟨by rfl, ?_⟩) (by assumption) ?_
                    rotate_left
                    · (intro wS hSw; have p0 := hSw.1.1 0 _ rfl; have p1 := hSw.1.1 1 _ rfl; have p2 := hSw.1.1 2 _ rfl; have p3 := hSw.1.1 3 _ rfl; have pz9 := hSw.1.2.2; have g0 := hSw.2.1; have g1 := hSw.2.2.1; have g2 := hSw.2.2.2.1; have g3 := hSw.2.2.2.2.1; have g4 := hSw.2.2.2.2.2.1; obtain ⟨e0, e1, e2, e3⟩ := hSw.2.2.2.2.2.2; go_simp; try with_reducible rfl)
                    change wpAnyH _ _ _ _ _ _ _ (Act.put _ (some 319) _) _
                    simp only [Act.put, List.setIfInBounds_toArray, List.set_cons_zero, List.set_cons_succ]
                    refine wpAnyH_take (i := 62) (v := ?_) rfl (by kernel_rfl) (by kernel_rfl) (by kernel_rfl) (fun _ _ _ h => h) (Or.inl ⟨by rfl, ?_⟩) (by assumption) ?_
                    rotate_left
                    · (intro wS hSw; have p0 := hSw.1.1 0 _ rfl; have p1 := hSw.1.1 1 _ rfl; have p2 := hSw.1.1 2 _ rfl; have p3 := hSw.1.1 3 _ rfl; have pz9 := hSw.1.2.2; have g0 := hSw.2.1; have g1 := hSw.2.2.1; have g2 := hSw.2.2.2.1; have g3 := hSw.2.2.2.2.1; have g4 := hSw.2.2.2.2.2.1; obtain ⟨e0, e1, e2, e3⟩ := hSw.2.2.2.2.2.2; go_simp; try with_reducible rfl)
                    change wpAnyH _ _ _ _ _ _ _ (Act.put _ (some 320) _) _
                    simp only [Act.put, List.setIfInBounds_toArray, List.set_cons_zero, List.set_cons_succ]
                    refine wpAnyH_take (i := 63) (v := ?_) rfl (by kernel_rfl) (by kernel_rfl) (by kernel_rfl) (fun _ _ _ h => h) (Or.inl ⟨by rfl, ?_⟩) (by assumption) ?_
                    rotate_left
                    · (intro wS hSw; have p0 := hSw.1.1 0 _ rfl; have p1 := hSw.1.1 1 _ rfl; have p2 := hSw.1.1 2 _ rfl; have p3 := hSw.1.1 3 _ rfl; have pz9 := hSw.1.2.2; have g0 := hSw.2.1; have g1 := hSw.2.2.1; have g2 := hSw.2.2.2.1; have g3 := hSw.2.2.2.2.1; have g4 := hSw.2.2.2.2.2.1; obtain ⟨e0, e1, e2, e3⟩ := hSw.2.2.2.2.2.2; go_simp; try with_reducible rfl)
                    change wpAnyH _ _ _ _ _ _ _ (Act.put _ (some 321) _) _
                    simp only [Act.put, List.setIfInBounds_toArray, List.set_cons_zero, List.set_cons_succ]
                    refine wpAnyH_take (i := 64) (v := ?_) rfl (by kernel_rfl) (by kernel_rfl) (by kernel_rfl) (fun _ _ _ h => h) (Or.inl ⟨by rfl, ?_⟩) (by assumption) ?_
                    rotate_left
                    · (intro wS hSw; have p0 := hSw.1.1 0 _ rfl; have p1 := hSw.1.1 1 _ rfl; have p2 := hSw.1.1 2 _ rfl; have p3 := hSw.1.1 3 _ rfl; have pz9 := hSw.1.2.2; have g0 := hSw.2.1; have g1 := hSw.2.2.1; have g2 := hSw.2.2.2.1; have g3 := hSw.2.2.2.2.1; have g4 := hSw.2.2.2.2.2.1; obtain ⟨e0, e1, e2, e3⟩ := hSw.2.2.2.2.2.2; go_simp; try with_reducible rfl)
                    change wpAnyH _ _ _ _ _ _ _ (Act.put _ (some 322) _) _
                    simp only [Act.put, List.setIfInBounds_toArray, List.set_cons_zero, List.set_cons_succ]
                    refine wpAnyH_take (i := 66) (v := ?_) rfl (by kernel_rfl) (by kernel_rfl) (by kernel_rfl) (fun _ _ _ h => h) (Or.inl ⟨by rfl, ?_⟩) (by assumption) ?_
                    rotate_left
                    · (intro wS hSw; have p0 := hSw.1.1 0 _ rfl; have p1 := hSw.1.1 1 _ rfl; have p2 := hSw.1.1 2 _ rfl; have p3 := hSw.1.1 3 _ rfl; have pz9 := hSw.1.2.2; have g0 := hSw.2.1; have g1 := hSw.2.2.1; have g2 := hSw.2.2.2.1; have g3 := hSw.2.2.2.2.1; have g4 := hSw.2.2.2.2.2.1; obtain ⟨e0, e1, e2, e3⟩ := hSw.2.2.2.2.2.2; go_simp; try with_reducible rfl)
                    change wpAnyH _ _ _ _ _ _ _ (Act.put _ (some 324) _) _
                    simp only [Act.put, List.setIfInBounds_toArray, List.set_cons_zero, List.set_cons_succ]
                    refine wpAnyH_take (i := 67) (v := ?_) rfl (by kernel_rfl) (by kernel_rfl) (by kernel_rfl) (fun _ _ _ h => h) (Or.inl ⟨by rfl, ?_⟩) (by assumption) ?_
                    rotate_left
                    · (intro wS hSw; have p0 := hSw.1.1 0 _ rfl; have p1 := hSw.1.1 1 _ rfl; have p2 := hSw.1.1 2 _ rfl; have p3 := hSw.1.1 3 _ rfl; have pz9 := hSw.1.2.2; have g0 := hSw.2.1; have g1 := hSw.2.2.1; have g2 := hSw.2.2.2.1; have g3 := hSw.2.2.2.2.1; have g4 := hSw.2.2.2.2.2.1; obtain ⟨e0, e1, e2, e3⟩ := hSw.2.2.2.2.2.2; go_simp; try with_reducible rfl)
                    change wpAnyH _ _ _ _ _ _ _ (Act.put _ (some 325) _) _
                    simp only [Act.put, List.setIfInBounds_toArray, List.set_cons_zero, List.set_cons_succ]
                    refine wpAnyH_take (i := 68) (v := ?_) rfl (by kernel_rfl) (by kernel_rfl) (by kernel_rfl) (fun _ _ _ h => h) (Or.inl ⟨by rfl, ?_⟩) (by assumption) ?_
                    rotate_left
                    · (intro wS hSw; have p0 := hSw.1.1 0 _ rfl; have p1 := hSw.1.1 1 _ rfl; have p2 := hSw.1.1 2 _ rfl; have p3 := hSw.1.1 3 _ rfl; have pz9 := hSw.1.2.2; have g0 := hSw.2.1; have g1 := hSw.2.2.1; have g2 := hSw.2.2.2.1; have g3 := hSw.2.2.2.2.1; have g4 := hSw.2.2.2.2.2.1; obtain ⟨e0, e1, e2, e3⟩ := hSw.2.2.2.2.2.2; go_simp; try with_reducible rfl)
                    change wpAnyH _ _ _ _ _ _ _ (Act.put _ (some 326) _) _
                    simp only [Act.put, List.setIfInBounds_toArray, List.set_cons_zero, List.set_cons_succ]
                    refine wpAnyH_take (i := 69) (v := ?_) rfl (by kernel_rfl) (by kernel_rfl) (by kernel_rfl) (fun _ _ _ h => h) (Or.inl ⟨by rfl, ?_⟩) (by assumption) ?_
                    rotate_left
                    · (intro wS hSw; have p0 := hSw.1.1 0 _ rfl; have p1 := hSw.1.1 1 _ rfl; have p2 := hSw.1.1 2 _ rfl; have p3 := hSw.1.1 3 _ rfl; have pz9 := hSw.1.2.2; have g0 := hSw.2.1; have g1 := hSw.2.2.1; have g2 := hSw.2.2.2.1; have g3 := hSw.2.2.2.2.1; have g4 := hSw.2.2.2.2.2.1; obtain ⟨e0, e1, e2, e3⟩ := hSw.2.2.2.2.2.2; go_simp; try with_reducible rfl)
                    change wpAnyH _ _ _ _ _ _ _ (Act.put _ (some 327) _) _
                    simp only [Act.put, List.setIfInBounds_toArray, List.set_cons_zero, List.set_cons_succ]
                    refine wpAnyH_take (i := 70) (v := ?_) rfl (by kernel_rfl) (by kernel_rfl) (by kernel_rfl) (fun _ _ _ h => h) (Or.inl ⟨by rfl, ?_⟩) (by assumption) ?_
                    rotate_left
                    · (intro wS hSw; have p0 := hSw.1.1 0 _ rfl; have p1 := hSw.1.1 1 _ rfl; have p2 := hSw.1.1 2 _ rfl; have p3 := hSw.1.1 3 _ rfl; have pz9 := hSw.1.2.2; have g0 := hSw.2.1; have g1 := hSw.2.2.1; have g2 := hSw.2.2.2.1; have g3 := hSw.2.2.2.2.1; have g4 := hSw.2.2.2.2.2.1; obtain ⟨e0, e1, e2, e3⟩ := hSw.2.2.2.2.2.2; go_simp; try with_reducible rfl)
                    change wpAnyH _ _ _ _ _ _ _ (Act.put _ (some 328) _) _
                    simp only [Act.put, List.setIfInBounds_toArray, List.set_cons_zero, List.set_cons_succ]
                    refine wpAnyH_take (i := 71) (v := ?_) rfl (by kernel_rfl) (by kernel_rfl) (by kernel_rfl) (fun _ _ _ h => h) (Or.inl ⟨by rfl, ?_⟩) (by assumption) ?_
                    rotate_left
                    · (intro wS hSw; have p0 := hSw.1.1 0 _ rfl; have p1 := hSw.1.1 1 _ rfl; have p2 := hSw.1.1 2 _ rfl; have p3 := hSw.1.1 3 _ rfl; have pz9 := hSw.1.2.2; have g0 := hSw.2.1; have g1 := hSw.2.2.1; have g2 := hSw.2.2.2.1; have g3 := hSw.2.2.2.2.1; have g4 := hSw.2.2.2.2.2.1; obtain ⟨e0, e1, e2, e3⟩ := hSw.2.2.2.2.2.2; go_simp; try with_reducible rfl)
                    change wpAnyH _ _ _ _ _ _ _ (Act.put _ (some 329) _) _
                    simp only [Act.put, List.setIfInBounds_toArray, List.set_cons_zero, List.set_cons_succ]
                    refine wpAnyH_take (i := 72) (v := ?_) rfl (by kernel_rfl) (by kernel_rfl) (by kernel_rfl) (fun _ _ _ h => h) (Or.inl ⟨by rfl, ?_⟩) (by assumption) ?_
                    rotate_left
                    · (intro wS hSw; have p0 := hSw.1.1 0 _ rfl; have p1 := hSw.1.1 1 _ rfl; have p2 := hSw.1.1 2 _ rfl; have p3 := hSw.1.1 3 _ rfl; have pz9 := hSw.1.2.2; have g0 := hSw.2.1; have g1 := hSw.2.2.1; have g2 := hSw.2.2.2.1; have g3 := hSw.2.2.2.2.1; have g4 := hSw.2.2.2.2.2.1; obtain ⟨e0, e1, e2, e3⟩ := hSw.2.2.2.2.2.2; go_simp; try with_reducible rfl)
                    change wpAnyH _ _ _ _ _ _ _ (Act.put _ (some 330) _) _
                    simp only [Act.put, List.setIfInBounds_toArray, List.set_cons_zero, List.set_cons_succ]
                    refine wpAnyH_take (i := 73) (v := ?_) rfl (by kernel_rfl) (by kernel_rfl) (by kernel_rfl) (fun _ _ _ h => h) (Or.inl ⟨by rfl, ?_⟩) (by assumption) ?_
                    rotate_left
                    · (intro wS hSw; have p0 := hSw.1.1 0 _ rfl; have p1 := hSw.1.1 1 _ rfl; have p2 := hSw.1.1 2 _ rfl; have p3 := hSw.1.1 3 _ rfl; have pz9 := hSw.1.2.2; have g0 := hSw.2.1; have g1 := hSw.2.2.1; have g2 := hSw.2.2.2.1; have g3 := hSw.2.2.2.2.1; have g4 := hSw.2.2.2.2.2.1; obtain ⟨e0, e1, e2, e3⟩ := hSw.2.2.2.2.2.2; go_simp; try with_reducible rfl)
                    change wpAnyH _ _ _ _ _ _ _ (Act.put _ (some 331) _) _
                    simp only [Act.put, List.setIfInBounds_toArray, List.set_cons_zero, List.set_cons_succ]
                    refine wpAnyH_take (i := 74) (v := ?_) rfl (by kernel_rfl) (by kernel_rfl) (by kernel_rfl) (fun _ _ _ h => h) (Or.inl ⟨by rfl, ?_⟩) (by assumption) ?_
                    rotate_left
                    · (intro wS hSw; have p0 := hSw.1.1 0 _ rfl; have p1 := hSw.1.1 1 _ rfl; have p2 := hSw.1.1 2 _ rfl; have p3 := hSw.1.1 3 _ rfl; have pz9 := hSw.1.2.2; have g0 := hSw.2.1; have g1 := hSw.2.2.1; have g2 := hSw.2.2.2.1; have g3 := hSw.2.2.2.2.1; have g4 := hSw.2.2.2.2.2.1; obtain ⟨e0, e1, e2, e3⟩ := hSw.2.2.2.2.2.2; go_simp; try with_reducible rfl)
                    change wpAnyH _ _ _ _ _ _ _ (Act.put _ (some 332) _) _
                    simp only [Act.put, List.setIfInBounds_toArray, List.set_cons_zero, List.set_cons_succ]
                    refine wpAnyH_ready (rs := [65]) (by kernel_rfl) (by simp) ?_
                    refine AllReadyH.cons rfl (fun K hK => ?_) AllReadyH.nil
                    go_simp
                    refine (C323.out _ (g6.trans (F_7.out.mono g6.size))).mono ?_
                    rintro e v8 ⟨rfl, hv8⟩
                    have F_8 : Hid (Below w6.heap.size w6 v8) := F_7.out.trans (hv8.mono F_7.out.size)
                    clear hv8 F_7
                    (try go_wp2_with (fail))
                    refine hK.out _ _ ?_ (fun hHeld => ?_)
                    · exact ⟨Cs.later F_8.out pz, cell_later F_8.out ca0, cell_later F_8.out fa0, cell_later F_8.out cg0, cell_later F_8.out cg1, cell_later F_8.out fg1, EL.later F_8.out⟩
                    clear hK K
                    as_aux_lemma =>
                    refine wpAnyH_ready (rs := [75]) (by kernel_rfl) (by simp) ?_
                    refine AllReadyH.cons rfl (fun K hK => ?_) AllReadyH.nil
                    go_simp
                    refine (C333.out _ (g6.trans (F_8.out.mono g6.size))).mono ?_
                    rintro e v9 ⟨rfl, hv9⟩
                    have F_9 : Hid (Below w6.heap.size w6 v9) := F_8.out.trans (hv9.mono F_8.out.size)
                    clear hv9 F_8
                    (try go_wp2_with (fail))
                    refine hK.out _ _ ?_ (fun hHeld => ?_)
                    · exact ⟨Cs.later F_9.out pz, cell_later F_9.out ca0, cell_later F_9.out fa0, cell_later F_9.out cg0, cell_later F_9.out cg1, cell_later F_9.out fg1, EL.later F_9.out⟩
                    clear hK K
                    refine wpAnyH_take (i := 76) (v := ?_) rfl (by kernel_rfl) (by kernel_rfl) (by kernel_rfl) (fun _ _ _ h => h) (Or.inl ⟨by rfl, ?_⟩) (by assumption) ?_
                    rotate_left
                    · (intro wS hSw; have p0 := hSw.1.1 0 _ rfl; have p1 := hSw.1.1 1 _ rfl; have p2 := hSw.1.1 2 _ rfl; have p3 := hSw.1.1 3 _ rfl; have pz9 := hSw.1.2.2; have g0 := hSw.2.1; have g1 := hSw.2.2.1; have g2 := hSw.2.2.2.1; have g3 := hSw.2.2.2.2.1; have g4 := hSw.2.2.2.2.2.1; obtain ⟨e0, e1, e2, e3⟩ := hSw.2.2.2.2.2.2; go_simp; try with_reducible rfl)
                    change wpAnyH _ _ _ _ _ _ _ (Act.put _ (some 334) _) _
                    simp only [Act.put, List.setIfInBounds_toArray, List.set_cons_zero, List.set_cons_succ]
                    refine wpAnyH_take (i := 77) (v := ?_) rfl (by kernel_rfl) (by kernel_rfl) (by kernel_rfl) (fun _ _ _ h => h) (Or.inl ⟨by rfl, ?_⟩) (by assumption) ?_
                    rotate_left
                    · (intro wS hSw; have p0 := hSw.1.1 0 _ rfl; have p1 := hSw.1.1 1 _ rfl; have p2 := hSw.1.1 2 _ rfl; have p3 := hSw.1.1 3 _ rfl; have pz9 := hSw.1.2.2; have g0 := hSw.2.1; have g1 := hSw.2.2.1; have g2 := hSw.2.2.2.1; have g3 := hSw.2.2.2.2.1; have g4 := hSw.2.2.2.2.2.1; obtain ⟨e0, e1, e2, e3⟩ := hSw.2.2.2.2.2.2; go_simp; try with_reducible rfl)
                    change wpAnyH _ _ _ _ _ _ _ (Act.put _ (some 335) _) _
                    simp only [Act.put, List.setIfInBounds_toArray, List.set_cons_zero, List.set_cons_succ]
                    refine wpAnyH_done (by kernel_rfl) ?_ _
                    refine NoPanic.normal ?_
                    (try go_wp2)
                    go_meet
                    case rel => exact ⟨by first | rfl | (cases sm <;> rfl), F_9.out⟩
                case rest =>
                  obtain ⟨rfl, hb⟩ := hcut
                  have g7 := g6.trans (hb.mono g6.size)
                  have cg0' := cell_later hb cg0
                  have cg1' := cell_later hb cg1
                  have KI := HK.out.1
                  clear hb pz ca0 fa0 fg1 cg0 cg1 RZ6 zsm HI HZZ C259 C283 C290 C297 C304 C309 C315 C323 C333
                  go_wp2_with (fail)
                  refine (C341.out _ g7).mono ?_
                  rintro e w8 ⟨rfl, hb⟩
                  have g8 := g7.trans (hb.mono g7.size)
                  have cg0 := cell_later hb cg0'
                  have cg1 := cell_later hb cg1'
                  clear C341 KI hb cg0' cg1' g7 g6
                  go_upto_region 39 with (fail)
                  have p27' : Cs (w8.alloc (.cells #[.int .i64 (fv 0), .int .i64 (fv 1), .int .i64 (fv 2), .int .i64 (fv 3), .int .i64 (fv 4), .int .i64 (fv 5), .int .i64 (fv 6), .int .i64 (fv 7)] 47)) w8.heap.size (spL fv) := Cs.new _ _ _ _ rfl
                  have g9 : Below wr.heap.size wr (w8.alloc (.cells #[.int .i64 (fv 0), .int .i64 (fv 1), .int .i64 (fv 2), .int .i64 (fv 3), .int .i64 (fv 4), .int .i64 (fv 5), .int .i64 (fv 6), .int .i64 (fv 7)] 47)) := g8.alloc g8.size _
                  have gx : Below w8.heap.size w8 (w8.alloc (.cells #[.int .i64 (fv 0), .int .i64 (fv 1), .int .i64 (fv 2), .int .i64 (fv 3), .int .i64 (fv 4), .int .i64 (fv 5), .int .i64 (fv 6), .int .i64 (fv 7)] 47)) := (Below.refl _ _).alloc (Nat.le_refl _) _
                  replace cg0 := cell_later gx cg0
                  replace cg1 := cell_later gx cg1
                  obtain ⟨p27, hp⟩ : ∃ p, p = w8.heap.size := ⟨_, rfl⟩
                  rw [← hp] at p27' ⊢
                  generalize w8.alloc (.cells #[.int .i64 (fv 0), .int .i64 (fv 1), .int .i64 (fv 2), .int .i64 (fv 3), .int .i64 (fv 4), .int .i64 (fv 5), .int .i64 (fv 6), .int .i64 (fv 7)] 47) = w9 at *
                  clear hp g8 gx
                  obtain ⟨W3, hW3⟩ : ∃ x, x = wr := ⟨_, rfl⟩
                  rw [← hW3] at g9 C354 HC
                  clear hW3
                  go_wp2
                  go_loopw [342] (fun f wr => ∃ n : Nat, f = .int .i64 n ∧ n ≤ 8 ∧ Below w9.heap.size w9 wr) (fun f _ => 8 - (intOf f).toNat)
                  case atStart => exact ⟨0, rfl, by omega, Below.refl _ _⟩
                  case round =>
                    obtain ⟨n, rfl, nl, HD⟩ := hrel
                    by_cases cn : n < 8
                    · have m0 : (0 : Int) ≤ (n : Int) := by omega
                      have m1 : (n : Int) < 8 := by omega
                      have q27 := Cs.later HD p27'
                      have h0 := cell_later HD cg0
                      have h1 := cell_later HD cg1
                      obtain ⟨w10, hw10⟩ : ∃ x, x = wr := ⟨_, rfl⟩
                      rw [← hw10] at HD q27 h0 h1 ⊢
                      clear hw10
                      go_upto_region 42 with (fail)
                      go_cut [355] from 345 to 355 (fun s wc => s = .bool false ∧ Below w10.heap.size w10 wc)
                      case first =>
                        have F_0 : Hid (Below w10.heap.size w10 _) := Below.drew (Below.refl _ _)
                        refine wp_region_noPanic ?_
                        refine wp_region_held_drew (S := fun w' => Cs w' p27 (spL fv) ∧ w'.cell? ⟨gw, i * 2, none⟩ = some (.slice az zs.length cz) ∧ w'.cell? ⟨gw, i * 2 + 1, none⟩ = some (.slice la ems.length lc)) (by kernel_rfl) ?_ (fun hHeld => ?_)
                        · exact ⟨Cs.later F_0.out q27, cell_later F_0.out h0, cell_later F_0.out h1⟩
                        refine wpAnyH_take (i := 0) (v := ?_) rfl (by kernel_rfl) (by kernel_rfl) (by kernel_rfl) (fun _ _ _ h => h) (Or.inl ⟨by rfl, ?_⟩) (by assumption) ?_
                        rotate_left
                        · (intro wS hSw; have s0 := hSw.1.1 n _ (spL_at fv cn); have sz := hSw.1.2.2; have g0 := hSw.2.1; have g1 := hSw.2.2; go_simp; try with_reducible rfl)
                        change wpAnyH _ _ _ _ _ _ _ (Act.put _ (some 345) _) _
                        simp only [Act.put, List.setIfInBounds_toArray, List.set_cons_zero, List.set_cons_succ]
                        refine wpAnyH_take (i := 1) (v := ?_) rfl (by kernel_rfl) (by kernel_rfl) (by kernel_rfl) (fun _ _ _ h => h) (Or.inl ⟨by rfl, ?_⟩) (by assumption) ?_
                        rotate_left
                        · (intro wS hSw; have s0 := hSw.1.1 n _ (spL_at fv cn); have sz := hSw.1.2.2; have g0 := hSw.2.1; have g1 := hSw.2.2; go_simp; try with_reducible rfl)
                        change wpAnyH _ _ _ _ _ _ _ (Act.put _ (some 346) _) _
                        simp only [Act.put, List.setIfInBounds_toArray, List.set_cons_zero, List.set_cons_succ]
                        refine wpAnyH_take (i := 2) (v := ?_) rfl (by kernel_rfl) (by kernel_rfl) (by kernel_rfl) (fun _ _ _ h => h) (Or.inl ⟨by rfl, ?_⟩) (by assumption) ?_
                        rotate_left
                        · (intro wS hSw; have s0 := hSw.1.1 n _ (spL_at fv cn); have sz := hSw.1.2.2; have g0 := hSw.2.1; have g1 := hSw.2.2; go_simp; try with_reducible rfl)
                        change wpAnyH _ _ _ _ _ _ _ (Act.put _ (some 347) _) _
                        simp only [Act.put, List.setIfInBounds_toArray, List.set_cons_zero, List.set_cons_succ]
                        refine wpAnyH_take (i := 3) (v := ?_) rfl (by kernel_rfl) (by kernel_rfl) (by kernel_rfl) (fun _ _ _ h => h) (Or.inl ⟨by rfl, ?_⟩) (by assumption) ?_
                        rotate_left
                        · (intro wS hSw; have s0 := hSw.1.1 n _ (spL_at fv cn); have sz := hSw.1.2.2; have g0 := hSw.2.1; have g1 := hSw.2.2; go_simp; try with_reducible rfl)
                        change wpAnyH _ _ _ _ _ _ _ (Act.put _ (some 348) _) _
                        simp only [Act.put, List.setIfInBounds_toArray, List.set_cons_zero, List.set_cons_succ]
                        refine wpAnyH_take (i := 4) (v := ?_) rfl (by kernel_rfl) (by kernel_rfl) (by kernel_rfl) (fun _ _ _ h => h) (Or.inl ⟨by rfl, ?_⟩) (by assumption) ?_
                        rotate_left
                        · (intro wS hSw; have s0 := hSw.1.1 n _ (spL_at fv cn); have sz := hSw.1.2.2; have g0 := hSw.2.1; have g1 := hSw.2.2; go_simp; try with_reducible rfl)
                        change wpAnyH _ _ _ _ _ _ _ (Act.put _ (some 349) _) _
                        simp only [Act.put, List.setIfInBounds_toArray, List.set_cons_zero, List.set_cons_succ]
                        refine wpAnyH_take (i := 5) (v := ?_) rfl (by kernel_rfl) (by kernel_rfl) (by kernel_rfl) (fun _ _ _ h => h) (Or.inl ⟨by rfl, ?_⟩) (by assumption) ?_
                        rotate_left
                        · (intro wS hSw; have s0 := hSw.1.1 n _ (spL_at fv cn); have sz := hSw.1.2.2; have g0 := hSw.2.1; have g1 := hSw.2.2; go_simp; try with_reducible rfl)
                        change wpAnyH _ _ _ _ _ _ _ (Act.put _ (some 350) _) _
                        simp only [Act.put, List.setIfInBounds_toArray, List.set_cons_zero, List.set_cons_succ]
                        refine wpAnyH_take (i := 6) (v := ?_) rfl (by kernel_rfl) (by kernel_rfl) (by kernel_rfl) (fun _ _ _ h => h) (Or.inl ⟨by rfl, ?_⟩) (by assumption) ?_
                        rotate_left
                        · (intro wS hSw; have s0 := hSw.1.1 n _ (spL_at fv cn); have sz := hSw.1.2.2; have g0 := hSw.2.1; have g1 := hSw.2.2; go_simp; try with_reducible rfl)
                        change wpAnyH _ _ _ _ _ _ _ (Act.put _ (some 351) _) _
                        simp only [Act.put, List.setIfInBounds_toArray, List.set_cons_zero, List.set_cons_succ]
                        refine wpAnyH_take (i := 7) (v := ?_) rfl (by kernel_rfl) (by kernel_rfl) (by kernel_rfl) (fun _ _ _ h => h) (Or.inl ⟨by rfl, ?_⟩) (by assumption) ?_
                        rotate_left
                        · (intro wS hSw; have s0 := hSw.1.1 n _ (spL_at fv cn); have sz := hSw.1.2.2; have g0 := hSw.2.1; have g1 := hSw.2.2; go_simp; try with_reducible rfl)
                        change wpAnyH _ _ _ _ _ _ _ (Act.put _ (some 352) _) _
                        simp only [Act.put, List.setIfInBounds_toArray, List.set_cons_zero, List.set_cons_succ]
                        refine wpAnyH_take (i := 8) (v := ?_) rfl (by kernel_rfl) (by kernel_rfl) (by kernel_rfl) (fun _ _ _ h => h) (Or.inl ⟨by rfl, ?_⟩) (by assumption) ?_
                        rotate_left
                        · (intro wS hSw; have s0 := hSw.1.1 n _ (spL_at fv cn); have sz := hSw.1.2.2; have g0 := hSw.2.1; have g1 := hSw.2.2; go_simp; try with_reducible rfl)
                        change wpAnyH _ _ _ _ _ _ _ (Act.put _ (some 353) _) _
                        simp only [Act.put, List.setIfInBounds_toArray, List.set_cons_zero, List.set_cons_succ]
                        refine wpAnyH_ready (rs := [9]) (by kernel_rfl) (by simp) ?_
                        refine AllReadyH.cons rfl (fun K hK => ?_) AllReadyH.nil
                        go_simp
                        refine (C354.out n _ cn ((g9.trans (HD.mono g9.size)).trans (F_0.out.mono (g9.trans (HD.mono g9.size)).size))).mono ?_
                        rintro e v1 ⟨rfl, hv1⟩
                        have F_1 : Hid (Below w10.heap.size w10 v1) := F_0.out.trans (hv1.mono F_0.out.size)
                        clear hv1 F_0
                        (try go_wp2_with (fail))
                        refine hK.out _ _ ?_ (fun hHeld => ?_)
                        · exact ⟨Cs.later F_1.out q27, cell_later F_1.out h0, cell_later F_1.out h1⟩
                        clear hK K
                        refine wpAnyH_take (i := 10) (v := ?_) rfl (by kernel_rfl) (by kernel_rfl) (by kernel_rfl) (fun _ _ _ h => h) (Or.inl ⟨by rfl, ?_⟩) (by assumption) ?_
                        rotate_left
                        · (intro wS hSw; have s0 := hSw.1.1 n _ (spL_at fv cn); have sz := hSw.1.2.2; have g0 := hSw.2.1; have g1 := hSw.2.2; go_simp; try with_reducible rfl)
                        change wpAnyH _ _ _ _ _ _ _ (Act.put _ (some 355) _) _
                        simp only [Act.put, List.setIfInBounds_toArray, List.set_cons_zero, List.set_cons_succ]
                        refine wpAnyH_done (by kernel_rfl) ?_ _
                        refine NoPanic.normal ?_
                        (try go_wp2)
                        go_meet
                        case rel => exact ⟨by simp, F_1.out⟩
                      case rest =>
                        obtain ⟨rfl, hb⟩ := hcut
                        have HD2 := HD.trans (hb.mono HD.size)
                        clear hb HD q27 h0 h1
                        go_wp2
                        go_roundw
                        case rel => exact ⟨n + 1, by go_num, by omega, HD2⟩
                        case measure => simp [intOf]; omega
                    · obtain rfl : n = 8 := by omega
                      rw [show ((8 : Nat) : Int) = 8 from rfl]
                      have HE2 := (HC.trans (g9.mono HC.size)).trans (HD.mono (HC.trans (g9.mono HC.size)).size)
                      clear HD p27' cg0 cg1 C354 g9 HC
                      go_wp2
                      go_roundw
                      case rel => exact ⟨i + 1, by go_num, by omega, HE2⟩
                      case measure => simp [intOf]; omega
            · obtain rfl : i = es.length := by omega
              clear SY
              go_wp2
              go_ret
              exact ⟨rfl, HBl⟩


end Go.Proofs.Ytpefjcgccbfgbaa.Bk
