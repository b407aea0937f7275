/-
  The class of a pod at this program: package spec's own, and the document's. Conditions: the tables of the program lie as its text lays them; the containers read as a list.
-/
import Derived.Test.YtfgbppngnafpoaaDoorPJ
import Derived.Test.YtfgbppngnafpoaaDoorYS
import Derived.Deep.RegionHeld3
import Derived.Deep.RegionWith
import Derived.Deep.CutRange
import Derived.Deep.DeepCutAuto
import Derived.Deep.CutBlock
namespace Go.Proofs.YtfgbppngnafpoaaDoor.Sp
open Go.RowKit

/-- What holds of all so far. -/
structure Alls (zs : List Ct) (f : Ct → Bool) (G : Nat → Bool) (b : Bool) : Prop where
  zero : G 0 = b
  next : ∀ (j : Nat) (c : Ct), zs[j]? = some c → G (j + 1) = (G j && f c)
  all : G zs.length = (b && zs.all f)
theorem alls_ex (zs : List Ct) (f : Ct → Bool) (b : Bool) : ∃ G, Alls zs f G b :=
  ⟨fun j => b && (zs.take j).all f, by simp, fun j c h => by simp only [all_take h, Bool.and_assoc], by simp only [List.take_length]⟩
theorem two_ex (b f g : Bool) : ∃ F : Nat → Bool, F 0 = b ∧ F 1 = (F 0 && f) ∧ F 2 = (F 1 && g) ∧ F 2 = (b && (f && g)) :=
  ⟨fun r => match r with | 0 => b | 1 => b && f | _ => (b && f) && g, rfl, rfl, rfl, by simp [Bool.and_assoc]⟩
def guar1 (r l : Int) : Bool := (l == r) && (l != 0)
def zero1 (r l : Int) : Bool := (l == 0) && (r == 0)
theorem guar_two (c : Ct) : guarC c = (guar1 c.rc c.lc && guar1 c.rm c.lm) := by
  unfold guarC guar1
  rw [Bool.eq_iff_iff]
  simp
  omega
theorem zero_two (c : Ct) : zeroC c = (zero1 c.rc c.lc && zero1 c.rm c.lm) := by
  unfold zeroC zero1
  rw [Bool.eq_iff_iff]
  simp
  omega

set_option maxHeartbeats 1000000 in
set_option maxRecDepth 100000 in
theorem class_is {v : Value} {zs : List Ct} (pn : ByteArray) (pr po : Int) (w : World) (hL : LaidS w) (h : RdC w v zs) :
    Calls Tryd.prog 20 #[.agg #[.string pn, .int .i64 pr, .int .i64 po, v]] w fun e w' => e = .returned (.int .i64 (classI zs)) ∧ Below w.heap.size w w' := by
  obtain ⟨R, hR⟩ : ∃ R, R = classI zs := ⟨_, rfl⟩
  rw [← hR]
  have HR : Hid (R = classI zs) := hR
  have HL : Hid (LaidS w) := hL
  clear hR hL
  obtain ⟨G, hG⟩ := alls_ex zs guarC (decide (0 < zs.length))
  have HG : Hid (Alls zs guarC G (decide (0 < zs.length))) := hG
  obtain ⟨Z, hZ⟩ := alls_ex zs zeroC true
  have HZ : Hid (Alls zs zeroC Z true) := hZ
  clear hG hZ
  obtain ⟨a, cap, rfl, h1, h2, h3⟩ := h
  have H3 : Hid (∀ (j : Nat) (c : Ct), zs[j]? = some c → c.n.size ≤ maxLen ∧ ∃ b off : Nat, a = some ⟨b, off, none⟩ ∧ Ten w b (off + j * 10) c) := h3
  clear h3
  have zl : zs.length ≤ maxLen := by omega
  unfold maxLen at zl
  go_enter Tryd.func20, Tryd.ntmps20
  go_wp2
  go_loopw [3, 4, 18] (fun s3 s4 f wr => ∃ (j : Nat) (g k : Bool), f = .int .i64 j ∧ j ≤ zs.length ∧ s3 = .bool g ∧ s4 = .bool k ∧ Hid (g = G j ∧ k = Z j) ∧ Below w.heap.size w wr) (fun _ _ f _ => zs.length - (intOf f).toNat)
  case atStart => exact ⟨0, _, _, rfl, by omega, rfl, rfl, ⟨by rw [HG.out.zero], by rw [HZ.out.zero]⟩, by go_grown⟩
  case round =>
    obtain ⟨j, g, k, rfl, jl, rfl, rfl, GZ, HB⟩ := hrel
    obtain ⟨wo, rfl⟩ : ∃ wo, wo = wr := ⟨_, rfl⟩
    have hs := HB.size
    by_cases cj : j < zs.length
    · obtain ⟨⟨m, rc, rm, rh, lc, lm, lh, x, y, z⟩, hdj⟩ : ∃ d, zs[j]? = some d := ⟨zs[j], List.getElem?_eq_getElem cj⟩
      obtain ⟨-, b, off, rfl, T⟩ := H3.out j _ hdj
      obtain ⟨F, hF0, hF1, hF2, hF3⟩ := two_ex (G j) (guar1 rc lc) (guar1 rm lm)
      have FG : Hid (F 0 = G j ∧ F 1 = (F 0 && guar1 rc lc) ∧ F 2 = (F 1 && guar1 rm lm) ∧ F 2 = G (j + 1)) := ⟨hF0, hF1, hF2, by rw [HG.out.next j _ hdj, guar_two]; exact hF3⟩
      obtain ⟨Y, hY0, hY1, hY2, hY3⟩ := two_ex (Z j) (zero1 rc lc) (zero1 rm lm)
      have FZ : Hid (Y 0 = Z j ∧ Y 1 = (Y 0 && zero1 rc lc) ∧ Y 2 = (Y 1 && zero1 rm lm) ∧ Y 2 = Z (j + 1)) := ⟨hY0, hY1, hY2, by rw [HZ.out.next j _ hdj, zero_two]; exact hY3⟩
      clear hF0 hF1 hF2 hF3 hY0 hY1 hY2 hY3
      obtain ⟨c0, c1, c2, c3, c4, c5, c6, c7, c8, c9⟩ := T.later HB
      simp only at c0 c1 c2 c3 c4 c5 c6 c7 c8 c9
      have j0 : (0 : Int) ≤ (j : Int) := by omega
      have j1 : (j : Int) < (zs.length : Int) := by omega
      obtain ⟨b0, b1, bz⟩ := (HL.out.later HB).bounded
      have q_a : Cs (wo.alloc (.cells #[.string m, .int .i64 rc, .int .i64 rm, .int .i64 rh, .int .i64 lc, .int .i64 lm, .int .i64 lh, .bool x, .bool y, .bool z] 26)) wo.heap.size [.string m, .int .i64 rc, .int .i64 rm, .int .i64 rh, .int .i64 lc, .int .i64 lm, .int .i64 lh, .bool x, .bool y, .bool z] := (by repeat (first | assumption | (refine Cs.new _ _ _ _ ?_; simp; done) | refine Cs.alloc ?_ _ | refine Cs.drew ?_ | (refine Cs.beside ?_ _ _ (by omega))))
      have HB1 : Below w.heap.size w (wo.alloc (.cells #[.string m, .int .i64 rc, .int .i64 rm, .int .i64 rh, .int .i64 lc, .int .i64 lm, .int .i64 lh, .bool x, .bool y, .bool z] 26)) := by go_grown
      clear T hdj
      go_wp2
      clear b0 b1 bz c0 c1 c2 c3 c4 c5 c6 c7 c8 c9
      go_loopw [3, 4, 23] (fun s3 s4 f wt => ∃ (r : Nat) (q : Int) (g k : Bool), f = .int .i64 q ∧ q = r ∧ r ≤ 2 ∧ s3 = .bool g ∧ s4 = .bool k ∧ Hid (g = F r ∧ k = Y r) ∧ Cs wt wo.heap.size [.string m, .int .i64 rc, .int .i64 rm, .int .i64 rh, .int .i64 lc, .int .i64 lm, .int .i64 lh, .bool x, .bool y, .bool z] ∧ Below w.heap.size w wt) (fun _ _ f _ => 2 - (intOf f).toNat)
      case atStart => exact ⟨0, _, _, _, rfl, rfl, by omega, rfl, rfl, ⟨by rw [GZ.out.1, FG.out.1], by rw [GZ.out.2, FZ.out.1]⟩, q_a, HB1⟩
      case round =>
        clear q_a HB1
        obtain ⟨r, q, g, k, rfl, hq, rl, rfl, rfl, QZ, q_a, HB1⟩ := hrel
        have hs1 := HB1.size
        have c1 : wr.cell? ⟨wo.heap.size, 1, none⟩ = some (.int .i64 rc) := q_a.1 1 _ rfl
        have c2 : wr.cell? ⟨wo.heap.size, 2, none⟩ = some (.int .i64 rm) := q_a.1 2 _ rfl
        have c3 : wr.cell? ⟨wo.heap.size, 3, none⟩ = some (.int .i64 rh) := q_a.1 3 _ rfl
        have c4 : wr.cell? ⟨wo.heap.size, 4, none⟩ = some (.int .i64 lc) := q_a.1 4 _ rfl
        have c5 : wr.cell? ⟨wo.heap.size, 5, none⟩ = some (.int .i64 lm) := q_a.1 5 _ rfl
        have c6 : wr.cell? ⟨wo.heap.size, 6, none⟩ = some (.int .i64 lh) := q_a.1 6 _ rfl
        have cz := q_a.2.2
        rcases (show r = 0 ∨ r = 1 ∨ r = 2 by omega) with rfl | rfl | rfl
        ·
          obtain rfl : q = 0 := hq
          have ix : ∀ w : World, (Instr.index 59 (.agg #[.int .i64 0, .int .i64 1]) (.int .i64 0)).run Tryd.prog w = .ok (.int .i64 0) w := bded_ix0
          have CA : Hid (∀ w, Calls Tryd.prog 33 #[.agg #[.int .i64 rc, .int .i64 rm, .int .i64 rh], .int .i64 0] w fun e w' => e = .returned (.int .i64 rc) ∧ Below w.heap.size w w') := fun w => at_any rc rm rh 0 w
          have CB : Hid (∀ w, Calls Tryd.prog 33 #[.agg #[.int .i64 lc, .int .i64 lm, .int .i64 lh], .int .i64 0] w fun e w' => e = .returned (.int .i64 lc) ∧ Below w.heap.size w w') := fun w => at_any lc lm lh 0 w
          have L0 : Lies w [(wo.heap.size, [.string m, .int .i64 rc, .int .i64 rm, .int .i64 rh, .int .i64 lc, .int .i64 lm, .int .i64 lh, .bool x, .bool y, .bool z])] wr := ⟨fun x hx => by simp at hx; subst hx; exact q_a, HB1⟩
          clear q_a HB1 hs1
          go_upto_region 8 with (fail)
          refine wp_region_noPanic ?_
          refine wp_region_held_drew (S := fun w' => Cs w' wo.heap.size [.string m, .int .i64 rc, .int .i64 rm, .int .i64 rh, .int .i64 lc, .int .i64 lm, .int .i64 lh, .bool x, .bool y, .bool z]) (by kernel_rfl) ?_ (fun hHeld => ?_)
          · exact L0.drew.get 0 rfl
          refine wpAnyH_take (i := 0) (v := ?_) rfl (by kernel_rfl) (by kernel_rfl) (by kernel_rfl) (fun _ _ _ h => h) (Or.inl ⟨by rfl, ?_⟩) (by assumption) ?_
          rotate_left
          · (intro wS hSw; have g1 := hSw.1 1 _ rfl; have g2 := hSw.1 2 _ rfl; have g3 := hSw.1 3 _ rfl; have g4 := hSw.1 4 _ rfl; have g5 := hSw.1 5 _ rfl; have g6 := hSw.1 6 _ rfl; go_simp; try with_reducible rfl)
          change wpAnyH _ _ _ _ _ _ _ (Act.put _ (some 26) _) _
          simp only [Act.put, List.setIfInBounds_toArray, List.set_cons_zero, List.set_cons_succ]
          refine wpAnyH_take (i := 1) (v := ?_) rfl (by kernel_rfl) (by kernel_rfl) (by kernel_rfl) (fun _ _ _ h => h) (Or.inl ⟨by rfl, ?_⟩) (by assumption) ?_
          rotate_left
          · (intro wS hSw; have g1 := hSw.1 1 _ rfl; have g2 := hSw.1 2 _ rfl; have g3 := hSw.1 3 _ rfl; have g4 := hSw.1 4 _ rfl; have g5 := hSw.1 5 _ rfl; have g6 := hSw.1 6 _ rfl; go_simp; try with_reducible rfl)
          change wpAnyH _ _ _ _ _ _ _ (Act.put _ (some 27) _) _
          simp only [Act.put, List.setIfInBounds_toArray, List.set_cons_zero, List.set_cons_succ]
          refine wpAnyH_take (i := 2) (v := ?_) rfl (by kernel_rfl) (by kernel_rfl) (by kernel_rfl) (fun _ _ _ h => h) (Or.inl ⟨by rfl, ?_⟩) (by assumption) ?_
          rotate_left
          · (intro wS hSw; have g1 := hSw.1 1 _ rfl; have g2 := hSw.1 2 _ rfl; have g3 := hSw.1 3 _ rfl; have g4 := hSw.1 4 _ rfl; have g5 := hSw.1 5 _ rfl; have g6 := hSw.1 6 _ rfl; go_simp; try with_reducible rfl)
          change wpAnyH _ _ _ _ _ _ _ (Act.put _ (some 28) _) _
          simp only [Act.put, List.setIfInBounds_toArray, List.set_cons_zero, List.set_cons_succ]
          refine wpAnyH_take (i := 4) (v := ?_) rfl (by kernel_rfl) (by kernel_rfl) (by kernel_rfl) (fun _ _ _ h => h) (Or.inl ⟨by rfl, ?_⟩) (by assumption) ?_
          rotate_left
          · (intro wS hSw; have g1 := hSw.1 1 _ rfl; have g2 := hSw.1 2 _ rfl; have g3 := hSw.1 3 _ rfl; have g4 := hSw.1 4 _ rfl; have g5 := hSw.1 5 _ rfl; have g6 := hSw.1 6 _ rfl; go_simp; try with_reducible rfl)
          change wpAnyH _ _ _ _ _ _ _ (Act.put _ (some 30) _) _
          simp only [Act.put, List.setIfInBounds_toArray, List.set_cons_zero, List.set_cons_succ]
          refine wpAnyH_take (i := 5) (v := ?_) rfl (by kernel_rfl) (by kernel_rfl) (by kernel_rfl) (fun _ _ _ h => h) (Or.inl ⟨by rfl, ?_⟩) (by assumption) ?_
          rotate_left
          · (intro wS hSw; have g1 := hSw.1 1 _ rfl; have g2 := hSw.1 2 _ rfl; have g3 := hSw.1 3 _ rfl; have g4 := hSw.1 4 _ rfl; have g5 := hSw.1 5 _ rfl; have g6 := hSw.1 6 _ rfl; go_simp; try with_reducible rfl)
          change wpAnyH _ _ _ _ _ _ _ (Act.put _ (some 31) _) _
          simp only [Act.put, List.setIfInBounds_toArray, List.set_cons_zero, List.set_cons_succ]
          refine wpAnyH_take (i := 6) (v := ?_) rfl (by kernel_rfl) (by kernel_rfl) (by kernel_rfl) (fun _ _ _ h => h) (Or.inl ⟨by rfl, ?_⟩) (by assumption) ?_
          rotate_left
          · (intro wS hSw; have g1 := hSw.1 1 _ rfl; have g2 := hSw.1 2 _ rfl; have g3 := hSw.1 3 _ rfl; have g4 := hSw.1 4 _ rfl; have g5 := hSw.1 5 _ rfl; have g6 := hSw.1 6 _ rfl; go_simp; try with_reducible rfl)
          change wpAnyH _ _ _ _ _ _ _ (Act.put _ (some 32) _) _
          simp only [Act.put, List.setIfInBounds_toArray, List.set_cons_zero, List.set_cons_succ]
          refine wpAnyH_named ?_
          intro A hA
          clear hHeld
          refine wpAnyH_inv (I := fun L a W => ∃ (c3 c7 c8 c9 : Bool) (s29 s33 s9 s10 : Value), L = #[true, true, true, c3, true, true, true, c7, c8, c9] ∧ a = ((((A.put (some 29) s29).put (some 33) s33).put (some 9) s9).put (some 10) s10) ∧ Hid (Lies w [(wo.heap.size, [.string m, .int .i64 rc, .int .i64 rm, .int .i64 rh, .int .i64 lc, .int .i64 lm, .int .i64 lh, .bool x, .bool y, .bool z])] W) ∧ Hid (c3 = true → s29 = .int .i64 rc) ∧ Hid (c7 = true → s33 = .int .i64 lc) ∧ Hid (c8 = true → s9 = .int .i64 rc) ∧ Hid (c9 = true → s10 = .int .i64 lc)) ?hS ?hz (by kernel_rfl) ?hsteps ?hend _ _ _ _ (by decide) ?h0
          case hS => rintro L a W ⟨c3, c7, c8, c9, s29, s33, s9, s10, -, -, K, -⟩; exact (fun h => h) (K.out.get 0 rfl)
          case hz => rintro L a W ⟨c3, c7, c8, c9, s29, s33, s9, s10, rfl, -⟩; rfl
          case h0 => exact ⟨false, false, false, false, A.eval (.tmp 29), A.eval (.tmp 33), A.eval (.tmp 9), A.eval (.tmp 10), rfl, by simp only [put_self], L0.drew, fun h => Bool.noConfusion h, fun h => Bool.noConfusion h, fun h => Bool.noConfusion h, fun h => Bool.noConfusion h⟩
          case hend =>
            rintro L a W ⟨c3, c7, c8, c9, s29, s33, s9, s10, rfl, rfl, K, k3, k7, k8, k9⟩ hall
            obtain rfl : c3 = true := hall 3
            obtain rfl : c7 = true := hall 7
            obtain rfl : c8 = true := hall 8
            obtain rfl : c9 = true := hall 9
            obtain rfl := k3.out rfl
            obtain rfl := k7.out rfl
            obtain rfl := k8.out rfl
            obtain rfl := k9.out rfl
            clear k3 k7 k8 k9
            refine NoPanic.normal ?_
            subst hA
            simp only [Act.put, List.setIfInBounds_toArray, List.set_cons_zero, List.set_cons_succ]
            have q_b := K.out.get 0 rfl
            have HB2 := K.out.2
            clear K L0 CA CB c1 c2 c3 c4 c5 c6
            obtain ⟨e1, t1⟩ : ∃ e, (lc == rc) = e := ⟨_, rfl⟩
            obtain ⟨e2, t2⟩ : ∃ e, (lc == 0) = e := ⟨_, rfl⟩
            obtain ⟨e3, t3⟩ : ∃ e, (rc == 0) = e := ⟨_, rfl⟩
            have t4 : (lc != 0) = !e2 := by rw [← t2]; rfl
            have N : Hid (guar1 rc lc = (e1 && !e2) ∧ zero1 rc lc = (e2 && e3)) := ⟨by unfold guar1; rw [t1, t4], by unfold zero1; rw [t2, t3]⟩
            cases g with
            | false =>
              cases k with
              | false =>
                go_wp2
                go_roundw
                case rel => exact ⟨1, _, _, _, rfl, by go_num, by omega, rfl, rfl, ⟨by rw [FG.out.2.1, ← QZ.out.1, N.out.1]; simp, by rw [FZ.out.2.1, ← QZ.out.2, N.out.2]; simp⟩, q_b, HB2⟩
                case measure => simp [intOf]
              | true =>
                cases e2 with
                | false =>
                  go_wp2
                  go_roundw
                  case rel => exact ⟨1, _, _, _, rfl, by go_num, by omega, rfl, rfl, ⟨by rw [FG.out.2.1, ← QZ.out.1, N.out.1]; simp, by rw [FZ.out.2.1, ← QZ.out.2, N.out.2]; simp⟩, q_b, HB2⟩
                  case measure => simp [intOf]
                | true =>
                  go_wp2
                  go_roundw
                  case rel => exact ⟨1, _, _, _, rfl, by go_num, by omega, rfl, rfl, ⟨by rw [FG.out.2.1, ← QZ.out.1, N.out.1]; simp, by rw [FZ.out.2.1, ← QZ.out.2, N.out.2]; simp⟩, q_b, HB2⟩
                  case measure => simp [intOf]
            | true =>
              cases e1 with
              | false =>
                cases k with
                | false =>
                  go_wp2
                  go_roundw
                  case rel => exact ⟨1, _, _, _, rfl, by go_num, by omega, rfl, rfl, ⟨by rw [FG.out.2.1, ← QZ.out.1, N.out.1]; simp, by rw [FZ.out.2.1, ← QZ.out.2, N.out.2]; simp⟩, q_b, HB2⟩
                  case measure => simp [intOf]
                | true =>
                  cases e2 with
                  | false =>
                    go_wp2
                    go_roundw
                    case rel => exact ⟨1, _, _, _, rfl, by go_num, by omega, rfl, rfl, ⟨by rw [FG.out.2.1, ← QZ.out.1, N.out.1]; simp, by rw [FZ.out.2.1, ← QZ.out.2, N.out.2]; simp⟩, q_b, HB2⟩
                    case measure => simp [intOf]
                  | true =>
                    go_wp2
                    go_roundw
                    case rel => exact ⟨1, _, _, _, rfl, by go_num, by omega, rfl, rfl, ⟨by rw [FG.out.2.1, ← QZ.out.1, N.out.1]; simp, by rw [FZ.out.2.1, ← QZ.out.2, N.out.2]; simp⟩, q_b, HB2⟩
                    case measure => simp [intOf]
              | true =>
                cases k with
                | false =>
                  go_wp2
                  go_roundw
                  case rel => exact ⟨1, _, _, _, rfl, by go_num, by omega, rfl, rfl, ⟨by rw [FG.out.2.1, ← QZ.out.1, N.out.1]; simp, by rw [FZ.out.2.1, ← QZ.out.2, N.out.2]; simp⟩, q_b, HB2⟩
                  case measure => simp [intOf]
                | true =>
                  cases e2 with
                  | false =>
                    go_wp2
                    go_roundw
                    case rel => exact ⟨1, _, _, _, rfl, by go_num, by omega, rfl, rfl, ⟨by rw [FG.out.2.1, ← QZ.out.1, N.out.1]; simp, by rw [FZ.out.2.1, ← QZ.out.2, N.out.2]; simp⟩, q_b, HB2⟩
                    case measure => simp [intOf]
                  | true =>
                    go_wp2
                    go_roundw
                    case rel => exact ⟨1, _, _, _, rfl, by go_num, by omega, rfl, rfl, ⟨by rw [FG.out.2.1, ← QZ.out.1, N.out.1]; simp, by rw [FZ.out.2.1, ← QZ.out.2, N.out.2]; simp⟩, q_b, HB2⟩
                    case measure => simp [intOf]
          case hsteps =>
            refine StepsI.skip (i := 0) (by rintro L a W ⟨c3, c7, c8, c9, s29, s33, s9, s10, rfl, -⟩; rfl) ?_
            refine StepsI.skip (i := 1) (by rintro L a W ⟨c3, c7, c8, c9, s29, s33, s9, s10, rfl, -⟩; rfl) ?_
            refine StepsI.skip (i := 2) (by rintro L a W ⟨c3, c7, c8, c9, s29, s33, s9, s10, rfl, -⟩; rfl) ?_
            refine StepsI.cons (i := 3) rfl ?_ ?_
            · rintro L a W ⟨c3, c7, c8, c9, s29, s33, s9, s10, rfl, rfl, K, k3, k7, k8, k9⟩ h0 hd KK hK
              obtain rfl : c3 = false := h0
              subst hA
              simp only [Act.put, List.setIfInBounds_toArray, List.set_cons_zero, List.set_cons_succ]
              clear hd
              go_simp
              refine (CA.out _).mono ?_
              rintro e w2 ⟨rfl, hw2⟩
              (try go_wp2_with (fail))
              exact hK.out _ _ ⟨true, c7, c8, c9, .int .i64 rc, s33, s9, s10, rfl, by simp only [Act.put, List.setIfInBounds_toArray, List.set_cons_zero, List.set_cons_succ], K.out.later hw2, fun _ => rfl, k7.out, k8.out, k9.out⟩
            refine StepsI.skip (i := 4) (by rintro L a W ⟨c3, c7, c8, c9, s29, s33, s9, s10, rfl, -⟩; rfl) ?_
            refine StepsI.skip (i := 5) (by rintro L a W ⟨c3, c7, c8, c9, s29, s33, s9, s10, rfl, -⟩; rfl) ?_
            refine StepsI.skip (i := 6) (by rintro L a W ⟨c3, c7, c8, c9, s29, s33, s9, s10, rfl, -⟩; rfl) ?_
            refine StepsI.cons (i := 7) rfl ?_ ?_
            · rintro L a W ⟨c3, c7, c8, c9, s29, s33, s9, s10, rfl, rfl, K, k3, k7, k8, k9⟩ h0 hd KK hK
              obtain rfl : c7 = false := h0
              subst hA
              simp only [Act.put, List.setIfInBounds_toArray, List.set_cons_zero, List.set_cons_succ]
              clear hd
              go_simp
              refine (CB.out _).mono ?_
              rintro e w2 ⟨rfl, hw2⟩
              (try go_wp2_with (fail))
              exact hK.out _ _ ⟨c3, true, c8, c9, s29, .int .i64 lc, s9, s10, rfl, by simp only [Act.put, List.setIfInBounds_toArray, List.set_cons_zero, List.set_cons_succ], K.out.later hw2, k3.out, fun _ => rfl, k8.out, k9.out⟩
            refine StepsI.cons (i := 8) rfl ?_ ?_
            · rintro L a W ⟨c3, c7, c8, c9, s29, s33, s9, s10, rfl, rfl, K, k3, k7, k8, k9⟩ h0 hd KK hK
              obtain rfl : c8 = false := h0
              obtain rfl : c3 = true := hd ⟨3, .data⟩ (by simp) rfl
              have e3 := k3.out rfl
              subst e3
              subst hA
              simp only [Act.put, List.setIfInBounds_toArray, List.set_cons_zero, List.set_cons_succ]
              clear hd
              go_simp
              exact hK.out _ _ ⟨true, c7, true, c9, .int .i64 rc, s33, .int .i64 rc, s10, rfl, by simp only [Act.put, List.setIfInBounds_toArray, List.set_cons_zero, List.set_cons_succ], K, fun _ => rfl, k7.out, fun _ => rfl, k9.out⟩
            refine StepsI.cons (i := 9) rfl ?_ ?_
            · rintro L a W ⟨c3, c7, c8, c9, s29, s33, s9, s10, rfl, rfl, K, k3, k7, k8, k9⟩ h0 hd KK hK
              obtain rfl : c9 = false := h0
              obtain rfl : c7 = true := hd ⟨7, .data⟩ (by simp) rfl
              have e7 := k7.out rfl
              subst e7
              subst hA
              simp only [Act.put, List.setIfInBounds_toArray, List.set_cons_zero, List.set_cons_succ]
              clear hd
              go_simp
              exact hK.out _ _ ⟨c3, true, c8, true, s29, .int .i64 lc, s9, .int .i64 lc, rfl, by simp only [Act.put, List.setIfInBounds_toArray, List.set_cons_zero, List.set_cons_succ], K, k3.out, fun _ => rfl, k8.out, fun _ => rfl⟩
            exact StepsI.nil
        ·
          obtain rfl : q = 1 := hq
          have ix : ∀ w : World, (Instr.index 59 (.agg #[.int .i64 0, .int .i64 1]) (.int .i64 1)).run Tryd.prog w = .ok (.int .i64 1) w := bded_ix1
          have CA : Hid (∀ w, Calls Tryd.prog 33 #[.agg #[.int .i64 rc, .int .i64 rm, .int .i64 rh], .int .i64 1] w fun e w' => e = .returned (.int .i64 rm) ∧ Below w.heap.size w w') := fun w => at_any rc rm rh 1 w
          have CB : Hid (∀ w, Calls Tryd.prog 33 #[.agg #[.int .i64 lc, .int .i64 lm, .int .i64 lh], .int .i64 1] w fun e w' => e = .returned (.int .i64 lm) ∧ Below w.heap.size w w') := fun w => at_any lc lm lh 1 w
          have L0 : Lies w [(wo.heap.size, [.string m, .int .i64 rc, .int .i64 rm, .int .i64 rh, .int .i64 lc, .int .i64 lm, .int .i64 lh, .bool x, .bool y, .bool z])] wr := ⟨fun x hx => by simp at hx; subst hx; exact q_a, HB1⟩
          clear q_a HB1 hs1
          go_upto_region 8 with (fail)
          refine wp_region_noPanic ?_
          refine wp_region_held_drew (S := fun w' => Cs w' wo.heap.size [.string m, .int .i64 rc, .int .i64 rm, .int .i64 rh, .int .i64 lc, .int .i64 lm, .int .i64 lh, .bool x, .bool y, .bool z]) (by kernel_rfl) ?_ (fun hHeld => ?_)
          · exact L0.drew.get 0 rfl
          refine wpAnyH_take (i := 0) (v := ?_) rfl (by kernel_rfl) (by kernel_rfl) (by kernel_rfl) (fun _ _ _ h => h) (Or.inl ⟨by rfl, ?_⟩) (by assumption) ?_
          rotate_left
          · (intro wS hSw; have g1 := hSw.1 1 _ rfl; have g2 := hSw.1 2 _ rfl; have g3 := hSw.1 3 _ rfl; have g4 := hSw.1 4 _ rfl; have g5 := hSw.1 5 _ rfl; have g6 := hSw.1 6 _ rfl; go_simp; try with_reducible rfl)
          change wpAnyH _ _ _ _ _ _ _ (Act.put _ (some 26) _) _
          simp only [Act.put, List.setIfInBounds_toArray, List.set_cons_zero, List.set_cons_succ]
          refine wpAnyH_take (i := 1) (v := ?_) rfl (by kernel_rfl) (by kernel_rfl) (by kernel_rfl) (fun _ _ _ h => h) (Or.inl ⟨by rfl, ?_⟩) (by assumption) ?_
          rotate_left
          · (intro wS hSw; have g1 := hSw.1 1 _ rfl; have g2 := hSw.1 2 _ rfl; have g3 := hSw.1 3 _ rfl; have g4 := hSw.1 4 _ rfl; have g5 := hSw.1 5 _ rfl; have g6 := hSw.1 6 _ rfl; go_simp; try with_reducible rfl)
          change wpAnyH _ _ _ _ _ _ _ (Act.put _ (some 27) _) _
          simp only [Act.put, List.setIfInBounds_toArray, List.set_cons_zero, List.set_cons_succ]
          refine wpAnyH_take (i := 2) (v := ?_) rfl (by kernel_rfl) (by kernel_rfl) (by kernel_rfl) (fun _ _ _ h => h) (Or.inl ⟨by rfl, ?_⟩) (by assumption) ?_
          rotate_left
          · (intro wS hSw; have g1 := hSw.1 1 _ rfl; have g2 := hSw.1 2 _ rfl; have g3 := hSw.1 3 _ rfl; have g4 := hSw.1 4 _ rfl; have g5 := hSw.1 5 _ rfl; have g6 := hSw.1 6 _ rfl; go_simp; try with_reducible rfl)
          change wpAnyH _ _ _ _ _ _ _ (Act.put _ (some 28) _) _
          simp only [Act.put, List.setIfInBounds_toArray, List.set_cons_zero, List.set_cons_succ]
          refine wpAnyH_take (i := 4) (v := ?_) rfl (by kernel_rfl) (by kernel_rfl) (by kernel_rfl) (fun _ _ _ h => h) (Or.inl ⟨by rfl, ?_⟩) (by assumption) ?_
          rotate_left
          · (intro wS hSw; have g1 := hSw.1 1 _ rfl; have g2 := hSw.1 2 _ rfl; have g3 := hSw.1 3 _ rfl; have g4 := hSw.1 4 _ rfl; have g5 := hSw.1 5 _ rfl; have g6 := hSw.1 6 _ rfl; go_simp; try with_reducible rfl)
          change wpAnyH _ _ _ _ _ _ _ (Act.put _ (some 30) _) _
          simp only [Act.put, List.setIfInBounds_toArray, List.set_cons_zero, List.set_cons_succ]
          refine wpAnyH_take (i := 5) (v := ?_) rfl (by kernel_rfl) (by kernel_rfl) (by kernel_rfl) (fun _ _ _ h => h) (Or.inl ⟨by rfl, ?_⟩) (by assumption) ?_
          rotate_left
          · (intro wS hSw; have g1 := hSw.1 1 _ rfl; have g2 := hSw.1 2 _ rfl; have g3 := hSw.1 3 _ rfl; have g4 := hSw.1 4 _ rfl; have g5 := hSw.1 5 _ rfl; have g6 := hSw.1 6 _ rfl; go_simp; try with_reducible rfl)
          change wpAnyH _ _ _ _ _ _ _ (Act.put _ (some 31) _) _
          simp only [Act.put, List.setIfInBounds_toArray, List.set_cons_zero, List.set_cons_succ]
          refine wpAnyH_take (i := 6) (v := ?_) rfl (by kernel_rfl) (by kernel_rfl) (by kernel_rfl) (fun _ _ _ h => h) (Or.inl ⟨by rfl, ?_⟩) (by assumption) ?_
          rotate_left
          · (intro wS hSw; have g1 := hSw.1 1 _ rfl; have g2 := hSw.1 2 _ rfl; have g3 := hSw.1 3 _ rfl; have g4 := hSw.1 4 _ rfl; have g5 := hSw.1 5 _ rfl; have g6 := hSw.1 6 _ rfl; go_simp; try with_reducible rfl)
          change wpAnyH _ _ _ _ _ _ _ (Act.put _ (some 32) _) _
          simp only [Act.put, List.setIfInBounds_toArray, List.set_cons_zero, List.set_cons_succ]
          refine wpAnyH_named ?_
          intro A hA
          clear hHeld
          refine wpAnyH_inv (I := fun L a W => ∃ (c3 c7 c8 c9 : Bool) (s29 s33 s9 s10 : Value), L = #[true, true, true, c3, true, true, true, c7, c8, c9] ∧ a = ((((A.put (some 29) s29).put (some 33) s33).put (some 9) s9).put (some 10) s10) ∧ Hid (Lies w [(wo.heap.size, [.string m, .int .i64 rc, .int .i64 rm, .int .i64 rh, .int .i64 lc, .int .i64 lm, .int .i64 lh, .bool x, .bool y, .bool z])] W) ∧ Hid (c3 = true → s29 = .int .i64 rm) ∧ Hid (c7 = true → s33 = .int .i64 lm) ∧ Hid (c8 = true → s9 = .int .i64 rm) ∧ Hid (c9 = true → s10 = .int .i64 lm)) ?hS ?hz (by kernel_rfl) ?hsteps ?hend _ _ _ _ (by decide) ?h0
          case hS => rintro L a W ⟨c3, c7, c8, c9, s29, s33, s9, s10, -, -, K, -⟩; exact (fun h => h) (K.out.get 0 rfl)
          case hz => rintro L a W ⟨c3, c7, c8, c9, s29, s33, s9, s10, rfl, -⟩; rfl
          case h0 => exact ⟨false, false, false, false, A.eval (.tmp 29), A.eval (.tmp 33), A.eval (.tmp 9), A.eval (.tmp 10), rfl, by simp only [put_self], L0.drew, fun h => Bool.noConfusion h, fun h => Bool.noConfusion h, fun h => Bool.noConfusion h, fun h => Bool.noConfusion h⟩
          case hend =>
            rintro L a W ⟨c3, c7, c8, c9, s29, s33, s9, s10, rfl, rfl, K, k3, k7, k8, k9⟩ hall
            obtain rfl : c3 = true := hall 3
            obtain rfl : c7 = true := hall 7
            obtain rfl : c8 = true := hall 8
            obtain rfl : c9 = true := hall 9
            obtain rfl := k3.out rfl
            obtain rfl := k7.out rfl
            obtain rfl := k8.out rfl
            obtain rfl := k9.out rfl
            clear k3 k7 k8 k9
            refine NoPanic.normal ?_
            subst hA
            simp only [Act.put, List.setIfInBounds_toArray, List.set_cons_zero, List.set_cons_succ]
            have q_b := K.out.get 0 rfl
            have HB2 := K.out.2
            clear K L0 CA CB c1 c2 c3 c4 c5 c6
            obtain ⟨e1, t1⟩ : ∃ e, (lm == rm) = e := ⟨_, rfl⟩
            obtain ⟨e2, t2⟩ : ∃ e, (lm == 0) = e := ⟨_, rfl⟩
            obtain ⟨e3, t3⟩ : ∃ e, (rm == 0) = e := ⟨_, rfl⟩
            have t4 : (lm != 0) = !e2 := by rw [← t2]; rfl
            have N : Hid (guar1 rm lm = (e1 && !e2) ∧ zero1 rm lm = (e2 && e3)) := ⟨by unfold guar1; rw [t1, t4], by unfold zero1; rw [t2, t3]⟩
            cases g with
            | false =>
              cases k with
              | false =>
                go_wp2
                go_roundw
                case rel => exact ⟨2, _, _, _, rfl, by go_num, by omega, rfl, rfl, ⟨by rw [FG.out.2.2.1, ← QZ.out.1, N.out.1]; simp, by rw [FZ.out.2.2.1, ← QZ.out.2, N.out.2]; simp⟩, q_b, HB2⟩
                case measure => simp [intOf]
              | true =>
                cases e2 with
                | false =>
                  go_wp2
                  go_roundw
                  case rel => exact ⟨2, _, _, _, rfl, by go_num, by omega, rfl, rfl, ⟨by rw [FG.out.2.2.1, ← QZ.out.1, N.out.1]; simp, by rw [FZ.out.2.2.1, ← QZ.out.2, N.out.2]; simp⟩, q_b, HB2⟩
                  case measure => simp [intOf]
                | true =>
                  go_wp2
                  go_roundw
                  case rel => exact ⟨2, _, _, _, rfl, by go_num, by omega, rfl, rfl, ⟨by rw [FG.out.2.2.1, ← QZ.out.1, N.out.1]; simp, by rw [FZ.out.2.2.1, ← QZ.out.2, N.out.2]; simp⟩, q_b, HB2⟩
                  case measure => simp [intOf]
            | true =>
              cases e1 with
              | false =>
                cases k with
                | false =>
                  go_wp2
                  go_roundw
                  case rel => exact ⟨2, _, _, _, rfl, by go_num, by omega, rfl, rfl, ⟨by rw [FG.out.2.2.1, ← QZ.out.1, N.out.1]; simp, by rw [FZ.out.2.2.1, ← QZ.out.2, N.out.2]; simp⟩, q_b, HB2⟩
                  case measure => simp [intOf]
                | true =>
                  cases e2 with
                  | false =>
                    go_wp2
                    go_roundw
                    case rel => exact ⟨2, _, _, _, rfl, by go_num, by omega, rfl, rfl, ⟨by rw [FG.out.2.2.1, ← QZ.out.1, N.out.1]; simp, by rw [FZ.out.2.2.1, ← QZ.out.2, N.out.2]; simp⟩, q_b, HB2⟩
                    case measure => simp [intOf]
                  | true =>
                    go_wp2
                    go_roundw
                    case rel => exact ⟨2, _, _, _, rfl, by go_num, by omega, rfl, rfl, ⟨by rw [FG.out.2.2.1, ← QZ.out.1, N.out.1]; simp, by rw [FZ.out.2.2.1, ← QZ.out.2, N.out.2]; simp⟩, q_b, HB2⟩
                    case measure => simp [intOf]
              | true =>
                cases k with
                | false =>
                  go_wp2
                  go_roundw
                  case rel => exact ⟨2, _, _, _, rfl, by go_num, by omega, rfl, rfl, ⟨by rw [FG.out.2.2.1, ← QZ.out.1, N.out.1]; simp, by rw [FZ.out.2.2.1, ← QZ.out.2, N.out.2]; simp⟩, q_b, HB2⟩
                  case measure => simp [intOf]
                | true =>
                  cases e2 with
                  | false =>
                    go_wp2
                    go_roundw
                    case rel => exact ⟨2, _, _, _, rfl, by go_num, by omega, rfl, rfl, ⟨by rw [FG.out.2.2.1, ← QZ.out.1, N.out.1]; simp, by rw [FZ.out.2.2.1, ← QZ.out.2, N.out.2]; simp⟩, q_b, HB2⟩
                    case measure => simp [intOf]
                  | true =>
                    go_wp2
                    go_roundw
                    case rel => exact ⟨2, _, _, _, rfl, by go_num, by omega, rfl, rfl, ⟨by rw [FG.out.2.2.1, ← QZ.out.1, N.out.1]; simp, by rw [FZ.out.2.2.1, ← QZ.out.2, N.out.2]; simp⟩, q_b, HB2⟩
                    case measure => simp [intOf]
          case hsteps =>
            refine StepsI.skip (i := 0) (by rintro L a W ⟨c3, c7, c8, c9, s29, s33, s9, s10, rfl, -⟩; rfl) ?_
            refine StepsI.skip (i := 1) (by rintro L a W ⟨c3, c7, c8, c9, s29, s33, s9, s10, rfl, -⟩; rfl) ?_
            refine StepsI.skip (i := 2) (by rintro L a W ⟨c3, c7, c8, c9, s29, s33, s9, s10, rfl, -⟩; rfl) ?_
            refine StepsI.cons (i := 3) rfl ?_ ?_
            · rintro L a W ⟨c3, c7, c8, c9, s29, s33, s9, s10, rfl, rfl, K, k3, k7, k8, k9⟩ h0 hd KK hK
              obtain rfl : c3 = false := h0
              subst hA
              simp only [Act.put, List.setIfInBounds_toArray, List.set_cons_zero, List.set_cons_succ]
              clear hd
              go_simp
              refine (CA.out _).mono ?_
              rintro e w2 ⟨rfl, hw2⟩
              (try go_wp2_with (fail))
              exact hK.out _ _ ⟨true, c7, c8, c9, .int .i64 rm, s33, s9, s10, rfl, by simp only [Act.put, List.setIfInBounds_toArray, List.set_cons_zero, List.set_cons_succ], K.out.later hw2, fun _ => rfl, k7.out, k8.out, k9.out⟩
            refine StepsI.skip (i := 4) (by rintro L a W ⟨c3, c7, c8, c9, s29, s33, s9, s10, rfl, -⟩; rfl) ?_
            refine StepsI.skip (i := 5) (by rintro L a W ⟨c3, c7, c8, c9, s29, s33, s9, s10, rfl, -⟩; rfl) ?_
            refine StepsI.skip (i := 6) (by rintro L a W ⟨c3, c7, c8, c9, s29, s33, s9, s10, rfl, -⟩; rfl) ?_
            refine StepsI.cons (i := 7) rfl ?_ ?_
            · rintro L a W ⟨c3, c7, c8, c9, s29, s33, s9, s10, rfl, rfl, K, k3, k7, k8, k9⟩ h0 hd KK hK
              obtain rfl : c7 = false := h0
              subst hA
              simp only [Act.put, List.setIfInBounds_toArray, List.set_cons_zero, List.set_cons_succ]
              clear hd
              go_simp
              refine (CB.out _).mono ?_
              rintro e w2 ⟨rfl, hw2⟩
              (try go_wp2_with (fail))
              exact hK.out _ _ ⟨c3, true, c8, c9, s29, .int .i64 lm, s9, s10, rfl, by simp only [Act.put, List.setIfInBounds_toArray, List.set_cons_zero, List.set_cons_succ], K.out.later hw2, k3.out, fun _ => rfl, k8.out, k9.out⟩
            refine StepsI.cons (i := 8) rfl ?_ ?_
            · rintro L a W ⟨c3, c7, c8, c9, s29, s33, s9, s10, rfl, rfl, K, k3, k7, k8, k9⟩ h0 hd KK hK
              obtain rfl : c8 = false := h0
              obtain rfl : c3 = true := hd ⟨3, .data⟩ (by simp) rfl
              have e3 := k3.out rfl
              subst e3
              subst hA
              simp only [Act.put, List.setIfInBounds_toArray, List.set_cons_zero, List.set_cons_succ]
              clear hd
              go_simp
              exact hK.out _ _ ⟨true, c7, true, c9, .int .i64 rm, s33, .int .i64 rm, s10, rfl, by simp only [Act.put, List.setIfInBounds_toArray, List.set_cons_zero, List.set_cons_succ], K, fun _ => rfl, k7.out, fun _ => rfl, k9.out⟩
            refine StepsI.cons (i := 9) rfl ?_ ?_
            · rintro L a W ⟨c3, c7, c8, c9, s29, s33, s9, s10, rfl, rfl, K, k3, k7, k8, k9⟩ h0 hd KK hK
              obtain rfl : c9 = false := h0
              obtain rfl : c7 = true := hd ⟨7, .data⟩ (by simp) rfl
              have e7 := k7.out rfl
              subst e7
              subst hA
              simp only [Act.put, List.setIfInBounds_toArray, List.set_cons_zero, List.set_cons_succ]
              clear hd
              go_simp
              exact hK.out _ _ ⟨c3, true, c8, true, s29, .int .i64 lm, s9, .int .i64 lm, rfl, by simp only [Act.put, List.setIfInBounds_toArray, List.set_cons_zero, List.set_cons_succ], K, k3.out, fun _ => rfl, k8.out, fun _ => rfl⟩
            exact StepsI.nil
        · obtain rfl : q = 2 := hq
          have NX : Hid (g = G (j + 1) ∧ k = Z (j + 1)) := ⟨by rw [QZ.out.1]; exact FG.out.2.2.2, by rw [QZ.out.2]; exact FZ.out.2.2.2⟩
          clear c1 c2 c3 c4 c5 c6 QZ q_a FG FZ GZ
          go_wp2
          go_roundw
          case rel => exact ⟨j + 1, _, _, by go_num, by omega, rfl, rfl, NX, HB1⟩
          case measure => simp [intOf]; omega
    · obtain rfl : j = zs.length := by omega
      have E : Hid (R = if g = true then 0 else if k = true then 2 else 1) := by
        unfold Hid
        rw [HR.out, class_of, GZ.out.1, GZ.out.2, HG.out.all, HZ.out.all, Bool.true_and]
      clear GZ HG HZ
      cases g
      case' false => cases k
      all_goals
        go_wp2
        go_ret
        exact ⟨by rw [E.out]; rfl, HB⟩

end Go.Proofs.YtfgbppngnafpoaaDoor.Sp
