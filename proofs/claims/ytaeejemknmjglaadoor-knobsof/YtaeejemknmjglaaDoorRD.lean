/-
  The knobs of a container at this program: package knobs' own, and the document's. Conditions: the name's length fits the machine; where it is said, the tables of the program lie as its text lays them.
-/
import Derived.Test.YtaeejemknmjglaaDoorRC
import Derived.Test.YtaeejemknmjglaaDoorPF
import Derived.Test.YtaeejemknmjglaaDoorYS
import Derived.Deep.RegionWith
namespace Go.Proofs.YtaeejemknmjglaaDoor.Sp
open Go.RowKit

/-- The knobs of a right container. -/
abbrev kctV (rc rm lc lm lh : Int) : Value := .agg #[.int .i64 (limV lc), .int .i64 (wgt rc), .int .i64 rm, .int .i64 (limV lm), .int .i64 lh]
theorem limit_b (n : Int) (w : World) : Calls Tryd.prog 27 #[.int .i64 n] w fun e w' => e = .returned (.int .i64 (limV n)) ∧ Below w.heap.size w w' :=
  (limit_is n w).mono fun _ _ h => ⟨h.1, h.2 ▸ Below.refl _ _⟩
theorem rlimit_b (n : Int) (w : World) : Calls Tryd.prog 29 #[.int .i64 n] w fun e w' => e = .returned (.int .i64 (limV n)) ∧ Below w.heap.size w w' :=
  (rlimit_is n w).mono fun _ _ h => ⟨h.1, h.2 ▸ Below.refl _ _⟩
theorem weight_b (n : Int) (w : World) : Calls Tryd.prog 15 #[.int .i64 n] w fun e w' => e = .returned (.int .i64 (wgt n)) ∧ Below w.heap.size w w' :=
  (weight_is n w).mono fun _ _ h => ⟨h.1, h.2 ▸ Below.refl _ _⟩
theorem rweight_b (n : Int) (w : World) : Calls Tryd.prog 16 #[.int .i64 n] w fun e w' => e = .returned (.int .i64 (wgt n)) ∧ Below w.heap.size w w' :=
  (rweight_is n w).mono fun _ _ h => ⟨h.1, h.2 ▸ Below.refl _ _⟩
abbrev k0V : Value := .agg #[.int .i64 0, .int .i64 0, .int .i64 0, .int .i64 0, .int .i64 0]

set_option maxHeartbeats 4000000 in
set_option maxRecDepth 100000 in
theorem containerK_is (n : ByteArray) (rc rm rh lc lm lh : Int) (x y z : Bool) (hm : n.size ≤ maxLen) (w : World) (hL : LaidS w) :
    Calls Tryd.prog 10 #[.agg #[.string n, .int .i64 rc, .int .i64 rm, .int .i64 rh, .int .i64 lc, .int .i64 lm, .int .i64 lh, .bool x, .bool y, .bool z]] w fun e w' => e = .returned (if ctB n rc rm rh lc lm lh = true then kctV rc rm lc lm lh else k0V) ∧ Below w.heap.size w w' := by
  have MM : Hid (n.size ≤ maxLen) := hm
  have bcq : Cs ((w.alloc (.cells #[.string n, .int .i64 rc, .int .i64 rm, .int .i64 rh, .int .i64 lc, .int .i64 lm, .int .i64 lh, .bool x, .bool y, .bool z] 26)).alloc (.cells #[.int .i64 0, .int .i64 0, .int .i64 0, .int .i64 0, .int .i64 0] 33)) w.heap.size [.string n, .int .i64 rc, .int .i64 rm, .int .i64 rh, .int .i64 lc, .int .i64 lm, .int .i64 lh, .bool x, .bool y, .bool z] := (by repeat (first | assumption | (refine Cs.new _ _ _ _ ?_; simp; done) | refine Cs.alloc ?_ _ | refine Cs.drew ?_ | (refine Cs.beside ?_ _ _ (by omega))))
  have bcr : Cs ((w.alloc (.cells #[.string n, .int .i64 rc, .int .i64 rm, .int .i64 rh, .int .i64 lc, .int .i64 lm, .int .i64 lh, .bool x, .bool y, .bool z] 26)).alloc (.cells #[.int .i64 0, .int .i64 0, .int .i64 0, .int .i64 0, .int .i64 0] 33)) (w.heap.size + 1) [.int .i64 0, .int .i64 0, .int .i64 0, .int .i64 0, .int .i64 0] := (by repeat (first | assumption | (refine Cs.new _ _ _ _ ?_; simp; done) | refine Cs.alloc ?_ _ | refine Cs.drew ?_ | (refine Cs.beside ?_ _ _ (by omega))))
  have HL : Hid (LaidS w) := hL
  clear hL
  obtain ⟨R, hR⟩ : ∃ R, R = if ctB n rc rm rh lc lm lh = true then kctV rc rm lc lm lh else k0V := ⟨_, rfl⟩
  rw [← hR]
  have HR : Hid (R = if ctB n rc rm rh lc lm lh = true then kctV rc rm lc lm lh else k0V) := hR
  clear hm hR
  go_enter Tryd.func10, Tryd.ntmps10
  go_wp2_with (fail)
  refine (container_is n rc rm rh lc lm lh x y z MM.out _ (LaidS.alloc (LaidS.alloc HL.out _) _)).mono ?_
  rintro e w1 ⟨rfl, hw1⟩
  have HBw1 : Below w.heap.size w w1 := Below.trans (by go_grown) (hw1.mono (by first | omega | (simp; done) | (simp; omega)))
  have p_p : Cs w1 (w.heap.size) [.string n, .int .i64 rc, .int .i64 rm, .int .i64 rh, .int .i64 lc, .int .i64 lm, .int .i64 lh, .bool x, .bool y, .bool z] := Cs.later hw1 (by repeat (first | assumption | (refine Cs.new _ _ _ _ ?_; simp; done) | refine Cs.alloc ?_ _ | refine Cs.drew ?_ | (refine Cs.beside ?_ _ _ (by omega))))
  have p_r : Cs w1 (w.heap.size + 1) [.int .i64 0, .int .i64 0, .int .i64 0, .int .i64 0, .int .i64 0] := Cs.later hw1 (by repeat (first | assumption | (refine Cs.new _ _ _ _ ?_; simp; done) | refine Cs.alloc ?_ _ | refine Cs.drew ?_ | (refine Cs.beside ?_ _ _ (by omega))))
  have q_p := p_p
  have p0 : w1.cell? ⟨w.heap.size, 0, none⟩ = some (.string n) := p_p.1 0 _ rfl
  have p1 : w1.cell? ⟨w.heap.size, 1, none⟩ = some (.int .i64 rc) := p_p.1 1 _ rfl
  have p2 : w1.cell? ⟨w.heap.size, 2, none⟩ = some (.int .i64 rm) := p_p.1 2 _ rfl
  have p3 : w1.cell? ⟨w.heap.size, 3, none⟩ = some (.int .i64 rh) := p_p.1 3 _ rfl
  have p4 : w1.cell? ⟨w.heap.size, 4, none⟩ = some (.int .i64 lc) := p_p.1 4 _ rfl
  have p5 : w1.cell? ⟨w.heap.size, 5, none⟩ = some (.int .i64 lm) := p_p.1 5 _ rfl
  have p6 : w1.cell? ⟨w.heap.size, 6, none⟩ = some (.int .i64 lh) := p_p.1 6 _ rfl
  have p7 : w1.cell? ⟨w.heap.size, 7, none⟩ = some (.bool x) := p_p.1 7 _ rfl
  have p8 : w1.cell? ⟨w.heap.size, 8, none⟩ = some (.bool y) := p_p.1 8 _ rfl
  have p9 : w1.cell? ⟨w.heap.size, 9, none⟩ = some (.bool z) := p_p.1 9 _ rfl
  have pz : w.heap.size < w1.heap.size := p_p.2.2
  clear p_p
  have q_r := p_r
  have r0 : w1.cell? ⟨w.heap.size + 1, 0, none⟩ = some (.int .i64 0) := p_r.1 0 _ rfl
  have rF0 : w1.frozen? ⟨w.heap.size + 1, 0, none⟩ = false := p_r.2.1 0 (by simp)
  have r1 : w1.cell? ⟨w.heap.size + 1, 1, none⟩ = some (.int .i64 0) := p_r.1 1 _ rfl
  have rF1 : w1.frozen? ⟨w.heap.size + 1, 1, none⟩ = false := p_r.2.1 1 (by simp)
  have r2 : w1.cell? ⟨w.heap.size + 1, 2, none⟩ = some (.int .i64 0) := p_r.1 2 _ rfl
  have rF2 : w1.frozen? ⟨w.heap.size + 1, 2, none⟩ = false := p_r.2.1 2 (by simp)
  have r3 : w1.cell? ⟨w.heap.size + 1, 3, none⟩ = some (.int .i64 0) := p_r.1 3 _ rfl
  have rF3 : w1.frozen? ⟨w.heap.size + 1, 3, none⟩ = false := p_r.2.1 3 (by simp)
  have r4 : w1.cell? ⟨w.heap.size + 1, 4, none⟩ = some (.int .i64 0) := p_r.1 4 _ rfl
  have rF4 : w1.frozen? ⟨w.heap.size + 1, 4, none⟩ = false := p_r.2.1 4 (by simp)
  have rz : w.heap.size + 1 < w1.heap.size := p_r.2.2
  clear p_r
  have hsw1 := hw1.size
  (try simp at hsw1)
  clear hw1
  clear bcq bcr MM
  obtain ⟨g, hg⟩ : ∃ g, g = ctB n rc rm rh lc lm lh := ⟨_, rfl⟩
  rw [← hg]
  have HG : Hid (R = if g = true then kctV rc rm lc lm lh else k0V) := by unfold Hid; rw [hg]; exact HR.out
  clear hg HR
  cases g with
  | false =>
    have X : Hid (R = k0V) := HG
    clear HG
    go_wp2
    refine bodyPost_ret (v := R) (by rw [X.out]; simp [results, Tryd.results10, go_sem, r0, r1, r2, r3, r4]) rfl ⟨rfl, by go_grown⟩
  | true =>
    have X : Hid (R = kctV rc rm lc lm lh) := HG
    clear HG
    go_upto_region 3 with (fail)
    have F_0 : Hid (Cs _ w.heap.size [.string n, .int .i64 rc, .int .i64 rm, .int .i64 rh, .int .i64 lc, .int .i64 lm, .int .i64 lh, .bool x, .bool y, .bool z] ∧ Cs _ (w.heap.size + 1) [.int .i64 0, .int .i64 0, .int .i64 0, .int .i64 0, .int .i64 0] ∧ Below w.heap.size w _) := ⟨Cs.drew q_p, Cs.drew q_r, Below.drew HBw1⟩
    refine wp_region_noPanic ?_
    refine wp_region_held_drew (S := fun w' => Cs w' w.heap.size [.string n, .int .i64 rc, .int .i64 rm, .int .i64 rh, .int .i64 lc, .int .i64 lm, .int .i64 lh, .bool x, .bool y, .bool z]) (by kernel_rfl) ?_ (fun hHeld => ?_)
    · exact F_0.out.1
    refine wpAnyH_take (i := 0) (v := ?_) rfl (by kernel_rfl) (by kernel_rfl) (by kernel_rfl) (fun _ _ _ h => h) (Or.inl ⟨by rfl, ?_⟩) (by assumption) ?_
    rotate_left
    · (intro wS hSw; have c0 := hSw.1 0 _ rfl; have c1 := hSw.1 1 _ rfl; have c2 := hSw.1 2 _ rfl; have c3 := hSw.1 3 _ rfl; have c4 := hSw.1 4 _ rfl; have c5 := hSw.1 5 _ rfl; have c6 := hSw.1 6 _ rfl; have c7 := hSw.1 7 _ rfl; have c8 := hSw.1 8 _ rfl; have c9 := hSw.1 9 _ rfl; have cz := hSw.2.2; go_simp; try with_reducible rfl)
    change wpAnyH _ _ _ _ _ _ _ (Act.put _ (some 7) _) _
    simp only [Act.put, List.setIfInBounds_toArray, List.set_cons_zero, List.set_cons_succ]
    refine wpAnyH_take (i := 1) (v := ?_) rfl (by kernel_rfl) (by kernel_rfl) (by kernel_rfl) (fun _ _ _ h => h) (Or.inl ⟨by rfl, ?_⟩) (by assumption) ?_
    rotate_left
    · (intro wS hSw; have c0 := hSw.1 0 _ rfl; have c1 := hSw.1 1 _ rfl; have c2 := hSw.1 2 _ rfl; have c3 := hSw.1 3 _ rfl; have c4 := hSw.1 4 _ rfl; have c5 := hSw.1 5 _ rfl; have c6 := hSw.1 6 _ rfl; have c7 := hSw.1 7 _ rfl; have c8 := hSw.1 8 _ rfl; have c9 := hSw.1 9 _ rfl; have cz := hSw.2.2; go_simp; try with_reducible rfl)
    change wpAnyH _ _ _ _ _ _ _ (Act.put _ (some 8) _) _
    simp only [Act.put, List.setIfInBounds_toArray, List.set_cons_zero, List.set_cons_succ]
    refine wpAnyH_take (i := 2) (v := ?_) rfl (by kernel_rfl) (by kernel_rfl) (by kernel_rfl) (fun _ _ _ h => h) (Or.inl ⟨by rfl, ?_⟩) (by assumption) ?_
    rotate_left
    · (intro wS hSw; have c0 := hSw.1 0 _ rfl; have c1 := hSw.1 1 _ rfl; have c2 := hSw.1 2 _ rfl; have c3 := hSw.1 3 _ rfl; have c4 := hSw.1 4 _ rfl; have c5 := hSw.1 5 _ rfl; have c6 := hSw.1 6 _ rfl; have c7 := hSw.1 7 _ rfl; have c8 := hSw.1 8 _ rfl; have c9 := hSw.1 9 _ rfl; have cz := hSw.2.2; go_simp; try with_reducible rfl)
    change wpAnyH _ _ _ _ _ _ _ (Act.put _ (some 9) _) _
    simp only [Act.put, List.setIfInBounds_toArray, List.set_cons_zero, List.set_cons_succ]
    refine wpAnyH_take (i := 4) (v := ?_) rfl (by kernel_rfl) (by kernel_rfl) (by kernel_rfl) (fun _ _ _ h => h) (Or.inl ⟨by rfl, ?_⟩) (by assumption) ?_
    rotate_left
    · (intro wS hSw; have c0 := hSw.1 0 _ rfl; have c1 := hSw.1 1 _ rfl; have c2 := hSw.1 2 _ rfl; have c3 := hSw.1 3 _ rfl; have c4 := hSw.1 4 _ rfl; have c5 := hSw.1 5 _ rfl; have c6 := hSw.1 6 _ rfl; have c7 := hSw.1 7 _ rfl; have c8 := hSw.1 8 _ rfl; have c9 := hSw.1 9 _ rfl; have cz := hSw.2.2; go_simp; try with_reducible rfl)
    change wpAnyH _ _ _ _ _ _ _ (Act.put _ (some 11) _) _
    simp only [Act.put, List.setIfInBounds_toArray, List.set_cons_zero, List.set_cons_succ]
    refine wpAnyH_take (i := 5) (v := ?_) rfl (by kernel_rfl) (by kernel_rfl) (by kernel_rfl) (fun _ _ _ h => h) (Or.inl ⟨by rfl, ?_⟩) (by assumption) ?_
    rotate_left
    · (intro wS hSw; have c0 := hSw.1 0 _ rfl; have c1 := hSw.1 1 _ rfl; have c2 := hSw.1 2 _ rfl; have c3 := hSw.1 3 _ rfl; have c4 := hSw.1 4 _ rfl; have c5 := hSw.1 5 _ rfl; have c6 := hSw.1 6 _ rfl; have c7 := hSw.1 7 _ rfl; have c8 := hSw.1 8 _ rfl; have c9 := hSw.1 9 _ rfl; have cz := hSw.2.2; go_simp; try with_reducible rfl)
    change wpAnyH _ _ _ _ _ _ _ (Act.put _ (some 12) _) _
    simp only [Act.put, List.setIfInBounds_toArray, List.set_cons_zero, List.set_cons_succ]
    refine wpAnyH_take (i := 6) (v := ?_) rfl (by kernel_rfl) (by kernel_rfl) (by kernel_rfl) (fun _ _ _ h => h) (Or.inl ⟨by rfl, ?_⟩) (by assumption) ?_
    rotate_left
    · (intro wS hSw; have c0 := hSw.1 0 _ rfl; have c1 := hSw.1 1 _ rfl; have c2 := hSw.1 2 _ rfl; have c3 := hSw.1 3 _ rfl; have c4 := hSw.1 4 _ rfl; have c5 := hSw.1 5 _ rfl; have c6 := hSw.1 6 _ rfl; have c7 := hSw.1 7 _ rfl; have c8 := hSw.1 8 _ rfl; have c9 := hSw.1 9 _ rfl; have cz := hSw.2.2; go_simp; try with_reducible rfl)
    change wpAnyH _ _ _ _ _ _ _ (Act.put _ (some 13) _) _
    simp only [Act.put, List.setIfInBounds_toArray, List.set_cons_zero, List.set_cons_succ]
    refine wpAnyH_take (i := 8) (v := ?_) rfl (by kernel_rfl) (by kernel_rfl) (by kernel_rfl) (fun _ _ _ h => h) (Or.inl ⟨by rfl, ?_⟩) (by assumption) ?_
    rotate_left
    · (intro wS hSw; have c0 := hSw.1 0 _ rfl; have c1 := hSw.1 1 _ rfl; have c2 := hSw.1 2 _ rfl; have c3 := hSw.1 3 _ rfl; have c4 := hSw.1 4 _ rfl; have c5 := hSw.1 5 _ rfl; have c6 := hSw.1 6 _ rfl; have c7 := hSw.1 7 _ rfl; have c8 := hSw.1 8 _ rfl; have c9 := hSw.1 9 _ rfl; have cz := hSw.2.2; go_simp; try with_reducible rfl)
    change wpAnyH _ _ _ _ _ _ _ (Act.put _ (some 15) _) _
    simp only [Act.put, List.setIfInBounds_toArray, List.set_cons_zero, List.set_cons_succ]
    refine wpAnyH_take (i := 9) (v := ?_) rfl (by kernel_rfl) (by kernel_rfl) (by kernel_rfl) (fun _ _ _ h => h) (Or.inl ⟨by rfl, ?_⟩) (by assumption) ?_
    rotate_left
    · (intro wS hSw; have c0 := hSw.1 0 _ rfl; have c1 := hSw.1 1 _ rfl; have c2 := hSw.1 2 _ rfl; have c3 := hSw.1 3 _ rfl; have c4 := hSw.1 4 _ rfl; have c5 := hSw.1 5 _ rfl; have c6 := hSw.1 6 _ rfl; have c7 := hSw.1 7 _ rfl; have c8 := hSw.1 8 _ rfl; have c9 := hSw.1 9 _ rfl; have cz := hSw.2.2; go_simp; try with_reducible rfl)
    change wpAnyH _ _ _ _ _ _ _ (Act.put _ (some 16) _) _
    simp only [Act.put, List.setIfInBounds_toArray, List.set_cons_zero, List.set_cons_succ]
    refine wpAnyH_take (i := 10) (v := ?_) rfl (by kernel_rfl) (by kernel_rfl) (by kernel_rfl) (fun _ _ _ h => h) (Or.inl ⟨by rfl, ?_⟩) (by assumption) ?_
    rotate_left
    · (intro wS hSw; have c0 := hSw.1 0 _ rfl; have c1 := hSw.1 1 _ rfl; have c2 := hSw.1 2 _ rfl; have c3 := hSw.1 3 _ rfl; have c4 := hSw.1 4 _ rfl; have c5 := hSw.1 5 _ rfl; have c6 := hSw.1 6 _ rfl; have c7 := hSw.1 7 _ rfl; have c8 := hSw.1 8 _ rfl; have c9 := hSw.1 9 _ rfl; have cz := hSw.2.2; go_simp; try with_reducible rfl)
    change wpAnyH _ _ _ _ _ _ _ (Act.put _ (some 17) _) _
    simp only [Act.put, List.setIfInBounds_toArray, List.set_cons_zero, List.set_cons_succ]
    refine wpAnyH_take (i := 11) (v := ?_) rfl (by kernel_rfl) (by kernel_rfl) (by kernel_rfl) (fun _ _ _ h => h) (Or.inl ⟨by rfl, ?_⟩) (by assumption) ?_
    rotate_left
    · (intro wS hSw; have c0 := hSw.1 0 _ rfl; have c1 := hSw.1 1 _ rfl; have c2 := hSw.1 2 _ rfl; have c3 := hSw.1 3 _ rfl; have c4 := hSw.1 4 _ rfl; have c5 := hSw.1 5 _ rfl; have c6 := hSw.1 6 _ rfl; have c7 := hSw.1 7 _ rfl; have c8 := hSw.1 8 _ rfl; have c9 := hSw.1 9 _ rfl; have cz := hSw.2.2; go_simp; try with_reducible rfl)
    change wpAnyH _ _ _ _ _ _ _ (Act.put _ (some 18) _) _
    simp only [Act.put, List.setIfInBounds_toArray, List.set_cons_zero, List.set_cons_succ]
    refine wpAnyH_take (i := 12) (v := ?_) rfl (by kernel_rfl) (by kernel_rfl) (by kernel_rfl) (fun _ _ _ h => h) (Or.inl ⟨by rfl, ?_⟩) (by assumption) ?_
    rotate_left
    · (intro wS hSw; have c0 := hSw.1 0 _ rfl; have c1 := hSw.1 1 _ rfl; have c2 := hSw.1 2 _ rfl; have c3 := hSw.1 3 _ rfl; have c4 := hSw.1 4 _ rfl; have c5 := hSw.1 5 _ rfl; have c6 := hSw.1 6 _ rfl; have c7 := hSw.1 7 _ rfl; have c8 := hSw.1 8 _ rfl; have c9 := hSw.1 9 _ rfl; have cz := hSw.2.2; go_simp; try with_reducible rfl)
    change wpAnyH _ _ _ _ _ _ _ (Act.put _ (some 19) _) _
    simp only [Act.put, List.setIfInBounds_toArray, List.set_cons_zero, List.set_cons_succ]
    refine wpAnyH_take (i := 13) (v := ?_) rfl (by kernel_rfl) (by kernel_rfl) (by kernel_rfl) (fun _ _ _ h => h) (Or.inl ⟨by rfl, ?_⟩) (by assumption) ?_
    rotate_left
    · (intro wS hSw; have c0 := hSw.1 0 _ rfl; have c1 := hSw.1 1 _ rfl; have c2 := hSw.1 2 _ rfl; have c3 := hSw.1 3 _ rfl; have c4 := hSw.1 4 _ rfl; have c5 := hSw.1 5 _ rfl; have c6 := hSw.1 6 _ rfl; have c7 := hSw.1 7 _ rfl; have c8 := hSw.1 8 _ rfl; have c9 := hSw.1 9 _ rfl; have cz := hSw.2.2; go_simp; try with_reducible rfl)
    change wpAnyH _ _ _ _ _ _ _ (Act.put _ (some 20) _) _
    simp only [Act.put, List.setIfInBounds_toArray, List.set_cons_zero, List.set_cons_succ]
    refine wpAnyH_take (i := 15) (v := ?_) rfl (by kernel_rfl) (by kernel_rfl) (by kernel_rfl) (fun _ _ _ h => h) (Or.inl ⟨by rfl, ?_⟩) (by assumption) ?_
    rotate_left
    · (intro wS hSw; have c0 := hSw.1 0 _ rfl; have c1 := hSw.1 1 _ rfl; have c2 := hSw.1 2 _ rfl; have c3 := hSw.1 3 _ rfl; have c4 := hSw.1 4 _ rfl; have c5 := hSw.1 5 _ rfl; have c6 := hSw.1 6 _ rfl; have c7 := hSw.1 7 _ rfl; have c8 := hSw.1 8 _ rfl; have c9 := hSw.1 9 _ rfl; have cz := hSw.2.2; go_simp; try with_reducible rfl)
    change wpAnyH _ _ _ _ _ _ _ (Act.put _ (some 22) _) _
    simp only [Act.put, List.setIfInBounds_toArray, List.set_cons_zero, List.set_cons_succ]
    refine wpAnyH_take (i := 16) (v := ?_) rfl (by kernel_rfl) (by kernel_rfl) (by kernel_rfl) (fun _ _ _ h => h) (Or.inl ⟨by rfl, ?_⟩) (by assumption) ?_
    rotate_left
    · (intro wS hSw; have c0 := hSw.1 0 _ rfl; have c1 := hSw.1 1 _ rfl; have c2 := hSw.1 2 _ rfl; have c3 := hSw.1 3 _ rfl; have c4 := hSw.1 4 _ rfl; have c5 := hSw.1 5 _ rfl; have c6 := hSw.1 6 _ rfl; have c7 := hSw.1 7 _ rfl; have c8 := hSw.1 8 _ rfl; have c9 := hSw.1 9 _ rfl; have cz := hSw.2.2; go_simp; try with_reducible rfl)
    change wpAnyH _ _ _ _ _ _ _ (Act.put _ (some 23) _) _
    simp only [Act.put, List.setIfInBounds_toArray, List.set_cons_zero, List.set_cons_succ]
    refine wpAnyH_take (i := 17) (v := ?_) rfl (by kernel_rfl) (by kernel_rfl) (by kernel_rfl) (fun _ _ _ h => h) (Or.inl ⟨by rfl, ?_⟩) (by assumption) ?_
    rotate_left
    · (intro wS hSw; have c0 := hSw.1 0 _ rfl; have c1 := hSw.1 1 _ rfl; have c2 := hSw.1 2 _ rfl; have c3 := hSw.1 3 _ rfl; have c4 := hSw.1 4 _ rfl; have c5 := hSw.1 5 _ rfl; have c6 := hSw.1 6 _ rfl; have c7 := hSw.1 7 _ rfl; have c8 := hSw.1 8 _ rfl; have c9 := hSw.1 9 _ rfl; have cz := hSw.2.2; go_simp; try with_reducible rfl)
    change wpAnyH _ _ _ _ _ _ _ (Act.put _ (some 24) _) _
    simp only [Act.put, List.setIfInBounds_toArray, List.set_cons_zero, List.set_cons_succ]
    refine wpAnyH_ready (rs := [3]) (by kernel_rfl) (by simp) ?_
    refine AllReadyH.cons rfl (fun K hK => ?_) AllReadyH.nil
    go_simp
    refine (limit_b _ _).mono ?_
    rintro e v1 ⟨rfl, hv1⟩
    have F_1 : Hid (Cs v1 w.heap.size [.string n, .int .i64 rc, .int .i64 rm, .int .i64 rh, .int .i64 lc, .int .i64 lm, .int .i64 lh, .bool x, .bool y, .bool z] ∧ Cs v1 (w.heap.size + 1) [.int .i64 0, .int .i64 0, .int .i64 0, .int .i64 0, .int .i64 0] ∧ Below w.heap.size w v1) := ⟨Cs.later hv1 F_0.out.1, Cs.later hv1 F_0.out.2.1, F_0.out.2.2.trans (hv1.mono F_0.out.2.2.size)⟩
    clear hv1 F_0
    (try go_wp2_with (fail))
    refine hK.out _ _ ?_ (fun hHeld => ?_)
    · exact F_1.out.1
    clear hK K
    refine wpAnyH_ready (rs := [7]) (by kernel_rfl) (by simp) ?_
    refine AllReadyH.cons rfl (fun K hK => ?_) AllReadyH.nil
    go_simp
    refine (weight_b _ _).mono ?_
    rintro e v2 ⟨rfl, hv2⟩
    have F_2 : Hid (Cs v2 w.heap.size [.string n, .int .i64 rc, .int .i64 rm, .int .i64 rh, .int .i64 lc, .int .i64 lm, .int .i64 lh, .bool x, .bool y, .bool z] ∧ Cs v2 (w.heap.size + 1) [.int .i64 0, .int .i64 0, .int .i64 0, .int .i64 0, .int .i64 0] ∧ Below w.heap.size w v2) := ⟨Cs.later hv2 F_1.out.1, Cs.later hv2 F_1.out.2.1, F_1.out.2.2.trans (hv2.mono F_1.out.2.2.size)⟩
    clear hv2 F_1
    (try go_wp2_with (fail))
    refine hK.out _ _ ?_ (fun hHeld => ?_)
    · exact F_2.out.1
    clear hK K
    refine wpAnyH_ready (rs := [14]) (by kernel_rfl) (by simp) ?_
    refine AllReadyH.cons rfl (fun K hK => ?_) AllReadyH.nil
    go_simp
    refine (limit_b _ _).mono ?_
    rintro e v3 ⟨rfl, hv3⟩
    have F_3 : Hid (Cs v3 w.heap.size [.string n, .int .i64 rc, .int .i64 rm, .int .i64 rh, .int .i64 lc, .int .i64 lm, .int .i64 lh, .bool x, .bool y, .bool z] ∧ Cs v3 (w.heap.size + 1) [.int .i64 0, .int .i64 0, .int .i64 0, .int .i64 0, .int .i64 0] ∧ Below w.heap.size w v3) := ⟨Cs.later hv3 F_2.out.1, Cs.later hv3 F_2.out.2.1, F_2.out.2.2.trans (hv3.mono F_2.out.2.2.size)⟩
    clear hv3 F_2
    (try go_wp2_with (fail))
    refine hK.out _ _ ?_ (fun hHeld => ?_)
    · exact F_3.out.1
    clear hK K
    refine wpAnyH_take (i := 18) (v := ?_) rfl (by kernel_rfl) (by kernel_rfl) (by kernel_rfl) (fun _ _ _ h => h) (Or.inl ⟨by rfl, ?_⟩) (by assumption) ?_
    rotate_left
    · (intro wS hSw; have c0 := hSw.1 0 _ rfl; have c1 := hSw.1 1 _ rfl; have c2 := hSw.1 2 _ rfl; have c3 := hSw.1 3 _ rfl; have c4 := hSw.1 4 _ rfl; have c5 := hSw.1 5 _ rfl; have c6 := hSw.1 6 _ rfl; have c7 := hSw.1 7 _ rfl; have c8 := hSw.1 8 _ rfl; have c9 := hSw.1 9 _ rfl; have cz := hSw.2.2; go_simp; try with_reducible rfl)
    change wpAnyH _ _ _ _ _ _ _ (Act.put _ (some 25) _) _
    simp only [Act.put, List.setIfInBounds_toArray, List.set_cons_zero, List.set_cons_succ]
    refine wpAnyH_ready (rs := [19]) (by kernel_rfl) (by simp) ?_
    refine AllReadyH.cons rfl (fun K hK => ?_) AllReadyH.nil
    have HBs := F_3.out.2.2
    have hss := HBs.size
    have s0 := F_3.out.2.1.1 0 _ rfl
    have s1 := F_3.out.2.1.1 1 _ rfl
    have s2 := F_3.out.2.1.1 2 _ rfl
    have s3 := F_3.out.2.1.1 3 _ rfl
    have s4 := F_3.out.2.1.1 4 _ rfl
    have sF0 := F_3.out.2.1.2.1 0 (by simp)
    have sF1 := F_3.out.2.1.2.1 1 (by simp)
    have sF2 := F_3.out.2.1.2.1 2 (by simp)
    have sF3 := F_3.out.2.1.2.1 3 (by simp)
    have sF4 := F_3.out.2.1.2.1 4 (by simp)
    have sz := F_3.out.2.1.2.2
    go_wp2_with (fail)
    refine hK.out _ _ ?_ (fun hHeld => ?_)
    · exact Cs.beside (Cs.beside (Cs.beside (Cs.beside (Cs.beside F_3.out.1 _ _ (by omega)) _ _ (by omega)) _ _ (by omega)) _ _ (by omega)) _ _ (by omega)
    clear hK K
    refine wpAnyH_done (by kernel_rfl) ?_ _
    refine NoPanic.normal ?_
    go_wp2_with (fail)
    refine bodyPost_ret (v := R) (by rw [X.out]; simp [results, Tryd.results10, go_sem, s0, s1, s2, s3, s4]) rfl ⟨rfl, by go_grown⟩

set_option maxHeartbeats 4000000 in
set_option maxRecDepth 100000 in
theorem rcontainerK_is (n : ByteArray) (rc rm rh lc lm lh : Int) (x y z : Bool) (hm : n.size ≤ maxLen) (w : World) :
    Calls Tryd.prog 11 #[.agg #[.string n, .int .i64 rc, .int .i64 rm, .int .i64 rh, .int .i64 lc, .int .i64 lm, .int .i64 lh, .bool x, .bool y, .bool z]] w fun e w' => e = .returned (if ctB n rc rm rh lc lm lh = true then kctV rc rm lc lm lh else k0V) ∧ Below w.heap.size w w' := by
  have MM : Hid (n.size ≤ maxLen) := hm
  have bcq : Cs ((w.alloc (.cells #[.string n, .int .i64 rc, .int .i64 rm, .int .i64 rh, .int .i64 lc, .int .i64 lm, .int .i64 lh, .bool x, .bool y, .bool z] 26)).alloc (.cells #[.int .i64 0, .int .i64 0, .int .i64 0, .int .i64 0, .int .i64 0] 33)) w.heap.size [.string n, .int .i64 rc, .int .i64 rm, .int .i64 rh, .int .i64 lc, .int .i64 lm, .int .i64 lh, .bool x, .bool y, .bool z] := (by repeat (first | assumption | (refine Cs.new _ _ _ _ ?_; simp; done) | refine Cs.alloc ?_ _ | refine Cs.drew ?_ | (refine Cs.beside ?_ _ _ (by omega))))
  have bcr : Cs ((w.alloc (.cells #[.string n, .int .i64 rc, .int .i64 rm, .int .i64 rh, .int .i64 lc, .int .i64 lm, .int .i64 lh, .bool x, .bool y, .bool z] 26)).alloc (.cells #[.int .i64 0, .int .i64 0, .int .i64 0, .int .i64 0, .int .i64 0] 33)) (w.heap.size + 1) [.int .i64 0, .int .i64 0, .int .i64 0, .int .i64 0, .int .i64 0] := (by repeat (first | assumption | (refine Cs.new _ _ _ _ ?_; simp; done) | refine Cs.alloc ?_ _ | refine Cs.drew ?_ | (refine Cs.beside ?_ _ _ (by omega))))
  obtain ⟨R, hR⟩ : ∃ R, R = if ctB n rc rm rh lc lm lh = true then kctV rc rm lc lm lh else k0V := ⟨_, rfl⟩
  rw [← hR]
  have HR : Hid (R = if ctB n rc rm rh lc lm lh = true then kctV rc rm lc lm lh else k0V) := hR
  clear hm hR
  go_enter Tryd.func11, Tryd.ntmps11
  go_wp2_with (fail)
  refine (refContainer_is n rc rm rh lc lm lh x y z MM.out _).mono ?_
  rintro e w1 ⟨rfl, hw1⟩
  have HBw1 : Below w.heap.size w w1 := Below.trans (by go_grown) (hw1.mono (by first | omega | (simp; done) | (simp; omega)))
  have p_p : Cs w1 (w.heap.size) [.string n, .int .i64 rc, .int .i64 rm, .int .i64 rh, .int .i64 lc, .int .i64 lm, .int .i64 lh, .bool x, .bool y, .bool z] := Cs.later hw1 (by repeat (first | assumption | (refine Cs.new _ _ _ _ ?_; simp; done) | refine Cs.alloc ?_ _ | refine Cs.drew ?_ | (refine Cs.beside ?_ _ _ (by omega))))
  have p_r : Cs w1 (w.heap.size + 1) [.int .i64 0, .int .i64 0, .int .i64 0, .int .i64 0, .int .i64 0] := Cs.later hw1 (by repeat (first | assumption | (refine Cs.new _ _ _ _ ?_; simp; done) | refine Cs.alloc ?_ _ | refine Cs.drew ?_ | (refine Cs.beside ?_ _ _ (by omega))))
  have q_p := p_p
  have p0 : w1.cell? ⟨w.heap.size, 0, none⟩ = some (.string n) := p_p.1 0 _ rfl
  have p1 : w1.cell? ⟨w.heap.size, 1, none⟩ = some (.int .i64 rc) := p_p.1 1 _ rfl
  have p2 : w1.cell? ⟨w.heap.size, 2, none⟩ = some (.int .i64 rm) := p_p.1 2 _ rfl
  have p3 : w1.cell? ⟨w.heap.size, 3, none⟩ = some (.int .i64 rh) := p_p.1 3 _ rfl
  have p4 : w1.cell? ⟨w.heap.size, 4, none⟩ = some (.int .i64 lc) := p_p.1 4 _ rfl
  have p5 : w1.cell? ⟨w.heap.size, 5, none⟩ = some (.int .i64 lm) := p_p.1 5 _ rfl
  have p6 : w1.cell? ⟨w.heap.size, 6, none⟩ = some (.int .i64 lh) := p_p.1 6 _ rfl
  have p7 : w1.cell? ⟨w.heap.size, 7, none⟩ = some (.bool x) := p_p.1 7 _ rfl
  have p8 : w1.cell? ⟨w.heap.size, 8, none⟩ = some (.bool y) := p_p.1 8 _ rfl
  have p9 : w1.cell? ⟨w.heap.size, 9, none⟩ = some (.bool z) := p_p.1 9 _ rfl
  have pz : w.heap.size < w1.heap.size := p_p.2.2
  clear p_p
  have q_r := p_r
  have r0 : w1.cell? ⟨w.heap.size + 1, 0, none⟩ = some (.int .i64 0) := p_r.1 0 _ rfl
  have rF0 : w1.frozen? ⟨w.heap.size + 1, 0, none⟩ = false := p_r.2.1 0 (by simp)
  have r1 : w1.cell? ⟨w.heap.size + 1, 1, none⟩ = some (.int .i64 0) := p_r.1 1 _ rfl
  have rF1 : w1.frozen? ⟨w.heap.size + 1, 1, none⟩ = false := p_r.2.1 1 (by simp)
  have r2 : w1.cell? ⟨w.heap.size + 1, 2, none⟩ = some (.int .i64 0) := p_r.1 2 _ rfl
  have rF2 : w1.frozen? ⟨w.heap.size + 1, 2, none⟩ = false := p_r.2.1 2 (by simp)
  have r3 : w1.cell? ⟨w.heap.size + 1, 3, none⟩ = some (.int .i64 0) := p_r.1 3 _ rfl
  have rF3 : w1.frozen? ⟨w.heap.size + 1, 3, none⟩ = false := p_r.2.1 3 (by simp)
  have r4 : w1.cell? ⟨w.heap.size + 1, 4, none⟩ = some (.int .i64 0) := p_r.1 4 _ rfl
  have rF4 : w1.frozen? ⟨w.heap.size + 1, 4, none⟩ = false := p_r.2.1 4 (by simp)
  have rz : w.heap.size + 1 < w1.heap.size := p_r.2.2
  clear p_r
  have hsw1 := hw1.size
  (try simp at hsw1)
  clear hw1
  clear bcq bcr MM
  obtain ⟨g, hg⟩ : ∃ g, g = ctB n rc rm rh lc lm lh := ⟨_, rfl⟩
  rw [← hg]
  have HG : Hid (R = if g = true then kctV rc rm lc lm lh else k0V) := by unfold Hid; rw [hg]; exact HR.out
  clear hg HR
  cases g with
  | false =>
    have X : Hid (R = k0V) := HG
    clear HG
    go_wp2
    refine bodyPost_ret (v := R) (by rw [X.out]; simp [results, Tryd.results11, go_sem, r0, r1, r2, r3, r4]) rfl ⟨rfl, by go_grown⟩
  | true =>
    have X : Hid (R = kctV rc rm lc lm lh) := HG
    clear HG
    go_upto_region 3 with (fail)
    have F_0 : Hid (Cs _ w.heap.size [.string n, .int .i64 rc, .int .i64 rm, .int .i64 rh, .int .i64 lc, .int .i64 lm, .int .i64 lh, .bool x, .bool y, .bool z] ∧ Cs _ (w.heap.size + 1) [.int .i64 0, .int .i64 0, .int .i64 0, .int .i64 0, .int .i64 0] ∧ Below w.heap.size w _) := ⟨Cs.drew q_p, Cs.drew q_r, Below.drew HBw1⟩
    refine wp_region_noPanic ?_
    refine wp_region_held_drew (S := fun w' => Cs w' w.heap.size [.string n, .int .i64 rc, .int .i64 rm, .int .i64 rh, .int .i64 lc, .int .i64 lm, .int .i64 lh, .bool x, .bool y, .bool z]) (by kernel_rfl) ?_ (fun hHeld => ?_)
    · exact F_0.out.1
    refine wpAnyH_take (i := 0) (v := ?_) rfl (by kernel_rfl) (by kernel_rfl) (by kernel_rfl) (fun _ _ _ h => h) (Or.inl ⟨by rfl, ?_⟩) (by assumption) ?_
    rotate_left
    · (intro wS hSw; have c0 := hSw.1 0 _ rfl; have c1 := hSw.1 1 _ rfl; have c2 := hSw.1 2 _ rfl; have c3 := hSw.1 3 _ rfl; have c4 := hSw.1 4 _ rfl; have c5 := hSw.1 5 _ rfl; have c6 := hSw.1 6 _ rfl; have c7 := hSw.1 7 _ rfl; have c8 := hSw.1 8 _ rfl; have c9 := hSw.1 9 _ rfl; have cz := hSw.2.2; go_simp; try with_reducible rfl)
    change wpAnyH _ _ _ _ _ _ _ (Act.put _ (some 7) _) _
    simp only [Act.put, List.setIfInBounds_toArray, List.set_cons_zero, List.set_cons_succ]
    refine wpAnyH_take (i := 1) (v := ?_) rfl (by kernel_rfl) (by kernel_rfl) (by kernel_rfl) (fun _ _ _ h => h) (Or.inl ⟨by rfl, ?_⟩) (by assumption) ?_
    rotate_left
    · (intro wS hSw; have c0 := hSw.1 0 _ rfl; have c1 := hSw.1 1 _ rfl; have c2 := hSw.1 2 _ rfl; have c3 := hSw.1 3 _ rfl; have c4 := hSw.1 4 _ rfl; have c5 := hSw.1 5 _ rfl; have c6 := hSw.1 6 _ rfl; have c7 := hSw.1 7 _ rfl; have c8 := hSw.1 8 _ rfl; have c9 := hSw.1 9 _ rfl; have cz := hSw.2.2; go_simp; try with_reducible rfl)
    change wpAnyH _ _ _ _ _ _ _ (Act.put _ (some 8) _) _
    simp only [Act.put, List.setIfInBounds_toArray, List.set_cons_zero, List.set_cons_succ]
    refine wpAnyH_take (i := 2) (v := ?_) rfl (by kernel_rfl) (by kernel_rfl) (by kernel_rfl) (fun _ _ _ h => h) (Or.inl ⟨by rfl, ?_⟩) (by assumption) ?_
    rotate_left
    · (intro wS hSw; have c0 := hSw.1 0 _ rfl; have c1 := hSw.1 1 _ rfl; have c2 := hSw.1 2 _ rfl; have c3 := hSw.1 3 _ rfl; have c4 := hSw.1 4 _ rfl; have c5 := hSw.1 5 _ rfl; have c6 := hSw.1 6 _ rfl; have c7 := hSw.1 7 _ rfl; have c8 := hSw.1 8 _ rfl; have c9 := hSw.1 9 _ rfl; have cz := hSw.2.2; go_simp; try with_reducible rfl)
    change wpAnyH _ _ _ _ _ _ _ (Act.put _ (some 9) _) _
    simp only [Act.put, List.setIfInBounds_toArray, List.set_cons_zero, List.set_cons_succ]
    refine wpAnyH_take (i := 4) (v := ?_) rfl (by kernel_rfl) (by kernel_rfl) (by kernel_rfl) (fun _ _ _ h => h) (Or.inl ⟨by rfl, ?_⟩) (by assumption) ?_
    rotate_left
    · (intro wS hSw; have c0 := hSw.1 0 _ rfl; have c1 := hSw.1 1 _ rfl; have c2 := hSw.1 2 _ rfl; have c3 := hSw.1 3 _ rfl; have c4 := hSw.1 4 _ rfl; have c5 := hSw.1 5 _ rfl; have c6 := hSw.1 6 _ rfl; have c7 := hSw.1 7 _ rfl; have c8 := hSw.1 8 _ rfl; have c9 := hSw.1 9 _ rfl; have cz := hSw.2.2; go_simp; try with_reducible rfl)
    change wpAnyH _ _ _ _ _ _ _ (Act.put _ (some 11) _) _
    simp only [Act.put, List.setIfInBounds_toArray, List.set_cons_zero, List.set_cons_succ]
    refine wpAnyH_take (i := 5) (v := ?_) rfl (by kernel_rfl) (by kernel_rfl) (by kernel_rfl) (fun _ _ _ h => h) (Or.inl ⟨by rfl, ?_⟩) (by assumption) ?_
    rotate_left
    · (intro wS hSw; have c0 := hSw.1 0 _ rfl; have c1 := hSw.1 1 _ rfl; have c2 := hSw.1 2 _ rfl; have c3 := hSw.1 3 _ rfl; have c4 := hSw.1 4 _ rfl; have c5 := hSw.1 5 _ rfl; have c6 := hSw.1 6 _ rfl; have c7 := hSw.1 7 _ rfl; have c8 := hSw.1 8 _ rfl; have c9 := hSw.1 9 _ rfl; have cz := hSw.2.2; go_simp; try with_reducible rfl)
    change wpAnyH _ _ _ _ _ _ _ (Act.put _ (some 12) _) _
    simp only [Act.put, List.setIfInBounds_toArray, List.set_cons_zero, List.set_cons_succ]
    refine wpAnyH_take (i := 6) (v := ?_) rfl (by kernel_rfl) (by kernel_rfl) (by kernel_rfl) (fun _ _ _ h => h) (Or.inl ⟨by rfl, ?_⟩) (by assumption) ?_
    rotate_left
    · (intro wS hSw; have c0 := hSw.1 0 _ rfl; have c1 := hSw.1 1 _ rfl; have c2 := hSw.1 2 _ rfl; have c3 := hSw.1 3 _ rfl; have c4 := hSw.1 4 _ rfl; have c5 := hSw.1 5 _ rfl; have c6 := hSw.1 6 _ rfl; have c7 := hSw.1 7 _ rfl; have c8 := hSw.1 8 _ rfl; have c9 := hSw.1 9 _ rfl; have cz := hSw.2.2; go_simp; try with_reducible rfl)
    change wpAnyH _ _ _ _ _ _ _ (Act.put _ (some 13) _) _
    simp only [Act.put, List.setIfInBounds_toArray, List.set_cons_zero, List.set_cons_succ]
    refine wpAnyH_take (i := 8) (v := ?_) rfl (by kernel_rfl) (by kernel_rfl) (by kernel_rfl) (fun _ _ _ h => h) (Or.inl ⟨by rfl, ?_⟩) (by assumption) ?_
    rotate_left
    · (intro wS hSw; have c0 := hSw.1 0 _ rfl; have c1 := hSw.1 1 _ rfl; have c2 := hSw.1 2 _ rfl; have c3 := hSw.1 3 _ rfl; have c4 := hSw.1 4 _ rfl; have c5 := hSw.1 5 _ rfl; have c6 := hSw.1 6 _ rfl; have c7 := hSw.1 7 _ rfl; have c8 := hSw.1 8 _ rfl; have c9 := hSw.1 9 _ rfl; have cz := hSw.2.2; go_simp; try with_reducible rfl)
    change wpAnyH _ _ _ _ _ _ _ (Act.put _ (some 15) _) _
    simp only [Act.put, List.setIfInBounds_toArray, List.set_cons_zero, List.set_cons_succ]
    refine wpAnyH_take (i := 9) (v := ?_) rfl (by kernel_rfl) (by kernel_rfl) (by kernel_rfl) (fun _ _ _ h => h) (Or.inl ⟨by rfl, ?_⟩) (by assumption) ?_
    rotate_left
    · (intro wS hSw; have c0 := hSw.1 0 _ rfl; have c1 := hSw.1 1 _ rfl; have c2 := hSw.1 2 _ rfl; have c3 := hSw.1 3 _ rfl; have c4 := hSw.1 4 _ rfl; have c5 := hSw.1 5 _ rfl; have c6 := hSw.1 6 _ rfl; have c7 := hSw.1 7 _ rfl; have c8 := hSw.1 8 _ rfl; have c9 := hSw.1 9 _ rfl; have cz := hSw.2.2; go_simp; try with_reducible rfl)
    change wpAnyH _ _ _ _ _ _ _ (Act.put _ (some 16) _) _
    simp only [Act.put, List.setIfInBounds_toArray, List.set_cons_zero, List.set_cons_succ]
    refine wpAnyH_take (i := 10) (v := ?_) rfl (by kernel_rfl) (by kernel_rfl) (by kernel_rfl) (fun _ _ _ h => h) (Or.inl ⟨by rfl, ?_⟩) (by assumption) ?_
    rotate_left
    · (intro wS hSw; have c0 := hSw.1 0 _ rfl; have c1 := hSw.1 1 _ rfl; have c2 := hSw.1 2 _ rfl; have c3 := hSw.1 3 _ rfl; have c4 := hSw.1 4 _ rfl; have c5 := hSw.1 5 _ rfl; have c6 := hSw.1 6 _ rfl; have c7 := hSw.1 7 _ rfl; have c8 := hSw.1 8 _ rfl; have c9 := hSw.1 9 _ rfl; have cz := hSw.2.2; go_simp; try with_reducible rfl)
    change wpAnyH _ _ _ _ _ _ _ (Act.put _ (some 17) _) _
    simp only [Act.put, List.setIfInBounds_toArray, List.set_cons_zero, List.set_cons_succ]
    refine wpAnyH_take (i := 11) (v := ?_) rfl (by kernel_rfl) (by kernel_rfl) (by kernel_rfl) (fun _ _ _ h => h) (Or.inl ⟨by rfl, ?_⟩) (by assumption) ?_
    rotate_left
    · (intro wS hSw; have c0 := hSw.1 0 _ rfl; have c1 := hSw.1 1 _ rfl; have c2 := hSw.1 2 _ rfl; have c3 := hSw.1 3 _ rfl; have c4 := hSw.1 4 _ rfl; have c5 := hSw.1 5 _ rfl; have c6 := hSw.1 6 _ rfl; have c7 := hSw.1 7 _ rfl; have c8 := hSw.1 8 _ rfl; have c9 := hSw.1 9 _ rfl; have cz := hSw.2.2; go_simp; try with_reducible rfl)
    change wpAnyH _ _ _ _ _ _ _ (Act.put _ (some 18) _) _
    simp only [Act.put, List.setIfInBounds_toArray, List.set_cons_zero, List.set_cons_succ]
    refine wpAnyH_take (i := 12) (v := ?_) rfl (by kernel_rfl) (by kernel_rfl) (by kernel_rfl) (fun _ _ _ h => h) (Or.inl ⟨by rfl, ?_⟩) (by assumption) ?_
    rotate_left
    · (intro wS hSw; have c0 := hSw.1 0 _ rfl; have c1 := hSw.1 1 _ rfl; have c2 := hSw.1 2 _ rfl; have c3 := hSw.1 3 _ rfl; have c4 := hSw.1 4 _ rfl; have c5 := hSw.1 5 _ rfl; have c6 := hSw.1 6 _ rfl; have c7 := hSw.1 7 _ rfl; have c8 := hSw.1 8 _ rfl; have c9 := hSw.1 9 _ rfl; have cz := hSw.2.2; go_simp; try with_reducible rfl)
    change wpAnyH _ _ _ _ _ _ _ (Act.put _ (some 19) _) _
    simp only [Act.put, List.setIfInBounds_toArray, List.set_cons_zero, List.set_cons_succ]
    refine wpAnyH_take (i := 13) (v := ?_) rfl (by kernel_rfl) (by kernel_rfl) (by kernel_rfl) (fun _ _ _ h => h) (Or.inl ⟨by rfl, ?_⟩) (by assumption) ?_
    rotate_left
    · (intro wS hSw; have c0 := hSw.1 0 _ rfl; have c1 := hSw.1 1 _ rfl; have c2 := hSw.1 2 _ rfl; have c3 := hSw.1 3 _ rfl; have c4 := hSw.1 4 _ rfl; have c5 := hSw.1 5 _ rfl; have c6 := hSw.1 6 _ rfl; have c7 := hSw.1 7 _ rfl; have c8 := hSw.1 8 _ rfl; have c9 := hSw.1 9 _ rfl; have cz := hSw.2.2; go_simp; try with_reducible rfl)
    change wpAnyH _ _ _ _ _ _ _ (Act.put _ (some 20) _) _
    simp only [Act.put, List.setIfInBounds_toArray, List.set_cons_zero, List.set_cons_succ]
    refine wpAnyH_take (i := 15) (v := ?_) rfl (by kernel_rfl) (by kernel_rfl) (by kernel_rfl) (fun _ _ _ h => h) (Or.inl ⟨by rfl, ?_⟩) (by assumption) ?_
    rotate_left
    · (intro wS hSw; have c0 := hSw.1 0 _ rfl; have c1 := hSw.1 1 _ rfl; have c2 := hSw.1 2 _ rfl; have c3 := hSw.1 3 _ rfl; have c4 := hSw.1 4 _ rfl; have c5 := hSw.1 5 _ rfl; have c6 := hSw.1 6 _ rfl; have c7 := hSw.1 7 _ rfl; have c8 := hSw.1 8 _ rfl; have c9 := hSw.1 9 _ rfl; have cz := hSw.2.2; go_simp; try with_reducible rfl)
    change wpAnyH _ _ _ _ _ _ _ (Act.put _ (some 22) _) _
    simp only [Act.put, List.setIfInBounds_toArray, List.set_cons_zero, List.set_cons_succ]
    refine wpAnyH_take (i := 16) (v := ?_) rfl (by kernel_rfl) (by kernel_rfl) (by kernel_rfl) (fun _ _ _ h => h) (Or.inl ⟨by rfl, ?_⟩) (by assumption) ?_
    rotate_left
    · (intro wS hSw; have c0 := hSw.1 0 _ rfl; have c1 := hSw.1 1 _ rfl; have c2 := hSw.1 2 _ rfl; have c3 := hSw.1 3 _ rfl; have c4 := hSw.1 4 _ rfl; have c5 := hSw.1 5 _ rfl; have c6 := hSw.1 6 _ rfl; have c7 := hSw.1 7 _ rfl; have c8 := hSw.1 8 _ rfl; have c9 := hSw.1 9 _ rfl; have cz := hSw.2.2; go_simp; try with_reducible rfl)
    change wpAnyH _ _ _ _ _ _ _ (Act.put _ (some 23) _) _
    simp only [Act.put, List.setIfInBounds_toArray, List.set_cons_zero, List.set_cons_succ]
    refine wpAnyH_take (i := 17) (v := ?_) rfl (by kernel_rfl) (by kernel_rfl) (by kernel_rfl) (fun _ _ _ h => h) (Or.inl ⟨by rfl, ?_⟩) (by assumption) ?_
    rotate_left
    · (intro wS hSw; have c0 := hSw.1 0 _ rfl; have c1 := hSw.1 1 _ rfl; have c2 := hSw.1 2 _ rfl; have c3 := hSw.1 3 _ rfl; have c4 := hSw.1 4 _ rfl; have c5 := hSw.1 5 _ rfl; have c6 := hSw.1 6 _ rfl; have c7 := hSw.1 7 _ rfl; have c8 := hSw.1 8 _ rfl; have c9 := hSw.1 9 _ rfl; have cz := hSw.2.2; go_simp; try with_reducible rfl)
    change wpAnyH _ _ _ _ _ _ _ (Act.put _ (some 24) _) _
    simp only [Act.put, List.setIfInBounds_toArray, List.set_cons_zero, List.set_cons_succ]
    refine wpAnyH_ready (rs := [3]) (by kernel_rfl) (by simp) ?_
    refine AllReadyH.cons rfl (fun K hK => ?_) AllReadyH.nil
    go_simp
    refine (rlimit_b _ _).mono ?_
    rintro e v1 ⟨rfl, hv1⟩
    have F_1 : Hid (Cs v1 w.heap.size [.string n, .int .i64 rc, .int .i64 rm, .int .i64 rh, .int .i64 lc, .int .i64 lm, .int .i64 lh, .bool x, .bool y, .bool z] ∧ Cs v1 (w.heap.size + 1) [.int .i64 0, .int .i64 0, .int .i64 0, .int .i64 0, .int .i64 0] ∧ Below w.heap.size w v1) := ⟨Cs.later hv1 F_0.out.1, Cs.later hv1 F_0.out.2.1, F_0.out.2.2.trans (hv1.mono F_0.out.2.2.size)⟩
    clear hv1 F_0
    (try go_wp2_with (fail))
    refine hK.out _ _ ?_ (fun hHeld => ?_)
    · exact F_1.out.1
    clear hK K
    refine wpAnyH_ready (rs := [7]) (by kernel_rfl) (by simp) ?_
    refine AllReadyH.cons rfl (fun K hK => ?_) AllReadyH.nil
    go_simp
    refine (rweight_b _ _).mono ?_
    rintro e v2 ⟨rfl, hv2⟩
    have F_2 : Hid (Cs v2 w.heap.size [.string n, .int .i64 rc, .int .i64 rm, .int .i64 rh, .int .i64 lc, .int .i64 lm, .int .i64 lh, .bool x, .bool y, .bool z] ∧ Cs v2 (w.heap.size + 1) [.int .i64 0, .int .i64 0, .int .i64 0, .int .i64 0, .int .i64 0] ∧ Below w.heap.size w v2) := ⟨Cs.later hv2 F_1.out.1, Cs.later hv2 F_1.out.2.1, F_1.out.2.2.trans (hv2.mono F_1.out.2.2.size)⟩
    clear hv2 F_1
    (try go_wp2_with (fail))
    refine hK.out _ _ ?_ (fun hHeld => ?_)
    · exact F_2.out.1
    clear hK K
    refine wpAnyH_ready (rs := [14]) (by kernel_rfl) (by simp) ?_
    refine AllReadyH.cons rfl (fun K hK => ?_) AllReadyH.nil
    go_simp
    refine (rlimit_b _ _).mono ?_
    rintro e v3 ⟨rfl, hv3⟩
    have F_3 : Hid (Cs v3 w.heap.size [.string n, .int .i64 rc, .int .i64 rm, .int .i64 rh, .int .i64 lc, .int .i64 lm, .int .i64 lh, .bool x, .bool y, .bool z] ∧ Cs v3 (w.heap.size + 1) [.int .i64 0, .int .i64 0, .int .i64 0, .int .i64 0, .int .i64 0] ∧ Below w.heap.size w v3) := ⟨Cs.later hv3 F_2.out.1, Cs.later hv3 F_2.out.2.1, F_2.out.2.2.trans (hv3.mono F_2.out.2.2.size)⟩
    clear hv3 F_2
    (try go_wp2_with (fail))
    refine hK.out _ _ ?_ (fun hHeld => ?_)
    · exact F_3.out.1
    clear hK K
    refine wpAnyH_take (i := 18) (v := ?_) rfl (by kernel_rfl) (by kernel_rfl) (by kernel_rfl) (fun _ _ _ h => h) (Or.inl ⟨by rfl, ?_⟩) (by assumption) ?_
    rotate_left
    · (intro wS hSw; have c0 := hSw.1 0 _ rfl; have c1 := hSw.1 1 _ rfl; have c2 := hSw.1 2 _ rfl; have c3 := hSw.1 3 _ rfl; have c4 := hSw.1 4 _ rfl; have c5 := hSw.1 5 _ rfl; have c6 := hSw.1 6 _ rfl; have c7 := hSw.1 7 _ rfl; have c8 := hSw.1 8 _ rfl; have c9 := hSw.1 9 _ rfl; have cz := hSw.2.2; go_simp; try with_reducible rfl)
    change wpAnyH _ _ _ _ _ _ _ (Act.put _ (some 25) _) _
    simp only [Act.put, List.setIfInBounds_toArray, List.set_cons_zero, List.set_cons_succ]
    refine wpAnyH_ready (rs := [19]) (by kernel_rfl) (by simp) ?_
    refine AllReadyH.cons rfl (fun K hK => ?_) AllReadyH.nil
    have HBs := F_3.out.2.2
    have hss := HBs.size
    have s0 := F_3.out.2.1.1 0 _ rfl
    have s1 := F_3.out.2.1.1 1 _ rfl
    have s2 := F_3.out.2.1.1 2 _ rfl
    have s3 := F_3.out.2.1.1 3 _ rfl
    have s4 := F_3.out.2.1.1 4 _ rfl
    have sF0 := F_3.out.2.1.2.1 0 (by simp)
    have sF1 := F_3.out.2.1.2.1 1 (by simp)
    have sF2 := F_3.out.2.1.2.1 2 (by simp)
    have sF3 := F_3.out.2.1.2.1 3 (by simp)
    have sF4 := F_3.out.2.1.2.1 4 (by simp)
    have sz := F_3.out.2.1.2.2
    go_wp2_with (fail)
    refine hK.out _ _ ?_ (fun hHeld => ?_)
    · exact Cs.beside (Cs.beside (Cs.beside (Cs.beside (Cs.beside F_3.out.1 _ _ (by omega)) _ _ (by omega)) _ _ (by omega)) _ _ (by omega)) _ _ (by omega)
    clear hK K
    refine wpAnyH_done (by kernel_rfl) ?_ _
    refine NoPanic.normal ?_
    go_wp2_with (fail)
    refine bodyPost_ret (v := R) (by rw [X.out]; simp [results, Tryd.results11, go_sem, s0, s1, s2, s3, s4]) rfl ⟨rfl, by go_grown⟩

end Go.Proofs.YtaeejemknmjglaaDoor.Sp
