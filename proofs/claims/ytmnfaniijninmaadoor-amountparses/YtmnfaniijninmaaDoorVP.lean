/-
  The walk of the statement AmountBack at this program: it returns true. Conditions: the words are words, the two tables of suffixes lie as the program's text lays them.
-/
import Derived.Test.YtmnfaniijninmaaDoorVO
import Derived.Test.YtmnfaniijninmaaDoorVM
namespace Go.Proofs.YtmnfaniijninmaaDoor
open Go.RowKit

theorem len_text (a : Nat) : (textL a).length ≤ 100 ∧ (binL a).length ≤ 100 := by
  have h1 : (textL a).length ≤ 100 := by
    unfold textL
    split
    · split
      · simp
      · have := dec_len (sh 1000 9 a 0).1
        have h := sh_le 1000 9 a 0
        have := decs_len (sh 1000 9 a 0).2 (by omega)
        simp only [List.length_append]; omega
    · simp
  refine ⟨h1, ?_⟩
  unfold binL
  split
  · split
    · exact h1
    · split
      · exact h1
      · have := dec_len (sh 1024 6 (a / 1000000000) 0).1
        have h := sh_le 1024 6 (a / 1000000000) 0
        have := bins_len ((sh 1024 6 (a / 1000000000) 0).2 - 1) (by omega)
        simp only [List.length_append]; omega
  · simp
theorem up_near (a : Nat) (h : a ≤ most) : up a 1000000000 ≤ 1152921504606846976 ∧ a ≤ up a 1000000000 * 1000000000 ∧ up a 1000000000 * 1000000000 - a < 1000000000 := by
  unfold up most at *
  omega
theorem parse_det {h l : Int} {v : Nat} {s : ByteArray} (hs : s.size ≤ 100) (e : parseL s.data.toList = (v, 0)) (i : Is h l v) (w : World) (hL : LaidW w) :
    Calls Tryd.prog 8 #[.string s] w fun e w' => e = .returned (.tuple #[.agg #[.int .u64 h, .int .u64 l], .int .i64 0]) ∧ Below w.heap.size w w' := by
  refine (parse_amount s (by unfold maxLen; omega) w hL).mono ?_
  rintro e' w' ⟨⟨h', k, g', rfl, hg, i'⟩, hw⟩
  rw [e] at hg i'
  subst hg
  obtain ⟨rfl, rfl⟩ := i'.det i
  exact ⟨rfl, hw⟩
theorem text_det {h l : Int} {v : Nat} (i : Is h l v) (w : World) (hL : LaidW w) :
    Calls Tryd.prog 16 #[.agg #[.int .u64 h, .int .u64 l]] w fun e w' => e = .returned (.string (ba (textL v))) ∧ Below w.heap.size w w' := by
  refine (text_amount i w hL).mono ?_
  rintro e w' ⟨⟨t, rfl, ht⟩, hw⟩
  exact ⟨by rw [ba_eq ht]; rfl, hw⟩
theorem bin_det {h l : Int} {v : Nat} (i : Is h l v) (w : World) (hL : LaidW w) :
    Calls Tryd.prog 17 #[.agg #[.int .u64 h, .int .u64 l]] w fun e w' => e = .returned (.string (ba (binL v))) ∧ Below w.heap.size w w' := by
  refine (binary_amount i w hL).mono ?_
  rintro e w' ⟨⟨t, rfl, ht⟩, hw⟩
  exact ⟨by rw [ba_eq ht]; rfl, hw⟩

/-- These boxes lie there, the tables too; nothing older has turned. -/
def Keep (w : World) (bs : List (Nat × Int × Int)) (W : World) : Prop := (∀ x ∈ bs, Box W x.1 x.2.1 x.2.2) ∧ LaidW W ∧ Below w.heap.size w W
theorem LaidW.drew {w : World} (h : LaidW w) : LaidW w.drew := ⟨(World.rangeAt_drew _ _ _ _).2 h.1, (World.rangeAt_drew _ _ _ _).2 h.2.1, h.2.2⟩
theorem Keep.later {w W w1 : World} {bs : List (Nat × Int × Int)} (k : Keep w bs W) (hb : Below W.heap.size W w1) : Keep w bs w1 :=
  ⟨fun x hx => (k.1 x hx).later hb, k.2.1.later hb, k.2.2.trans (hb.mono k.2.2.size)⟩
theorem Keep.drew {w W : World} {bs : List (Nat × Int × Int)} (k : Keep w bs W) : Keep w bs W.drew :=
  ⟨fun x hx => (k.1 x hx).drew, k.2.1.drew, k.2.2.drew⟩
/-- These boxes lie there; nothing older has turned. -/
def BD (w : World) (bs : List (Nat × Int × Int)) (W : World) : Prop := (∀ x ∈ bs, Box W x.1 x.2.1 x.2.2) ∧ Below w.heap.size w W
theorem BD.later {w W w1 : World} {bs : List (Nat × Int × Int)} (k : BD w bs W) (hb : Below W.heap.size W w1) : BD w bs w1 :=
  ⟨fun x hx => (k.1 x hx).later hb, k.2.trans (hb.mono k.2.size)⟩
theorem BD.drew {w W : World} {bs : List (Nat × Int × Int)} (k : BD w bs W) : BD w bs W.drew := ⟨fun x hx => (k.1 x hx).drew, k.2.drew⟩
theorem text_over {a : Nat} (h : ¬ a ≤ most) : textL a = [] ∧ binL a = [] := by
  unfold textL binL
  rw [if_neg h, if_neg h]
  exact ⟨rfl, rfl⟩
theorem cmp_lt {a b : Nat} (h : a < b) : cmp (a : Int) (b : Int) < 0 := by
  unfold cmp
  rw [if_neg (by omega), if_pos (by omega)]
  omega

set_option maxHeartbeats 4000000 in
set_option maxRecDepth 100000 in
theorem amountBack_any {ah al : Int} {a : Nat} (i : Is ah al a) (w : World) (hL : LaidW w) :
    Calls Tryd.prog 5 #[.agg #[.int .u64 ah, .int .u64 al]] w fun e w' => e = .returned (.bool true) ∧ Below w.heap.size w w' := by
  have HL : Hid (LaidW w) := hL
  clear hL
  obtain ⟨T, hT⟩ : ∃ T, T = ba (textL a) := ⟨_, rfl⟩
  obtain ⟨B, hB⟩ : ∃ B, B = ba (binL a) := ⟨_, rfl⟩
  have CT : Hid (∀ w, LaidW w → Calls Tryd.prog 16 #[.agg #[.int .u64 ah, .int .u64 al]] w fun e w' => e = .returned (.string T) ∧ Below w.heap.size w w') := fun w hL => by rw [hT]; exact text_det i w hL
  have CB : Hid (∀ w, LaidW w → Calls Tryd.prog 17 #[.agg #[.int .u64 ah, .int .u64 al]] w fun e w' => e = .returned (.string B) ∧ Below w.heap.size w w') := fun w hL => by rw [hB]; exact bin_det i w hL
  have HT : Hid (T.data.toList = textL a ∧ T.size ≤ 100) := by
    have := (len_text a).1
    unfold Hid; rw [hT, ba_size, ba_list]; exact ⟨rfl, this⟩
  have HB : Hid (B.data.toList = binL a ∧ B.size ≤ 100) := by
    have := (len_text a).2
    unfold Hid; rw [hB, ba_size, ba_list]; exact ⟨rfl, this⟩
  clear hT hB
  go_enter Tryd.func5, Tryd.ntmps5
  go_wp2_with (fail)
  refine (first_is _ (HL.out.alloc _)).mono ?_
  rintro e w1 ⟨rfl, hw1⟩
  have HBw1 : Below w.heap.size w w1 := Below.trans (by go_grown) (hw1.mono (by first | omega | (simp; done) | (simp; omega)))
  have p_a : Box w1 (w.heap.size) (ah) (al) := Box.later hw1 (by repeat (first | assumption | (refine Box.new _ _ _ _ _ ?_; simp; done) | refine Box.alloc ?_ _ | refine Box.drew ?_ | (apply Box.put) | (refine Box.beside ?_ _ _ _ (by omega))))
  have q_a := p_a
  obtain ⟨a0, a1, a2, a3, a4⟩ := p_a
  have hsw1 := hw1.size
  (try simp at hsw1)
  clear hw1
  have F0 : Keep w [(w.heap.size, ah, al)] w1 := ⟨fun x hx => by simp at hx; subst hx; exact q_a, HL.out.later HBw1, HBw1⟩
  clear HL q_a a0 a1 a2 a3 a4 HBw1 hsw1
  go_wp2_with (fail)
  refine wp_region_noPanic ?_
  refine wp_region_held_drew (S := fun w' => Box w' w.heap.size ah al) (by kernel_rfl) ?_ (fun hHeld => ?_)
  · exact F0.drew.1 (w.heap.size, ah, al) (by simp)
  refine wpAnyH_take (i := 0) (v := ?_) rfl (by kernel_rfl) (by kernel_rfl) (by kernel_rfl) (fun _ _ _ h => h) (Or.inl ⟨by rfl, ?_⟩) (by assumption) ?_
  rotate_left
  · (intro wS hSw; obtain ⟨g0, g1, -, -, -⟩ := hSw; go_simp; try with_reducible rfl)
  change wpAnyH _ _ _ _ _ _ _ (Act.put _ (some 17) _) _
  simp only [Act.put, List.setIfInBounds_toArray, List.set_cons_zero, List.set_cons_succ]
  refine wpAnyH_take (i := 2) (v := ?_) rfl (by kernel_rfl) (by kernel_rfl) (by kernel_rfl) (fun _ _ _ h => h) (Or.inl ⟨by rfl, ?_⟩) (by assumption) ?_
  rotate_left
  · (intro wS hSw; obtain ⟨g0, g1, -, -, -⟩ := hSw; go_simp; try with_reducible rfl)
  change wpAnyH _ _ _ _ _ _ _ (Act.put _ (some 19) _) _
  simp only [Act.put, List.setIfInBounds_toArray, List.set_cons_zero, List.set_cons_succ]
  refine wpAnyH_named ?_
  intro A hA
  clear hHeld
  refine wpAnyH_inv (I := fun L a W => ∃ (c1 c3 c4 c5 : Bool) (s18 s20 s3 s4 : Value), L = #[true, c1, true, c3, c4, c5] ∧ a = ((((A.put (some 18) s18).put (some 20) s20).put (some 3) s3).put (some 4) s4) ∧ Hid (Keep w [(w.heap.size, ah, al)] W) ∧ Hid (c1 = true → s18 = .string T) ∧ Hid (c3 = true → s20 = .string B) ∧ Hid (c4 = true → s3 = .string T) ∧ Hid (c5 = true → s4 = .string B)) ?hS ?hz (by kernel_rfl) ?hsteps ?hend _ _ _ _ (by decide) ?h0
  case hS => rintro L a W ⟨c1, c3, c4, c5, s18, s20, s3, s4, -, -, K, -⟩; exact (fun h => h) (K.out.1 (w.heap.size, ah, al) (by simp))
  case hz => rintro L a W ⟨c1, c3, c4, c5, s18, s20, s3, s4, rfl, -⟩; rfl
  case h0 => exact ⟨false, false, false, false, A.eval (.tmp 18), A.eval (.tmp 20), A.eval (.tmp 3), A.eval (.tmp 4), rfl, by simp only [put_self], F0.drew, fun h => Bool.noConfusion h, fun h => Bool.noConfusion h, fun h => Bool.noConfusion h, fun h => Bool.noConfusion h⟩
  case hend =>
    rintro L a W ⟨c1, c3, c4, c5, s18, s20, s3, s4, rfl, rfl, K, k1, k3, k4, k5⟩ hall
    obtain rfl : c1 = true := hall 1
    obtain rfl : c3 = true := hall 3
    obtain rfl : c4 = true := hall 4
    obtain rfl : c5 = true := hall 5
    obtain rfl := k1.out rfl
    obtain rfl := k3.out rfl
    obtain rfl := k4.out rfl
    obtain rfl := k5.out rfl
    clear k1 k3 k4 k5
    refine NoPanic.normal ?_
    subst hA
    simp only [Act.put, List.setIfInBounds_toArray, List.set_cons_zero, List.set_cons_succ]
    have q_a : Box W w.heap.size ah al := K.out.1 (w.heap.size, ah, al) (by simp)
    have HLW : Hid (LaidW W) := K.out.2.1
    have HBW : Below w.heap.size w W := K.out.2.2
    clear K CT CB
    obtain ⟨a0, a1, a2, a3, a4⟩ := id q_a
    have hsW := HBW.size
    by_cases c : a ≤ most
    · have tb := text_back a c
      have bb := bin_back a c
      have un := up_near a c
      rw [← HT.out.1] at tb
      rw [← HB.out.1] at bb
      have te : T.toList.isEmpty = false := by rw [empty_iff]; exact decide_eq_false tb.2
      have te1 : ¬ T.toList = [] := by rw [ByteArray.toList_eq]; exact tb.2
      have P1 : Hid (∀ w, LaidW w → Calls Tryd.prog 8 #[.string T] w fun e w' => e = .returned (.tuple #[.agg #[.int .u64 ah, .int .u64 al], .int .i64 0]) ∧ Below w.heap.size w w') := fun w hL => parse_det HT.out.2 tb.1 i w hL
      have P2 : Hid (∀ w, LaidW w → Calls Tryd.prog 8 #[.string B] w fun e w' => e = .returned (.tuple #[.agg #[.int .u64 ah, .int .u64 al], .int .i64 0]) ∧ Below w.heap.size w w') := fun w hL => parse_det HB.out.2 bb i w hL
      have P3 : Hid (∀ w, Calls Tryd.prog 13 #[.agg #[.int .u64 ah, .int .u64 al]] w fun e w' => e = .returned (.tuple #[.int .i64 ((up a 1000000000 : Nat) : Int), .int .i64 0]) ∧ Below w.heap.size w w') := fun w => by
        refine (units_is i w).mono ?_
        rintro e w' ⟨⟨n, g, rfl, f⟩, hw⟩
        rcases f with ⟨_, rfl, rfl⟩ | ⟨f, _⟩
        · exact ⟨rfl, hw⟩
        · omega
      obtain ⟨N, hN⟩ : ∃ N, N = up a 1000000000 := ⟨_, rfl⟩
      rw [← hN] at un P3
      have UN : Hid _ := un
      clear tb bb hN un c HT HB
      obtain ⟨uh, ul, ju⟩ := Is.ex (a := N * 1000000000) (by have := UN.out; omega)
      have P4 : Hid (∀ w, Calls Tryd.prog 18 #[.int .i64 (N : Int)] w fun e w' => e = .returned (.tuple #[.agg #[.int .u64 uh, .int .u64 ul], .int .i64 0]) ∧ Below w.heap.size w w') := fun w => by
        refine (ofUnits_any (N : Int) w).mono ?_
        rintro e w' ⟨⟨h, l, g, rfl, f⟩, hw⟩
        have := UN.out
        rcases f with ⟨f, _⟩ | ⟨f, _⟩ | ⟨_, _, f, rfl⟩
        · omega
        · omega
        · simp only [Int.toNat_natCast] at f
          obtain ⟨rfl, rfl⟩ := f.det ju
          exact ⟨rfl, hw⟩
      have P5 : Hid (∀ w, Calls Tryd.prog 23 #[.agg #[.int .u64 uh, .int .u64 ul], .agg #[.int .u64 ah, .int .u64 al]] w fun e w' => ∃ (h l : Int), e = .returned (.tuple #[.agg #[.int .u64 h, .int .u64 l], .bool true]) ∧ Is h l (N * 1000000000 - a) ∧ Below w.heap.size w w') := fun w => sub_is ju i UN.out.2.1 w
      clear ju i
      go_wp2_with (fail)
      refine (P1.out _ HLW.out).mono ?_
      rintro e w2 ⟨rfl, hw2⟩
      have HX2 : Below W.heap.size W w2 := hw2
      have HBw2 : Below w.heap.size w w2 := Below.trans (by go_grown) (hw2.mono (by first | omega | (simp; done) | (simp; omega)))
      have p_a : Box w2 (w.heap.size) (ah) (al) := Box.later hw2 (by repeat (first | assumption | (refine Box.new _ _ _ _ _ ?_; simp; done) | refine Box.alloc ?_ _ | refine Box.drew ?_ | (apply Box.put) | (refine Box.beside ?_ _ _ _ (by omega))))
      clear q_a a0 a1 a2 a3 a4
      have q_a := p_a
      obtain ⟨a0, a1, a2, a3, a4⟩ := p_a
      have hsw2 := hw2.size
      (try simp at hsw2)
      clear hw2
      have HL2 : Hid (LaidW w2) := HLW.out.later HX2
      go_wp2_with (fail)
      refine (P2.out _ (HL2.out.alloc _)).mono ?_
      rintro e w3 ⟨rfl, hw3⟩
      have HBw3 : Below w.heap.size w w3 := Below.trans (by go_grown) (hw3.mono (by first | omega | (simp; done) | (simp; omega)))
      have p_a : Box w3 (w.heap.size) (ah) (al) := Box.later hw3 (by repeat (first | assumption | (refine Box.new _ _ _ _ _ ?_; simp; done) | refine Box.alloc ?_ _ | refine Box.drew ?_ | (apply Box.put) | (refine Box.beside ?_ _ _ _ (by omega))))
      have p_x : Box w3 (w2.heap.size) (ah) (al) := Box.later hw3 (by repeat (first | assumption | (refine Box.new _ _ _ _ _ ?_; simp; done) | refine Box.alloc ?_ _ | refine Box.drew ?_ | (apply Box.put) | (refine Box.beside ?_ _ _ _ (by omega))))
      clear q_a a0 a1 a2 a3 a4
      have q_a := p_a
      obtain ⟨a0, a1, a2, a3, a4⟩ := p_a
      have q_x := p_x
      obtain ⟨x0, x1, x2, x3, x4⟩ := p_x
      have hsw3 := hw3.size
      (try simp at hsw3)
      clear hw3
      go_wp2_with (fail)
      refine (P3.out _).mono ?_
      rintro e w4 ⟨rfl, hw4⟩
      have HBw4 : Below w.heap.size w w4 := Below.trans (by go_grown) (hw4.mono (by first | omega | (simp; done) | (simp; omega)))
      have p_a : Box w4 (w.heap.size) (ah) (al) := Box.later hw4 (by repeat (first | assumption | (refine Box.new _ _ _ _ _ ?_; simp; done) | refine Box.alloc ?_ _ | refine Box.drew ?_ | (apply Box.put) | (refine Box.beside ?_ _ _ _ (by omega))))
      have p_x : Box w4 (w2.heap.size) (ah) (al) := Box.later hw4 (by repeat (first | assumption | (refine Box.new _ _ _ _ _ ?_; simp; done) | refine Box.alloc ?_ _ | refine Box.drew ?_ | (apply Box.put) | (refine Box.beside ?_ _ _ _ (by omega))))
      have p_y : Box w4 (w3.heap.size) (ah) (al) := Box.later hw4 (by repeat (first | assumption | (refine Box.new _ _ _ _ _ ?_; simp; done) | refine Box.alloc ?_ _ | refine Box.drew ?_ | (apply Box.put) | (refine Box.beside ?_ _ _ _ (by omega))))
      clear q_a a0 a1 a2 a3 a4
      clear q_x x0 x1 x2 x3 x4
      have q_a := p_a
      obtain ⟨a0, a1, a2, a3, a4⟩ := p_a
      have q_x := p_x
      obtain ⟨x0, x1, x2, x3, x4⟩ := p_x
      have q_y := p_y
      obtain ⟨y0, y1, y2, y3, y4⟩ := p_y
      have hsw4 := hw4.size
      (try simp at hsw4)
      clear hw4
      go_wp2_with (fail)
      refine (P4.out _).mono ?_
      rintro e w5 ⟨rfl, hw5⟩
      have HBw5 : Below w.heap.size w w5 := Below.trans (by go_grown) (hw5.mono (by first | omega | (simp; done) | (simp; omega)))
      have p_a : Box w5 (w.heap.size) (ah) (al) := Box.later hw5 (by repeat (first | assumption | (refine Box.new _ _ _ _ _ ?_; simp; done) | refine Box.alloc ?_ _ | refine Box.drew ?_ | (apply Box.put) | (refine Box.beside ?_ _ _ _ (by omega))))
      clear q_a a0 a1 a2 a3 a4
      have q_a := p_a
      obtain ⟨a0, a1, a2, a3, a4⟩ := p_a
      have hsw5 := hw5.size
      (try simp at hsw5)
      clear hw5
      go_wp2_with (fail)
      refine (P5.out _).mono ?_
      rintro e w6 ⟨dh, dl, rfl, jd, hw6⟩
      have HBw6 : Below w.heap.size w w6 := Below.trans (by go_grown) (hw6.mono (by first | omega | (simp; done) | (simp; omega)))
      have hsw6 := hw6.size
      (try simp at hsw6)
      clear hw6
      have CC : Hid (∀ w, Calls Tryd.prog 24 #[.agg #[.int .u64 dh, .int .u64 dl], .agg #[.int .u64 0, .int .u64 1000000000]] w fun e w' => e = .returned (.int .i64 (cmp ((N * 1000000000 - a : Nat) : Int) ((1000000000 : Nat) : Int))) ∧ Below w.heap.size w w') := fun w => compare_is jd (Is.small (a := 1000000000) rfl (by omega)) w
      have cl := cmp_lt (a := N * 1000000000 - a) (b := 1000000000) UN.out.2.2
      obtain ⟨V, hV⟩ : ∃ V, V = cmp ((N * 1000000000 - a : Nat) : Int) ((1000000000 : Nat) : Int) := ⟨_, rfl⟩
      rw [← hV] at CC cl
      clear hV UN P1 P2 P3 P4 P5 jd q_a a0 a1 a2 a3 a4 HBw2 HBw3 HBw4 HBw5 HL2 HLW
      go_wp2_with (fail)
      have q_d : Box (w6.alloc (.cells #[.int .u64 dh, .int .u64 dl] 25)) w6.heap.size dh dl := Box.new _ _ _ _ _ rfl
      have HB6 : Below w.heap.size w (w6.alloc (.cells #[.int .u64 dh, .int .u64 dl] 25)) := by go_grown
      generalize w6.alloc (.cells #[.int .u64 dh, .int .u64 dl] 25) = W6 at *
      have F6 : BD w [(w6.heap.size, dh, dl)] W6 := ⟨fun x hx => by simp at hx; subst hx; exact q_d, HB6⟩
      refine wp_region_noPanic ?_
      refine wp_region_held_drew (S := fun w' => Box w' w6.heap.size dh dl) (by kernel_rfl) ?_ (fun hHeld => ?_)
      · exact F6.drew.1 (w6.heap.size, dh, dl) (by simp)
      refine wpAnyH_take (i := 0) (v := ?_) rfl (by kernel_rfl) (by kernel_rfl) (by kernel_rfl) (fun _ _ _ h => h) (Or.inl ⟨by rfl, ?_⟩) (by assumption) ?_
      rotate_left
      · (intro wS hSw; obtain ⟨g0, g1, -, -, -⟩ := hSw; go_simp; try with_reducible rfl)
      change wpAnyH _ _ _ _ _ _ _ (Act.put _ (some 71) _) _
      simp only [Act.put, List.setIfInBounds_toArray, List.set_cons_zero, List.set_cons_succ]
      refine wpAnyH_take (i := 1) (v := ?_) rfl (by kernel_rfl) (by kernel_rfl) (by kernel_rfl) (fun _ _ _ h => h) (Or.inl ⟨by rfl, ?_⟩) (by assumption) ?_
      rotate_left
      · (intro wS hSw; obtain ⟨g0, g1, -, -, -⟩ := hSw; go_simp; try with_reducible rfl)
      change wpAnyH _ _ _ _ _ _ _ (Act.put _ (some 72) _) _
      simp only [Act.put, List.setIfInBounds_toArray, List.set_cons_zero, List.set_cons_succ]
      refine wpAnyH_take (i := 2) (v := ?_) rfl (by kernel_rfl) (by kernel_rfl) (by kernel_rfl) (fun _ _ _ h => h) (Or.inl ⟨by rfl, ?_⟩) (by assumption) ?_
      rotate_left
      · (intro wS hSw; obtain ⟨g0, g1, -, -, -⟩ := hSw; go_simp; try with_reducible rfl)
      change wpAnyH _ _ _ _ _ _ _ (Act.put _ (some 73) _) _
      simp only [Act.put, List.setIfInBounds_toArray, List.set_cons_zero, List.set_cons_succ]
      refine wpAnyH_named ?_
      intro A hA
      clear hHeld
      refine wpAnyH_inv (I := fun L a W => ∃ (c3 c4 c5 c6 c7 : Bool) (s74 s75 s76 s77 s2 : Value), L = #[true, true, true, c3, c4, c5, c6, c7] ∧ a = (((((A.put (some 74) s74).put (some 75) s75).put (some 76) s76).put (some 77) s77).put (some 2) s2) ∧ Hid (BD w [(w6.heap.size, dh, dl)] W) ∧ Hid (c3 = true → s74 = .agg #[.int .u64 0, .int .u64 1000000000]) ∧ Hid (c4 = true → s75 = .int .i64 V) ∧ Hid (c5 = true → s76 = .bool true) ∧ Hid (c6 = true → s77 = .bool true) ∧ Hid (c7 = true → s2 = .bool true)) ?gS ?gz (by kernel_rfl) ?gsteps ?gend _ _ _ _ (by decide) ?g9
      case gS => rintro L a W ⟨c3, c4, c5, c6, c7, s74, s75, s76, s77, s2, -, -, K, -⟩; exact (fun h => h) (K.out.1 (w6.heap.size, dh, dl) (by simp))
      case gz => rintro L a W ⟨c3, c4, c5, c6, c7, s74, s75, s76, s77, s2, rfl, -⟩; rfl
      case g9 => exact ⟨false, false, false, false, false, A.eval (.tmp 74), A.eval (.tmp 75), A.eval (.tmp 76), A.eval (.tmp 77), A.eval (.tmp 2), rfl, by simp only [put_self], F6.drew, fun h => Bool.noConfusion h, fun h => Bool.noConfusion h, fun h => Bool.noConfusion h, fun h => Bool.noConfusion h, fun h => Bool.noConfusion h⟩
      case gend =>
        rintro L a W ⟨c3, c4, c5, c6, c7, s74, s75, s76, s77, s2, rfl, rfl, K, k3, k4, k5, k6, k7⟩ hall
        obtain rfl : c3 = true := hall 3
        obtain rfl : c4 = true := hall 4
        obtain rfl : c5 = true := hall 5
        obtain rfl : c6 = true := hall 6
        obtain rfl : c7 = true := hall 7
        obtain rfl := k3.out rfl
        obtain rfl := k4.out rfl
        obtain rfl := k5.out rfl
        obtain rfl := k6.out rfl
        obtain rfl := k7.out rfl
        clear k3 k4 k5 k6 k7
        refine NoPanic.normal ?_
        subst hA
        simp only [Act.put, List.setIfInBounds_toArray, List.set_cons_zero, List.set_cons_succ]
        have HBZ : Below w.heap.size w W := K.out.2
        clear K
        go_wp2
        go_ret
        exact ⟨rfl, HBZ⟩
      case gsteps =>
        refine StepsI.skip (i := 0) (by rintro L a W ⟨c3, c4, c5, c6, c7, s74, s75, s76, s77, s2, rfl, -⟩; rfl) ?_
        refine StepsI.skip (i := 1) (by rintro L a W ⟨c3, c4, c5, c6, c7, s74, s75, s76, s77, s2, rfl, -⟩; rfl) ?_
        refine StepsI.skip (i := 2) (by rintro L a W ⟨c3, c4, c5, c6, c7, s74, s75, s76, s77, s2, rfl, -⟩; rfl) ?_
        refine StepsI.cons (i := 3) rfl ?_ ?_
        · rintro L a W ⟨c3, c4, c5, c6, c7, s74, s75, s76, s77, s2, rfl, rfl, K, k3, k4, k5, k6, k7⟩ h0 hd KK hK
          obtain rfl : c3 = false := h0
          subst hA
          simp only [Act.put, List.setIfInBounds_toArray, List.set_cons_zero, List.set_cons_succ]
          clear hd
          go_simp
          refine (of_any _ _).mono ?_
          rintro e w2 ⟨rfl, hw2⟩
          (try go_wp2_with (fail))
          exact hK.out _ _ ⟨true, c4, c5, c6, c7, .agg #[.int .u64 0, .int .u64 1000000000], s75, s76, s77, s2, rfl, by simp only [Act.put, List.setIfInBounds_toArray, List.set_cons_zero, List.set_cons_succ], K.out.later hw2, fun _ => rfl, k4.out, k5.out, k6.out, k7.out⟩
        refine StepsI.cons (i := 4) rfl ?_ ?_
        · rintro L a W ⟨c3, c4, c5, c6, c7, s74, s75, s76, s77, s2, rfl, rfl, K, k3, k4, k5, k6, k7⟩ h0 hd KK hK
          obtain rfl : c4 = false := h0
          obtain rfl : c3 = true := hd ⟨3, .data⟩ (by simp) rfl
          have e3 := k3.out rfl
          subst e3
          subst hA
          simp only [Act.put, List.setIfInBounds_toArray, List.set_cons_zero, List.set_cons_succ]
          clear hd
          go_simp
          refine (CC.out _).mono ?_
          rintro e w2 ⟨rfl, hw2⟩
          (try go_wp2_with (fail))
          exact hK.out _ _ ⟨true, true, c5, c6, c7, .agg #[.int .u64 0, .int .u64 1000000000], .int .i64 V, s76, s77, s2, rfl, by simp only [Act.put, List.setIfInBounds_toArray, List.set_cons_zero, List.set_cons_succ], K.out.later hw2, fun _ => rfl, fun _ => rfl, k5.out, k6.out, k7.out⟩
        refine StepsI.cons (i := 5) rfl ?_ ?_
        · rintro L a W ⟨c3, c4, c5, c6, c7, s74, s75, s76, s77, s2, rfl, rfl, K, k3, k4, k5, k6, k7⟩ h0 hd KK hK
          obtain rfl : c5 = false := h0
          obtain rfl : c4 = true := hd ⟨4, .data⟩ (by simp) rfl
          have e4 := k4.out rfl
          subst e4
          subst hA
          simp only [Act.put, List.setIfInBounds_toArray, List.set_cons_zero, List.set_cons_succ]
          clear hd
          go_simp
          exact hK.out _ _ ⟨c3, true, true, c6, c7, s74, .int .i64 V, .bool true, s77, s2, rfl, by simp only [Act.put, List.setIfInBounds_toArray, List.set_cons_zero, List.set_cons_succ], K, k3.out, fun _ => rfl, fun _ => rfl, k6.out, k7.out⟩
        refine StepsI.cons (i := 6) rfl ?_ ?_
        · rintro L a W ⟨c3, c4, c5, c6, c7, s74, s75, s76, s77, s2, rfl, rfl, K, k3, k4, k5, k6, k7⟩ h0 hd KK hK
          obtain rfl : c6 = false := h0
          obtain rfl : c5 = true := hd ⟨5, .data⟩ (by simp) rfl
          have e5 := k5.out rfl
          subst e5
          subst hA
          simp only [Act.put, List.setIfInBounds_toArray, List.set_cons_zero, List.set_cons_succ]
          clear hd
          go_simp
          exact hK.out _ _ ⟨c3, c4, true, true, c7, s74, s75, .bool true, .bool true, s2, rfl, by simp only [Act.put, List.setIfInBounds_toArray, List.set_cons_zero, List.set_cons_succ], K, k3.out, k4.out, fun _ => rfl, fun _ => rfl, k7.out⟩
        refine StepsI.cons (i := 7) rfl ?_ ?_
        · rintro L a W ⟨c3, c4, c5, c6, c7, s74, s75, s76, s77, s2, rfl, rfl, K, k3, k4, k5, k6, k7⟩ h0 hd KK hK
          obtain rfl : c7 = false := h0
          obtain rfl : c6 = true := hd ⟨6, .data⟩ (by simp) rfl
          have e6 := k6.out rfl
          subst e6
          subst hA
          simp only [Act.put, List.setIfInBounds_toArray, List.set_cons_zero, List.set_cons_succ]
          clear hd
          go_simp
          exact hK.out _ _ ⟨c3, c4, c5, true, true, s74, s75, s76, .bool true, .bool true, rfl, by simp only [Act.put, List.setIfInBounds_toArray, List.set_cons_zero, List.set_cons_succ], K, k3.out, k4.out, k5.out, fun _ => rfl, fun _ => rfl⟩
        exact StepsI.nil
    · obtain ⟨t1, t2⟩ := text_over c
      have te : T.toList.isEmpty = true := by rw [empty_iff, HT.out.1]; exact decide_eq_true t1
      have be : B.toList.isEmpty = true := by rw [empty_iff, HB.out.1]; exact decide_eq_true t2
      have te1 : T.toList = [] := by simpa using te
      have be1 : B.toList = [] := by simpa using be
      clear t1 t2 HT HB c
      go_wp2
      go_ret
      exact ⟨by simp, by go_grown⟩
  case hsteps =>
    refine StepsI.skip (i := 0) (by rintro L a W ⟨c1, c3, c4, c5, s18, s20, s3, s4, rfl, -⟩; rfl) ?_
    refine StepsI.cons (i := 1) rfl ?_ ?_
    · rintro L a W ⟨c1, c3, c4, c5, s18, s20, s3, s4, rfl, rfl, K, k1, k3, k4, k5⟩ h0 hd KK hK
      obtain rfl : c1 = false := h0
      subst hA
      simp only [Act.put, List.setIfInBounds_toArray, List.set_cons_zero, List.set_cons_succ]
      clear hd
      go_simp
      refine (CT.out _ K.out.2.1).mono ?_
      rintro e w2 ⟨rfl, hw2⟩
      (try go_wp2_with (fail))
      exact hK.out _ _ ⟨true, c3, c4, c5, .string T, s20, s3, s4, rfl, by simp only [Act.put, List.setIfInBounds_toArray, List.set_cons_zero, List.set_cons_succ], K.out.later hw2, fun _ => rfl, k3.out, k4.out, k5.out⟩
    refine StepsI.skip (i := 2) (by rintro L a W ⟨c1, c3, c4, c5, s18, s20, s3, s4, rfl, -⟩; rfl) ?_
    refine StepsI.cons (i := 3) rfl ?_ ?_
    · rintro L a W ⟨c1, c3, c4, c5, s18, s20, s3, s4, rfl, rfl, K, k1, k3, k4, k5⟩ h0 hd KK hK
      obtain rfl : c3 = false := h0
      subst hA
      simp only [Act.put, List.setIfInBounds_toArray, List.set_cons_zero, List.set_cons_succ]
      clear hd
      go_simp
      refine (CB.out _ K.out.2.1).mono ?_
      rintro e w2 ⟨rfl, hw2⟩
      (try go_wp2_with (fail))
      exact hK.out _ _ ⟨c1, true, c4, c5, s18, .string B, s3, s4, rfl, by simp only [Act.put, List.setIfInBounds_toArray, List.set_cons_zero, List.set_cons_succ], K.out.later hw2, k1.out, fun _ => rfl, k4.out, k5.out⟩
    refine StepsI.cons (i := 4) rfl ?_ ?_
    · rintro L a W ⟨c1, c3, c4, c5, s18, s20, s3, s4, rfl, rfl, K, k1, k3, k4, k5⟩ h0 hd KK hK
      obtain rfl : c4 = false := h0
      obtain rfl : c1 = true := hd ⟨1, .data⟩ (by simp) rfl
      have e1 := k1.out rfl
      subst e1
      subst hA
      simp only [Act.put, List.setIfInBounds_toArray, List.set_cons_zero, List.set_cons_succ]
      clear hd
      go_simp
      exact hK.out _ _ ⟨true, c3, true, c5, .string T, s20, .string T, s4, rfl, by simp only [Act.put, List.setIfInBounds_toArray, List.set_cons_zero, List.set_cons_succ], K, fun _ => rfl, k3.out, fun _ => rfl, k5.out⟩
    refine StepsI.cons (i := 5) rfl ?_ ?_
    · rintro L a W ⟨c1, c3, c4, c5, s18, s20, s3, s4, rfl, rfl, K, k1, k3, k4, k5⟩ h0 hd KK hK
      obtain rfl : c5 = false := h0
      obtain rfl : c3 = true := hd ⟨3, .data⟩ (by simp) rfl
      have e3 := k3.out rfl
      subst e3
      subst hA
      simp only [Act.put, List.setIfInBounds_toArray, List.set_cons_zero, List.set_cons_succ]
      clear hd
      go_simp
      exact hK.out _ _ ⟨c1, true, c4, true, s18, .string B, s3, .string B, rfl, by simp only [Act.put, List.setIfInBounds_toArray, List.set_cons_zero, List.set_cons_succ], K, k1.out, fun _ => rfl, k4.out, fun _ => rfl⟩
    exact StepsI.nil

end Go.Proofs.YtmnfaniijninmaaDoor
