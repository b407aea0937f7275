/-
  What must be answered ahead of everything else, of package spec at this program. Conditions: the tables of the program lie as its text lays them.
-/
import Derived.Test.YtfgbppngnafpoaaDoorPU
import Derived.Test.YtfgbppngnafpoaaDoorPQ
namespace Go.Proofs.YtfgbppngnafpoaaDoor.Sp
open Go.RowKit

abbrev aN : ByteArray := ⟨#[97]⟩
abbrev webN : ByteArray := ⟨#[119, 101, 98]⟩
def zA : List Ct := [⟨aN, 1000, 1073741824, 0, 1000, 1073741824, 0, false, true, false⟩]
def zB : List Ct := [⟨aN, 500, 2147483648, 0, 500, 2147483648, 0, false, true, false⟩]
def x1 : List Ch := [⟨aN, 500, 2147483648, 0, 500, 2147483648, 0⟩]
def x2 : List Ch := [⟨⟨#[98]⟩, 0, 0, 0, 0, 0, 0⟩]
def x3 : List Ch := [⟨aN, 1000, 1073741824, 0, 0, 0, 0⟩]
theorem fr1 : resV webN 0 0 zA x1 = (0, zB) := by kernel_rfl
theorem fr2 : resV webN 0 0 zA x2 = (21, []) := by kernel_rfl
theorem fr3 : resV webN 0 0 zA x3 = (28, []) := by kernel_rfl
theorem fr4 : podB webN 0 0 zA = true := by kernel_rfl
theorem fr5 : classI zA = 0 := by kernel_rfl
theorem fr6 : sumL (0, 0, 0) (zB.map Ct.rq) = some (500, 2147483648, 0) := by kernel_rfl
theorem fr7 : rstL zA zB = [aN] := by kernel_rfl
theorem fr8 : sameB webN 0 0 zA webN 0 0 zA = true := by kernel_rfl
theorem fr9 : sameB webN 0 0 zA webN 0 0 zB = false := by kernel_rfl
theorem fr10 : nameB ⟨#[45, 97]⟩ = false := by kernel_rfl

theorem RdC.one {W : World} {b : Nat} {c : Ct} (h : Cs W b c.l) (hm : c.n.size ≤ maxLen) : RdC W (.slice (some ⟨b, 0, none⟩) 1 1) [c] :=
  ⟨_, 1, rfl, by simp, by unfold maxLen; omega, fun j d hj => by
    match j, hj with
    | 0, hj =>
      injection hj with hj
      subst hj
      exact ⟨hm, b, 0, rfl, h.1 0 _ rfl, h.1 1 _ rfl, h.1 2 _ rfl, h.1 3 _ rfl, h.1 4 _ rfl, h.1 5 _ rfl, h.1 6 _ rfl, h.1 7 _ rfl, h.1 8 _ rfl, h.1 9 _ rfl⟩⟩
def Ch.l (x : Ch) : List Value := [.string x.n, .int .i64 x.rc, .int .i64 x.rm, .int .i64 x.rh, .int .i64 x.lc, .int .i64 x.lm, .int .i64 x.lh]
theorem RdX.one {W : World} {b : Nat} {c : Ch} (h : Cs W b c.l) (hm : c.n.size ≤ maxLen) : RdX W (.slice (some ⟨b, 0, none⟩) 1 1) [c] :=
  ⟨_, 1, rfl, by simp, by unfold maxLen; omega, fun j d hj => by
    match j, hj with
    | 0, hj =>
      injection hj with hj
      subst hj
      exact ⟨hm, b, 0, rfl, h.1 0 _ rfl, h.1 1 _ rfl, h.1 2 _ rfl, h.1 3 _ rfl, h.1 4 _ rfl, h.1 5 _ rfl, h.1 6 _ rfl⟩⟩

theorem f_r1 {v u : Value} (w : World) (hL : LaidS w) (h : RdC w v zA) (k : RdX w u x1) : Calls Tryd.prog 29 #[.agg #[.string webN, .int .i64 0, .int .i64 0, v], u] w fun e w' => ∃ (a : Option Addr) (cap : Nat), e = .returned (.tuple #[.agg #[.string webN, .int .i64 0, .int .i64 0, .slice a 1 cap], .int .i64 0]) ∧ RdC w' (.slice a 1 cap) zB ∧ Below w.heap.size w w' := by
  have := resize_is webN 0 0 (by decide) w hL h k
  rw [fr1] at this
  refine this.mono fun e w' ⟨v', h1, h3, h2⟩ => ?_
  obtain ⟨a, cap, rfl, -⟩ := id h3
  exact ⟨a, cap, h1, h3, h2⟩
theorem f_r2 {v u : Value} (w : World) (hL : LaidS w) (h : RdC w v zA) (k : RdX w u x2) : Calls Tryd.prog 29 #[.agg #[.string webN, .int .i64 0, .int .i64 0, v], u] w fun e w' => ∃ (a : Option Addr) (cap : Nat), e = .returned (.tuple #[.agg #[.string ⟨#[]⟩, .int .i64 0, .int .i64 0, .slice a 0 cap], .int .i64 21]) ∧ Below w.heap.size w w' := by
  have := resize_is webN 0 0 (by decide) w hL h k
  rw [fr2] at this
  refine this.mono fun e w' ⟨v', h1, h3, h2⟩ => ?_
  obtain ⟨a, cap, rfl, -⟩ := id h3
  exact ⟨a, cap, h1, h2⟩
theorem f_r3 {v u : Value} (w : World) (hL : LaidS w) (h : RdC w v zA) (k : RdX w u x3) : Calls Tryd.prog 29 #[.agg #[.string webN, .int .i64 0, .int .i64 0, v], u] w fun e w' => ∃ (a : Option Addr) (cap : Nat), e = .returned (.tuple #[.agg #[.string ⟨#[]⟩, .int .i64 0, .int .i64 0, .slice a 0 cap], .int .i64 28]) ∧ Below w.heap.size w w' := by
  have := resize_is webN 0 0 (by decide) w hL h k
  rw [fr3] at this
  refine this.mono fun e w' ⟨v', h1, h3, h2⟩ => ?_
  obtain ⟨a, cap, rfl, -⟩ := id h3
  exact ⟨a, cap, h1, h2⟩
theorem f_rs {v u : Value} (w : World) (h : RdC w v zA) (k : RdC w u zB) : Calls Tryd.prog 27 #[.agg #[.string webN, .int .i64 0, .int .i64 0, v], .agg #[.string webN, .int .i64 0, .int .i64 0, u]] w fun e w' => ∃ b off cap : Nat, e = .returned (.slice (some ⟨b, off, none⟩) 1 cap) ∧ w'.cell? ⟨b, off, none⟩ = some (.string aN) ∧ Below w.heap.size w w' := by
  have := restarts_is webN 0 0 webN 0 0 w h k (by decide)
  rw [fr7] at this
  refine this.mono fun e w' ⟨v', h1, h2, h3⟩ => ?_
  obtain ⟨a, cap, rfl, -, -, g⟩ := h2
  obtain ⟨b, off, rfl, g1⟩ := g 0 aN rfl
  exact ⟨b, off, cap, h1, g1, h3⟩
theorem f_p {v : Value} (w : World) (hL : LaidS w) (h : RdC w v zA) : Calls Tryd.prog 18 #[.agg #[.string webN, .int .i64 0, .int .i64 0, v]] w fun e w' => e = .returned (.bool true) ∧ Below w.heap.size w w' := by
  have := pod_is webN 0 0 (by decide) w hL h
  rwa [fr4] at this
theorem f_c {v : Value} (w : World) (hL : LaidS w) (h : RdC w v zA) : Calls Tryd.prog 20 #[.agg #[.string webN, .int .i64 0, .int .i64 0, v]] w fun e w' => e = .returned (.int .i64 0) ∧ Below w.heap.size w w' := by
  have := class_is webN 0 0 w hL h
  rwa [fr5] at this
theorem f_q {v : Value} (w : World) (hL : LaidS w) (h : RdC w v zB) : Calls Tryd.prog 22 #[.agg #[.string webN, .int .i64 0, .int .i64 0, v]] w fun e w' => e = .returned (.agg #[.int .i64 500, .int .i64 2147483648, .int .i64 0]) ∧ Below w.heap.size w w' := by
  have := requestsP_is webN 0 0 w hL h (by decide)
  rw [fr6] at this
  exact this
theorem f_s1 {v : Value} (w : World) (h : RdC w v zA) : Calls Tryd.prog 23 #[.agg #[.string webN, .int .i64 0, .int .i64 0, v], .agg #[.string webN, .int .i64 0, .int .i64 0, v]] w fun e w' => e = .returned (.bool true) ∧ Below w.heap.size w w' := by
  have := same_is webN 0 0 webN 0 0 w h h
  rwa [fr8] at this
theorem f_s2 {v u : Value} (w : World) (h : RdC w v zA) (k : RdC w u zB) : Calls Tryd.prog 23 #[.agg #[.string webN, .int .i64 0, .int .i64 0, v], .agg #[.string webN, .int .i64 0, .int .i64 0, u]] w fun e w' => e = .returned (.bool false) ∧ Below w.heap.size w w' := by
  have := same_is webN 0 0 webN 0 0 w h k
  rwa [fr9] at this
theorem f_n (w : World) : Calls Tryd.prog 9 #[.string ⟨#[45, 97]⟩] w fun e w' => e = .returned (.bool false) ∧ Below w.heap.size w w' := by
  have := name_is ⟨#[45, 97]⟩ (by decide) w
  rw [fr10] at this
  exact this.mono fun e w' ⟨h1, h2⟩ => ⟨h1, by rw [h2]; exact Below.refl _ _⟩

/-- What lies there, and reads so. -/
def Fz (w : World) (bs : List (Nat × List Value)) (u : Value) (W : World) : Prop := Lies w bs W ∧ LaidS W ∧ RdC W (.slice (some ⟨w.heap.size + 1, 0, none⟩) 1 1) zA ∧ RdC W u zB
/-- And a text at a place. -/
def Fy (w : World) (bs : List (Nat × List Value)) (u : Value) (nb no : Nat) (W : World) : Prop := Fz w bs u W ∧ W.cell? ⟨nb, no, none⟩ = some (.string aN)
theorem Fz.later {w W w1 : World} {bs : List (Nat × List Value)} {u : Value} (h : Fz w bs u W) (hb : Below W.heap.size W w1) : Fz w bs u w1 := ⟨h.1.later hb, h.2.1.later hb, h.2.2.1.later hb, h.2.2.2.later hb⟩
theorem Fy.later {w W w1 : World} {bs : List (Nat × List Value)} {u : Value} {nb no : Nat} (h : Fy w bs u nb no W) (hb : Below W.heap.size W w1) : Fy w bs u nb no w1 := ⟨h.1.later hb, cell_later hb h.2⟩
theorem Fz.drew {w W : World} {bs : List (Nat × List Value)} {u : Value} (h : Fz w bs u W) : Fz w bs u W.drew := h.later (Below.refl _ _).drew

set_option maxHeartbeats 4000000 in
set_option maxRecDepth 100000 in
theorem sfirst_is (w : World) (hL : LaidS w) : Calls Tryd.prog 8 #[] w fun e w' => e = .returned (.bool true) ∧ Below w.heap.size w w' := by
  have HL : Hid (LaidS w) := hL
  clear hL
  go_enter Tryd.func8, Tryd.ntmps8
  go_wp2_with (fail)
  refine (f_r1 _ (((((HL.out.alloc _).alloc _).alloc _).alloc _).alloc _) (RdC.one (c := ⟨aN, 1000, 1073741824, 0, 1000, 1073741824, 0, false, true, false⟩) (show Cs _ (w.heap.size + 1) [.string aN, .int .i64 1000, .int .i64 1073741824, .int .i64 0, .int .i64 1000, .int .i64 1073741824, .int .i64 0, .bool false, .bool true, .bool false] from (by repeat (first | assumption | (refine Cs.new _ _ _ _ ?_; simp; done) | refine Cs.alloc ?_ _ | refine Cs.drew ?_ | (refine Cs.beside ?_ _ _ (by omega))))) (by decide)) (RdX.one (c := ⟨aN, 500, 2147483648, 0, 500, 2147483648, 0⟩) (show Cs _ (w.heap.size + 4) [.string aN, .int .i64 500, .int .i64 2147483648, .int .i64 0, .int .i64 500, .int .i64 2147483648, .int .i64 0] from (by repeat (first | assumption | (refine Cs.new _ _ _ _ ?_; simp; done) | refine Cs.alloc ?_ _ | refine Cs.drew ?_ | (refine Cs.beside ?_ _ _ (by omega))))) (by decide))).mono ?_
  rintro e w1 ⟨a1, cap1, rfl, hq, hw1⟩
  have F1 : Hid (Fz w [(w.heap.size, [.int .i64 1000, .int .i64 1073741824, .int .i64 0]), (w.heap.size + 2, [.string webN, .int .i64 0, .int .i64 0, .slice (some ⟨w.heap.size + 1, 0, none⟩) 1 1]), (w.heap.size + 3, [.int .i64 500, .int .i64 2147483648, .int .i64 0])] (.slice a1 1 cap1) w1) := by
    refine ⟨⟨fun x hx => ?_, Below.trans (show Below w.heap.size w _ by go_grown) (hw1.mono (by simp; omega))⟩, (((((HL.out.alloc _).alloc _).alloc _).alloc _).alloc _).later hw1, RdC.later (RdC.one (c := ⟨aN, 1000, 1073741824, 0, 1000, 1073741824, 0, false, true, false⟩) (show Cs _ (w.heap.size + 1) [.string aN, .int .i64 1000, .int .i64 1073741824, .int .i64 0, .int .i64 1000, .int .i64 1073741824, .int .i64 0, .bool false, .bool true, .bool false] from (by repeat (first | assumption | (refine Cs.new _ _ _ _ ?_; simp; done) | refine Cs.alloc ?_ _ | refine Cs.drew ?_ | (refine Cs.beside ?_ _ _ (by omega))))) (by decide)) hw1, hq⟩
    simp at hx
    rcases hx with rfl | rfl | rfl
    · exact Cs.later hw1 (by repeat (first | assumption | (refine Cs.new _ _ _ _ ?_; simp; done) | refine Cs.alloc ?_ _ | refine Cs.drew ?_ | (refine Cs.beside ?_ _ _ (by omega))))
    · exact Cs.later hw1 (by repeat (first | assumption | (refine Cs.new _ _ _ _ ?_; simp; done) | refine Cs.alloc ?_ _ | refine Cs.drew ?_ | (refine Cs.beside ?_ _ _ (by omega))))
    · exact Cs.later hw1 (by repeat (first | assumption | (refine Cs.new _ _ _ _ ?_; simp; done) | refine Cs.alloc ?_ _ | refine Cs.drew ?_ | (refine Cs.beside ?_ _ _ (by omega))))
  clear hq hw1
  have h_v := F1.out.1.get 0 rfl
  have v0 : w1.cell? ⟨w.heap.size, 0, none⟩ = some (.int .i64 1000) := h_v.1 0 _ rfl
  have v1 : w1.cell? ⟨w.heap.size, 1, none⟩ = some (.int .i64 1073741824) := h_v.1 1 _ rfl
  have v2 : w1.cell? ⟨w.heap.size, 2, none⟩ = some (.int .i64 0) := h_v.1 2 _ rfl
  have vz := h_v.2.2
  have h_p := F1.out.1.get 1 rfl
  have p0 : w1.cell? ⟨w.heap.size + 2, 0, none⟩ = some (.string webN) := h_p.1 0 _ rfl
  have p1 : w1.cell? ⟨w.heap.size + 2, 1, none⟩ = some (.int .i64 0) := h_p.1 1 _ rfl
  have p2 : w1.cell? ⟨w.heap.size + 2, 2, none⟩ = some (.int .i64 0) := h_p.1 2 _ rfl
  have p3 : w1.cell? ⟨w.heap.size + 2, 3, none⟩ = some (.slice (some ⟨w.heap.size + 1, 0, none⟩) 1 1) := h_p.1 3 _ rfl
  have pz := h_p.2.2
  have h_u := F1.out.1.get 2 rfl
  have u0 : w1.cell? ⟨w.heap.size + 3, 0, none⟩ = some (.int .i64 500) := h_u.1 0 _ rfl
  have u1 : w1.cell? ⟨w.heap.size + 3, 1, none⟩ = some (.int .i64 2147483648) := h_u.1 1 _ rfl
  have u2 : w1.cell? ⟨w.heap.size + 3, 2, none⟩ = some (.int .i64 0) := h_u.1 2 _ rfl
  have uz := h_u.2.2
  have hs_w1 := F1.out.1.2.size
  go_wp2_with (fail)
  have F1' : Hid (Fz w [(w1.heap.size, [.string webN, .int .i64 0, .int .i64 0, .slice a1 1 cap1]), (w.heap.size, [.int .i64 1000, .int .i64 1073741824, .int .i64 0]), (w.heap.size + 2, [.string webN, .int .i64 0, .int .i64 0, .slice (some ⟨w.heap.size + 1, 0, none⟩) 1 1]), (w.heap.size + 3, [.int .i64 500, .int .i64 2147483648, .int .i64 0])] (.slice a1 1 cap1) ((w1.alloc (.cells #[.string webN, .int .i64 0, .int .i64 0, .slice a1 1 cap1] 33)).alloc (.cells #[.string ⟨#[98]⟩, .int .i64 0, .int .i64 0, .int .i64 0, .int .i64 0, .int .i64 0, .int .i64 0] 56))) :=
    ⟨(F1.out.1.new [.string webN, .int .i64 0, .int .i64 0, .slice a1 1 cap1] _).alloc _, (F1.out.2.1.alloc _).alloc _, (F1.out.2.2.1.alloc _).alloc _, (F1.out.2.2.2.alloc _).alloc _⟩
  clear v0 v1 v2 h_v vz p0 p1 p2 p3 h_p pz u0 u1 u2 h_u uz
  refine (f_r2 _ F1'.out.2.1 F1'.out.2.2.1 (RdX.one (c := ⟨⟨#[98]⟩, 0, 0, 0, 0, 0, 0⟩) (show Cs _ (w1.heap.size + 1) [.string ⟨#[98]⟩, .int .i64 0, .int .i64 0, .int .i64 0, .int .i64 0, .int .i64 0, .int .i64 0] from (by repeat (first | assumption | (refine Cs.new _ _ _ _ ?_; simp; done) | refine Cs.alloc ?_ _ | refine Cs.drew ?_ | (refine Cs.beside ?_ _ _ (by omega))))) (by decide))).mono ?_
  rintro e w2 ⟨a2, cap2, rfl, hw2⟩
  have F2 : Hid (Fz w [(w1.heap.size, [.string webN, .int .i64 0, .int .i64 0, .slice a1 1 cap1]), (w.heap.size, [.int .i64 1000, .int .i64 1073741824, .int .i64 0]), (w.heap.size + 2, [.string webN, .int .i64 0, .int .i64 0, .slice (some ⟨w.heap.size + 1, 0, none⟩) 1 1]), (w.heap.size + 3, [.int .i64 500, .int .i64 2147483648, .int .i64 0])] (.slice a1 1 cap1) w2) := F1'.out.later hw2
  clear F1 F1' hw2
  have h_q := F2.out.1.get 0 rfl
  have q0 : w2.cell? ⟨w1.heap.size, 0, none⟩ = some (.string webN) := h_q.1 0 _ rfl
  have q1 : w2.cell? ⟨w1.heap.size, 1, none⟩ = some (.int .i64 0) := h_q.1 1 _ rfl
  have q2 : w2.cell? ⟨w1.heap.size, 2, none⟩ = some (.int .i64 0) := h_q.1 2 _ rfl
  have q3 : w2.cell? ⟨w1.heap.size, 3, none⟩ = some (.slice a1 1 cap1) := h_q.1 3 _ rfl
  have qz := h_q.2.2
  have h_v := F2.out.1.get 1 rfl
  have v0 : w2.cell? ⟨w.heap.size, 0, none⟩ = some (.int .i64 1000) := h_v.1 0 _ rfl
  have v1 : w2.cell? ⟨w.heap.size, 1, none⟩ = some (.int .i64 1073741824) := h_v.1 1 _ rfl
  have v2 : w2.cell? ⟨w.heap.size, 2, none⟩ = some (.int .i64 0) := h_v.1 2 _ rfl
  have vz := h_v.2.2
  have h_p := F2.out.1.get 2 rfl
  have p0 : w2.cell? ⟨w.heap.size + 2, 0, none⟩ = some (.string webN) := h_p.1 0 _ rfl
  have p1 : w2.cell? ⟨w.heap.size + 2, 1, none⟩ = some (.int .i64 0) := h_p.1 1 _ rfl
  have p2 : w2.cell? ⟨w.heap.size + 2, 2, none⟩ = some (.int .i64 0) := h_p.1 2 _ rfl
  have p3 : w2.cell? ⟨w.heap.size + 2, 3, none⟩ = some (.slice (some ⟨w.heap.size + 1, 0, none⟩) 1 1) := h_p.1 3 _ rfl
  have pz := h_p.2.2
  have h_u := F2.out.1.get 3 rfl
  have u0 : w2.cell? ⟨w.heap.size + 3, 0, none⟩ = some (.int .i64 500) := h_u.1 0 _ rfl
  have u1 : w2.cell? ⟨w.heap.size + 3, 1, none⟩ = some (.int .i64 2147483648) := h_u.1 1 _ rfl
  have u2 : w2.cell? ⟨w.heap.size + 3, 2, none⟩ = some (.int .i64 0) := h_u.1 2 _ rfl
  have uz := h_u.2.2
  have hs_w2 := F2.out.1.2.size
  go_wp2_with (fail)
  have F2' : Hid (Fz w [(w1.heap.size, [.string webN, .int .i64 0, .int .i64 0, .slice a1 1 cap1]), (w.heap.size, [.int .i64 1000, .int .i64 1073741824, .int .i64 0]), (w.heap.size + 2, [.string webN, .int .i64 0, .int .i64 0, .slice (some ⟨w.heap.size + 1, 0, none⟩) 1 1]), (w.heap.size + 3, [.int .i64 500, .int .i64 2147483648, .int .i64 0])] (.slice a1 1 cap1) ((w2.alloc (.cells #[.string ⟨#[]⟩, .int .i64 0, .int .i64 0, .slice a2 0 cap2] 33)).alloc (.cells #[.string aN, .int .i64 1000, .int .i64 1073741824, .int .i64 0, .int .i64 0, .int .i64 0, .int .i64 0] 56))) :=
    ⟨(F2.out.1.alloc _).alloc _, (F2.out.2.1.alloc _).alloc _, (F2.out.2.2.1.alloc _).alloc _, (F2.out.2.2.2.alloc _).alloc _⟩
  clear q0 q1 q2 q3 h_q qz v0 v1 v2 h_v vz p0 p1 p2 p3 h_p pz u0 u1 u2 h_u uz
  refine (f_r3 _ F2'.out.2.1 F2'.out.2.2.1 (RdX.one (c := ⟨aN, 1000, 1073741824, 0, 0, 0, 0⟩) (show Cs _ (w2.heap.size + 1) [.string aN, .int .i64 1000, .int .i64 1073741824, .int .i64 0, .int .i64 0, .int .i64 0, .int .i64 0] from (by repeat (first | assumption | (refine Cs.new _ _ _ _ ?_; simp; done) | refine Cs.alloc ?_ _ | refine Cs.drew ?_ | (refine Cs.beside ?_ _ _ (by omega))))) (by decide))).mono ?_
  rintro e w3 ⟨a3, cap3, rfl, hw3⟩
  have F3 : Hid (Fz w [(w1.heap.size, [.string webN, .int .i64 0, .int .i64 0, .slice a1 1 cap1]), (w.heap.size, [.int .i64 1000, .int .i64 1073741824, .int .i64 0]), (w.heap.size + 2, [.string webN, .int .i64 0, .int .i64 0, .slice (some ⟨w.heap.size + 1, 0, none⟩) 1 1]), (w.heap.size + 3, [.int .i64 500, .int .i64 2147483648, .int .i64 0])] (.slice a1 1 cap1) w3) := F2'.out.later hw3
  clear F2 F2' hw3
  have h_q := F3.out.1.get 0 rfl
  have q0 : w3.cell? ⟨w1.heap.size, 0, none⟩ = some (.string webN) := h_q.1 0 _ rfl
  have q1 : w3.cell? ⟨w1.heap.size, 1, none⟩ = some (.int .i64 0) := h_q.1 1 _ rfl
  have q2 : w3.cell? ⟨w1.heap.size, 2, none⟩ = some (.int .i64 0) := h_q.1 2 _ rfl
  have q3 : w3.cell? ⟨w1.heap.size, 3, none⟩ = some (.slice a1 1 cap1) := h_q.1 3 _ rfl
  have qz := h_q.2.2
  have h_v := F3.out.1.get 1 rfl
  have v0 : w3.cell? ⟨w.heap.size, 0, none⟩ = some (.int .i64 1000) := h_v.1 0 _ rfl
  have v1 : w3.cell? ⟨w.heap.size, 1, none⟩ = some (.int .i64 1073741824) := h_v.1 1 _ rfl
  have v2 : w3.cell? ⟨w.heap.size, 2, none⟩ = some (.int .i64 0) := h_v.1 2 _ rfl
  have vz := h_v.2.2
  have h_p := F3.out.1.get 2 rfl
  have p0 : w3.cell? ⟨w.heap.size + 2, 0, none⟩ = some (.string webN) := h_p.1 0 _ rfl
  have p1 : w3.cell? ⟨w.heap.size + 2, 1, none⟩ = some (.int .i64 0) := h_p.1 1 _ rfl
  have p2 : w3.cell? ⟨w.heap.size + 2, 2, none⟩ = some (.int .i64 0) := h_p.1 2 _ rfl
  have p3 : w3.cell? ⟨w.heap.size + 2, 3, none⟩ = some (.slice (some ⟨w.heap.size + 1, 0, none⟩) 1 1) := h_p.1 3 _ rfl
  have pz := h_p.2.2
  have h_u := F3.out.1.get 3 rfl
  have u0 : w3.cell? ⟨w.heap.size + 3, 0, none⟩ = some (.int .i64 500) := h_u.1 0 _ rfl
  have u1 : w3.cell? ⟨w.heap.size + 3, 1, none⟩ = some (.int .i64 2147483648) := h_u.1 1 _ rfl
  have u2 : w3.cell? ⟨w.heap.size + 3, 2, none⟩ = some (.int .i64 0) := h_u.1 2 _ rfl
  have uz := h_u.2.2
  have hs_w3 := F3.out.1.2.size
  go_wp2_with (fail)
  have F3' : Hid (Fz w [(w1.heap.size, [.string webN, .int .i64 0, .int .i64 0, .slice a1 1 cap1]), (w.heap.size, [.int .i64 1000, .int .i64 1073741824, .int .i64 0]), (w.heap.size + 2, [.string webN, .int .i64 0, .int .i64 0, .slice (some ⟨w.heap.size + 1, 0, none⟩) 1 1]), (w.heap.size + 3, [.int .i64 500, .int .i64 2147483648, .int .i64 0])] (.slice a1 1 cap1) (w3.alloc (.cells #[.string ⟨#[]⟩, .int .i64 0, .int .i64 0, .slice a3 0 cap3] 33))) :=
    ⟨F3.out.1.alloc _, F3.out.2.1.alloc _, F3.out.2.2.1.alloc _, F3.out.2.2.2.alloc _⟩
  clear q0 q1 q2 q3 h_q qz v0 v1 v2 h_v vz p0 p1 p2 p3 h_p pz u0 u1 u2 h_u uz
  refine (f_rs _ F3'.out.2.2.1 F3'.out.2.2.2).mono ?_
  rintro e w4 ⟨nb, no, ncap, rfl, hn, hw4⟩
  have F4 : Hid (Fy w [(w1.heap.size, [.string webN, .int .i64 0, .int .i64 0, .slice a1 1 cap1]), (w.heap.size, [.int .i64 1000, .int .i64 1073741824, .int .i64 0]), (w.heap.size + 2, [.string webN, .int .i64 0, .int .i64 0, .slice (some ⟨w.heap.size + 1, 0, none⟩) 1 1]), (w.heap.size + 3, [.int .i64 500, .int .i64 2147483648, .int .i64 0])] (.slice a1 1 cap1) nb no w4) := ⟨F3'.out.later hw4, hn⟩
  clear F3 F3' hw4 hn
  go_upto_region 8 with (fail)
  refine wp_region_noPanic ?_
  refine wp_region_held_drew (S := fun w' => Fy w [(w1.heap.size, [.string webN, .int .i64 0, .int .i64 0, .slice a1 1 cap1]), (w.heap.size, [.int .i64 1000, .int .i64 1073741824, .int .i64 0]), (w.heap.size + 2, [.string webN, .int .i64 0, .int .i64 0, .slice (some ⟨w.heap.size + 1, 0, none⟩) 1 1]), (w.heap.size + 3, [.int .i64 500, .int .i64 2147483648, .int .i64 0])] (.slice a1 1 cap1) nb no w') (by kernel_rfl) ?_ (fun hHeld => ?_)
  · exact F4.out.later (Below.refl _ _).drew
  have F_0 : Hid (Fy w [(w1.heap.size, [.string webN, .int .i64 0, .int .i64 0, .slice a1 1 cap1]), (w.heap.size, [.int .i64 1000, .int .i64 1073741824, .int .i64 0]), (w.heap.size + 2, [.string webN, .int .i64 0, .int .i64 0, .slice (some ⟨w.heap.size + 1, 0, none⟩) 1 1]), (w.heap.size + 3, [.int .i64 500, .int .i64 2147483648, .int .i64 0])] (.slice a1 1 cap1) nb no _) := F4.out.later (Below.refl _ _).drew
  refine wpAnyH_take (i := 0) (v := ?_) rfl (by kernel_rfl) (by kernel_rfl) (by kernel_rfl) (fun _ _ _ h => h) (Or.inl ⟨by rfl, ?_⟩) (by assumption) ?_
  rotate_left
  · (intro wS hSw; have q0 := (hSw.1.1.get 0 rfl).1 0 _ rfl; have q1 := (hSw.1.1.get 0 rfl).1 1 _ rfl; have q2 := (hSw.1.1.get 0 rfl).1 2 _ rfl; have q3 := (hSw.1.1.get 0 rfl).1 3 _ rfl; have p0 := (hSw.1.1.get 2 rfl).1 0 _ rfl; have p1 := (hSw.1.1.get 2 rfl).1 1 _ rfl; have p2 := (hSw.1.1.get 2 rfl).1 2 _ rfl; have p3 := (hSw.1.1.get 2 rfl).1 3 _ rfl; have u0 := (hSw.1.1.get 3 rfl).1 0 _ rfl; have u1 := (hSw.1.1.get 3 rfl).1 1 _ rfl; have u2 := (hSw.1.1.get 3 rfl).1 2 _ rfl; have nn := hSw.2; go_simp; try with_reducible rfl)
  change wpAnyH _ _ _ _ _ _ _ (Act.put _ (some 46) _) _
  simp only [Act.put, List.setIfInBounds_toArray, List.set_cons_zero, List.set_cons_succ]
  refine wpAnyH_ready (rs := [1]) (by kernel_rfl) (by simp) ?_
  refine AllReadyH.cons rfl (fun K hK => ?_) AllReadyH.nil
  go_simp
  refine (f_p _ F_0.out.1.2.1 F_0.out.1.2.2.1).mono ?_
  rintro e v1 ⟨rfl, hv1⟩
  have F_1 : Hid (Fy w [(w1.heap.size, [.string webN, .int .i64 0, .int .i64 0, .slice a1 1 cap1]), (w.heap.size, [.int .i64 1000, .int .i64 1073741824, .int .i64 0]), (w.heap.size + 2, [.string webN, .int .i64 0, .int .i64 0, .slice (some ⟨w.heap.size + 1, 0, none⟩) 1 1]), (w.heap.size + 3, [.int .i64 500, .int .i64 2147483648, .int .i64 0])] (.slice a1 1 cap1) nb no v1) := F_0.out.later hv1
  clear hv1 F_0
  (try go_wp2_with (fail))
  refine hK.out _ _ ?_ (fun hHeld => ?_)
  · exact F_1.out
  clear hK K
  refine wpAnyH_take (i := 2) (v := ?_) rfl (by kernel_rfl) (by kernel_rfl) (by kernel_rfl) (fun _ _ _ h => h) (Or.inl ⟨by rfl, ?_⟩) (by assumption) ?_
  rotate_left
  · (intro wS hSw; have q0 := (hSw.1.1.get 0 rfl).1 0 _ rfl; have q1 := (hSw.1.1.get 0 rfl).1 1 _ rfl; have q2 := (hSw.1.1.get 0 rfl).1 2 _ rfl; have q3 := (hSw.1.1.get 0 rfl).1 3 _ rfl; have p0 := (hSw.1.1.get 2 rfl).1 0 _ rfl; have p1 := (hSw.1.1.get 2 rfl).1 1 _ rfl; have p2 := (hSw.1.1.get 2 rfl).1 2 _ rfl; have p3 := (hSw.1.1.get 2 rfl).1 3 _ rfl; have u0 := (hSw.1.1.get 3 rfl).1 0 _ rfl; have u1 := (hSw.1.1.get 3 rfl).1 1 _ rfl; have u2 := (hSw.1.1.get 3 rfl).1 2 _ rfl; have nn := hSw.2; go_simp; try with_reducible rfl)
  change wpAnyH _ _ _ _ _ _ _ (Act.put _ (some 48) _) _
  simp only [Act.put, List.setIfInBounds_toArray, List.set_cons_zero, List.set_cons_succ]
  refine wpAnyH_take (i := 3) (v := ?_) rfl (by kernel_rfl) (by kernel_rfl) (by kernel_rfl) (fun _ _ _ h => h) (Or.inl ⟨by rfl, ?_⟩) (by assumption) ?_
  rotate_left
  · (intro wS hSw; have q0 := (hSw.1.1.get 0 rfl).1 0 _ rfl; have q1 := (hSw.1.1.get 0 rfl).1 1 _ rfl; have q2 := (hSw.1.1.get 0 rfl).1 2 _ rfl; have q3 := (hSw.1.1.get 0 rfl).1 3 _ rfl; have p0 := (hSw.1.1.get 2 rfl).1 0 _ rfl; have p1 := (hSw.1.1.get 2 rfl).1 1 _ rfl; have p2 := (hSw.1.1.get 2 rfl).1 2 _ rfl; have p3 := (hSw.1.1.get 2 rfl).1 3 _ rfl; have u0 := (hSw.1.1.get 3 rfl).1 0 _ rfl; have u1 := (hSw.1.1.get 3 rfl).1 1 _ rfl; have u2 := (hSw.1.1.get 3 rfl).1 2 _ rfl; have nn := hSw.2; go_simp; try with_reducible rfl)
  change wpAnyH _ _ _ _ _ _ _ (Act.put _ (some 49) _) _
  simp only [Act.put, List.setIfInBounds_toArray, List.set_cons_zero, List.set_cons_succ]
  refine wpAnyH_ready (rs := [4]) (by kernel_rfl) (by simp) ?_
  refine AllReadyH.cons rfl (fun K hK => ?_) AllReadyH.nil
  go_simp
  refine (f_c _ F_1.out.1.2.1 F_1.out.1.2.2.1).mono ?_
  rintro e v2 ⟨rfl, hv2⟩
  have F_2 : Hid (Fy w [(w1.heap.size, [.string webN, .int .i64 0, .int .i64 0, .slice a1 1 cap1]), (w.heap.size, [.int .i64 1000, .int .i64 1073741824, .int .i64 0]), (w.heap.size + 2, [.string webN, .int .i64 0, .int .i64 0, .slice (some ⟨w.heap.size + 1, 0, none⟩) 1 1]), (w.heap.size + 3, [.int .i64 500, .int .i64 2147483648, .int .i64 0])] (.slice a1 1 cap1) nb no v2) := F_1.out.later hv2
  clear hv2 F_1
  (try go_wp2_with (fail))
  refine hK.out _ _ ?_ (fun hHeld => ?_)
  · exact F_2.out
  clear hK K
  refine wpAnyH_take (i := 5) (v := ?_) rfl (by kernel_rfl) (by kernel_rfl) (by kernel_rfl) (fun _ _ _ h => h) (Or.inl ⟨by rfl, ?_⟩) (by assumption) ?_
  rotate_left
  · (intro wS hSw; have q0 := (hSw.1.1.get 0 rfl).1 0 _ rfl; have q1 := (hSw.1.1.get 0 rfl).1 1 _ rfl; have q2 := (hSw.1.1.get 0 rfl).1 2 _ rfl; have q3 := (hSw.1.1.get 0 rfl).1 3 _ rfl; have p0 := (hSw.1.1.get 2 rfl).1 0 _ rfl; have p1 := (hSw.1.1.get 2 rfl).1 1 _ rfl; have p2 := (hSw.1.1.get 2 rfl).1 2 _ rfl; have p3 := (hSw.1.1.get 2 rfl).1 3 _ rfl; have u0 := (hSw.1.1.get 3 rfl).1 0 _ rfl; have u1 := (hSw.1.1.get 3 rfl).1 1 _ rfl; have u2 := (hSw.1.1.get 3 rfl).1 2 _ rfl; have nn := hSw.2; go_simp; try with_reducible rfl)
  change wpAnyH _ _ _ _ _ _ _ (Act.put _ (some 51) _) _
  simp only [Act.put, List.setIfInBounds_toArray, List.set_cons_zero, List.set_cons_succ]
  refine wpAnyH_take (i := 6) (v := ?_) rfl (by kernel_rfl) (by kernel_rfl) (by kernel_rfl) (fun _ _ _ h => h) (Or.inl ⟨by rfl, ?_⟩) (by assumption) ?_
  rotate_left
  · (intro wS hSw; have q0 := (hSw.1.1.get 0 rfl).1 0 _ rfl; have q1 := (hSw.1.1.get 0 rfl).1 1 _ rfl; have q2 := (hSw.1.1.get 0 rfl).1 2 _ rfl; have q3 := (hSw.1.1.get 0 rfl).1 3 _ rfl; have p0 := (hSw.1.1.get 2 rfl).1 0 _ rfl; have p1 := (hSw.1.1.get 2 rfl).1 1 _ rfl; have p2 := (hSw.1.1.get 2 rfl).1 2 _ rfl; have p3 := (hSw.1.1.get 2 rfl).1 3 _ rfl; have u0 := (hSw.1.1.get 3 rfl).1 0 _ rfl; have u1 := (hSw.1.1.get 3 rfl).1 1 _ rfl; have u2 := (hSw.1.1.get 3 rfl).1 2 _ rfl; have nn := hSw.2; go_simp; try with_reducible rfl)
  change wpAnyH _ _ _ _ _ _ _ (Act.put _ (some 52) _) _
  simp only [Act.put, List.setIfInBounds_toArray, List.set_cons_zero, List.set_cons_succ]
  refine wpAnyH_take (i := 7) (v := ?_) rfl (by kernel_rfl) (by kernel_rfl) (by kernel_rfl) (fun _ _ _ h => h) (Or.inl ⟨by rfl, ?_⟩) (by assumption) ?_
  rotate_left
  · (intro wS hSw; have q0 := (hSw.1.1.get 0 rfl).1 0 _ rfl; have q1 := (hSw.1.1.get 0 rfl).1 1 _ rfl; have q2 := (hSw.1.1.get 0 rfl).1 2 _ rfl; have q3 := (hSw.1.1.get 0 rfl).1 3 _ rfl; have p0 := (hSw.1.1.get 2 rfl).1 0 _ rfl; have p1 := (hSw.1.1.get 2 rfl).1 1 _ rfl; have p2 := (hSw.1.1.get 2 rfl).1 2 _ rfl; have p3 := (hSw.1.1.get 2 rfl).1 3 _ rfl; have u0 := (hSw.1.1.get 3 rfl).1 0 _ rfl; have u1 := (hSw.1.1.get 3 rfl).1 1 _ rfl; have u2 := (hSw.1.1.get 3 rfl).1 2 _ rfl; have nn := hSw.2; go_simp; try with_reducible rfl)
  change wpAnyH _ _ _ _ _ _ _ (Act.put _ (some 53) _) _
  simp only [Act.put, List.setIfInBounds_toArray, List.set_cons_zero, List.set_cons_succ]
  refine wpAnyH_take (i := 8) (v := ?_) rfl (by kernel_rfl) (by kernel_rfl) (by kernel_rfl) (fun _ _ _ h => h) (Or.inl ⟨by rfl, ?_⟩) (by assumption) ?_
  rotate_left
  · (intro wS hSw; have q0 := (hSw.1.1.get 0 rfl).1 0 _ rfl; have q1 := (hSw.1.1.get 0 rfl).1 1 _ rfl; have q2 := (hSw.1.1.get 0 rfl).1 2 _ rfl; have q3 := (hSw.1.1.get 0 rfl).1 3 _ rfl; have p0 := (hSw.1.1.get 2 rfl).1 0 _ rfl; have p1 := (hSw.1.1.get 2 rfl).1 1 _ rfl; have p2 := (hSw.1.1.get 2 rfl).1 2 _ rfl; have p3 := (hSw.1.1.get 2 rfl).1 3 _ rfl; have u0 := (hSw.1.1.get 3 rfl).1 0 _ rfl; have u1 := (hSw.1.1.get 3 rfl).1 1 _ rfl; have u2 := (hSw.1.1.get 3 rfl).1 2 _ rfl; have nn := hSw.2; go_simp; try with_reducible rfl)
  change wpAnyH _ _ _ _ _ _ _ (Act.put _ (some 54) _) _
  simp only [Act.put, List.setIfInBounds_toArray, List.set_cons_zero, List.set_cons_succ]
  refine wpAnyH_take (i := 9) (v := ?_) rfl (by kernel_rfl) (by kernel_rfl) (by kernel_rfl) (fun _ _ _ h => h) (Or.inl ⟨by rfl, ?_⟩) (by assumption) ?_
  rotate_left
  · (intro wS hSw; have q0 := (hSw.1.1.get 0 rfl).1 0 _ rfl; have q1 := (hSw.1.1.get 0 rfl).1 1 _ rfl; have q2 := (hSw.1.1.get 0 rfl).1 2 _ rfl; have q3 := (hSw.1.1.get 0 rfl).1 3 _ rfl; have p0 := (hSw.1.1.get 2 rfl).1 0 _ rfl; have p1 := (hSw.1.1.get 2 rfl).1 1 _ rfl; have p2 := (hSw.1.1.get 2 rfl).1 2 _ rfl; have p3 := (hSw.1.1.get 2 rfl).1 3 _ rfl; have u0 := (hSw.1.1.get 3 rfl).1 0 _ rfl; have u1 := (hSw.1.1.get 3 rfl).1 1 _ rfl; have u2 := (hSw.1.1.get 3 rfl).1 2 _ rfl; have nn := hSw.2; go_simp; try with_reducible rfl)
  change wpAnyH _ _ _ _ _ _ _ (Act.put _ (some 55) _) _
  simp only [Act.put, List.setIfInBounds_toArray, List.set_cons_zero, List.set_cons_succ]
  refine wpAnyH_take (i := 10) (v := ?_) rfl (by kernel_rfl) (by kernel_rfl) (by kernel_rfl) (fun _ _ _ h => h) (Or.inl ⟨by rfl, ?_⟩) (by assumption) ?_
  rotate_left
  · (intro wS hSw; have q0 := (hSw.1.1.get 0 rfl).1 0 _ rfl; have q1 := (hSw.1.1.get 0 rfl).1 1 _ rfl; have q2 := (hSw.1.1.get 0 rfl).1 2 _ rfl; have q3 := (hSw.1.1.get 0 rfl).1 3 _ rfl; have p0 := (hSw.1.1.get 2 rfl).1 0 _ rfl; have p1 := (hSw.1.1.get 2 rfl).1 1 _ rfl; have p2 := (hSw.1.1.get 2 rfl).1 2 _ rfl; have p3 := (hSw.1.1.get 2 rfl).1 3 _ rfl; have u0 := (hSw.1.1.get 3 rfl).1 0 _ rfl; have u1 := (hSw.1.1.get 3 rfl).1 1 _ rfl; have u2 := (hSw.1.1.get 3 rfl).1 2 _ rfl; have nn := hSw.2; go_simp; try with_reducible rfl)
  change wpAnyH _ _ _ _ _ _ _ (Act.put _ (some 56) _) _
  simp only [Act.put, List.setIfInBounds_toArray, List.set_cons_zero, List.set_cons_succ]
  refine wpAnyH_take (i := 11) (v := ?_) rfl (by kernel_rfl) (by kernel_rfl) (by kernel_rfl) (fun _ _ _ h => h) (Or.inl ⟨by rfl, ?_⟩) (by assumption) ?_
  rotate_left
  · (intro wS hSw; have q0 := (hSw.1.1.get 0 rfl).1 0 _ rfl; have q1 := (hSw.1.1.get 0 rfl).1 1 _ rfl; have q2 := (hSw.1.1.get 0 rfl).1 2 _ rfl; have q3 := (hSw.1.1.get 0 rfl).1 3 _ rfl; have p0 := (hSw.1.1.get 2 rfl).1 0 _ rfl; have p1 := (hSw.1.1.get 2 rfl).1 1 _ rfl; have p2 := (hSw.1.1.get 2 rfl).1 2 _ rfl; have p3 := (hSw.1.1.get 2 rfl).1 3 _ rfl; have u0 := (hSw.1.1.get 3 rfl).1 0 _ rfl; have u1 := (hSw.1.1.get 3 rfl).1 1 _ rfl; have u2 := (hSw.1.1.get 3 rfl).1 2 _ rfl; have nn := hSw.2; go_simp; try with_reducible rfl)
  change wpAnyH _ _ _ _ _ _ _ (Act.put _ (some 57) _) _
  simp only [Act.put, List.setIfInBounds_toArray, List.set_cons_zero, List.set_cons_succ]
  refine wpAnyH_take (i := 12) (v := ?_) rfl (by kernel_rfl) (by kernel_rfl) (by kernel_rfl) (fun _ _ _ h => h) (Or.inl ⟨by rfl, ?_⟩) (by assumption) ?_
  rotate_left
  · (intro wS hSw; have q0 := (hSw.1.1.get 0 rfl).1 0 _ rfl; have q1 := (hSw.1.1.get 0 rfl).1 1 _ rfl; have q2 := (hSw.1.1.get 0 rfl).1 2 _ rfl; have q3 := (hSw.1.1.get 0 rfl).1 3 _ rfl; have p0 := (hSw.1.1.get 2 rfl).1 0 _ rfl; have p1 := (hSw.1.1.get 2 rfl).1 1 _ rfl; have p2 := (hSw.1.1.get 2 rfl).1 2 _ rfl; have p3 := (hSw.1.1.get 2 rfl).1 3 _ rfl; have u0 := (hSw.1.1.get 3 rfl).1 0 _ rfl; have u1 := (hSw.1.1.get 3 rfl).1 1 _ rfl; have u2 := (hSw.1.1.get 3 rfl).1 2 _ rfl; have nn := hSw.2; go_simp; try with_reducible rfl)
  change wpAnyH _ _ _ _ _ _ _ (Act.put _ (some 58) _) _
  simp only [Act.put, List.setIfInBounds_toArray, List.set_cons_zero, List.set_cons_succ]
  refine wpAnyH_take (i := 13) (v := ?_) rfl (by kernel_rfl) (by kernel_rfl) (by kernel_rfl) (fun _ _ _ h => h) (Or.inl ⟨by rfl, ?_⟩) (by assumption) ?_
  rotate_left
  · (intro wS hSw; have q0 := (hSw.1.1.get 0 rfl).1 0 _ rfl; have q1 := (hSw.1.1.get 0 rfl).1 1 _ rfl; have q2 := (hSw.1.1.get 0 rfl).1 2 _ rfl; have q3 := (hSw.1.1.get 0 rfl).1 3 _ rfl; have p0 := (hSw.1.1.get 2 rfl).1 0 _ rfl; have p1 := (hSw.1.1.get 2 rfl).1 1 _ rfl; have p2 := (hSw.1.1.get 2 rfl).1 2 _ rfl; have p3 := (hSw.1.1.get 2 rfl).1 3 _ rfl; have u0 := (hSw.1.1.get 3 rfl).1 0 _ rfl; have u1 := (hSw.1.1.get 3 rfl).1 1 _ rfl; have u2 := (hSw.1.1.get 3 rfl).1 2 _ rfl; have nn := hSw.2; go_simp; try with_reducible rfl)
  change wpAnyH _ _ _ _ _ _ _ (Act.put _ (some 59) _) _
  simp only [Act.put, List.setIfInBounds_toArray, List.set_cons_zero, List.set_cons_succ]
  refine wpAnyH_take (i := 14) (v := ?_) rfl (by kernel_rfl) (by kernel_rfl) (by kernel_rfl) (fun _ _ _ h => h) (Or.inl ⟨by rfl, ?_⟩) (by assumption) ?_
  rotate_left
  · (intro wS hSw; have q0 := (hSw.1.1.get 0 rfl).1 0 _ rfl; have q1 := (hSw.1.1.get 0 rfl).1 1 _ rfl; have q2 := (hSw.1.1.get 0 rfl).1 2 _ rfl; have q3 := (hSw.1.1.get 0 rfl).1 3 _ rfl; have p0 := (hSw.1.1.get 2 rfl).1 0 _ rfl; have p1 := (hSw.1.1.get 2 rfl).1 1 _ rfl; have p2 := (hSw.1.1.get 2 rfl).1 2 _ rfl; have p3 := (hSw.1.1.get 2 rfl).1 3 _ rfl; have u0 := (hSw.1.1.get 3 rfl).1 0 _ rfl; have u1 := (hSw.1.1.get 3 rfl).1 1 _ rfl; have u2 := (hSw.1.1.get 3 rfl).1 2 _ rfl; have nn := hSw.2; go_simp; try with_reducible rfl)
  change wpAnyH _ _ _ _ _ _ _ (Act.put _ (some 60) _) _
  simp only [Act.put, List.setIfInBounds_toArray, List.set_cons_zero, List.set_cons_succ]
  refine wpAnyH_take (i := 15) (v := ?_) rfl (by kernel_rfl) (by kernel_rfl) (by kernel_rfl) (fun _ _ _ h => h) (Or.inl ⟨by rfl, ?_⟩) (by assumption) ?_
  rotate_left
  · (intro wS hSw; have q0 := (hSw.1.1.get 0 rfl).1 0 _ rfl; have q1 := (hSw.1.1.get 0 rfl).1 1 _ rfl; have q2 := (hSw.1.1.get 0 rfl).1 2 _ rfl; have q3 := (hSw.1.1.get 0 rfl).1 3 _ rfl; have p0 := (hSw.1.1.get 2 rfl).1 0 _ rfl; have p1 := (hSw.1.1.get 2 rfl).1 1 _ rfl; have p2 := (hSw.1.1.get 2 rfl).1 2 _ rfl; have p3 := (hSw.1.1.get 2 rfl).1 3 _ rfl; have u0 := (hSw.1.1.get 3 rfl).1 0 _ rfl; have u1 := (hSw.1.1.get 3 rfl).1 1 _ rfl; have u2 := (hSw.1.1.get 3 rfl).1 2 _ rfl; have nn := hSw.2; go_simp; try with_reducible rfl)
  change wpAnyH _ _ _ _ _ _ _ (Act.put _ (some 61) _) _
  simp only [Act.put, List.setIfInBounds_toArray, List.set_cons_zero, List.set_cons_succ]
  refine wpAnyH_take (i := 16) (v := ?_) rfl (by kernel_rfl) (by kernel_rfl) (by kernel_rfl) (fun _ _ _ h => h) (Or.inl ⟨by rfl, ?_⟩) (by assumption) ?_
  rotate_left
  · (intro wS hSw; have q0 := (hSw.1.1.get 0 rfl).1 0 _ rfl; have q1 := (hSw.1.1.get 0 rfl).1 1 _ rfl; have q2 := (hSw.1.1.get 0 rfl).1 2 _ rfl; have q3 := (hSw.1.1.get 0 rfl).1 3 _ rfl; have p0 := (hSw.1.1.get 2 rfl).1 0 _ rfl; have p1 := (hSw.1.1.get 2 rfl).1 1 _ rfl; have p2 := (hSw.1.1.get 2 rfl).1 2 _ rfl; have p3 := (hSw.1.1.get 2 rfl).1 3 _ rfl; have u0 := (hSw.1.1.get 3 rfl).1 0 _ rfl; have u1 := (hSw.1.1.get 3 rfl).1 1 _ rfl; have u2 := (hSw.1.1.get 3 rfl).1 2 _ rfl; have nn := hSw.2; go_simp; try with_reducible rfl)
  change wpAnyH _ _ _ _ _ _ _ (Act.put _ (some 62) _) _
  simp only [Act.put, List.setIfInBounds_toArray, List.set_cons_zero, List.set_cons_succ]
  refine wpAnyH_take (i := 17) (v := ?_) rfl (by kernel_rfl) (by kernel_rfl) (by kernel_rfl) (fun _ _ _ h => h) (Or.inl ⟨by rfl, ?_⟩) (by assumption) ?_
  rotate_left
  · (intro wS hSw; have q0 := (hSw.1.1.get 0 rfl).1 0 _ rfl; have q1 := (hSw.1.1.get 0 rfl).1 1 _ rfl; have q2 := (hSw.1.1.get 0 rfl).1 2 _ rfl; have q3 := (hSw.1.1.get 0 rfl).1 3 _ rfl; have p0 := (hSw.1.1.get 2 rfl).1 0 _ rfl; have p1 := (hSw.1.1.get 2 rfl).1 1 _ rfl; have p2 := (hSw.1.1.get 2 rfl).1 2 _ rfl; have p3 := (hSw.1.1.get 2 rfl).1 3 _ rfl; have u0 := (hSw.1.1.get 3 rfl).1 0 _ rfl; have u1 := (hSw.1.1.get 3 rfl).1 1 _ rfl; have u2 := (hSw.1.1.get 3 rfl).1 2 _ rfl; have nn := hSw.2; go_simp; try with_reducible rfl)
  change wpAnyH _ _ _ _ _ _ _ (Act.put _ (some 63) _) _
  simp only [Act.put, List.setIfInBounds_toArray, List.set_cons_zero, List.set_cons_succ]
  refine wpAnyH_take (i := 18) (v := ?_) rfl (by kernel_rfl) (by kernel_rfl) (by kernel_rfl) (fun _ _ _ h => h) (Or.inl ⟨by rfl, ?_⟩) (by assumption) ?_
  rotate_left
  · (intro wS hSw; have q0 := (hSw.1.1.get 0 rfl).1 0 _ rfl; have q1 := (hSw.1.1.get 0 rfl).1 1 _ rfl; have q2 := (hSw.1.1.get 0 rfl).1 2 _ rfl; have q3 := (hSw.1.1.get 0 rfl).1 3 _ rfl; have p0 := (hSw.1.1.get 2 rfl).1 0 _ rfl; have p1 := (hSw.1.1.get 2 rfl).1 1 _ rfl; have p2 := (hSw.1.1.get 2 rfl).1 2 _ rfl; have p3 := (hSw.1.1.get 2 rfl).1 3 _ rfl; have u0 := (hSw.1.1.get 3 rfl).1 0 _ rfl; have u1 := (hSw.1.1.get 3 rfl).1 1 _ rfl; have u2 := (hSw.1.1.get 3 rfl).1 2 _ rfl; have nn := hSw.2; go_simp; try with_reducible rfl)
  change wpAnyH _ _ _ _ _ _ _ (Act.put _ (some 64) _) _
  simp only [Act.put, List.setIfInBounds_toArray, List.set_cons_zero, List.set_cons_succ]
  refine wpAnyH_take (i := 19) (v := ?_) rfl (by kernel_rfl) (by kernel_rfl) (by kernel_rfl) (fun _ _ _ h => h) (Or.inl ⟨by rfl, ?_⟩) (by assumption) ?_
  rotate_left
  · (intro wS hSw; have q0 := (hSw.1.1.get 0 rfl).1 0 _ rfl; have q1 := (hSw.1.1.get 0 rfl).1 1 _ rfl; have q2 := (hSw.1.1.get 0 rfl).1 2 _ rfl; have q3 := (hSw.1.1.get 0 rfl).1 3 _ rfl; have p0 := (hSw.1.1.get 2 rfl).1 0 _ rfl; have p1 := (hSw.1.1.get 2 rfl).1 1 _ rfl; have p2 := (hSw.1.1.get 2 rfl).1 2 _ rfl; have p3 := (hSw.1.1.get 2 rfl).1 3 _ rfl; have u0 := (hSw.1.1.get 3 rfl).1 0 _ rfl; have u1 := (hSw.1.1.get 3 rfl).1 1 _ rfl; have u2 := (hSw.1.1.get 3 rfl).1 2 _ rfl; have nn := hSw.2; go_simp; try with_reducible rfl)
  change wpAnyH _ _ _ _ _ _ _ (Act.put _ (some 65) _) _
  simp only [Act.put, List.setIfInBounds_toArray, List.set_cons_zero, List.set_cons_succ]
  refine wpAnyH_take (i := 20) (v := ?_) rfl (by kernel_rfl) (by kernel_rfl) (by kernel_rfl) (fun _ _ _ h => h) (Or.inl ⟨by rfl, ?_⟩) (by assumption) ?_
  rotate_left
  · (intro wS hSw; have q0 := (hSw.1.1.get 0 rfl).1 0 _ rfl; have q1 := (hSw.1.1.get 0 rfl).1 1 _ rfl; have q2 := (hSw.1.1.get 0 rfl).1 2 _ rfl; have q3 := (hSw.1.1.get 0 rfl).1 3 _ rfl; have p0 := (hSw.1.1.get 2 rfl).1 0 _ rfl; have p1 := (hSw.1.1.get 2 rfl).1 1 _ rfl; have p2 := (hSw.1.1.get 2 rfl).1 2 _ rfl; have p3 := (hSw.1.1.get 2 rfl).1 3 _ rfl; have u0 := (hSw.1.1.get 3 rfl).1 0 _ rfl; have u1 := (hSw.1.1.get 3 rfl).1 1 _ rfl; have u2 := (hSw.1.1.get 3 rfl).1 2 _ rfl; have nn := hSw.2; go_simp; try with_reducible rfl)
  change wpAnyH _ _ _ _ _ _ _ (Act.put _ (some 66) _) _
  simp only [Act.put, List.setIfInBounds_toArray, List.set_cons_zero, List.set_cons_succ]
  refine wpAnyH_take (i := 22) (v := ?_) rfl (by kernel_rfl) (by kernel_rfl) (by kernel_rfl) (fun _ _ _ h => h) (Or.inl ⟨by rfl, ?_⟩) (by assumption) ?_
  rotate_left
  · (intro wS hSw; have q0 := (hSw.1.1.get 0 rfl).1 0 _ rfl; have q1 := (hSw.1.1.get 0 rfl).1 1 _ rfl; have q2 := (hSw.1.1.get 0 rfl).1 2 _ rfl; have q3 := (hSw.1.1.get 0 rfl).1 3 _ rfl; have p0 := (hSw.1.1.get 2 rfl).1 0 _ rfl; have p1 := (hSw.1.1.get 2 rfl).1 1 _ rfl; have p2 := (hSw.1.1.get 2 rfl).1 2 _ rfl; have p3 := (hSw.1.1.get 2 rfl).1 3 _ rfl; have u0 := (hSw.1.1.get 3 rfl).1 0 _ rfl; have u1 := (hSw.1.1.get 3 rfl).1 1 _ rfl; have u2 := (hSw.1.1.get 3 rfl).1 2 _ rfl; have nn := hSw.2; go_simp; try with_reducible rfl)
  change wpAnyH _ _ _ _ _ _ _ (Act.put _ (some 68) _) _
  simp only [Act.put, List.setIfInBounds_toArray, List.set_cons_zero, List.set_cons_succ]
  refine wpAnyH_ready (rs := [21]) (by kernel_rfl) (by simp) ?_
  refine AllReadyH.cons rfl (fun K hK => ?_) AllReadyH.nil
  go_simp
  refine (f_q _ F_2.out.1.2.1 F_2.out.1.2.2.2).mono ?_
  rintro e v3 ⟨rfl, hv3⟩
  have F_3 : Hid (Fy w [(w1.heap.size, [.string webN, .int .i64 0, .int .i64 0, .slice a1 1 cap1]), (w.heap.size, [.int .i64 1000, .int .i64 1073741824, .int .i64 0]), (w.heap.size + 2, [.string webN, .int .i64 0, .int .i64 0, .slice (some ⟨w.heap.size + 1, 0, none⟩) 1 1]), (w.heap.size + 3, [.int .i64 500, .int .i64 2147483648, .int .i64 0])] (.slice a1 1 cap1) nb no v3) := F_2.out.later hv3
  clear hv3 F_2
  (try go_wp2_with (fail))
  refine hK.out _ _ ?_ (fun hHeld => ?_)
  · exact F_3.out
  clear hK K
  refine wpAnyH_take (i := 23) (v := ?_) rfl (by kernel_rfl) (by kernel_rfl) (by kernel_rfl) (fun _ _ _ h => h) (Or.inl ⟨by rfl, ?_⟩) (by assumption) ?_
  rotate_left
  · (intro wS hSw; have q0 := (hSw.1.1.get 0 rfl).1 0 _ rfl; have q1 := (hSw.1.1.get 0 rfl).1 1 _ rfl; have q2 := (hSw.1.1.get 0 rfl).1 2 _ rfl; have q3 := (hSw.1.1.get 0 rfl).1 3 _ rfl; have p0 := (hSw.1.1.get 2 rfl).1 0 _ rfl; have p1 := (hSw.1.1.get 2 rfl).1 1 _ rfl; have p2 := (hSw.1.1.get 2 rfl).1 2 _ rfl; have p3 := (hSw.1.1.get 2 rfl).1 3 _ rfl; have u0 := (hSw.1.1.get 3 rfl).1 0 _ rfl; have u1 := (hSw.1.1.get 3 rfl).1 1 _ rfl; have u2 := (hSw.1.1.get 3 rfl).1 2 _ rfl; have nn := hSw.2; go_simp; try with_reducible rfl)
  change wpAnyH _ _ _ _ _ _ _ (Act.put _ (some 69) _) _
  simp only [Act.put, List.setIfInBounds_toArray, List.set_cons_zero, List.set_cons_succ]
  refine wpAnyH_take (i := 24) (v := ?_) rfl (by kernel_rfl) (by kernel_rfl) (by kernel_rfl) (fun _ _ _ h => h) (Or.inl ⟨by rfl, ?_⟩) (by assumption) ?_
  rotate_left
  · (intro wS hSw; have q0 := (hSw.1.1.get 0 rfl).1 0 _ rfl; have q1 := (hSw.1.1.get 0 rfl).1 1 _ rfl; have q2 := (hSw.1.1.get 0 rfl).1 2 _ rfl; have q3 := (hSw.1.1.get 0 rfl).1 3 _ rfl; have p0 := (hSw.1.1.get 2 rfl).1 0 _ rfl; have p1 := (hSw.1.1.get 2 rfl).1 1 _ rfl; have p2 := (hSw.1.1.get 2 rfl).1 2 _ rfl; have p3 := (hSw.1.1.get 2 rfl).1 3 _ rfl; have u0 := (hSw.1.1.get 3 rfl).1 0 _ rfl; have u1 := (hSw.1.1.get 3 rfl).1 1 _ rfl; have u2 := (hSw.1.1.get 3 rfl).1 2 _ rfl; have nn := hSw.2; go_simp; try with_reducible rfl)
  change wpAnyH _ _ _ _ _ _ _ (Act.put _ (some 70) _) _
  simp only [Act.put, List.setIfInBounds_toArray, List.set_cons_zero, List.set_cons_succ]
  refine wpAnyH_take (i := 25) (v := ?_) rfl (by kernel_rfl) (by kernel_rfl) (by kernel_rfl) (fun _ _ _ h => h) (Or.inl ⟨by rfl, ?_⟩) (by assumption) ?_
  rotate_left
  · (intro wS hSw; have q0 := (hSw.1.1.get 0 rfl).1 0 _ rfl; have q1 := (hSw.1.1.get 0 rfl).1 1 _ rfl; have q2 := (hSw.1.1.get 0 rfl).1 2 _ rfl; have q3 := (hSw.1.1.get 0 rfl).1 3 _ rfl; have p0 := (hSw.1.1.get 2 rfl).1 0 _ rfl; have p1 := (hSw.1.1.get 2 rfl).1 1 _ rfl; have p2 := (hSw.1.1.get 2 rfl).1 2 _ rfl; have p3 := (hSw.1.1.get 2 rfl).1 3 _ rfl; have u0 := (hSw.1.1.get 3 rfl).1 0 _ rfl; have u1 := (hSw.1.1.get 3 rfl).1 1 _ rfl; have u2 := (hSw.1.1.get 3 rfl).1 2 _ rfl; have nn := hSw.2; go_simp; try with_reducible rfl)
  change wpAnyH _ _ _ _ _ _ _ (Act.put _ (some 71) _) _
  simp only [Act.put, List.setIfInBounds_toArray, List.set_cons_zero, List.set_cons_succ]
  refine wpAnyH_take (i := 26) (v := ?_) rfl (by kernel_rfl) (by kernel_rfl) (by kernel_rfl) (fun _ _ _ h => h) (Or.inl ⟨by rfl, ?_⟩) (by assumption) ?_
  rotate_left
  · (intro wS hSw; have q0 := (hSw.1.1.get 0 rfl).1 0 _ rfl; have q1 := (hSw.1.1.get 0 rfl).1 1 _ rfl; have q2 := (hSw.1.1.get 0 rfl).1 2 _ rfl; have q3 := (hSw.1.1.get 0 rfl).1 3 _ rfl; have p0 := (hSw.1.1.get 2 rfl).1 0 _ rfl; have p1 := (hSw.1.1.get 2 rfl).1 1 _ rfl; have p2 := (hSw.1.1.get 2 rfl).1 2 _ rfl; have p3 := (hSw.1.1.get 2 rfl).1 3 _ rfl; have u0 := (hSw.1.1.get 3 rfl).1 0 _ rfl; have u1 := (hSw.1.1.get 3 rfl).1 1 _ rfl; have u2 := (hSw.1.1.get 3 rfl).1 2 _ rfl; have nn := hSw.2; go_simp; try with_reducible rfl)
  change wpAnyH _ _ _ _ _ _ _ (Act.put _ (some 72) _) _
  simp only [Act.put, List.setIfInBounds_toArray, List.set_cons_zero, List.set_cons_succ]
  refine wpAnyH_take (i := 27) (v := ?_) rfl (by kernel_rfl) (by kernel_rfl) (by kernel_rfl) (fun _ _ _ h => h) (Or.inl ⟨by rfl, ?_⟩) (by assumption) ?_
  rotate_left
  · (intro wS hSw; have q0 := (hSw.1.1.get 0 rfl).1 0 _ rfl; have q1 := (hSw.1.1.get 0 rfl).1 1 _ rfl; have q2 := (hSw.1.1.get 0 rfl).1 2 _ rfl; have q3 := (hSw.1.1.get 0 rfl).1 3 _ rfl; have p0 := (hSw.1.1.get 2 rfl).1 0 _ rfl; have p1 := (hSw.1.1.get 2 rfl).1 1 _ rfl; have p2 := (hSw.1.1.get 2 rfl).1 2 _ rfl; have p3 := (hSw.1.1.get 2 rfl).1 3 _ rfl; have u0 := (hSw.1.1.get 3 rfl).1 0 _ rfl; have u1 := (hSw.1.1.get 3 rfl).1 1 _ rfl; have u2 := (hSw.1.1.get 3 rfl).1 2 _ rfl; have nn := hSw.2; go_simp; try with_reducible rfl)
  change wpAnyH _ _ _ _ _ _ _ (Act.put _ (some 73) _) _
  simp only [Act.put, List.setIfInBounds_toArray, List.set_cons_zero, List.set_cons_succ]
  refine wpAnyH_take (i := 28) (v := ?_) rfl (by kernel_rfl) (by kernel_rfl) (by kernel_rfl) (fun _ _ _ h => h) (Or.inl ⟨by rfl, ?_⟩) (by assumption) ?_
  rotate_left
  · (intro wS hSw; have q0 := (hSw.1.1.get 0 rfl).1 0 _ rfl; have q1 := (hSw.1.1.get 0 rfl).1 1 _ rfl; have q2 := (hSw.1.1.get 0 rfl).1 2 _ rfl; have q3 := (hSw.1.1.get 0 rfl).1 3 _ rfl; have p0 := (hSw.1.1.get 2 rfl).1 0 _ rfl; have p1 := (hSw.1.1.get 2 rfl).1 1 _ rfl; have p2 := (hSw.1.1.get 2 rfl).1 2 _ rfl; have p3 := (hSw.1.1.get 2 rfl).1 3 _ rfl; have u0 := (hSw.1.1.get 3 rfl).1 0 _ rfl; have u1 := (hSw.1.1.get 3 rfl).1 1 _ rfl; have u2 := (hSw.1.1.get 3 rfl).1 2 _ rfl; have nn := hSw.2; go_simp; try with_reducible rfl)
  change wpAnyH _ _ _ _ _ _ _ (Act.put _ (some 74) _) _
  simp only [Act.put, List.setIfInBounds_toArray, List.set_cons_zero, List.set_cons_succ]
  refine wpAnyH_take (i := 29) (v := ?_) rfl (by kernel_rfl) (by kernel_rfl) (by kernel_rfl) (fun _ _ _ h => h) (Or.inl ⟨by rfl, ?_⟩) (by assumption) ?_
  rotate_left
  · (intro wS hSw; have q0 := (hSw.1.1.get 0 rfl).1 0 _ rfl; have q1 := (hSw.1.1.get 0 rfl).1 1 _ rfl; have q2 := (hSw.1.1.get 0 rfl).1 2 _ rfl; have q3 := (hSw.1.1.get 0 rfl).1 3 _ rfl; have p0 := (hSw.1.1.get 2 rfl).1 0 _ rfl; have p1 := (hSw.1.1.get 2 rfl).1 1 _ rfl; have p2 := (hSw.1.1.get 2 rfl).1 2 _ rfl; have p3 := (hSw.1.1.get 2 rfl).1 3 _ rfl; have u0 := (hSw.1.1.get 3 rfl).1 0 _ rfl; have u1 := (hSw.1.1.get 3 rfl).1 1 _ rfl; have u2 := (hSw.1.1.get 3 rfl).1 2 _ rfl; have nn := hSw.2; go_simp; try with_reducible rfl)
  change wpAnyH _ _ _ _ _ _ _ (Act.put _ (some 75) _) _
  simp only [Act.put, List.setIfInBounds_toArray, List.set_cons_zero, List.set_cons_succ]
  refine wpAnyH_take (i := 30) (v := ?_) rfl (by kernel_rfl) (by kernel_rfl) (by kernel_rfl) (fun _ _ _ h => h) (Or.inl ⟨by rfl, ?_⟩) (by assumption) ?_
  rotate_left
  · (intro wS hSw; have q0 := (hSw.1.1.get 0 rfl).1 0 _ rfl; have q1 := (hSw.1.1.get 0 rfl).1 1 _ rfl; have q2 := (hSw.1.1.get 0 rfl).1 2 _ rfl; have q3 := (hSw.1.1.get 0 rfl).1 3 _ rfl; have p0 := (hSw.1.1.get 2 rfl).1 0 _ rfl; have p1 := (hSw.1.1.get 2 rfl).1 1 _ rfl; have p2 := (hSw.1.1.get 2 rfl).1 2 _ rfl; have p3 := (hSw.1.1.get 2 rfl).1 3 _ rfl; have u0 := (hSw.1.1.get 3 rfl).1 0 _ rfl; have u1 := (hSw.1.1.get 3 rfl).1 1 _ rfl; have u2 := (hSw.1.1.get 3 rfl).1 2 _ rfl; have nn := hSw.2; go_simp; try with_reducible rfl)
  change wpAnyH _ _ _ _ _ _ _ (Act.put _ (some 76) _) _
  simp only [Act.put, List.setIfInBounds_toArray, List.set_cons_zero, List.set_cons_succ]
  refine wpAnyH_take (i := 31) (v := ?_) rfl (by kernel_rfl) (by kernel_rfl) (by kernel_rfl) (fun _ _ _ h => h) (Or.inl ⟨by rfl, ?_⟩) (by assumption) ?_
  rotate_left
  · (intro wS hSw; have q0 := (hSw.1.1.get 0 rfl).1 0 _ rfl; have q1 := (hSw.1.1.get 0 rfl).1 1 _ rfl; have q2 := (hSw.1.1.get 0 rfl).1 2 _ rfl; have q3 := (hSw.1.1.get 0 rfl).1 3 _ rfl; have p0 := (hSw.1.1.get 2 rfl).1 0 _ rfl; have p1 := (hSw.1.1.get 2 rfl).1 1 _ rfl; have p2 := (hSw.1.1.get 2 rfl).1 2 _ rfl; have p3 := (hSw.1.1.get 2 rfl).1 3 _ rfl; have u0 := (hSw.1.1.get 3 rfl).1 0 _ rfl; have u1 := (hSw.1.1.get 3 rfl).1 1 _ rfl; have u2 := (hSw.1.1.get 3 rfl).1 2 _ rfl; have nn := hSw.2; go_simp; try with_reducible rfl)
  change wpAnyH _ _ _ _ _ _ _ (Act.put _ (some 77) _) _
  simp only [Act.put, List.setIfInBounds_toArray, List.set_cons_zero, List.set_cons_succ]
  refine wpAnyH_take (i := 32) (v := ?_) rfl (by kernel_rfl) (by kernel_rfl) (by kernel_rfl) (fun _ _ _ h => h) (Or.inl ⟨by rfl, ?_⟩) (by assumption) ?_
  rotate_left
  · (intro wS hSw; have q0 := (hSw.1.1.get 0 rfl).1 0 _ rfl; have q1 := (hSw.1.1.get 0 rfl).1 1 _ rfl; have q2 := (hSw.1.1.get 0 rfl).1 2 _ rfl; have q3 := (hSw.1.1.get 0 rfl).1 3 _ rfl; have p0 := (hSw.1.1.get 2 rfl).1 0 _ rfl; have p1 := (hSw.1.1.get 2 rfl).1 1 _ rfl; have p2 := (hSw.1.1.get 2 rfl).1 2 _ rfl; have p3 := (hSw.1.1.get 2 rfl).1 3 _ rfl; have u0 := (hSw.1.1.get 3 rfl).1 0 _ rfl; have u1 := (hSw.1.1.get 3 rfl).1 1 _ rfl; have u2 := (hSw.1.1.get 3 rfl).1 2 _ rfl; have nn := hSw.2; go_simp; try with_reducible rfl)
  change wpAnyH _ _ _ _ _ _ _ (Act.put _ (some 78) _) _
  simp only [Act.put, List.setIfInBounds_toArray, List.set_cons_zero, List.set_cons_succ]
  refine wpAnyH_take (i := 33) (v := ?_) rfl (by kernel_rfl) (by kernel_rfl) (by kernel_rfl) (fun _ _ _ h => h) (Or.inl ⟨by rfl, ?_⟩) (by assumption) ?_
  rotate_left
  · (intro wS hSw; have q0 := (hSw.1.1.get 0 rfl).1 0 _ rfl; have q1 := (hSw.1.1.get 0 rfl).1 1 _ rfl; have q2 := (hSw.1.1.get 0 rfl).1 2 _ rfl; have q3 := (hSw.1.1.get 0 rfl).1 3 _ rfl; have p0 := (hSw.1.1.get 2 rfl).1 0 _ rfl; have p1 := (hSw.1.1.get 2 rfl).1 1 _ rfl; have p2 := (hSw.1.1.get 2 rfl).1 2 _ rfl; have p3 := (hSw.1.1.get 2 rfl).1 3 _ rfl; have u0 := (hSw.1.1.get 3 rfl).1 0 _ rfl; have u1 := (hSw.1.1.get 3 rfl).1 1 _ rfl; have u2 := (hSw.1.1.get 3 rfl).1 2 _ rfl; have nn := hSw.2; go_simp; try with_reducible rfl)
  change wpAnyH _ _ _ _ _ _ _ (Act.put _ (some 79) _) _
  simp only [Act.put, List.setIfInBounds_toArray, List.set_cons_zero, List.set_cons_succ]
  refine wpAnyH_take (i := 34) (v := ?_) rfl (by kernel_rfl) (by kernel_rfl) (by kernel_rfl) (fun _ _ _ h => h) (Or.inl ⟨by rfl, ?_⟩) (by assumption) ?_
  rotate_left
  · (intro wS hSw; have q0 := (hSw.1.1.get 0 rfl).1 0 _ rfl; have q1 := (hSw.1.1.get 0 rfl).1 1 _ rfl; have q2 := (hSw.1.1.get 0 rfl).1 2 _ rfl; have q3 := (hSw.1.1.get 0 rfl).1 3 _ rfl; have p0 := (hSw.1.1.get 2 rfl).1 0 _ rfl; have p1 := (hSw.1.1.get 2 rfl).1 1 _ rfl; have p2 := (hSw.1.1.get 2 rfl).1 2 _ rfl; have p3 := (hSw.1.1.get 2 rfl).1 3 _ rfl; have u0 := (hSw.1.1.get 3 rfl).1 0 _ rfl; have u1 := (hSw.1.1.get 3 rfl).1 1 _ rfl; have u2 := (hSw.1.1.get 3 rfl).1 2 _ rfl; have nn := hSw.2; go_simp; try with_reducible rfl)
  change wpAnyH _ _ _ _ _ _ _ (Act.put _ (some 80) _) _
  simp only [Act.put, List.setIfInBounds_toArray, List.set_cons_zero, List.set_cons_succ]
  refine wpAnyH_take (i := 35) (v := ?_) rfl (by kernel_rfl) (by kernel_rfl) (by kernel_rfl) (fun _ _ _ h => h) (Or.inl ⟨by rfl, ?_⟩) (by assumption) ?_
  rotate_left
  · (intro wS hSw; have q0 := (hSw.1.1.get 0 rfl).1 0 _ rfl; have q1 := (hSw.1.1.get 0 rfl).1 1 _ rfl; have q2 := (hSw.1.1.get 0 rfl).1 2 _ rfl; have q3 := (hSw.1.1.get 0 rfl).1 3 _ rfl; have p0 := (hSw.1.1.get 2 rfl).1 0 _ rfl; have p1 := (hSw.1.1.get 2 rfl).1 1 _ rfl; have p2 := (hSw.1.1.get 2 rfl).1 2 _ rfl; have p3 := (hSw.1.1.get 2 rfl).1 3 _ rfl; have u0 := (hSw.1.1.get 3 rfl).1 0 _ rfl; have u1 := (hSw.1.1.get 3 rfl).1 1 _ rfl; have u2 := (hSw.1.1.get 3 rfl).1 2 _ rfl; have nn := hSw.2; go_simp; try with_reducible rfl)
  change wpAnyH _ _ _ _ _ _ _ (Act.put _ (some 81) _) _
  simp only [Act.put, List.setIfInBounds_toArray, List.set_cons_zero, List.set_cons_succ]
  refine wpAnyH_take (i := 36) (v := ?_) rfl (by kernel_rfl) (by kernel_rfl) (by kernel_rfl) (fun _ _ _ h => h) (Or.inl ⟨by rfl, ?_⟩) (by assumption) ?_
  rotate_left
  · (intro wS hSw; have q0 := (hSw.1.1.get 0 rfl).1 0 _ rfl; have q1 := (hSw.1.1.get 0 rfl).1 1 _ rfl; have q2 := (hSw.1.1.get 0 rfl).1 2 _ rfl; have q3 := (hSw.1.1.get 0 rfl).1 3 _ rfl; have p0 := (hSw.1.1.get 2 rfl).1 0 _ rfl; have p1 := (hSw.1.1.get 2 rfl).1 1 _ rfl; have p2 := (hSw.1.1.get 2 rfl).1 2 _ rfl; have p3 := (hSw.1.1.get 2 rfl).1 3 _ rfl; have u0 := (hSw.1.1.get 3 rfl).1 0 _ rfl; have u1 := (hSw.1.1.get 3 rfl).1 1 _ rfl; have u2 := (hSw.1.1.get 3 rfl).1 2 _ rfl; have nn := hSw.2; go_simp; try with_reducible rfl)
  change wpAnyH _ _ _ _ _ _ _ (Act.put _ (some 82) _) _
  simp only [Act.put, List.setIfInBounds_toArray, List.set_cons_zero, List.set_cons_succ]
  refine wpAnyH_take (i := 37) (v := ?_) rfl (by kernel_rfl) (by kernel_rfl) (by kernel_rfl) (fun _ _ _ h => h) (Or.inl ⟨by rfl, ?_⟩) (by assumption) ?_
  rotate_left
  · (intro wS hSw; have q0 := (hSw.1.1.get 0 rfl).1 0 _ rfl; have q1 := (hSw.1.1.get 0 rfl).1 1 _ rfl; have q2 := (hSw.1.1.get 0 rfl).1 2 _ rfl; have q3 := (hSw.1.1.get 0 rfl).1 3 _ rfl; have p0 := (hSw.1.1.get 2 rfl).1 0 _ rfl; have p1 := (hSw.1.1.get 2 rfl).1 1 _ rfl; have p2 := (hSw.1.1.get 2 rfl).1 2 _ rfl; have p3 := (hSw.1.1.get 2 rfl).1 3 _ rfl; have u0 := (hSw.1.1.get 3 rfl).1 0 _ rfl; have u1 := (hSw.1.1.get 3 rfl).1 1 _ rfl; have u2 := (hSw.1.1.get 3 rfl).1 2 _ rfl; have nn := hSw.2; go_simp; try with_reducible rfl)
  change wpAnyH _ _ _ _ _ _ _ (Act.put _ (some 83) _) _
  simp only [Act.put, List.setIfInBounds_toArray, List.set_cons_zero, List.set_cons_succ]
  refine wpAnyH_take (i := 38) (v := ?_) rfl (by kernel_rfl) (by kernel_rfl) (by kernel_rfl) (fun _ _ _ h => h) (Or.inl ⟨by rfl, ?_⟩) (by assumption) ?_
  rotate_left
  · (intro wS hSw; have q0 := (hSw.1.1.get 0 rfl).1 0 _ rfl; have q1 := (hSw.1.1.get 0 rfl).1 1 _ rfl; have q2 := (hSw.1.1.get 0 rfl).1 2 _ rfl; have q3 := (hSw.1.1.get 0 rfl).1 3 _ rfl; have p0 := (hSw.1.1.get 2 rfl).1 0 _ rfl; have p1 := (hSw.1.1.get 2 rfl).1 1 _ rfl; have p2 := (hSw.1.1.get 2 rfl).1 2 _ rfl; have p3 := (hSw.1.1.get 2 rfl).1 3 _ rfl; have u0 := (hSw.1.1.get 3 rfl).1 0 _ rfl; have u1 := (hSw.1.1.get 3 rfl).1 1 _ rfl; have u2 := (hSw.1.1.get 3 rfl).1 2 _ rfl; have nn := hSw.2; go_simp; try with_reducible rfl)
  change wpAnyH _ _ _ _ _ _ _ (Act.put _ (some 84) _) _
  simp only [Act.put, List.setIfInBounds_toArray, List.set_cons_zero, List.set_cons_succ]
  refine wpAnyH_ready (rs := [39]) (by kernel_rfl) (by simp) ?_
  refine AllReadyH.cons rfl (fun K hK => ?_) AllReadyH.nil
  go_simp
  refine (f_s1 _ F_3.out.1.2.2.1).mono ?_
  rintro e v4 ⟨rfl, hv4⟩
  have F_4 : Hid (Fy w [(w1.heap.size, [.string webN, .int .i64 0, .int .i64 0, .slice a1 1 cap1]), (w.heap.size, [.int .i64 1000, .int .i64 1073741824, .int .i64 0]), (w.heap.size + 2, [.string webN, .int .i64 0, .int .i64 0, .slice (some ⟨w.heap.size + 1, 0, none⟩) 1 1]), (w.heap.size + 3, [.int .i64 500, .int .i64 2147483648, .int .i64 0])] (.slice a1 1 cap1) nb no v4) := F_3.out.later hv4
  clear hv4 F_3
  (try go_wp2_with (fail))
  refine hK.out _ _ ?_ (fun hHeld => ?_)
  · exact F_4.out
  clear hK K
  refine wpAnyH_take (i := 40) (v := ?_) rfl (by kernel_rfl) (by kernel_rfl) (by kernel_rfl) (fun _ _ _ h => h) (Or.inl ⟨by rfl, ?_⟩) (by assumption) ?_
  rotate_left
  · (intro wS hSw; have q0 := (hSw.1.1.get 0 rfl).1 0 _ rfl; have q1 := (hSw.1.1.get 0 rfl).1 1 _ rfl; have q2 := (hSw.1.1.get 0 rfl).1 2 _ rfl; have q3 := (hSw.1.1.get 0 rfl).1 3 _ rfl; have p0 := (hSw.1.1.get 2 rfl).1 0 _ rfl; have p1 := (hSw.1.1.get 2 rfl).1 1 _ rfl; have p2 := (hSw.1.1.get 2 rfl).1 2 _ rfl; have p3 := (hSw.1.1.get 2 rfl).1 3 _ rfl; have u0 := (hSw.1.1.get 3 rfl).1 0 _ rfl; have u1 := (hSw.1.1.get 3 rfl).1 1 _ rfl; have u2 := (hSw.1.1.get 3 rfl).1 2 _ rfl; have nn := hSw.2; go_simp; try with_reducible rfl)
  change wpAnyH _ _ _ _ _ _ _ (Act.put _ (some 86) _) _
  simp only [Act.put, List.setIfInBounds_toArray, List.set_cons_zero, List.set_cons_succ]
  refine wpAnyH_take (i := 41) (v := ?_) rfl (by kernel_rfl) (by kernel_rfl) (by kernel_rfl) (fun _ _ _ h => h) (Or.inl ⟨by rfl, ?_⟩) (by assumption) ?_
  rotate_left
  · (intro wS hSw; have q0 := (hSw.1.1.get 0 rfl).1 0 _ rfl; have q1 := (hSw.1.1.get 0 rfl).1 1 _ rfl; have q2 := (hSw.1.1.get 0 rfl).1 2 _ rfl; have q3 := (hSw.1.1.get 0 rfl).1 3 _ rfl; have p0 := (hSw.1.1.get 2 rfl).1 0 _ rfl; have p1 := (hSw.1.1.get 2 rfl).1 1 _ rfl; have p2 := (hSw.1.1.get 2 rfl).1 2 _ rfl; have p3 := (hSw.1.1.get 2 rfl).1 3 _ rfl; have u0 := (hSw.1.1.get 3 rfl).1 0 _ rfl; have u1 := (hSw.1.1.get 3 rfl).1 1 _ rfl; have u2 := (hSw.1.1.get 3 rfl).1 2 _ rfl; have nn := hSw.2; go_simp; try with_reducible rfl)
  change wpAnyH _ _ _ _ _ _ _ (Act.put _ (some 87) _) _
  simp only [Act.put, List.setIfInBounds_toArray, List.set_cons_zero, List.set_cons_succ]
  refine wpAnyH_take (i := 42) (v := ?_) rfl (by kernel_rfl) (by kernel_rfl) (by kernel_rfl) (fun _ _ _ h => h) (Or.inl ⟨by rfl, ?_⟩) (by assumption) ?_
  rotate_left
  · (intro wS hSw; have q0 := (hSw.1.1.get 0 rfl).1 0 _ rfl; have q1 := (hSw.1.1.get 0 rfl).1 1 _ rfl; have q2 := (hSw.1.1.get 0 rfl).1 2 _ rfl; have q3 := (hSw.1.1.get 0 rfl).1 3 _ rfl; have p0 := (hSw.1.1.get 2 rfl).1 0 _ rfl; have p1 := (hSw.1.1.get 2 rfl).1 1 _ rfl; have p2 := (hSw.1.1.get 2 rfl).1 2 _ rfl; have p3 := (hSw.1.1.get 2 rfl).1 3 _ rfl; have u0 := (hSw.1.1.get 3 rfl).1 0 _ rfl; have u1 := (hSw.1.1.get 3 rfl).1 1 _ rfl; have u2 := (hSw.1.1.get 3 rfl).1 2 _ rfl; have nn := hSw.2; go_simp; try with_reducible rfl)
  change wpAnyH _ _ _ _ _ _ _ (Act.put _ (some 88) _) _
  simp only [Act.put, List.setIfInBounds_toArray, List.set_cons_zero, List.set_cons_succ]
  refine wpAnyH_take (i := 43) (v := ?_) rfl (by kernel_rfl) (by kernel_rfl) (by kernel_rfl) (fun _ _ _ h => h) (Or.inl ⟨by rfl, ?_⟩) (by assumption) ?_
  rotate_left
  · (intro wS hSw; have q0 := (hSw.1.1.get 0 rfl).1 0 _ rfl; have q1 := (hSw.1.1.get 0 rfl).1 1 _ rfl; have q2 := (hSw.1.1.get 0 rfl).1 2 _ rfl; have q3 := (hSw.1.1.get 0 rfl).1 3 _ rfl; have p0 := (hSw.1.1.get 2 rfl).1 0 _ rfl; have p1 := (hSw.1.1.get 2 rfl).1 1 _ rfl; have p2 := (hSw.1.1.get 2 rfl).1 2 _ rfl; have p3 := (hSw.1.1.get 2 rfl).1 3 _ rfl; have u0 := (hSw.1.1.get 3 rfl).1 0 _ rfl; have u1 := (hSw.1.1.get 3 rfl).1 1 _ rfl; have u2 := (hSw.1.1.get 3 rfl).1 2 _ rfl; have nn := hSw.2; go_simp; try with_reducible rfl)
  change wpAnyH _ _ _ _ _ _ _ (Act.put _ (some 89) _) _
  simp only [Act.put, List.setIfInBounds_toArray, List.set_cons_zero, List.set_cons_succ]
  refine wpAnyH_ready (rs := [44]) (by kernel_rfl) (by simp) ?_
  refine AllReadyH.cons rfl (fun K hK => ?_) AllReadyH.nil
  go_simp
  refine (f_s2 _ F_4.out.1.2.2.1 F_4.out.1.2.2.2).mono ?_
  rintro e v5 ⟨rfl, hv5⟩
  have F_5 : Hid (Fy w [(w1.heap.size, [.string webN, .int .i64 0, .int .i64 0, .slice a1 1 cap1]), (w.heap.size, [.int .i64 1000, .int .i64 1073741824, .int .i64 0]), (w.heap.size + 2, [.string webN, .int .i64 0, .int .i64 0, .slice (some ⟨w.heap.size + 1, 0, none⟩) 1 1]), (w.heap.size + 3, [.int .i64 500, .int .i64 2147483648, .int .i64 0])] (.slice a1 1 cap1) nb no v5) := F_4.out.later hv5
  clear hv5 F_4
  (try go_wp2_with (fail))
  refine hK.out _ _ ?_ (fun hHeld => ?_)
  · exact F_5.out
  clear hK K
  refine wpAnyH_take (i := 45) (v := ?_) rfl (by kernel_rfl) (by kernel_rfl) (by kernel_rfl) (fun _ _ _ h => h) (Or.inl ⟨by rfl, ?_⟩) (by assumption) ?_
  rotate_left
  · (intro wS hSw; have q0 := (hSw.1.1.get 0 rfl).1 0 _ rfl; have q1 := (hSw.1.1.get 0 rfl).1 1 _ rfl; have q2 := (hSw.1.1.get 0 rfl).1 2 _ rfl; have q3 := (hSw.1.1.get 0 rfl).1 3 _ rfl; have p0 := (hSw.1.1.get 2 rfl).1 0 _ rfl; have p1 := (hSw.1.1.get 2 rfl).1 1 _ rfl; have p2 := (hSw.1.1.get 2 rfl).1 2 _ rfl; have p3 := (hSw.1.1.get 2 rfl).1 3 _ rfl; have u0 := (hSw.1.1.get 3 rfl).1 0 _ rfl; have u1 := (hSw.1.1.get 3 rfl).1 1 _ rfl; have u2 := (hSw.1.1.get 3 rfl).1 2 _ rfl; have nn := hSw.2; go_simp; try with_reducible rfl)
  change wpAnyH _ _ _ _ _ _ _ (Act.put _ (some 91) _) _
  simp only [Act.put, List.setIfInBounds_toArray, List.set_cons_zero, List.set_cons_succ]
  refine wpAnyH_take (i := 46) (v := ?_) rfl (by kernel_rfl) (by kernel_rfl) (by kernel_rfl) (fun _ _ _ h => h) (Or.inl ⟨by rfl, ?_⟩) (by assumption) ?_
  rotate_left
  · (intro wS hSw; have q0 := (hSw.1.1.get 0 rfl).1 0 _ rfl; have q1 := (hSw.1.1.get 0 rfl).1 1 _ rfl; have q2 := (hSw.1.1.get 0 rfl).1 2 _ rfl; have q3 := (hSw.1.1.get 0 rfl).1 3 _ rfl; have p0 := (hSw.1.1.get 2 rfl).1 0 _ rfl; have p1 := (hSw.1.1.get 2 rfl).1 1 _ rfl; have p2 := (hSw.1.1.get 2 rfl).1 2 _ rfl; have p3 := (hSw.1.1.get 2 rfl).1 3 _ rfl; have u0 := (hSw.1.1.get 3 rfl).1 0 _ rfl; have u1 := (hSw.1.1.get 3 rfl).1 1 _ rfl; have u2 := (hSw.1.1.get 3 rfl).1 2 _ rfl; have nn := hSw.2; go_simp; try with_reducible rfl)
  change wpAnyH _ _ _ _ _ _ _ (Act.put _ (some 92) _) _
  simp only [Act.put, List.setIfInBounds_toArray, List.set_cons_zero, List.set_cons_succ]
  refine wpAnyH_take (i := 47) (v := ?_) rfl (by kernel_rfl) (by kernel_rfl) (by kernel_rfl) (fun _ _ _ h => h) (Or.inl ⟨by rfl, ?_⟩) (by assumption) ?_
  rotate_left
  · (intro wS hSw; have q0 := (hSw.1.1.get 0 rfl).1 0 _ rfl; have q1 := (hSw.1.1.get 0 rfl).1 1 _ rfl; have q2 := (hSw.1.1.get 0 rfl).1 2 _ rfl; have q3 := (hSw.1.1.get 0 rfl).1 3 _ rfl; have p0 := (hSw.1.1.get 2 rfl).1 0 _ rfl; have p1 := (hSw.1.1.get 2 rfl).1 1 _ rfl; have p2 := (hSw.1.1.get 2 rfl).1 2 _ rfl; have p3 := (hSw.1.1.get 2 rfl).1 3 _ rfl; have u0 := (hSw.1.1.get 3 rfl).1 0 _ rfl; have u1 := (hSw.1.1.get 3 rfl).1 1 _ rfl; have u2 := (hSw.1.1.get 3 rfl).1 2 _ rfl; have nn := hSw.2; go_simp; try with_reducible rfl)
  change wpAnyH _ _ _ _ _ _ _ (Act.put _ (some 93) _) _
  simp only [Act.put, List.setIfInBounds_toArray, List.set_cons_zero, List.set_cons_succ]
  refine wpAnyH_ready (rs := [48]) (by kernel_rfl) (by simp) ?_
  refine AllReadyH.cons rfl (fun K hK => ?_) AllReadyH.nil
  go_simp
  refine (f_n _).mono ?_
  rintro e v6 ⟨rfl, hv6⟩
  have F_6 : Hid (Fy w [(w1.heap.size, [.string webN, .int .i64 0, .int .i64 0, .slice a1 1 cap1]), (w.heap.size, [.int .i64 1000, .int .i64 1073741824, .int .i64 0]), (w.heap.size + 2, [.string webN, .int .i64 0, .int .i64 0, .slice (some ⟨w.heap.size + 1, 0, none⟩) 1 1]), (w.heap.size + 3, [.int .i64 500, .int .i64 2147483648, .int .i64 0])] (.slice a1 1 cap1) nb no v6) := F_5.out.later hv6
  clear hv6 F_5
  (try go_wp2_with (fail))
  refine hK.out _ _ ?_ (fun hHeld => ?_)
  · exact F_6.out
  clear hK K
  refine wpAnyH_take (i := 49) (v := ?_) rfl (by kernel_rfl) (by kernel_rfl) (by kernel_rfl) (fun _ _ _ h => h) (Or.inl ⟨by rfl, ?_⟩) (by assumption) ?_
  rotate_left
  · (intro wS hSw; have q0 := (hSw.1.1.get 0 rfl).1 0 _ rfl; have q1 := (hSw.1.1.get 0 rfl).1 1 _ rfl; have q2 := (hSw.1.1.get 0 rfl).1 2 _ rfl; have q3 := (hSw.1.1.get 0 rfl).1 3 _ rfl; have p0 := (hSw.1.1.get 2 rfl).1 0 _ rfl; have p1 := (hSw.1.1.get 2 rfl).1 1 _ rfl; have p2 := (hSw.1.1.get 2 rfl).1 2 _ rfl; have p3 := (hSw.1.1.get 2 rfl).1 3 _ rfl; have u0 := (hSw.1.1.get 3 rfl).1 0 _ rfl; have u1 := (hSw.1.1.get 3 rfl).1 1 _ rfl; have u2 := (hSw.1.1.get 3 rfl).1 2 _ rfl; have nn := hSw.2; go_simp; try with_reducible rfl)
  change wpAnyH _ _ _ _ _ _ _ (Act.put _ (some 95) _) _
  simp only [Act.put, List.setIfInBounds_toArray, List.set_cons_zero, List.set_cons_succ]
  refine wpAnyH_take (i := 50) (v := ?_) rfl (by kernel_rfl) (by kernel_rfl) (by kernel_rfl) (fun _ _ _ h => h) (Or.inl ⟨by rfl, ?_⟩) (by assumption) ?_
  rotate_left
  · (intro wS hSw; have q0 := (hSw.1.1.get 0 rfl).1 0 _ rfl; have q1 := (hSw.1.1.get 0 rfl).1 1 _ rfl; have q2 := (hSw.1.1.get 0 rfl).1 2 _ rfl; have q3 := (hSw.1.1.get 0 rfl).1 3 _ rfl; have p0 := (hSw.1.1.get 2 rfl).1 0 _ rfl; have p1 := (hSw.1.1.get 2 rfl).1 1 _ rfl; have p2 := (hSw.1.1.get 2 rfl).1 2 _ rfl; have p3 := (hSw.1.1.get 2 rfl).1 3 _ rfl; have u0 := (hSw.1.1.get 3 rfl).1 0 _ rfl; have u1 := (hSw.1.1.get 3 rfl).1 1 _ rfl; have u2 := (hSw.1.1.get 3 rfl).1 2 _ rfl; have nn := hSw.2; go_simp; try with_reducible rfl)
  change wpAnyH _ _ _ _ _ _ _ (Act.put _ (some 96) _) _
  simp only [Act.put, List.setIfInBounds_toArray, List.set_cons_zero, List.set_cons_succ]
  refine wpAnyH_take (i := 51) (v := ?_) rfl (by kernel_rfl) (by kernel_rfl) (by kernel_rfl) (fun _ _ _ h => h) (Or.inl ⟨by rfl, ?_⟩) (by assumption) ?_
  rotate_left
  · (intro wS hSw; have q0 := (hSw.1.1.get 0 rfl).1 0 _ rfl; have q1 := (hSw.1.1.get 0 rfl).1 1 _ rfl; have q2 := (hSw.1.1.get 0 rfl).1 2 _ rfl; have q3 := (hSw.1.1.get 0 rfl).1 3 _ rfl; have p0 := (hSw.1.1.get 2 rfl).1 0 _ rfl; have p1 := (hSw.1.1.get 2 rfl).1 1 _ rfl; have p2 := (hSw.1.1.get 2 rfl).1 2 _ rfl; have p3 := (hSw.1.1.get 2 rfl).1 3 _ rfl; have u0 := (hSw.1.1.get 3 rfl).1 0 _ rfl; have u1 := (hSw.1.1.get 3 rfl).1 1 _ rfl; have u2 := (hSw.1.1.get 3 rfl).1 2 _ rfl; have nn := hSw.2; go_simp; try with_reducible rfl)
  change wpAnyH _ _ _ _ _ _ _ (Act.put _ (some 0) _) _
  simp only [Act.put, List.setIfInBounds_toArray, List.set_cons_zero]
  refine wpAnyH_done (by kernel_rfl) ?_ _
  refine NoPanic.normal ?_
  have HB := F_6.out.1.1.2
  clear F_6 F4
  go_wp2
  go_ret
  exact ⟨rfl, HB⟩

end Go.Proofs.YtfgbppngnafpoaaDoor.Sp
