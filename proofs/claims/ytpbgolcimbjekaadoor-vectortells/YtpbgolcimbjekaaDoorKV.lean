/-
  VectorTells of this program: true for every two vectors and every number of a resource. Conditions: the tables of the program lie as its text lays them.
-/
import Derived.Test.YtpbgolcimbjekaaDoorKI
import Derived.Test.YtpbgolcimbjekaaDoorY
import Derived.Deep.RegionHeld3
import Derived.Deep.RegionWith
import Derived.Deep.CutRange
import Derived.Deep.DeepCutAuto
import Derived.Deep.CutBlock
namespace Go.Proofs.YtpbgolcimbjekaaDoor
open Go.RowKit

theorem LaidV.drew {w : World} (h : LaidV w) : LaidV w.drew := ⟨h.1.drew, (World.rangeAt_drew _ _ _ _).2 h.2.1, (World.rangeAt_drew _ _ _ _).2 h.2.2.1, h.2.2.2⟩
/-- These blocks hold these vectors; the tables lie; nothing older has turned. -/
def Kp3 (w : World) (xs : List (Nat × Int × Int × Int)) (W : World) : Prop := (∀ x ∈ xs, Bx3 W x.1 x.2.1 x.2.2.1 x.2.2.2) ∧ LaidV W ∧ Below w.heap.size w W
theorem Kp3.later {w W w1 : World} {xs : List (Nat × Int × Int × Int)} (k : Kp3 w xs W) (hb : Below W.heap.size W w1) : Kp3 w xs w1 :=
  ⟨fun x hx => (k.1 x hx).later hb, k.2.1.later hb, k.2.2.trans (hb.mono k.2.2.size)⟩
theorem Kp3.drew {w W : World} {xs : List (Nat × Int × Int × Int)} (k : Kp3 w xs W) : Kp3 w xs W.drew := ⟨fun x hx => (k.1 x hx).drew, k.2.1.drew, k.2.2.drew⟩
theorem Kp3.new {w W : World} {xs : List (Nat × Int × Int × Int)} (k : Kp3 w xs W) (c m h : Int) (t : TypeId) : Kp3 w ((W.heap.size, c, m, h) :: xs) (W.alloc (.cells #[.int .i64 c, .int .i64 m, .int .i64 h] t)) :=
  ⟨fun x hx => by
    rcases List.mem_cons.1 hx with rfl | hx
    · exact Bx3.new _ _ _ _ _ _ rfl
    · exact (k.1 x hx).alloc _, k.2.1.alloc _, k.2.2.alloc k.2.2.size _⟩
theorem Kp3.alloc {w W : World} {xs : List (Nat × Int × Int × Int)} (k : Kp3 w xs W) (o : Obj) : Kp3 w xs (W.alloc o) := ⟨fun x hx => (k.1 x hx).alloc _, k.2.1.alloc _, k.2.2.alloc k.2.2.size _⟩
theorem LaidV.set {w : World} (h : LaidV w) {b : Nat} (i : Nat) (v : Value) (hb : max (max 2 3) (max 1 0) < b) : LaidV (w.setCell ⟨b, i, none⟩ v) := by
  obtain ⟨⟨h1, h2, h3⟩, h4, h5, h6⟩ := h
  have e : ∀ k j, k ≤ max (max 2 3) (max 1 0) → (w.setCell ⟨b, i, none⟩ v).cell? ⟨k, j, none⟩ = w.cell? ⟨k, j, none⟩ := fun k j hk => by
    have : k ≠ b := by omega
    simp only [World.cell?, Below.heap_setCell w ⟨b, i, none⟩ v k this]
  have z : (w.setCell ⟨b, i, none⟩ v).heap.size = w.heap.size := by simp [World.setCell]
  exact ⟨⟨fun j u hj => (e _ _ (by omega)).trans (h1 j u hj), fun j u hj => (e _ _ (by omega)).trans (h2 j u hj), by rw [z]; exact h3⟩, fun j u hj => (e _ _ (by omega)).trans (h4 j u hj), fun j u hj => (e _ _ (by omega)).trans (h5 j u hj), by rw [z]; exact h6⟩
theorem Bx3.set0 {W : World} {b : Nat} {c m h : Int} (k : Bx3 W b c m h) (x : Int) : Bx3 (W.setCell ⟨b, 0, none⟩ (.int .i64 x)) b x m h := by
  obtain ⟨c0, c1, c2, f0, f1, f2, z⟩ := k
  exact ⟨by simp [go_sem, c0], by simp [go_sem, c1], by simp [go_sem, c2], by simp [go_sem, f0], by simp [go_sem, f1], by simp [go_sem, f2], by simpa using z⟩
theorem Bx3.set1 {W : World} {b : Nat} {c m h : Int} (k : Bx3 W b c m h) (x : Int) : Bx3 (W.setCell ⟨b, 1, none⟩ (.int .i64 x)) b c x h := by
  obtain ⟨c0, c1, c2, f0, f1, f2, z⟩ := k
  exact ⟨by simp [go_sem, c0], by simp [go_sem, c1], by simp [go_sem, c2], by simp [go_sem, f0], by simp [go_sem, f1], by simp [go_sem, f2], by simpa using z⟩
theorem Bx3.set2 {W : World} {b : Nat} {c m h : Int} (k : Bx3 W b c m h) (x : Int) : Bx3 (W.setCell ⟨b, 2, none⟩ (.int .i64 x)) b c m x := by
  obtain ⟨c0, c1, c2, f0, f1, f2, z⟩ := k
  exact ⟨by simp [go_sem, c0], by simp [go_sem, c1], by simp [go_sem, c2], by simp [go_sem, f0], by simp [go_sem, f1], by simp [go_sem, f2], by simpa using z⟩
/-- The head's block is written. -/
theorem Kp3.put {w W : World} {b : Nat} {x y : Int × Int × Int} {xs : List (Nat × Int × Int × Int)} (k : Kp3 w ((b, x) :: xs) W) (i : Nat) (v : Value) (hg : max (max 2 3) (max 1 0) < b) (hb : w.heap.size ≤ b) (hx : ∀ q ∈ xs, q.1 ≠ b) (hs : Bx3 (W.setCell ⟨b, i, none⟩ v) b y.1 y.2.1 y.2.2) : Kp3 w ((b, y) :: xs) (W.setCell ⟨b, i, none⟩ v) :=
  ⟨fun q hq => by
    rcases List.mem_cons.1 hq with rfl | hq
    · exact hs
    · exact (k.1 q (by simp [hq])).beside _ _ (hx q hq), k.2.1.set _ _ hg, k.2.2.setCell hb _⟩

set_option maxHeartbeats 8000000 in
set_option maxRecDepth 100000 in
theorem vectorTells_any (a b c d e f r : Int) (w : World) (hL : LaidV w) :
    Calls Tryd.prog 3 #[.agg #[.int .i64 a, .int .i64 b, .int .i64 c], .agg #[.int .i64 d, .int .i64 e, .int .i64 f], .int .i64 r] w fun x w' => x = .returned (.bool true) ∧ Below w.heap.size w w' := by
  have gz : Hid (max (max 2 3) (max 1 0) < w.heap.size) := by
    obtain ⟨⟨_, _, h3⟩, _, _, h6⟩ := hL
    exact Nat.max_lt.2 ⟨h3, h6⟩
  have HL : Hid (LaidV w) := hL
  clear hL
  obtain ⟨ar, har⟩ : ∃ ar, ar = atv a b c r := ⟨_, rfl⟩
  have AR : Hid (ar = atv a b c r) := har
  obtain ⟨⟨x, y, z⟩, hxyz⟩ : ∃ t, t = withv a b c r d := ⟨_, rfl⟩
  have WR : Hid ((x, y, z) = withv a b c r d) := hxyz
  obtain ⟨mx, hmx⟩ : ∃ m, m = max a d := ⟨_, rfl⟩
  have Mx : Hid (mx = max a d) := hmx
  obtain ⟨my, hmy⟩ : ∃ m, m = max b e := ⟨_, rfl⟩
  have My : Hid (my = max b e) := hmy
  obtain ⟨mz, hmz⟩ : ∃ m, m = max c f := ⟨_, rfl⟩
  have Mz : Hid (mz = max c f) := hmz
  clear har hxyz hmx hmy hmz
  go_enter Tryd.func3, Tryd.ntmps3
  go_wp2_with (fail)
  refine (vfirst_is _ ((HL.out.alloc _).alloc _)).mono ?_
  rintro x' w1 ⟨rfl, hw1⟩
  have F1 : Hid (Kp3 w [(w.heap.size, a, b, c), (w.heap.size + 1, d, e, f)] w1) := by
    have HB : Below w.heap.size w w1 := Below.trans (by go_grown) (hw1.mono (by first | omega | (simp; done) | (simp; omega)))
    refine ⟨fun x hx => ?_, HL.out.later HB, HB⟩
    simp at hx
    rcases hx with rfl | rfl
    · exact Bx3.later hw1 ((Bx3.new _ _ _ _ _ _ rfl).alloc _)
    · exact Bx3.later hw1 (Bx3.new _ _ _ _ _ _ (by simp))
  clear hw1
  go_upto_region 3 with (fail)
  go_cut [7, 8] (fun s7 s8 wc => s7 = .int .i64 0 ∧ ∃ p : Nat, s8 = .pointer (some ⟨p, 0, none⟩) ∧ w.heap.size + 1 < p ∧ Hid (Kp3 w [(p, a, b, c), (w.heap.size, a, b, c), (w.heap.size + 1, d, e, f)] wc))
  case first =>
    obtain ⟨a0, a1, a2, a3, a4, a5, a6⟩ := F1.out.1 (w.heap.size, a, b, c) (by simp)
    dsimp only at a0 a1 a2 a3 a4 a5 a6
    have z1 := (F1.out.1 (w.heap.size + 1, d, e, f) (by simp)).2.2.2.2.2.2
    dsimp only at z1
    go_region
    all_goals
      go_wp2_with (fail)
      go_meet
      case rel => exact ⟨rfl, w1.heap.size, rfl, z1, F1.out.drew.new a b c _⟩
  case rest =>
    obtain ⟨rfl, p, rfl, pz, F3⟩ := hcut
    clear F1
    go_upto_block 0 with (fail)
    go_cut [7, 15, 22, 29] (fun s7 _ _ _ wc => s7 = .int .i64 ar ∧ Hid (Kp3 w [(p, x, y, z), (w.heap.size, a, b, c), (w.heap.size + 1, d, e, f)] wc))
    case first =>
      obtain ⟨a0, a1, a2, a3, a4, a5, a6⟩ := F3.out.1 (w.heap.size, a, b, c) (by simp)
      obtain ⟨d0, d1, d2, d3, d4, d5, d6⟩ := F3.out.1 (w.heap.size + 1, d, e, f) (by simp)
      have q_p := F3.out.1 (p, a, b, c) (by simp)
      obtain ⟨p0, p1, p2, p3, p4, p5, p6⟩ := id q_p
      dsimp only at a0 a1 a2 a3 a4 a5 a6 d0 d1 d2 d3 d4 d5 d6 p0 p1 p2 p3 p4 p5 p6 q_p
      have hg : Hid (max (max 2 3) (max 1 0) < p) := Nat.lt_trans gz.out (by omega)
      have hx : Hid (∀ q ∈ [(w.heap.size, a, b, c), (w.heap.size + 1, d, e, f)], q.1 ≠ p) := by
        intro q hq
        simp at hq
        rcases hq with rfl | rfl
        · show w.heap.size ≠ p; omega
        · show w.heap.size + 1 ≠ p; omega
      by_cases h0 : r = 0
      · have g0 : (r == 0) = true := by simp [h0]
        have E : Hid (atv a b c r = a ∧ withv a b c r d = (d, b, c)) := by unfold Hid; subst h0; exact ⟨rfl, rfl⟩
        have FN : Hid (Kp3 w [(p, d, b, c), (w.heap.size, a, b, c), (w.heap.size + 1, d, e, f)] (wc.drew.setCell ⟨p, 0, none⟩ (.int .i64 d))) := F3.out.drew.put (y := (d, b, c)) 0 _ hg.out (by omega) hx.out (Bx3.set0 q_p.drew d)
        clear h0 q_p
        go_wp2_with (fail)
        go_region
        all_goals
          go_wp2_with (fail)
          go_meet
          case rel => exact ⟨by rw [AR.out, E.out.1], by rw [WR.out, E.out.2]; exact FN⟩
      have g0 : (r == 0) = false := by simp [h0]
      by_cases h1 : r = 1
      · have g1 : (r == 1) = true := by simp [h1]
        have E : Hid (atv a b c r = b ∧ withv a b c r d = (a, d, c)) := by unfold Hid; subst h1; exact ⟨rfl, rfl⟩
        have FN : Hid (Kp3 w [(p, a, d, c), (w.heap.size, a, b, c), (w.heap.size + 1, d, e, f)] (wc.drew.setCell ⟨p, 1, none⟩ (.int .i64 d))) := F3.out.drew.put (y := (a, d, c)) 1 _ hg.out (by omega) hx.out (Bx3.set1 q_p.drew d)
        clear h0 h1 q_p
        go_wp2_with (fail)
        go_region
        all_goals
          go_wp2_with (fail)
          go_meet
          case rel => exact ⟨by rw [AR.out, E.out.1], by rw [WR.out, E.out.2]; exact FN⟩
      have g1 : (r == 1) = false := by simp [h1]
      by_cases h2 : r = 2
      · have g2 : (r == 2) = true := by simp [h2]
        have E : Hid (atv a b c r = c ∧ withv a b c r d = (a, b, d)) := by unfold Hid; subst h2; exact ⟨rfl, rfl⟩
        have FN : Hid (Kp3 w [(p, a, b, d), (w.heap.size, a, b, c), (w.heap.size + 1, d, e, f)] (wc.drew.setCell ⟨p, 2, none⟩ (.int .i64 d))) := F3.out.drew.put (y := (a, b, d)) 2 _ hg.out (by omega) hx.out (Bx3.set2 q_p.drew d)
        clear h0 h1 h2 q_p
        go_wp2_with (fail)
        go_region
        all_goals
          go_wp2_with (fail)
          go_meet
          case rel => exact ⟨by rw [AR.out, E.out.1], by rw [WR.out, E.out.2]; exact FN⟩
      have g2 : (r == 2) = false := by simp [h2]
      have E : Hid (atv a b c r = 0 ∧ withv a b c r d = (a, b, c)) := by unfold Hid; unfold atv withv; simp [h0, h1, h2]
      clear h0 h1 h2
      go_wp2_with (fail)
      go_meet
      case rel => exact ⟨by rw [AR.out, E.out.1], by rw [WR.out, E.out.2]; exact F3⟩
    case rest =>
      obtain ⟨rfl, F4⟩ := hcut
      clear F3
      have pz2 : p < wc.heap.size := (F4.out.1 (p, x, y, z) (by simp)).2.2.2.2.2.2
      obtain ⟨a0, a1, a2, a3, a4, a5, a6⟩ := F4.out.1 (w.heap.size, a, b, c) (by simp)
      dsimp only at a0 a1 a2 a3 a4 a5 a6
      go_upto_region 12 with (fail)
      have F5 : Hid (Kp3 w [(wc.heap.size, a, b, c), (p, x, y, z), (w.heap.size, a, b, c), (w.heap.size + 1, d, e, f)] (wc.alloc (.cells #[.int .i64 a, .int .i64 b, .int .i64 c] 23))) := F4.out.new a b c _
      clear F4 a0 a1 a2 a3 a4 a5 a6
      generalize wc.alloc (.cells #[.int .i64 a, .int .i64 b, .int .i64 c] 23) = W5 at F5 ⊢
      generalize wc.heap.size = q at F5 pz2 ⊢
      have hg : Hid (max (max 2 3) (max 1 0) < q) := Nat.lt_trans gz.out (by omega)
      have hx : Hid (∀ t ∈ [(p, x, y, z), (w.heap.size, a, b, c), (w.heap.size + 1, d, e, f)], t.1 ≠ q) := by
        intro t ht
        simp at ht
        rcases ht with rfl | rfl | rfl
        · show p ≠ q; omega
        · show w.heap.size ≠ q; omega
        · show w.heap.size + 1 ≠ q; omega
      obtain ⟨d0, d1, d2, d3, d4, d5, d6⟩ := F5.out.1 (w.heap.size + 1, d, e, f) (by simp)
      have q_q := F5.out.1 (q, a, b, c) (by simp)
      obtain ⟨q0, q1, q2, q3, q4, q5, q6⟩ := id q_q
      dsimp only at d0 d1 d2 d3 d4 d5 d6 q0 q1 q2 q3 q4 q5 q6 q_q
      go_upto_if 41 with (fail)
      go_cut [41] (fun _ wc => Hid (Kp3 w [(q, mx, b, c), (p, x, y, z), (w.heap.size, a, b, c), (w.heap.size + 1, d, e, f)] wc))
      case first =>
        by_cases h : a < d
        · have E : Hid (mx = d) := by unfold Hid; rw [Mx.out]; omega
          have FN := Kp3.put (y := (d, b, c)) F5.out 0 (.int .i64 d) hg.out (by omega) hx.out (Bx3.set0 q_q d)
          have FN' : Hid (Kp3 w [(q, d, b, c), (p, x, y, z), (w.heap.size, a, b, c), (w.heap.size + 1, d, e, f)] _) := FN
          clear q_q FN
          go_wp2_with (fail)
          go_meet
          case rel => rw [E.out]; exact FN'
        · have E : Hid (mx = a) := by unfold Hid; rw [Mx.out]; omega
          clear q_q
          go_wp2_with (fail)
          go_meet
          case rel => rw [E.out]; exact F5
      case rest =>
        clear F5 d0 d1 d2 d3 d4 d5 d6 q0 q1 q2 q3 q4 q5 q6 q_q
        have F6 := hcut
        clear hcut
        obtain ⟨d0, d1, d2, d3, d4, d5, d6⟩ := F6.out.1 (w.heap.size + 1, d, e, f) (by simp)
        have q_q := F6.out.1 (q, mx, b, c) (by simp)
        obtain ⟨q0, q1, q2, q3, q4, q5, q6⟩ := id q_q
        dsimp only at d0 d1 d2 d3 d4 d5 d6 q0 q1 q2 q3 q4 q5 q6 q_q
        go_upto_if 49 with (fail)
        go_cut [49] (fun _ wc => Hid (Kp3 w [(q, mx, my, c), (p, x, y, z), (w.heap.size, a, b, c), (w.heap.size + 1, d, e, f)] wc))
        case first =>
          by_cases h : b < e
          · have E : Hid (my = e) := by unfold Hid; rw [My.out]; omega
            have FN := Kp3.put (y := (mx, e, c)) F6.out 1 (.int .i64 e) hg.out (by omega) hx.out (Bx3.set1 q_q e)
            have FN' : Hid (Kp3 w [(q, mx, e, c), (p, x, y, z), (w.heap.size, a, b, c), (w.heap.size + 1, d, e, f)] _) := FN
            clear q_q FN
            go_wp2_with (fail)
            go_meet
            case rel => rw [E.out]; exact FN'
          · have E : Hid (my = b) := by unfold Hid; rw [My.out]; omega
            clear q_q
            go_wp2_with (fail)
            go_meet
            case rel => rw [E.out]; exact F6
        case rest =>
          clear F6 d0 d1 d2 d3 d4 d5 d6 q0 q1 q2 q3 q4 q5 q6 q_q
          have F7 := hcut
          clear hcut
          obtain ⟨d0, d1, d2, d3, d4, d5, d6⟩ := F7.out.1 (w.heap.size + 1, d, e, f) (by simp)
          have q_q := F7.out.1 (q, mx, my, c) (by simp)
          obtain ⟨q0, q1, q2, q3, q4, q5, q6⟩ := id q_q
          dsimp only at d0 d1 d2 d3 d4 d5 d6 q0 q1 q2 q3 q4 q5 q6 q_q
          go_upto_if 57 with (fail)
          go_cut [57] (fun _ wc => Hid (Kp3 w [(q, mx, my, mz), (p, x, y, z), (w.heap.size, a, b, c), (w.heap.size + 1, d, e, f)] wc))
          case first =>
            by_cases h : c < f
            · have E : Hid (mz = f) := by unfold Hid; rw [Mz.out]; omega
              have FN := Kp3.put (y := (mx, my, f)) F7.out 2 (.int .i64 f) hg.out (by omega) hx.out (Bx3.set2 q_q f)
              have FN' : Hid (Kp3 w [(q, mx, my, f), (p, x, y, z), (w.heap.size, a, b, c), (w.heap.size + 1, d, e, f)] _) := FN
              clear q_q FN
              go_wp2_with (fail)
              go_meet
              case rel => rw [E.out]; exact FN'
            · have E : Hid (mz = c) := by unfold Hid; rw [Mz.out]; omega
              clear q_q
              go_wp2_with (fail)
              go_meet
              case rel => rw [E.out]; exact F7
          case rest =>
            clear F7 d0 d1 d2 d3 d4 d5 d6 q0 q1 q2 q3 q4 q5 q6 q_q
            have F8 := hcut
            clear hcut
            obtain ⟨a0, a1, a2, a3, a4, a5, a6⟩ := F8.out.1 (w.heap.size, a, b, c) (by simp)
            obtain ⟨d0, d1, d2, d3, d4, d5, d6⟩ := F8.out.1 (w.heap.size + 1, d, e, f) (by simp)
            dsimp only at a0 a1 a2 a3 a4 a5 a6 d0 d1 d2 d3 d4 d5 d6
            go_upto_region 19 with (fail)
            have F9 : Hid (Kp3 w [(q, mx, my, mz), (p, x, y, z), (w.heap.size, a, b, c), (w.heap.size + 1, d, e, f)] (wc.alloc (.cells #[.bool (a != d), .bool (b != e), .bool (c != f)] 25)) ∧ Bb3 (wc.alloc (.cells #[.bool (a != d), .bool (b != e), .bool (c != f)] 25)) wc.heap.size (a != d) (b != e) (c != f)) := ⟨F8.out.alloc _, Bb3.new _ _ _ _ _ _ rfl⟩
            clear F8 a0 a1 a2 a3 a4 a5 a6 d0 d1 d2 d3 d4 d5 d6
            have RI : Hid (∀ w, LaidV w → Calls Tryd.prog 7 #[.agg #[.int .i64 a, .int .i64 b, .int .i64 c]] w fun e w' => e = .returned (.bool (rightB a b c)) ∧ Below w.heap.size w w') := fun w hL => right_any a b c w hL
            have RR : Hid (∀ w, Calls Tryd.prog 8 #[.agg #[.int .i64 a, .int .i64 b, .int .i64 c]] w fun e w' => e = .returned (.bool (rightB a b c)) ∧ Below w.heap.size w w') := fun w => refRight_any a b c w
            have AT : Hid (∀ w, Calls Tryd.prog 9 #[.agg #[.int .i64 a, .int .i64 b, .int .i64 c], .int .i64 r] w fun e w' => e = .returned (.int .i64 ar) ∧ Below w.heap.size w w') := fun w => by rw [AR.out]; exact at_any a b c r w
            have WI : Hid (∀ w, Calls Tryd.prog 10 #[.agg #[.int .i64 a, .int .i64 b, .int .i64 c], .int .i64 r, .int .i64 d] w fun e w' => e = .returned (.agg #[.int .i64 x, .int .i64 y, .int .i64 z]) ∧ Below w.heap.size w w') := fun w => by
              rw [show (.agg #[.int .i64 x, .int .i64 y, .int .i64 z] : Value) = vv (x, y, z) from rfl, WR.out]; exact with_any a b c r d w
            have FI : Hid (∀ w, Calls Tryd.prog 11 #[.agg #[.int .i64 a, .int .i64 b, .int .i64 c], .agg #[.int .i64 d, .int .i64 e, .int .i64 f]] w fun x w' => x = .returned (.bool (fitsB a b c d e f)) ∧ Below w.heap.size w w') := fun w => vfits_any a b c d e f w
            have MA : Hid (∀ w, Calls Tryd.prog 12 #[.agg #[.int .i64 a, .int .i64 b, .int .i64 c], .agg #[.int .i64 d, .int .i64 e, .int .i64 f]] w fun x w' => x = .returned (.agg #[.int .i64 mx, .int .i64 my, .int .i64 mz]) ∧ Below w.heap.size w w') := fun w => by rw [Mx.out, My.out, Mz.out]; exact max_any a b c d e f w
            have UN : Hid (∀ w, Calls Tryd.prog 13 #[.agg #[.int .i64 a, .int .i64 b, .int .i64 c], .agg #[.int .i64 d, .int .i64 e, .int .i64 f]] w fun x w' => x = .returned (.agg #[.bool (a != d), .bool (b != e), .bool (c != f)]) ∧ Below w.heap.size w w') := fun w => unlike_any a b c d e f w
            generalize (a != d) = u0' at UN F9 ⊢
            generalize (b != e) = u1' at UN F9 ⊢
            generalize (c != f) = u2' at UN F9 ⊢
            generalize wc.alloc (.cells #[.bool u0', .bool u1', .bool u2'] 25) = W9 at F9 ⊢
            generalize wc.heap.size = ub at F9 ⊢
            generalize rightB a b c = R0 at RI RR
            have sm : ∀ w : World, Sem.run Tryd.prog (Op.equalIn 10000 25 (.agg #[.bool u0', .bool u1', .bool u2']) (.agg #[.bool u0', .bool u1', .bool u2'])) w = .ok true w := same3 u0' u1' u2'
            by_cases K : a ≤ d ∧ b ≤ e ∧ c ≤ f
            · obtain ⟨e1, e2, e3⟩ : mx = d ∧ my = e ∧ mz = f := by
                rw [Mx.out, My.out, Mz.out]
                omega
              rw [e1, e2, e3] at F9 MA
              rw [fits_yes K] at FI
              clear K e1 e2 e3
              refine wp_region_noPanic ?_
              refine wp_region_held_drew (S := fun w' => Bx3 w' q d e f ∧ Bx3 w' p x y z ∧ Bx3 w' w.heap.size a b c ∧ Bx3 w' (w.heap.size + 1) d e f ∧ Bb3 w' ub u0' u1' u2') (by kernel_rfl) ?_ (fun hHeld => ?_)
              · exact ⟨F9.out.1.1 (q, d, e, f) (by simp), F9.out.1.1 (p, x, y, z) (by simp), F9.out.1.1 (w.heap.size, a, b, c) (by simp), F9.out.1.1 (w.heap.size + 1, d, e, f) (by simp), F9.out.2⟩
              refine wpAnyH_take (i := 0) (v := ?_) rfl (by kernel_rfl) (by kernel_rfl) (by kernel_rfl) (fun _ _ _ h => h) (Or.inl ⟨by rfl, ?_⟩) (by assumption) ?_
              rotate_left
              · (intro wS hSw; obtain ⟨⟨g0, g1, g2, -⟩, ⟨h0, h1, h2, -⟩, ⟨k0, k1, k2, -⟩, ⟨l0, l1, l2, -⟩, ⟨n0, n1, n2, -⟩⟩ := hSw; go_simp; try with_reducible rfl)
              change wpAnyH _ _ _ _ _ _ _ (Act.put _ (some 77) _) _
              simp only [Act.put, List.setIfInBounds_toArray, List.set_cons_zero, List.set_cons_succ]
              refine wpAnyH_take (i := 2) (v := ?_) rfl (by kernel_rfl) (by kernel_rfl) (by kernel_rfl) (fun _ _ _ h => h) (Or.inl ⟨by rfl, ?_⟩) (by assumption) ?_
              rotate_left
              · (intro wS hSw; obtain ⟨⟨g0, g1, g2, -⟩, ⟨h0, h1, h2, -⟩, ⟨k0, k1, k2, -⟩, ⟨l0, l1, l2, -⟩, ⟨n0, n1, n2, -⟩⟩ := hSw; go_simp; try with_reducible rfl)
              change wpAnyH _ _ _ _ _ _ _ (Act.put _ (some 79) _) _
              simp only [Act.put, List.setIfInBounds_toArray, List.set_cons_zero, List.set_cons_succ]
              refine wpAnyH_ready (rs := [1]) (by kernel_rfl) (by simp) ?_
              refine AllReadyH.cons rfl (fun K hK => ?_) AllReadyH.nil
              go_simp
              refine (RI.out _ F9.out.1.drew.2.1).mono ?_
              rintro t v0 ⟨rfl, hv0⟩
              have G0 : Hid (Kp3 w [(q, d, e, f), (p, x, y, z), (w.heap.size, a, b, c), (w.heap.size + 1, d, e, f)] v0 ∧ Bb3 v0 ub u0' u1' u2') := ⟨F9.out.1.drew.later hv0, Bb3.later hv0 F9.out.2⟩
              clear hv0 F9
              (try go_wp2_with (fail))
              refine hK.out _ _ ?_ (fun hHeld => ?_)
              · exact ⟨G0.out.1.1 (q, d, e, f) (by simp), G0.out.1.1 (p, x, y, z) (by simp), G0.out.1.1 (w.heap.size, a, b, c) (by simp), G0.out.1.1 (w.heap.size + 1, d, e, f) (by simp), G0.out.2⟩
              clear hK K
              refine wpAnyH_ready (rs := [3]) (by kernel_rfl) (by simp) ?_
              refine AllReadyH.cons rfl (fun K hK => ?_) AllReadyH.nil
              go_simp
              refine (RR.out _).mono ?_
              rintro t v1 ⟨rfl, hv1⟩
              have G1 : Hid (Kp3 w [(q, d, e, f), (p, x, y, z), (w.heap.size, a, b, c), (w.heap.size + 1, d, e, f)] v1 ∧ Bb3 v1 ub u0' u1' u2') := ⟨G0.out.1.later hv1, Bb3.later hv1 G0.out.2⟩
              clear hv1 G0
              (try go_wp2_with (fail))
              refine hK.out _ _ ?_ (fun hHeld => ?_)
              · exact ⟨G1.out.1.1 (q, d, e, f) (by simp), G1.out.1.1 (p, x, y, z) (by simp), G1.out.1.1 (w.heap.size, a, b, c) (by simp), G1.out.1.1 (w.heap.size + 1, d, e, f) (by simp), G1.out.2⟩
              clear hK K
              refine wpAnyH_take (i := 4) (v := ?_) rfl (by kernel_rfl) (by kernel_rfl) (by kernel_rfl) (fun _ _ _ h => h) (Or.inl ⟨by rfl, ?_⟩) (by assumption) ?_
              rotate_left
              · (intro wS hSw; obtain ⟨⟨g0, g1, g2, -⟩, ⟨h0, h1, h2, -⟩, ⟨k0, k1, k2, -⟩, ⟨l0, l1, l2, -⟩, ⟨n0, n1, n2, -⟩⟩ := hSw; go_simp; try with_reducible rfl)
              change wpAnyH _ _ _ _ _ _ _ (Act.put _ (some 81) _) _
              simp only [Act.put, List.setIfInBounds_toArray, List.set_cons_zero, List.set_cons_succ]
              refine wpAnyH_take (i := 5) (v := ?_) rfl (by kernel_rfl) (by kernel_rfl) (by kernel_rfl) (fun _ _ _ h => h) (Or.inl ⟨by rfl, ?_⟩) (by assumption) ?_
              rotate_left
              · (intro wS hSw; obtain ⟨⟨g0, g1, g2, -⟩, ⟨h0, h1, h2, -⟩, ⟨k0, k1, k2, -⟩, ⟨l0, l1, l2, -⟩, ⟨n0, n1, n2, -⟩⟩ := hSw; go_simp; try with_reducible rfl)
              change wpAnyH _ _ _ _ _ _ _ (Act.put _ (some 82) _) _
              simp only [Act.put, List.setIfInBounds_toArray, List.set_cons_zero, List.set_cons_succ]
              refine wpAnyH_take (i := 6) (v := ?_) rfl (by kernel_rfl) (by kernel_rfl) (by kernel_rfl) (fun _ _ _ h => h) (Or.inl ⟨by rfl, ?_⟩) (by assumption) ?_
              rotate_left
              · (intro wS hSw; obtain ⟨⟨g0, g1, g2, -⟩, ⟨h0, h1, h2, -⟩, ⟨k0, k1, k2, -⟩, ⟨l0, l1, l2, -⟩, ⟨n0, n1, n2, -⟩⟩ := hSw; go_simp; try with_reducible rfl)
              change wpAnyH _ _ _ _ _ _ _ (Act.put _ (some 83) _) _
              simp only [Act.put, List.setIfInBounds_toArray, List.set_cons_zero, List.set_cons_succ]
              refine wpAnyH_take (i := 7) (v := ?_) rfl (by kernel_rfl) (by kernel_rfl) (by kernel_rfl) (fun _ _ _ h => h) (Or.inl ⟨by rfl, ?_⟩) (by assumption) ?_
              rotate_left
              · (intro wS hSw; obtain ⟨⟨g0, g1, g2, -⟩, ⟨h0, h1, h2, -⟩, ⟨k0, k1, k2, -⟩, ⟨l0, l1, l2, -⟩, ⟨n0, n1, n2, -⟩⟩ := hSw; go_simp; try with_reducible rfl)
              change wpAnyH _ _ _ _ _ _ _ (Act.put _ (some 84) _) _
              simp only [Act.put, List.setIfInBounds_toArray, List.set_cons_zero, List.set_cons_succ]
              refine wpAnyH_take (i := 9) (v := ?_) rfl (by kernel_rfl) (by kernel_rfl) (by kernel_rfl) (fun _ _ _ h => h) (Or.inl ⟨by rfl, ?_⟩) (by assumption) ?_
              rotate_left
              · (intro wS hSw; obtain ⟨⟨g0, g1, g2, -⟩, ⟨h0, h1, h2, -⟩, ⟨k0, k1, k2, -⟩, ⟨l0, l1, l2, -⟩, ⟨n0, n1, n2, -⟩⟩ := hSw; go_simp; try with_reducible rfl)
              change wpAnyH _ _ _ _ _ _ _ (Act.put _ (some 86) _) _
              simp only [Act.put, List.setIfInBounds_toArray, List.set_cons_zero, List.set_cons_succ]
              refine wpAnyH_ready (rs := [8]) (by kernel_rfl) (by simp) ?_
              refine AllReadyH.cons rfl (fun K hK => ?_) AllReadyH.nil
              go_simp
              refine (AT.out _).mono ?_
              rintro t v2 ⟨rfl, hv2⟩
              have G2 : Hid (Kp3 w [(q, d, e, f), (p, x, y, z), (w.heap.size, a, b, c), (w.heap.size + 1, d, e, f)] v2 ∧ Bb3 v2 ub u0' u1' u2') := ⟨G1.out.1.later hv2, Bb3.later hv2 G1.out.2⟩
              clear hv2 G1
              (try go_wp2_with (fail))
              refine hK.out _ _ ?_ (fun hHeld => ?_)
              · exact ⟨G2.out.1.1 (q, d, e, f) (by simp), G2.out.1.1 (p, x, y, z) (by simp), G2.out.1.1 (w.heap.size, a, b, c) (by simp), G2.out.1.1 (w.heap.size + 1, d, e, f) (by simp), G2.out.2⟩
              clear hK K
              refine wpAnyH_take (i := 10) (v := ?_) rfl (by kernel_rfl) (by kernel_rfl) (by kernel_rfl) (fun _ _ _ h => h) (Or.inl ⟨by rfl, ?_⟩) (by assumption) ?_
              rotate_left
              · (intro wS hSw; obtain ⟨⟨g0, g1, g2, -⟩, ⟨h0, h1, h2, -⟩, ⟨k0, k1, k2, -⟩, ⟨l0, l1, l2, -⟩, ⟨n0, n1, n2, -⟩⟩ := hSw; go_simp; try with_reducible rfl)
              change wpAnyH _ _ _ _ _ _ _ (Act.put _ (some 87) _) _
              simp only [Act.put, List.setIfInBounds_toArray, List.set_cons_zero, List.set_cons_succ]
              refine wpAnyH_take (i := 11) (v := ?_) rfl (by kernel_rfl) (by kernel_rfl) (by kernel_rfl) (fun _ _ _ h => h) (Or.inl ⟨by rfl, ?_⟩) (by assumption) ?_
              rotate_left
              · (intro wS hSw; obtain ⟨⟨g0, g1, g2, -⟩, ⟨h0, h1, h2, -⟩, ⟨k0, k1, k2, -⟩, ⟨l0, l1, l2, -⟩, ⟨n0, n1, n2, -⟩⟩ := hSw; go_simp; try with_reducible rfl)
              change wpAnyH _ _ _ _ _ _ _ (Act.put _ (some 88) _) _
              simp only [Act.put, List.setIfInBounds_toArray, List.set_cons_zero, List.set_cons_succ]
              refine wpAnyH_take (i := 12) (v := ?_) rfl (by kernel_rfl) (by kernel_rfl) (by kernel_rfl) (fun _ _ _ h => h) (Or.inl ⟨by rfl, ?_⟩) (by assumption) ?_
              rotate_left
              · (intro wS hSw; obtain ⟨⟨g0, g1, g2, -⟩, ⟨h0, h1, h2, -⟩, ⟨k0, k1, k2, -⟩, ⟨l0, l1, l2, -⟩, ⟨n0, n1, n2, -⟩⟩ := hSw; go_simp; try with_reducible rfl)
              change wpAnyH _ _ _ _ _ _ _ (Act.put _ (some 89) _) _
              simp only [Act.put, List.setIfInBounds_toArray, List.set_cons_zero, List.set_cons_succ]
              refine wpAnyH_take (i := 13) (v := ?_) rfl (by kernel_rfl) (by kernel_rfl) (by kernel_rfl) (fun _ _ _ h => h) (Or.inl ⟨by rfl, ?_⟩) (by assumption) ?_
              rotate_left
              · (intro wS hSw; obtain ⟨⟨g0, g1, g2, -⟩, ⟨h0, h1, h2, -⟩, ⟨k0, k1, k2, -⟩, ⟨l0, l1, l2, -⟩, ⟨n0, n1, n2, -⟩⟩ := hSw; go_simp; try with_reducible rfl)
              change wpAnyH _ _ _ _ _ _ _ (Act.put _ (some 90) _) _
              simp only [Act.put, List.setIfInBounds_toArray, List.set_cons_zero, List.set_cons_succ]
              refine wpAnyH_take (i := 14) (v := ?_) rfl (by kernel_rfl) (by kernel_rfl) (by kernel_rfl) (fun _ _ _ h => h) (Or.inl ⟨by rfl, ?_⟩) (by assumption) ?_
              rotate_left
              · (intro wS hSw; obtain ⟨⟨g0, g1, g2, -⟩, ⟨h0, h1, h2, -⟩, ⟨k0, k1, k2, -⟩, ⟨l0, l1, l2, -⟩, ⟨n0, n1, n2, -⟩⟩ := hSw; go_simp; try with_reducible rfl)
              change wpAnyH _ _ _ _ _ _ _ (Act.put _ (some 91) _) _
              simp only [Act.put, List.setIfInBounds_toArray, List.set_cons_zero, List.set_cons_succ]
              refine wpAnyH_take (i := 15) (v := ?_) rfl (by kernel_rfl) (by kernel_rfl) (by kernel_rfl) (fun _ _ _ h => h) (Or.inl ⟨by rfl, ?_⟩) (by assumption) ?_
              rotate_left
              · (intro wS hSw; obtain ⟨⟨g0, g1, g2, -⟩, ⟨h0, h1, h2, -⟩, ⟨k0, k1, k2, -⟩, ⟨l0, l1, l2, -⟩, ⟨n0, n1, n2, -⟩⟩ := hSw; go_simp; try with_reducible rfl)
              change wpAnyH _ _ _ _ _ _ _ (Act.put _ (some 92) _) _
              simp only [Act.put, List.setIfInBounds_toArray, List.set_cons_zero, List.set_cons_succ]
              refine wpAnyH_take (i := 16) (v := ?_) rfl (by kernel_rfl) (by kernel_rfl) (by kernel_rfl) (fun _ _ _ h => h) (Or.inl ⟨by rfl, ?_⟩) (by assumption) ?_
              rotate_left
              · (intro wS hSw; obtain ⟨⟨g0, g1, g2, -⟩, ⟨h0, h1, h2, -⟩, ⟨k0, k1, k2, -⟩, ⟨l0, l1, l2, -⟩, ⟨n0, n1, n2, -⟩⟩ := hSw; go_simp; try with_reducible rfl)
              change wpAnyH _ _ _ _ _ _ _ (Act.put _ (some 93) _) _
              simp only [Act.put, List.setIfInBounds_toArray, List.set_cons_zero, List.set_cons_succ]
              refine wpAnyH_take (i := 18) (v := ?_) rfl (by kernel_rfl) (by kernel_rfl) (by kernel_rfl) (fun _ _ _ h => h) (Or.inl ⟨by rfl, ?_⟩) (by assumption) ?_
              rotate_left
              · (intro wS hSw; obtain ⟨⟨g0, g1, g2, -⟩, ⟨h0, h1, h2, -⟩, ⟨k0, k1, k2, -⟩, ⟨l0, l1, l2, -⟩, ⟨n0, n1, n2, -⟩⟩ := hSw; go_simp; try with_reducible rfl)
              change wpAnyH _ _ _ _ _ _ _ (Act.put _ (some 95) _) _
              simp only [Act.put, List.setIfInBounds_toArray, List.set_cons_zero, List.set_cons_succ]
              refine wpAnyH_ready (rs := [17]) (by kernel_rfl) (by simp) ?_
              refine AllReadyH.cons rfl (fun K hK => ?_) AllReadyH.nil
              go_simp
              refine (WI.out _).mono ?_
              rintro t v3 ⟨rfl, hv3⟩
              have G3 : Hid (Kp3 w [(q, d, e, f), (p, x, y, z), (w.heap.size, a, b, c), (w.heap.size + 1, d, e, f)] v3 ∧ Bb3 v3 ub u0' u1' u2') := ⟨G2.out.1.later hv3, Bb3.later hv3 G2.out.2⟩
              clear hv3 G2
              (try go_wp2_with (fail))
              refine hK.out _ _ ?_ (fun hHeld => ?_)
              · exact ⟨G3.out.1.1 (q, d, e, f) (by simp), G3.out.1.1 (p, x, y, z) (by simp), G3.out.1.1 (w.heap.size, a, b, c) (by simp), G3.out.1.1 (w.heap.size + 1, d, e, f) (by simp), G3.out.2⟩
              clear hK K
              refine wpAnyH_take (i := 19) (v := ?_) rfl (by kernel_rfl) (by kernel_rfl) (by kernel_rfl) (fun _ _ _ h => h) (Or.inl ⟨by rfl, ?_⟩) (by assumption) ?_
              rotate_left
              · (intro wS hSw; obtain ⟨⟨g0, g1, g2, -⟩, ⟨h0, h1, h2, -⟩, ⟨k0, k1, k2, -⟩, ⟨l0, l1, l2, -⟩, ⟨n0, n1, n2, -⟩⟩ := hSw; go_simp; try with_reducible rfl)
              change wpAnyH _ _ _ _ _ _ _ (Act.put _ (some 96) _) _
              simp only [Act.put, List.setIfInBounds_toArray, List.set_cons_zero, List.set_cons_succ]
              refine wpAnyH_take (i := 20) (v := ?_) rfl (by kernel_rfl) (by kernel_rfl) (by kernel_rfl) (fun _ _ _ h => h) (Or.inl ⟨by rfl, ?_⟩) (by assumption) ?_
              rotate_left
              · (intro wS hSw; obtain ⟨⟨g0, g1, g2, -⟩, ⟨h0, h1, h2, -⟩, ⟨k0, k1, k2, -⟩, ⟨l0, l1, l2, -⟩, ⟨n0, n1, n2, -⟩⟩ := hSw; go_simp; try with_reducible rfl)
              change wpAnyH _ _ _ _ _ _ _ (Act.put _ (some 97) _) _
              simp only [Act.put, List.setIfInBounds_toArray, List.set_cons_zero, List.set_cons_succ]
              refine wpAnyH_take (i := 21) (v := ?_) rfl (by kernel_rfl) (by kernel_rfl) (by kernel_rfl) (fun _ _ _ h => h) (Or.inl ⟨by rfl, ?_⟩) (by assumption) ?_
              rotate_left
              · (intro wS hSw; obtain ⟨⟨g0, g1, g2, -⟩, ⟨h0, h1, h2, -⟩, ⟨k0, k1, k2, -⟩, ⟨l0, l1, l2, -⟩, ⟨n0, n1, n2, -⟩⟩ := hSw; go_simp; try with_reducible rfl)
              change wpAnyH _ _ _ _ _ _ _ (Act.put _ (some 98) _) _
              simp only [Act.put, List.setIfInBounds_toArray, List.set_cons_zero, List.set_cons_succ]
              refine wpAnyH_take (i := 22) (v := ?_) rfl (by kernel_rfl) (by kernel_rfl) (by kernel_rfl) (fun _ _ _ h => h) (Or.inl ⟨by rfl, ?_⟩) (by assumption) ?_
              rotate_left
              · (intro wS hSw; obtain ⟨⟨g0, g1, g2, -⟩, ⟨h0, h1, h2, -⟩, ⟨k0, k1, k2, -⟩, ⟨l0, l1, l2, -⟩, ⟨n0, n1, n2, -⟩⟩ := hSw; go_simp; try with_reducible rfl)
              change wpAnyH _ _ _ _ _ _ _ (Act.put _ (some 99) _) _
              simp only [Act.put, List.setIfInBounds_toArray, List.set_cons_zero, List.set_cons_succ]
              refine wpAnyH_take (i := 23) (v := ?_) rfl (by kernel_rfl) (by kernel_rfl) (by kernel_rfl) (fun _ _ _ h => h) (Or.inl ⟨by rfl, ?_⟩) (by assumption) ?_
              rotate_left
              · (intro wS hSw; obtain ⟨⟨g0, g1, g2, -⟩, ⟨h0, h1, h2, -⟩, ⟨k0, k1, k2, -⟩, ⟨l0, l1, l2, -⟩, ⟨n0, n1, n2, -⟩⟩ := hSw; go_simp; try with_reducible rfl)
              change wpAnyH _ _ _ _ _ _ _ (Act.put _ (some 100) _) _
              simp only [Act.put, List.setIfInBounds_toArray, List.set_cons_zero, List.set_cons_succ]
              refine wpAnyH_take (i := 25) (v := ?_) rfl (by kernel_rfl) (by kernel_rfl) (by kernel_rfl) (fun _ _ _ h => h) (Or.inl ⟨by rfl, ?_⟩) (by assumption) ?_
              rotate_left
              · (intro wS hSw; obtain ⟨⟨g0, g1, g2, -⟩, ⟨h0, h1, h2, -⟩, ⟨k0, k1, k2, -⟩, ⟨l0, l1, l2, -⟩, ⟨n0, n1, n2, -⟩⟩ := hSw; go_simp; try with_reducible rfl)
              change wpAnyH _ _ _ _ _ _ _ (Act.put _ (some 102) _) _
              simp only [Act.put, List.setIfInBounds_toArray, List.set_cons_zero, List.set_cons_succ]
              refine wpAnyH_take (i := 26) (v := ?_) rfl (by kernel_rfl) (by kernel_rfl) (by kernel_rfl) (fun _ _ _ h => h) (Or.inl ⟨by rfl, ?_⟩) (by assumption) ?_
              rotate_left
              · (intro wS hSw; obtain ⟨⟨g0, g1, g2, -⟩, ⟨h0, h1, h2, -⟩, ⟨k0, k1, k2, -⟩, ⟨l0, l1, l2, -⟩, ⟨n0, n1, n2, -⟩⟩ := hSw; go_simp; try with_reducible rfl)
              change wpAnyH _ _ _ _ _ _ _ (Act.put _ (some 103) _) _
              simp only [Act.put, List.setIfInBounds_toArray, List.set_cons_zero, List.set_cons_succ]
              refine wpAnyH_take (i := 27) (v := ?_) rfl (by kernel_rfl) (by kernel_rfl) (by kernel_rfl) (fun _ _ _ h => h) (Or.inl ⟨by rfl, ?_⟩) (by assumption) ?_
              rotate_left
              · (intro wS hSw; obtain ⟨⟨g0, g1, g2, -⟩, ⟨h0, h1, h2, -⟩, ⟨k0, k1, k2, -⟩, ⟨l0, l1, l2, -⟩, ⟨n0, n1, n2, -⟩⟩ := hSw; go_simp; try with_reducible rfl)
              change wpAnyH _ _ _ _ _ _ _ (Act.put _ (some 104) _) _
              simp only [Act.put, List.setIfInBounds_toArray, List.set_cons_zero, List.set_cons_succ]
              refine wpAnyH_ready (rs := [24]) (by kernel_rfl) (by simp) ?_
              refine AllReadyH.cons rfl (fun K hK => ?_) AllReadyH.nil
              go_simp
              refine (FI.out _).mono ?_
              rintro t v4 ⟨rfl, hv4⟩
              have G4 : Hid (Kp3 w [(q, d, e, f), (p, x, y, z), (w.heap.size, a, b, c), (w.heap.size + 1, d, e, f)] v4 ∧ Bb3 v4 ub u0' u1' u2') := ⟨G3.out.1.later hv4, Bb3.later hv4 G3.out.2⟩
              clear hv4 G3
              (try go_wp2_with (fail))
              refine hK.out _ _ ?_ (fun hHeld => ?_)
              · exact ⟨G4.out.1.1 (q, d, e, f) (by simp), G4.out.1.1 (p, x, y, z) (by simp), G4.out.1.1 (w.heap.size, a, b, c) (by simp), G4.out.1.1 (w.heap.size + 1, d, e, f) (by simp), G4.out.2⟩
              clear hK K
              refine wpAnyH_take (i := 28) (v := ?_) rfl (by kernel_rfl) (by kernel_rfl) (by kernel_rfl) (fun _ _ _ h => h) (Or.inl ⟨by rfl, ?_⟩) (by assumption) ?_
              rotate_left
              · (intro wS hSw; obtain ⟨⟨g0, g1, g2, -⟩, ⟨h0, h1, h2, -⟩, ⟨k0, k1, k2, -⟩, ⟨l0, l1, l2, -⟩, ⟨n0, n1, n2, -⟩⟩ := hSw; go_simp; try with_reducible rfl)
              change wpAnyH _ _ _ _ _ _ _ (Act.put _ (some 105) _) _
              simp only [Act.put, List.setIfInBounds_toArray, List.set_cons_zero, List.set_cons_succ]
              refine wpAnyH_take (i := 29) (v := ?_) rfl (by kernel_rfl) (by kernel_rfl) (by kernel_rfl) (fun _ _ _ h => h) (Or.inl ⟨by rfl, ?_⟩) (by assumption) ?_
              rotate_left
              · (intro wS hSw; obtain ⟨⟨g0, g1, g2, -⟩, ⟨h0, h1, h2, -⟩, ⟨k0, k1, k2, -⟩, ⟨l0, l1, l2, -⟩, ⟨n0, n1, n2, -⟩⟩ := hSw; go_simp; try with_reducible rfl)
              change wpAnyH _ _ _ _ _ _ _ (Act.put _ (some 106) _) _
              simp only [Act.put, List.setIfInBounds_toArray, List.set_cons_zero, List.set_cons_succ]
              refine wpAnyH_take (i := 30) (v := ?_) rfl (by kernel_rfl) (by kernel_rfl) (by kernel_rfl) (fun _ _ _ h => h) (Or.inl ⟨by rfl, ?_⟩) (by assumption) ?_
              rotate_left
              · (intro wS hSw; obtain ⟨⟨g0, g1, g2, -⟩, ⟨h0, h1, h2, -⟩, ⟨k0, k1, k2, -⟩, ⟨l0, l1, l2, -⟩, ⟨n0, n1, n2, -⟩⟩ := hSw; go_simp; try with_reducible rfl)
              change wpAnyH _ _ _ _ _ _ _ (Act.put _ (some 107) _) _
              simp only [Act.put, List.setIfInBounds_toArray, List.set_cons_zero, List.set_cons_succ]
              refine wpAnyH_take (i := 31) (v := ?_) rfl (by kernel_rfl) (by kernel_rfl) (by kernel_rfl) (fun _ _ _ h => h) (Or.inl ⟨by rfl, ?_⟩) (by assumption) ?_
              rotate_left
              · (intro wS hSw; obtain ⟨⟨g0, g1, g2, -⟩, ⟨h0, h1, h2, -⟩, ⟨k0, k1, k2, -⟩, ⟨l0, l1, l2, -⟩, ⟨n0, n1, n2, -⟩⟩ := hSw; go_simp; try with_reducible rfl)
              change wpAnyH _ _ _ _ _ _ _ (Act.put _ (some 108) _) _
              simp only [Act.put, List.setIfInBounds_toArray, List.set_cons_zero, List.set_cons_succ]
              refine wpAnyH_take (i := 32) (v := ?_) rfl (by kernel_rfl) (by kernel_rfl) (by kernel_rfl) (fun _ _ _ h => h) (Or.inl ⟨by rfl, ?_⟩) (by assumption) ?_
              rotate_left
              · (intro wS hSw; obtain ⟨⟨g0, g1, g2, -⟩, ⟨h0, h1, h2, -⟩, ⟨k0, k1, k2, -⟩, ⟨l0, l1, l2, -⟩, ⟨n0, n1, n2, -⟩⟩ := hSw; go_simp; try with_reducible rfl)
              change wpAnyH _ _ _ _ _ _ _ (Act.put _ (some 109) _) _
              simp only [Act.put, List.setIfInBounds_toArray, List.set_cons_zero, List.set_cons_succ]
              refine wpAnyH_take (i := 34) (v := ?_) rfl (by kernel_rfl) (by kernel_rfl) (by kernel_rfl) (fun _ _ _ h => h) (Or.inl ⟨by rfl, ?_⟩) (by assumption) ?_
              rotate_left
              · (intro wS hSw; obtain ⟨⟨g0, g1, g2, -⟩, ⟨h0, h1, h2, -⟩, ⟨k0, k1, k2, -⟩, ⟨l0, l1, l2, -⟩, ⟨n0, n1, n2, -⟩⟩ := hSw; go_simp; try with_reducible rfl)
              change wpAnyH _ _ _ _ _ _ _ (Act.put _ (some 111) _) _
              simp only [Act.put, List.setIfInBounds_toArray, List.set_cons_zero, List.set_cons_succ]
              refine wpAnyH_ready (rs := [33]) (by kernel_rfl) (by simp) ?_
              refine AllReadyH.cons rfl (fun K hK => ?_) AllReadyH.nil
              go_simp
              refine (MA.out _).mono ?_
              rintro t v5 ⟨rfl, hv5⟩
              have G5 : Hid (Kp3 w [(q, d, e, f), (p, x, y, z), (w.heap.size, a, b, c), (w.heap.size + 1, d, e, f)] v5 ∧ Bb3 v5 ub u0' u1' u2') := ⟨G4.out.1.later hv5, Bb3.later hv5 G4.out.2⟩
              clear hv5 G4
              (try go_wp2_with (fail))
              refine hK.out _ _ ?_ (fun hHeld => ?_)
              · exact ⟨G5.out.1.1 (q, d, e, f) (by simp), G5.out.1.1 (p, x, y, z) (by simp), G5.out.1.1 (w.heap.size, a, b, c) (by simp), G5.out.1.1 (w.heap.size + 1, d, e, f) (by simp), G5.out.2⟩
              clear hK K
              refine wpAnyH_take (i := 35) (v := ?_) rfl (by kernel_rfl) (by kernel_rfl) (by kernel_rfl) (fun _ _ _ h => h) (Or.inl ⟨by rfl, ?_⟩) (by assumption) ?_
              rotate_left
              · (intro wS hSw; obtain ⟨⟨g0, g1, g2, -⟩, ⟨h0, h1, h2, -⟩, ⟨k0, k1, k2, -⟩, ⟨l0, l1, l2, -⟩, ⟨n0, n1, n2, -⟩⟩ := hSw; go_simp; try with_reducible rfl)
              change wpAnyH _ _ _ _ _ _ _ (Act.put _ (some 112) _) _
              simp only [Act.put, List.setIfInBounds_toArray, List.set_cons_zero, List.set_cons_succ]
              refine wpAnyH_take (i := 36) (v := ?_) rfl (by kernel_rfl) (by kernel_rfl) (by kernel_rfl) (fun _ _ _ h => h) (Or.inl ⟨by rfl, ?_⟩) (by assumption) ?_
              rotate_left
              · (intro wS hSw; obtain ⟨⟨g0, g1, g2, -⟩, ⟨h0, h1, h2, -⟩, ⟨k0, k1, k2, -⟩, ⟨l0, l1, l2, -⟩, ⟨n0, n1, n2, -⟩⟩ := hSw; go_simp; try with_reducible rfl)
              change wpAnyH _ _ _ _ _ _ _ (Act.put _ (some 113) _) _
              simp only [Act.put, List.setIfInBounds_toArray, List.set_cons_zero, List.set_cons_succ]
              refine wpAnyH_take (i := 37) (v := ?_) rfl (by kernel_rfl) (by kernel_rfl) (by kernel_rfl) (fun _ _ _ h => h) (Or.inl ⟨by rfl, ?_⟩) (by assumption) ?_
              rotate_left
              · (intro wS hSw; obtain ⟨⟨g0, g1, g2, -⟩, ⟨h0, h1, h2, -⟩, ⟨k0, k1, k2, -⟩, ⟨l0, l1, l2, -⟩, ⟨n0, n1, n2, -⟩⟩ := hSw; go_simp; try with_reducible rfl)
              change wpAnyH _ _ _ _ _ _ _ (Act.put _ (some 114) _) _
              simp only [Act.put, List.setIfInBounds_toArray, List.set_cons_zero, List.set_cons_succ]
              refine wpAnyH_take (i := 38) (v := ?_) rfl (by kernel_rfl) (by kernel_rfl) (by kernel_rfl) (fun _ _ _ h => h) (Or.inl ⟨by rfl, ?_⟩) (by assumption) ?_
              rotate_left
              · (intro wS hSw; obtain ⟨⟨g0, g1, g2, -⟩, ⟨h0, h1, h2, -⟩, ⟨k0, k1, k2, -⟩, ⟨l0, l1, l2, -⟩, ⟨n0, n1, n2, -⟩⟩ := hSw; go_simp; try with_reducible rfl)
              change wpAnyH _ _ _ _ _ _ _ (Act.put _ (some 115) _) _
              simp only [Act.put, List.setIfInBounds_toArray, List.set_cons_zero, List.set_cons_succ]
              refine wpAnyH_take (i := 39) (v := ?_) rfl (by kernel_rfl) (by kernel_rfl) (by kernel_rfl) (fun _ _ _ h => h) (Or.inl ⟨by rfl, ?_⟩) (by assumption) ?_
              rotate_left
              · (intro wS hSw; obtain ⟨⟨g0, g1, g2, -⟩, ⟨h0, h1, h2, -⟩, ⟨k0, k1, k2, -⟩, ⟨l0, l1, l2, -⟩, ⟨n0, n1, n2, -⟩⟩ := hSw; go_simp; try with_reducible rfl)
              change wpAnyH _ _ _ _ _ _ _ (Act.put _ (some 116) _) _
              simp only [Act.put, List.setIfInBounds_toArray, List.set_cons_zero, List.set_cons_succ]
              refine wpAnyH_take (i := 41) (v := ?_) rfl (by kernel_rfl) (by kernel_rfl) (by kernel_rfl) (fun _ _ _ h => h) (Or.inl ⟨by rfl, ?_⟩) (by assumption) ?_
              rotate_left
              · (intro wS hSw; obtain ⟨⟨g0, g1, g2, -⟩, ⟨h0, h1, h2, -⟩, ⟨k0, k1, k2, -⟩, ⟨l0, l1, l2, -⟩, ⟨n0, n1, n2, -⟩⟩ := hSw; go_simp; try with_reducible rfl)
              change wpAnyH _ _ _ _ _ _ _ (Act.put _ (some 118) _) _
              simp only [Act.put, List.setIfInBounds_toArray, List.set_cons_zero, List.set_cons_succ]
              refine wpAnyH_ready (rs := [40]) (by kernel_rfl) (by simp) ?_
              refine AllReadyH.cons rfl (fun K hK => ?_) AllReadyH.nil
              go_simp
              refine (UN.out _).mono ?_
              rintro t v6 ⟨rfl, hv6⟩
              have G6 : Hid (Kp3 w [(q, d, e, f), (p, x, y, z), (w.heap.size, a, b, c), (w.heap.size + 1, d, e, f)] v6 ∧ Bb3 v6 ub u0' u1' u2') := ⟨G5.out.1.later hv6, Bb3.later hv6 G5.out.2⟩
              clear hv6 G5
              (try go_wp2_with (fail))
              refine hK.out _ _ ?_ (fun hHeld => ?_)
              · exact ⟨G6.out.1.1 (q, d, e, f) (by simp), G6.out.1.1 (p, x, y, z) (by simp), G6.out.1.1 (w.heap.size, a, b, c) (by simp), G6.out.1.1 (w.heap.size + 1, d, e, f) (by simp), G6.out.2⟩
              clear hK K
              refine wpAnyH_take (i := 42) (v := ?_) rfl (by kernel_rfl) (by kernel_rfl) (by kernel_rfl) (fun _ _ _ h => h) (Or.inl ⟨by rfl, ?_⟩) (by assumption) ?_
              rotate_left
              · (intro wS hSw; obtain ⟨⟨g0, g1, g2, -⟩, ⟨h0, h1, h2, -⟩, ⟨k0, k1, k2, -⟩, ⟨l0, l1, l2, -⟩, ⟨n0, n1, n2, -⟩⟩ := hSw; go_simp; try with_reducible rfl)
              change wpAnyH _ _ _ _ _ _ _ (Act.put _ (some 119) _) _
              simp only [Act.put, List.setIfInBounds_toArray, List.set_cons_zero, List.set_cons_succ]
              refine wpAnyH_take (i := 43) (v := ?_) rfl (by kernel_rfl) (by kernel_rfl) (by kernel_rfl) (fun _ _ _ h => h) (Or.inl ⟨by rfl, ?_⟩) (by assumption) ?_
              rotate_left
              · (intro wS hSw; obtain ⟨⟨g0, g1, g2, -⟩, ⟨h0, h1, h2, -⟩, ⟨k0, k1, k2, -⟩, ⟨l0, l1, l2, -⟩, ⟨n0, n1, n2, -⟩⟩ := hSw; go_simp; try with_reducible rfl)
              change wpAnyH _ _ _ _ _ _ _ (Act.put _ (some 120) _) _
              simp only [Act.put, List.setIfInBounds_toArray, List.set_cons_zero, List.set_cons_succ]
              refine wpAnyH_take (i := 44) (v := ?_) rfl (by kernel_rfl) (by kernel_rfl) (by kernel_rfl) (fun _ _ _ h => h) (Or.inl ⟨by rfl, ?_⟩) (by assumption) ?_
              rotate_left
              · (intro wS hSw; obtain ⟨⟨g0, g1, g2, -⟩, ⟨h0, h1, h2, -⟩, ⟨k0, k1, k2, -⟩, ⟨l0, l1, l2, -⟩, ⟨n0, n1, n2, -⟩⟩ := hSw; go_simp; try with_reducible rfl)
              change wpAnyH _ _ _ _ _ _ _ (Act.put _ (some 6) _) _
              simp only [Act.put, List.setIfInBounds_toArray, List.set_cons_zero, List.set_cons_succ]
              refine wpAnyH_done (by kernel_rfl) ?_ _
              refine NoPanic.normal ?_
              go_wp2_with (fail)
              go_ret
              exact ⟨rfl, G6.out.1.2.2⟩
            · have NN : Hid (¬ (mx = d ∧ my = e ∧ mz = f)) := by
                unfold Hid
                rw [Mx.out, My.out, Mz.out]
                omega
              rw [fits_no K] at FI
              clear K
              refine wp_region_noPanic ?_
              refine wp_region_held_drew (S := fun w' => Bx3 w' q mx my mz ∧ Bx3 w' p x y z ∧ Bx3 w' w.heap.size a b c ∧ Bx3 w' (w.heap.size + 1) d e f ∧ Bb3 w' ub u0' u1' u2') (by kernel_rfl) ?_ (fun hHeld => ?_)
              · exact ⟨F9.out.1.1 (q, mx, my, mz) (by simp), F9.out.1.1 (p, x, y, z) (by simp), F9.out.1.1 (w.heap.size, a, b, c) (by simp), F9.out.1.1 (w.heap.size + 1, d, e, f) (by simp), F9.out.2⟩
              refine wpAnyH_take (i := 0) (v := ?_) rfl (by kernel_rfl) (by kernel_rfl) (by kernel_rfl) (fun _ _ _ h => h) (Or.inl ⟨by rfl, ?_⟩) (by assumption) ?_
              rotate_left
              · (intro wS hSw; obtain ⟨⟨g0, g1, g2, -⟩, ⟨h0, h1, h2, -⟩, ⟨k0, k1, k2, -⟩, ⟨l0, l1, l2, -⟩, ⟨n0, n1, n2, -⟩⟩ := hSw; go_simp; try with_reducible rfl)
              change wpAnyH _ _ _ _ _ _ _ (Act.put _ (some 77) _) _
              simp only [Act.put, List.setIfInBounds_toArray, List.set_cons_zero, List.set_cons_succ]
              refine wpAnyH_take (i := 2) (v := ?_) rfl (by kernel_rfl) (by kernel_rfl) (by kernel_rfl) (fun _ _ _ h => h) (Or.inl ⟨by rfl, ?_⟩) (by assumption) ?_
              rotate_left
              · (intro wS hSw; obtain ⟨⟨g0, g1, g2, -⟩, ⟨h0, h1, h2, -⟩, ⟨k0, k1, k2, -⟩, ⟨l0, l1, l2, -⟩, ⟨n0, n1, n2, -⟩⟩ := hSw; go_simp; try with_reducible rfl)
              change wpAnyH _ _ _ _ _ _ _ (Act.put _ (some 79) _) _
              simp only [Act.put, List.setIfInBounds_toArray, List.set_cons_zero, List.set_cons_succ]
              refine wpAnyH_ready (rs := [1]) (by kernel_rfl) (by simp) ?_
              refine AllReadyH.cons rfl (fun K hK => ?_) AllReadyH.nil
              go_simp
              refine (RI.out _ F9.out.1.drew.2.1).mono ?_
              rintro t v0 ⟨rfl, hv0⟩
              have G0 : Hid (Kp3 w [(q, mx, my, mz), (p, x, y, z), (w.heap.size, a, b, c), (w.heap.size + 1, d, e, f)] v0 ∧ Bb3 v0 ub u0' u1' u2') := ⟨F9.out.1.drew.later hv0, Bb3.later hv0 F9.out.2⟩
              clear hv0 F9
              (try go_wp2_with (fail))
              refine hK.out _ _ ?_ (fun hHeld => ?_)
              · exact ⟨G0.out.1.1 (q, mx, my, mz) (by simp), G0.out.1.1 (p, x, y, z) (by simp), G0.out.1.1 (w.heap.size, a, b, c) (by simp), G0.out.1.1 (w.heap.size + 1, d, e, f) (by simp), G0.out.2⟩
              clear hK K
              refine wpAnyH_ready (rs := [3]) (by kernel_rfl) (by simp) ?_
              refine AllReadyH.cons rfl (fun K hK => ?_) AllReadyH.nil
              go_simp
              refine (RR.out _).mono ?_
              rintro t v1 ⟨rfl, hv1⟩
              have G1 : Hid (Kp3 w [(q, mx, my, mz), (p, x, y, z), (w.heap.size, a, b, c), (w.heap.size + 1, d, e, f)] v1 ∧ Bb3 v1 ub u0' u1' u2') := ⟨G0.out.1.later hv1, Bb3.later hv1 G0.out.2⟩
              clear hv1 G0
              (try go_wp2_with (fail))
              refine hK.out _ _ ?_ (fun hHeld => ?_)
              · exact ⟨G1.out.1.1 (q, mx, my, mz) (by simp), G1.out.1.1 (p, x, y, z) (by simp), G1.out.1.1 (w.heap.size, a, b, c) (by simp), G1.out.1.1 (w.heap.size + 1, d, e, f) (by simp), G1.out.2⟩
              clear hK K
              refine wpAnyH_take (i := 4) (v := ?_) rfl (by kernel_rfl) (by kernel_rfl) (by kernel_rfl) (fun _ _ _ h => h) (Or.inl ⟨by rfl, ?_⟩) (by assumption) ?_
              rotate_left
              · (intro wS hSw; obtain ⟨⟨g0, g1, g2, -⟩, ⟨h0, h1, h2, -⟩, ⟨k0, k1, k2, -⟩, ⟨l0, l1, l2, -⟩, ⟨n0, n1, n2, -⟩⟩ := hSw; go_simp; try with_reducible rfl)
              change wpAnyH _ _ _ _ _ _ _ (Act.put _ (some 81) _) _
              simp only [Act.put, List.setIfInBounds_toArray, List.set_cons_zero, List.set_cons_succ]
              refine wpAnyH_take (i := 5) (v := ?_) rfl (by kernel_rfl) (by kernel_rfl) (by kernel_rfl) (fun _ _ _ h => h) (Or.inl ⟨by rfl, ?_⟩) (by assumption) ?_
              rotate_left
              · (intro wS hSw; obtain ⟨⟨g0, g1, g2, -⟩, ⟨h0, h1, h2, -⟩, ⟨k0, k1, k2, -⟩, ⟨l0, l1, l2, -⟩, ⟨n0, n1, n2, -⟩⟩ := hSw; go_simp; try with_reducible rfl)
              change wpAnyH _ _ _ _ _ _ _ (Act.put _ (some 82) _) _
              simp only [Act.put, List.setIfInBounds_toArray, List.set_cons_zero, List.set_cons_succ]
              refine wpAnyH_take (i := 6) (v := ?_) rfl (by kernel_rfl) (by kernel_rfl) (by kernel_rfl) (fun _ _ _ h => h) (Or.inl ⟨by rfl, ?_⟩) (by assumption) ?_
              rotate_left
              · (intro wS hSw; obtain ⟨⟨g0, g1, g2, -⟩, ⟨h0, h1, h2, -⟩, ⟨k0, k1, k2, -⟩, ⟨l0, l1, l2, -⟩, ⟨n0, n1, n2, -⟩⟩ := hSw; go_simp; try with_reducible rfl)
              change wpAnyH _ _ _ _ _ _ _ (Act.put _ (some 83) _) _
              simp only [Act.put, List.setIfInBounds_toArray, List.set_cons_zero, List.set_cons_succ]
              refine wpAnyH_take (i := 7) (v := ?_) rfl (by kernel_rfl) (by kernel_rfl) (by kernel_rfl) (fun _ _ _ h => h) (Or.inl ⟨by rfl, ?_⟩) (by assumption) ?_
              rotate_left
              · (intro wS hSw; obtain ⟨⟨g0, g1, g2, -⟩, ⟨h0, h1, h2, -⟩, ⟨k0, k1, k2, -⟩, ⟨l0, l1, l2, -⟩, ⟨n0, n1, n2, -⟩⟩ := hSw; go_simp; try with_reducible rfl)
              change wpAnyH _ _ _ _ _ _ _ (Act.put _ (some 84) _) _
              simp only [Act.put, List.setIfInBounds_toArray, List.set_cons_zero, List.set_cons_succ]
              refine wpAnyH_take (i := 9) (v := ?_) rfl (by kernel_rfl) (by kernel_rfl) (by kernel_rfl) (fun _ _ _ h => h) (Or.inl ⟨by rfl, ?_⟩) (by assumption) ?_
              rotate_left
              · (intro wS hSw; obtain ⟨⟨g0, g1, g2, -⟩, ⟨h0, h1, h2, -⟩, ⟨k0, k1, k2, -⟩, ⟨l0, l1, l2, -⟩, ⟨n0, n1, n2, -⟩⟩ := hSw; go_simp; try with_reducible rfl)
              change wpAnyH _ _ _ _ _ _ _ (Act.put _ (some 86) _) _
              simp only [Act.put, List.setIfInBounds_toArray, List.set_cons_zero, List.set_cons_succ]
              refine wpAnyH_ready (rs := [8]) (by kernel_rfl) (by simp) ?_
              refine AllReadyH.cons rfl (fun K hK => ?_) AllReadyH.nil
              go_simp
              refine (AT.out _).mono ?_
              rintro t v2 ⟨rfl, hv2⟩
              have G2 : Hid (Kp3 w [(q, mx, my, mz), (p, x, y, z), (w.heap.size, a, b, c), (w.heap.size + 1, d, e, f)] v2 ∧ Bb3 v2 ub u0' u1' u2') := ⟨G1.out.1.later hv2, Bb3.later hv2 G1.out.2⟩
              clear hv2 G1
              (try go_wp2_with (fail))
              refine hK.out _ _ ?_ (fun hHeld => ?_)
              · exact ⟨G2.out.1.1 (q, mx, my, mz) (by simp), G2.out.1.1 (p, x, y, z) (by simp), G2.out.1.1 (w.heap.size, a, b, c) (by simp), G2.out.1.1 (w.heap.size + 1, d, e, f) (by simp), G2.out.2⟩
              clear hK K
              refine wpAnyH_take (i := 10) (v := ?_) rfl (by kernel_rfl) (by kernel_rfl) (by kernel_rfl) (fun _ _ _ h => h) (Or.inl ⟨by rfl, ?_⟩) (by assumption) ?_
              rotate_left
              · (intro wS hSw; obtain ⟨⟨g0, g1, g2, -⟩, ⟨h0, h1, h2, -⟩, ⟨k0, k1, k2, -⟩, ⟨l0, l1, l2, -⟩, ⟨n0, n1, n2, -⟩⟩ := hSw; go_simp; try with_reducible rfl)
              change wpAnyH _ _ _ _ _ _ _ (Act.put _ (some 87) _) _
              simp only [Act.put, List.setIfInBounds_toArray, List.set_cons_zero, List.set_cons_succ]
              refine wpAnyH_take (i := 11) (v := ?_) rfl (by kernel_rfl) (by kernel_rfl) (by kernel_rfl) (fun _ _ _ h => h) (Or.inl ⟨by rfl, ?_⟩) (by assumption) ?_
              rotate_left
              · (intro wS hSw; obtain ⟨⟨g0, g1, g2, -⟩, ⟨h0, h1, h2, -⟩, ⟨k0, k1, k2, -⟩, ⟨l0, l1, l2, -⟩, ⟨n0, n1, n2, -⟩⟩ := hSw; go_simp; try with_reducible rfl)
              change wpAnyH _ _ _ _ _ _ _ (Act.put _ (some 88) _) _
              simp only [Act.put, List.setIfInBounds_toArray, List.set_cons_zero, List.set_cons_succ]
              refine wpAnyH_take (i := 12) (v := ?_) rfl (by kernel_rfl) (by kernel_rfl) (by kernel_rfl) (fun _ _ _ h => h) (Or.inl ⟨by rfl, ?_⟩) (by assumption) ?_
              rotate_left
              · (intro wS hSw; obtain ⟨⟨g0, g1, g2, -⟩, ⟨h0, h1, h2, -⟩, ⟨k0, k1, k2, -⟩, ⟨l0, l1, l2, -⟩, ⟨n0, n1, n2, -⟩⟩ := hSw; go_simp; try with_reducible rfl)
              change wpAnyH _ _ _ _ _ _ _ (Act.put _ (some 89) _) _
              simp only [Act.put, List.setIfInBounds_toArray, List.set_cons_zero, List.set_cons_succ]
              refine wpAnyH_take (i := 13) (v := ?_) rfl (by kernel_rfl) (by kernel_rfl) (by kernel_rfl) (fun _ _ _ h => h) (Or.inl ⟨by rfl, ?_⟩) (by assumption) ?_
              rotate_left
              · (intro wS hSw; obtain ⟨⟨g0, g1, g2, -⟩, ⟨h0, h1, h2, -⟩, ⟨k0, k1, k2, -⟩, ⟨l0, l1, l2, -⟩, ⟨n0, n1, n2, -⟩⟩ := hSw; go_simp; try with_reducible rfl)
              change wpAnyH _ _ _ _ _ _ _ (Act.put _ (some 90) _) _
              simp only [Act.put, List.setIfInBounds_toArray, List.set_cons_zero, List.set_cons_succ]
              refine wpAnyH_take (i := 14) (v := ?_) rfl (by kernel_rfl) (by kernel_rfl) (by kernel_rfl) (fun _ _ _ h => h) (Or.inl ⟨by rfl, ?_⟩) (by assumption) ?_
              rotate_left
              · (intro wS hSw; obtain ⟨⟨g0, g1, g2, -⟩, ⟨h0, h1, h2, -⟩, ⟨k0, k1, k2, -⟩, ⟨l0, l1, l2, -⟩, ⟨n0, n1, n2, -⟩⟩ := hSw; go_simp; try with_reducible rfl)
              change wpAnyH _ _ _ _ _ _ _ (Act.put _ (some 91) _) _
              simp only [Act.put, List.setIfInBounds_toArray, List.set_cons_zero, List.set_cons_succ]
              refine wpAnyH_take (i := 15) (v := ?_) rfl (by kernel_rfl) (by kernel_rfl) (by kernel_rfl) (fun _ _ _ h => h) (Or.inl ⟨by rfl, ?_⟩) (by assumption) ?_
              rotate_left
              · (intro wS hSw; obtain ⟨⟨g0, g1, g2, -⟩, ⟨h0, h1, h2, -⟩, ⟨k0, k1, k2, -⟩, ⟨l0, l1, l2, -⟩, ⟨n0, n1, n2, -⟩⟩ := hSw; go_simp; try with_reducible rfl)
              change wpAnyH _ _ _ _ _ _ _ (Act.put _ (some 92) _) _
              simp only [Act.put, List.setIfInBounds_toArray, List.set_cons_zero, List.set_cons_succ]
              refine wpAnyH_take (i := 16) (v := ?_) rfl (by kernel_rfl) (by kernel_rfl) (by kernel_rfl) (fun _ _ _ h => h) (Or.inl ⟨by rfl, ?_⟩) (by assumption) ?_
              rotate_left
              · (intro wS hSw; obtain ⟨⟨g0, g1, g2, -⟩, ⟨h0, h1, h2, -⟩, ⟨k0, k1, k2, -⟩, ⟨l0, l1, l2, -⟩, ⟨n0, n1, n2, -⟩⟩ := hSw; go_simp; try with_reducible rfl)
              change wpAnyH _ _ _ _ _ _ _ (Act.put _ (some 93) _) _
              simp only [Act.put, List.setIfInBounds_toArray, List.set_cons_zero, List.set_cons_succ]
              refine wpAnyH_take (i := 18) (v := ?_) rfl (by kernel_rfl) (by kernel_rfl) (by kernel_rfl) (fun _ _ _ h => h) (Or.inl ⟨by rfl, ?_⟩) (by assumption) ?_
              rotate_left
              · (intro wS hSw; obtain ⟨⟨g0, g1, g2, -⟩, ⟨h0, h1, h2, -⟩, ⟨k0, k1, k2, -⟩, ⟨l0, l1, l2, -⟩, ⟨n0, n1, n2, -⟩⟩ := hSw; go_simp; try with_reducible rfl)
              change wpAnyH _ _ _ _ _ _ _ (Act.put _ (some 95) _) _
              simp only [Act.put, List.setIfInBounds_toArray, List.set_cons_zero, List.set_cons_succ]
              refine wpAnyH_ready (rs := [17]) (by kernel_rfl) (by simp) ?_
              refine AllReadyH.cons rfl (fun K hK => ?_) AllReadyH.nil
              go_simp
              refine (WI.out _).mono ?_
              rintro t v3 ⟨rfl, hv3⟩
              have G3 : Hid (Kp3 w [(q, mx, my, mz), (p, x, y, z), (w.heap.size, a, b, c), (w.heap.size + 1, d, e, f)] v3 ∧ Bb3 v3 ub u0' u1' u2') := ⟨G2.out.1.later hv3, Bb3.later hv3 G2.out.2⟩
              clear hv3 G2
              (try go_wp2_with (fail))
              refine hK.out _ _ ?_ (fun hHeld => ?_)
              · exact ⟨G3.out.1.1 (q, mx, my, mz) (by simp), G3.out.1.1 (p, x, y, z) (by simp), G3.out.1.1 (w.heap.size, a, b, c) (by simp), G3.out.1.1 (w.heap.size + 1, d, e, f) (by simp), G3.out.2⟩
              clear hK K
              refine wpAnyH_take (i := 19) (v := ?_) rfl (by kernel_rfl) (by kernel_rfl) (by kernel_rfl) (fun _ _ _ h => h) (Or.inl ⟨by rfl, ?_⟩) (by assumption) ?_
              rotate_left
              · (intro wS hSw; obtain ⟨⟨g0, g1, g2, -⟩, ⟨h0, h1, h2, -⟩, ⟨k0, k1, k2, -⟩, ⟨l0, l1, l2, -⟩, ⟨n0, n1, n2, -⟩⟩ := hSw; go_simp; try with_reducible rfl)
              change wpAnyH _ _ _ _ _ _ _ (Act.put _ (some 96) _) _
              simp only [Act.put, List.setIfInBounds_toArray, List.set_cons_zero, List.set_cons_succ]
              refine wpAnyH_take (i := 20) (v := ?_) rfl (by kernel_rfl) (by kernel_rfl) (by kernel_rfl) (fun _ _ _ h => h) (Or.inl ⟨by rfl, ?_⟩) (by assumption) ?_
              rotate_left
              · (intro wS hSw; obtain ⟨⟨g0, g1, g2, -⟩, ⟨h0, h1, h2, -⟩, ⟨k0, k1, k2, -⟩, ⟨l0, l1, l2, -⟩, ⟨n0, n1, n2, -⟩⟩ := hSw; go_simp; try with_reducible rfl)
              change wpAnyH _ _ _ _ _ _ _ (Act.put _ (some 97) _) _
              simp only [Act.put, List.setIfInBounds_toArray, List.set_cons_zero, List.set_cons_succ]
              refine wpAnyH_take (i := 21) (v := ?_) rfl (by kernel_rfl) (by kernel_rfl) (by kernel_rfl) (fun _ _ _ h => h) (Or.inl ⟨by rfl, ?_⟩) (by assumption) ?_
              rotate_left
              · (intro wS hSw; obtain ⟨⟨g0, g1, g2, -⟩, ⟨h0, h1, h2, -⟩, ⟨k0, k1, k2, -⟩, ⟨l0, l1, l2, -⟩, ⟨n0, n1, n2, -⟩⟩ := hSw; go_simp; try with_reducible rfl)
              change wpAnyH _ _ _ _ _ _ _ (Act.put _ (some 98) _) _
              simp only [Act.put, List.setIfInBounds_toArray, List.set_cons_zero, List.set_cons_succ]
              refine wpAnyH_take (i := 22) (v := ?_) rfl (by kernel_rfl) (by kernel_rfl) (by kernel_rfl) (fun _ _ _ h => h) (Or.inl ⟨by rfl, ?_⟩) (by assumption) ?_
              rotate_left
              · (intro wS hSw; obtain ⟨⟨g0, g1, g2, -⟩, ⟨h0, h1, h2, -⟩, ⟨k0, k1, k2, -⟩, ⟨l0, l1, l2, -⟩, ⟨n0, n1, n2, -⟩⟩ := hSw; go_simp; try with_reducible rfl)
              change wpAnyH _ _ _ _ _ _ _ (Act.put _ (some 99) _) _
              simp only [Act.put, List.setIfInBounds_toArray, List.set_cons_zero, List.set_cons_succ]
              refine wpAnyH_take (i := 23) (v := ?_) rfl (by kernel_rfl) (by kernel_rfl) (by kernel_rfl) (fun _ _ _ h => h) (Or.inl ⟨by rfl, ?_⟩) (by assumption) ?_
              rotate_left
              · (intro wS hSw; obtain ⟨⟨g0, g1, g2, -⟩, ⟨h0, h1, h2, -⟩, ⟨k0, k1, k2, -⟩, ⟨l0, l1, l2, -⟩, ⟨n0, n1, n2, -⟩⟩ := hSw; go_simp; try with_reducible rfl)
              change wpAnyH _ _ _ _ _ _ _ (Act.put _ (some 100) _) _
              simp only [Act.put, List.setIfInBounds_toArray, List.set_cons_zero, List.set_cons_succ]
              refine wpAnyH_take (i := 25) (v := ?_) rfl (by kernel_rfl) (by kernel_rfl) (by kernel_rfl) (fun _ _ _ h => h) (Or.inl ⟨by rfl, ?_⟩) (by assumption) ?_
              rotate_left
              · (intro wS hSw; obtain ⟨⟨g0, g1, g2, -⟩, ⟨h0, h1, h2, -⟩, ⟨k0, k1, k2, -⟩, ⟨l0, l1, l2, -⟩, ⟨n0, n1, n2, -⟩⟩ := hSw; go_simp; try with_reducible rfl)
              change wpAnyH _ _ _ _ _ _ _ (Act.put _ (some 102) _) _
              simp only [Act.put, List.setIfInBounds_toArray, List.set_cons_zero, List.set_cons_succ]
              refine wpAnyH_take (i := 26) (v := ?_) rfl (by kernel_rfl) (by kernel_rfl) (by kernel_rfl) (fun _ _ _ h => h) (Or.inl ⟨by rfl, ?_⟩) (by assumption) ?_
              rotate_left
              · (intro wS hSw; obtain ⟨⟨g0, g1, g2, -⟩, ⟨h0, h1, h2, -⟩, ⟨k0, k1, k2, -⟩, ⟨l0, l1, l2, -⟩, ⟨n0, n1, n2, -⟩⟩ := hSw; go_simp; try with_reducible rfl)
              change wpAnyH _ _ _ _ _ _ _ (Act.put _ (some 103) _) _
              simp only [Act.put, List.setIfInBounds_toArray, List.set_cons_zero, List.set_cons_succ]
              refine wpAnyH_take (i := 27) (v := ?_) rfl (by kernel_rfl) (by kernel_rfl) (by kernel_rfl) (fun _ _ _ h => h) (Or.inl ⟨by rfl, ?_⟩) (by assumption) ?_
              rotate_left
              · (intro wS hSw; obtain ⟨⟨g0, g1, g2, -⟩, ⟨h0, h1, h2, -⟩, ⟨k0, k1, k2, -⟩, ⟨l0, l1, l2, -⟩, ⟨n0, n1, n2, -⟩⟩ := hSw; go_simp; rw [ite3_no NN.out]; try with_reducible rfl)
              change wpAnyH _ _ _ _ _ _ _ (Act.put _ (some 104) _) _
              simp only [Act.put, List.setIfInBounds_toArray, List.set_cons_zero, List.set_cons_succ]
              refine wpAnyH_ready (rs := [24]) (by kernel_rfl) (by simp) ?_
              refine AllReadyH.cons rfl (fun K hK => ?_) AllReadyH.nil
              go_simp
              refine (FI.out _).mono ?_
              rintro t v4 ⟨rfl, hv4⟩
              have G4 : Hid (Kp3 w [(q, mx, my, mz), (p, x, y, z), (w.heap.size, a, b, c), (w.heap.size + 1, d, e, f)] v4 ∧ Bb3 v4 ub u0' u1' u2') := ⟨G3.out.1.later hv4, Bb3.later hv4 G3.out.2⟩
              clear hv4 G3
              (try go_wp2_with (fail))
              refine hK.out _ _ ?_ (fun hHeld => ?_)
              · exact ⟨G4.out.1.1 (q, mx, my, mz) (by simp), G4.out.1.1 (p, x, y, z) (by simp), G4.out.1.1 (w.heap.size, a, b, c) (by simp), G4.out.1.1 (w.heap.size + 1, d, e, f) (by simp), G4.out.2⟩
              clear hK K
              refine wpAnyH_take (i := 28) (v := ?_) rfl (by kernel_rfl) (by kernel_rfl) (by kernel_rfl) (fun _ _ _ h => h) (Or.inl ⟨by rfl, ?_⟩) (by assumption) ?_
              rotate_left
              · (intro wS hSw; obtain ⟨⟨g0, g1, g2, -⟩, ⟨h0, h1, h2, -⟩, ⟨k0, k1, k2, -⟩, ⟨l0, l1, l2, -⟩, ⟨n0, n1, n2, -⟩⟩ := hSw; go_simp; try with_reducible rfl)
              change wpAnyH _ _ _ _ _ _ _ (Act.put _ (some 105) _) _
              simp only [Act.put, List.setIfInBounds_toArray, List.set_cons_zero, List.set_cons_succ]
              refine wpAnyH_take (i := 29) (v := ?_) rfl (by kernel_rfl) (by kernel_rfl) (by kernel_rfl) (fun _ _ _ h => h) (Or.inl ⟨by rfl, ?_⟩) (by assumption) ?_
              rotate_left
              · (intro wS hSw; obtain ⟨⟨g0, g1, g2, -⟩, ⟨h0, h1, h2, -⟩, ⟨k0, k1, k2, -⟩, ⟨l0, l1, l2, -⟩, ⟨n0, n1, n2, -⟩⟩ := hSw; go_simp; try with_reducible rfl)
              change wpAnyH _ _ _ _ _ _ _ (Act.put _ (some 106) _) _
              simp only [Act.put, List.setIfInBounds_toArray, List.set_cons_zero, List.set_cons_succ]
              refine wpAnyH_take (i := 30) (v := ?_) rfl (by kernel_rfl) (by kernel_rfl) (by kernel_rfl) (fun _ _ _ h => h) (Or.inl ⟨by rfl, ?_⟩) (by assumption) ?_
              rotate_left
              · (intro wS hSw; obtain ⟨⟨g0, g1, g2, -⟩, ⟨h0, h1, h2, -⟩, ⟨k0, k1, k2, -⟩, ⟨l0, l1, l2, -⟩, ⟨n0, n1, n2, -⟩⟩ := hSw; go_simp; try with_reducible rfl)
              change wpAnyH _ _ _ _ _ _ _ (Act.put _ (some 107) _) _
              simp only [Act.put, List.setIfInBounds_toArray, List.set_cons_zero, List.set_cons_succ]
              refine wpAnyH_take (i := 31) (v := ?_) rfl (by kernel_rfl) (by kernel_rfl) (by kernel_rfl) (fun _ _ _ h => h) (Or.inl ⟨by rfl, ?_⟩) (by assumption) ?_
              rotate_left
              · (intro wS hSw; obtain ⟨⟨g0, g1, g2, -⟩, ⟨h0, h1, h2, -⟩, ⟨k0, k1, k2, -⟩, ⟨l0, l1, l2, -⟩, ⟨n0, n1, n2, -⟩⟩ := hSw; go_simp; try with_reducible rfl)
              change wpAnyH _ _ _ _ _ _ _ (Act.put _ (some 108) _) _
              simp only [Act.put, List.setIfInBounds_toArray, List.set_cons_zero, List.set_cons_succ]
              refine wpAnyH_take (i := 32) (v := ?_) rfl (by kernel_rfl) (by kernel_rfl) (by kernel_rfl) (fun _ _ _ h => h) (Or.inl ⟨by rfl, ?_⟩) (by assumption) ?_
              rotate_left
              · (intro wS hSw; obtain ⟨⟨g0, g1, g2, -⟩, ⟨h0, h1, h2, -⟩, ⟨k0, k1, k2, -⟩, ⟨l0, l1, l2, -⟩, ⟨n0, n1, n2, -⟩⟩ := hSw; go_simp; try with_reducible rfl)
              change wpAnyH _ _ _ _ _ _ _ (Act.put _ (some 109) _) _
              simp only [Act.put, List.setIfInBounds_toArray, List.set_cons_zero, List.set_cons_succ]
              refine wpAnyH_take (i := 34) (v := ?_) rfl (by kernel_rfl) (by kernel_rfl) (by kernel_rfl) (fun _ _ _ h => h) (Or.inl ⟨by rfl, ?_⟩) (by assumption) ?_
              rotate_left
              · (intro wS hSw; obtain ⟨⟨g0, g1, g2, -⟩, ⟨h0, h1, h2, -⟩, ⟨k0, k1, k2, -⟩, ⟨l0, l1, l2, -⟩, ⟨n0, n1, n2, -⟩⟩ := hSw; go_simp; try with_reducible rfl)
              change wpAnyH _ _ _ _ _ _ _ (Act.put _ (some 111) _) _
              simp only [Act.put, List.setIfInBounds_toArray, List.set_cons_zero, List.set_cons_succ]
              refine wpAnyH_ready (rs := [33]) (by kernel_rfl) (by simp) ?_
              refine AllReadyH.cons rfl (fun K hK => ?_) AllReadyH.nil
              go_simp
              refine (MA.out _).mono ?_
              rintro t v5 ⟨rfl, hv5⟩
              have G5 : Hid (Kp3 w [(q, mx, my, mz), (p, x, y, z), (w.heap.size, a, b, c), (w.heap.size + 1, d, e, f)] v5 ∧ Bb3 v5 ub u0' u1' u2') := ⟨G4.out.1.later hv5, Bb3.later hv5 G4.out.2⟩
              clear hv5 G4
              (try go_wp2_with (fail))
              refine hK.out _ _ ?_ (fun hHeld => ?_)
              · exact ⟨G5.out.1.1 (q, mx, my, mz) (by simp), G5.out.1.1 (p, x, y, z) (by simp), G5.out.1.1 (w.heap.size, a, b, c) (by simp), G5.out.1.1 (w.heap.size + 1, d, e, f) (by simp), G5.out.2⟩
              clear hK K
              refine wpAnyH_take (i := 35) (v := ?_) rfl (by kernel_rfl) (by kernel_rfl) (by kernel_rfl) (fun _ _ _ h => h) (Or.inl ⟨by rfl, ?_⟩) (by assumption) ?_
              rotate_left
              · (intro wS hSw; obtain ⟨⟨g0, g1, g2, -⟩, ⟨h0, h1, h2, -⟩, ⟨k0, k1, k2, -⟩, ⟨l0, l1, l2, -⟩, ⟨n0, n1, n2, -⟩⟩ := hSw; go_simp; try with_reducible rfl)
              change wpAnyH _ _ _ _ _ _ _ (Act.put _ (some 112) _) _
              simp only [Act.put, List.setIfInBounds_toArray, List.set_cons_zero, List.set_cons_succ]
              refine wpAnyH_take (i := 36) (v := ?_) rfl (by kernel_rfl) (by kernel_rfl) (by kernel_rfl) (fun _ _ _ h => h) (Or.inl ⟨by rfl, ?_⟩) (by assumption) ?_
              rotate_left
              · (intro wS hSw; obtain ⟨⟨g0, g1, g2, -⟩, ⟨h0, h1, h2, -⟩, ⟨k0, k1, k2, -⟩, ⟨l0, l1, l2, -⟩, ⟨n0, n1, n2, -⟩⟩ := hSw; go_simp; try with_reducible rfl)
              change wpAnyH _ _ _ _ _ _ _ (Act.put _ (some 113) _) _
              simp only [Act.put, List.setIfInBounds_toArray, List.set_cons_zero, List.set_cons_succ]
              refine wpAnyH_take (i := 37) (v := ?_) rfl (by kernel_rfl) (by kernel_rfl) (by kernel_rfl) (fun _ _ _ h => h) (Or.inl ⟨by rfl, ?_⟩) (by assumption) ?_
              rotate_left
              · (intro wS hSw; obtain ⟨⟨g0, g1, g2, -⟩, ⟨h0, h1, h2, -⟩, ⟨k0, k1, k2, -⟩, ⟨l0, l1, l2, -⟩, ⟨n0, n1, n2, -⟩⟩ := hSw; go_simp; try with_reducible rfl)
              change wpAnyH _ _ _ _ _ _ _ (Act.put _ (some 114) _) _
              simp only [Act.put, List.setIfInBounds_toArray, List.set_cons_zero, List.set_cons_succ]
              refine wpAnyH_take (i := 38) (v := ?_) rfl (by kernel_rfl) (by kernel_rfl) (by kernel_rfl) (fun _ _ _ h => h) (Or.inl ⟨by rfl, ?_⟩) (by assumption) ?_
              rotate_left
              · (intro wS hSw; obtain ⟨⟨g0, g1, g2, -⟩, ⟨h0, h1, h2, -⟩, ⟨k0, k1, k2, -⟩, ⟨l0, l1, l2, -⟩, ⟨n0, n1, n2, -⟩⟩ := hSw; go_simp; try with_reducible rfl)
              change wpAnyH _ _ _ _ _ _ _ (Act.put _ (some 115) _) _
              simp only [Act.put, List.setIfInBounds_toArray, List.set_cons_zero, List.set_cons_succ]
              refine wpAnyH_take (i := 39) (v := ?_) rfl (by kernel_rfl) (by kernel_rfl) (by kernel_rfl) (fun _ _ _ h => h) (Or.inl ⟨by rfl, ?_⟩) (by assumption) ?_
              rotate_left
              · (intro wS hSw; obtain ⟨⟨g0, g1, g2, -⟩, ⟨h0, h1, h2, -⟩, ⟨k0, k1, k2, -⟩, ⟨l0, l1, l2, -⟩, ⟨n0, n1, n2, -⟩⟩ := hSw; go_simp; try with_reducible rfl)
              change wpAnyH _ _ _ _ _ _ _ (Act.put _ (some 116) _) _
              simp only [Act.put, List.setIfInBounds_toArray, List.set_cons_zero, List.set_cons_succ]
              refine wpAnyH_take (i := 41) (v := ?_) rfl (by kernel_rfl) (by kernel_rfl) (by kernel_rfl) (fun _ _ _ h => h) (Or.inl ⟨by rfl, ?_⟩) (by assumption) ?_
              rotate_left
              · (intro wS hSw; obtain ⟨⟨g0, g1, g2, -⟩, ⟨h0, h1, h2, -⟩, ⟨k0, k1, k2, -⟩, ⟨l0, l1, l2, -⟩, ⟨n0, n1, n2, -⟩⟩ := hSw; go_simp; try with_reducible rfl)
              change wpAnyH _ _ _ _ _ _ _ (Act.put _ (some 118) _) _
              simp only [Act.put, List.setIfInBounds_toArray, List.set_cons_zero, List.set_cons_succ]
              refine wpAnyH_ready (rs := [40]) (by kernel_rfl) (by simp) ?_
              refine AllReadyH.cons rfl (fun K hK => ?_) AllReadyH.nil
              go_simp
              refine (UN.out _).mono ?_
              rintro t v6 ⟨rfl, hv6⟩
              have G6 : Hid (Kp3 w [(q, mx, my, mz), (p, x, y, z), (w.heap.size, a, b, c), (w.heap.size + 1, d, e, f)] v6 ∧ Bb3 v6 ub u0' u1' u2') := ⟨G5.out.1.later hv6, Bb3.later hv6 G5.out.2⟩
              clear hv6 G5
              (try go_wp2_with (fail))
              refine hK.out _ _ ?_ (fun hHeld => ?_)
              · exact ⟨G6.out.1.1 (q, mx, my, mz) (by simp), G6.out.1.1 (p, x, y, z) (by simp), G6.out.1.1 (w.heap.size, a, b, c) (by simp), G6.out.1.1 (w.heap.size + 1, d, e, f) (by simp), G6.out.2⟩
              clear hK K
              refine wpAnyH_take (i := 42) (v := ?_) rfl (by kernel_rfl) (by kernel_rfl) (by kernel_rfl) (fun _ _ _ h => h) (Or.inl ⟨by rfl, ?_⟩) (by assumption) ?_
              rotate_left
              · (intro wS hSw; obtain ⟨⟨g0, g1, g2, -⟩, ⟨h0, h1, h2, -⟩, ⟨k0, k1, k2, -⟩, ⟨l0, l1, l2, -⟩, ⟨n0, n1, n2, -⟩⟩ := hSw; go_simp; try with_reducible rfl)
              change wpAnyH _ _ _ _ _ _ _ (Act.put _ (some 119) _) _
              simp only [Act.put, List.setIfInBounds_toArray, List.set_cons_zero, List.set_cons_succ]
              refine wpAnyH_take (i := 43) (v := ?_) rfl (by kernel_rfl) (by kernel_rfl) (by kernel_rfl) (fun _ _ _ h => h) (Or.inl ⟨by rfl, ?_⟩) (by assumption) ?_
              rotate_left
              · (intro wS hSw; obtain ⟨⟨g0, g1, g2, -⟩, ⟨h0, h1, h2, -⟩, ⟨k0, k1, k2, -⟩, ⟨l0, l1, l2, -⟩, ⟨n0, n1, n2, -⟩⟩ := hSw; go_simp; try with_reducible rfl)
              change wpAnyH _ _ _ _ _ _ _ (Act.put _ (some 120) _) _
              simp only [Act.put, List.setIfInBounds_toArray, List.set_cons_zero, List.set_cons_succ]
              refine wpAnyH_take (i := 44) (v := ?_) rfl (by kernel_rfl) (by kernel_rfl) (by kernel_rfl) (fun _ _ _ h => h) (Or.inl ⟨by rfl, ?_⟩) (by assumption) ?_
              rotate_left
              · (intro wS hSw; obtain ⟨⟨g0, g1, g2, -⟩, ⟨h0, h1, h2, -⟩, ⟨k0, k1, k2, -⟩, ⟨l0, l1, l2, -⟩, ⟨n0, n1, n2, -⟩⟩ := hSw; go_simp; try with_reducible rfl)
              change wpAnyH _ _ _ _ _ _ _ (Act.put _ (some 6) _) _
              simp only [Act.put, List.setIfInBounds_toArray, List.set_cons_zero, List.set_cons_succ]
              refine wpAnyH_done (by kernel_rfl) ?_ _
              refine NoPanic.normal ?_
              go_wp2_with (fail)
              go_ret
              exact ⟨rfl, G6.out.1.2.2⟩

end Go.Proofs.YtpbgolcimbjekaaDoor
