/-
  What is free of a table at this program (Frees, Free). Conditions: the table is one, and nobody holds more than there is.
-/
import Derived.Test.YtpefjcgccbfgbaaNF
namespace Go.Proofs.Ytpefjcgccbfgbaa.Bk
open Go.RowKit

/-- What the rows of a kind hold of a node, together. -/
def sumK (i : Nat) (k : Int) : List Rw → Int
  | [] => 0
  | r :: l => (if r.k = k then r.s i else 0) + sumK i k l
theorem sumK_app (i : Nat) (k : Int) : ∀ l m : List Rw, sumK i k (l ++ m) = sumK i k l + sumK i k m
  | [], m => by simp [sumK]
  | r :: l, m => by simp [sumK, sumK_app i k l m]; omega
theorem sumK_perm {i : Nat} {k : Int} {l m : List Rw} (p : l.Perm m) : sumK i k l = sumK i k m := by
  induction p with
  | nil => rfl
  | cons x _ ih => simp [sumK, ih]
  | swap x y l => simp [sumK]; omega
  | trans _ _ h1 h2 => exact h1.trans h2
theorem sumK_nn {i : Nat} {k : Int} : ∀ {l : List Rw}, (∀ r ∈ l, 0 ≤ r.s i) → 0 ≤ sumK i k l
  | [], _ => by simp [sumK]
  | r :: l, h => by
    have h1 := h r (by simp)
    have h2 := sumK_nn (i := i) (k := k) fun q hq => h q (List.mem_cons_of_mem r hq)
    unfold sumK
    split <;> omega
/-- Nobody holds less than nothing, and all together no more than there is. -/
structure Sound (zs : List Zn) (ls : List Rw) : Prop where
  nn : ∀ r ∈ ls, ∀ i, i < 8 → 0 ≤ r.s i
  le : ∀ i k, i < 8 → sumK i k ls ≤ roomV zs i k
theorem Sound.perm {zs : List Zn} {ls ms : List Rw} (h : Sound zs ls) (p : ls.Perm ms) : Sound zs ms := ⟨fun r hr => h.nn r (p.mem_iff.2 hr), fun i k hi => by rw [← sumK_perm p]; exact h.le i k hi⟩
theorem roomV_bd {zs : List Zn} (h : ∀ z ∈ zs, Fit z) (i k : Int) : 0 ≤ roomV zs i k ∧ roomV zs i k ≤ 1073741824 := by
  unfold roomV
  split
  · split
    · rename_i z e
      exact roomZ_bd (h z (List.mem_of_getElem? e)) k
    · omega
  · omega
/-- The free blocks of a node. -/
def freV (zs : List Zn) (ls : List Rw) (k : Int) (i : Nat) : Int := roomV zs i k - sumK i k ls
def spL (s : Nat → Int) : List Value := [.int .i64 (s 0), .int .i64 (s 1), .int .i64 (s 2), .int .i64 (s 3), .int .i64 (s 4), .int .i64 (s 5), .int .i64 (s 6), .int .i64 (s 7)]
theorem spL_at (s : Nat → Int) {j : Nat} (h : j < 8) : (spL s)[j]? = some (.int .i64 (s j)) := by
  rcases (show j = 0 ∨ j = 1 ∨ j = 2 ∨ j = 3 ∨ j = 4 ∨ j = 5 ∨ j = 6 ∨ j = 7 by omega) with rfl | rfl | rfl | rfl | rfl | rfl | rfl | rfl <;> rfl
theorem spL_ext {s t : Nat → Int} (h : ∀ i, i < 8 → s i = t i) : spL s = spL t := by
  rw [spL, spL, h 0 (by omega), h 1 (by omega), h 2 (by omega), h 3 (by omega), h 4 (by omega), h 5 (by omega), h 6 (by omega), h 7 (by omega)]
theorem spV_ext {s t : Nat → Int} (h : ∀ i, i < 8 → s i = t i) : spV s = spV t := by
  rw [spV, spV, h 0 (by omega), h 1 (by omega), h 2 (by omega), h 3 (by omega), h 4 (by omega), h 5 (by omega), h 6 (by omega), h 7 (by omega)]
theorem spL_set (s : Nat → Int) {j : Nat} (h : j < 8) (x : Int) : (spL s).set j (.int .i64 x) = spL fun i => if i = j then x else s i := by
  rcases (show j = 0 ∨ j = 1 ∨ j = 2 ∨ j = 3 ∨ j = 4 ∨ j = 5 ∨ j = 6 ∨ j = 7 by omega) with rfl | rfl | rfl | rfl | rfl | rfl | rfl | rfl <;> rfl
def upto (j : Nat) (s t : Nat → Int) : Nat → Int := fun i => if i < j then s i else t i
theorem upto_zero (s t : Nat → Int) : spL (upto 0 s t) = spL t := rfl
theorem upto_end (s t : Nat → Int) : spL (upto 8 s t) = spL s := rfl
theorem upto_step (s t : Nat → Int) {j : Nat} (h : j < 8) : (spL (upto j s t)).set j (.int .i64 (s j)) = spL (upto (j + 1) s t) := by
  rw [spL_set _ h]
  refine spL_ext fun i hi => ?_
  unfold upto
  by_cases e : i = j
  · rw [if_pos e, if_pos (by omega), e]
  · rw [if_neg e]
    by_cases e1 : i < j
    · rw [if_pos e1, if_pos (by omega)]
    · rw [if_neg e1, if_neg (by omega)]
theorem upto_at (s t : Nat → Int) {j : Nat} (h : j < 8) : (spL (upto j s t))[j]? = some (.int .i64 (t j)) := by
  rw [spL_at _ h, upto, if_neg (by omega)]

set_option maxHeartbeats 4000000 in
set_option maxRecDepth 100000 in
theorem frees_is {b m : Nat} {zs : List Zn} {ls : List Rw} (k : Int) (w : World) (h : Tb w b m zs ls) (hS : Sound zs ls) :
    Calls Try.prog 18 #[tbV b, .int .i64 k] w fun e w' => e = .returned (spV (freV zs ls k)) ∧ Below w.heap.size w w' := by
  obtain ⟨R, hR⟩ : ∃ R : Nat → Int, R = fun i : Nat => roomV zs i k := ⟨_, rfl⟩
  have RM : Hid (∀ (w1 : World) (j : Nat), Below w.heap.size w w1 → Calls Try.prog 12 #[tbV b, .int .i64 j, .int .i64 k] w1 fun e w' => e = .returned (.int .i64 (R j)) ∧ Below w1.heap.size w1 w') := fun w1 j hb => by rw [hR]; exact troom_is j k w1 (Tb.later hb h)
  have HF : Hid (∀ done todo : List Rw, (done ++ todo).Perm ls → ∀ i, i < 8 → (0 ≤ sumK i k done ∧ sumK i k done ≤ R i) ∧ R i ≤ 1073741824 ∧ ∀ r ∈ todo, r.k = k → 0 ≤ r.s i ∧ sumK i k done + r.s i ≤ R i) := fun done todo p i hi => by
    rw [hR]
    have hs := hS.perm p.symm
    have nn := fun (q : Rw) (hq : q ∈ done ++ todo) => hs.nn q hq i hi
    have le := hs.le i k hi
    have rb := roomV_bd (fits_all h.fit) (i : Int) k
    rw [sumK_app] at le
    have n1 := sumK_nn (i := i) (k := k) fun q hq => nn q (List.mem_append_left todo hq)
    have n2 := sumK_nn (i := i) (k := k) fun q hq => nn q (List.mem_append_right done hq)
    refine ⟨⟨n1, by simp only; omega⟩, rb.2, fun r hr hk => ?_⟩
    obtain ⟨ms, hp⟩ := pick_one hr
    have n3 := sumK_nn (i := i) (k := k) (l := ms) fun q hq => nn q (List.mem_append_right done (hp.mem_iff.2 (List.mem_cons_of_mem r hq)))
    rw [sumK_perm hp, sumK, if_pos hk] at le
    exact ⟨nn r (List.mem_append_right done hr), by simp only; omega⟩
  have FE : Hid (∀ done, done.Perm ls → spV (freV zs ls k) = spV fun i => R i - sumK i k done) := fun done p => spV_ext fun i _ => by rw [hR, freV, sumK_perm p]
  clear hR hS
  have c1 := h.held
  have HM : Hid (MapW w m ls) := h.map
  have mb : Hid (m ≠ b ∧ m < w.heap.size) := ⟨h.map.ne h.held, h.map.lt⟩
  clear h
  go_enter Try.func18, Try.ntmps18
  go_wp2
  have qr0 : Cs ((w.alloc (.cells #[.int .i64 0, .int .i64 0, .int .i64 0, .int .i64 0, .int .i64 0, .int .i64 0, .int .i64 0, .int .i64 0] 47)).alloc (.cells #[.int .i64 0, .int .i64 0, .int .i64 0, .int .i64 0, .int .i64 0, .int .i64 0, .int .i64 0, .int .i64 0] 47)) w.heap.size (spL nought) := Cs.alloc (Cs.new _ _ _ _ rfl) _
  have qf0 : Cs ((w.alloc (.cells #[.int .i64 0, .int .i64 0, .int .i64 0, .int .i64 0, .int .i64 0, .int .i64 0, .int .i64 0, .int .i64 0] 47)).alloc (.cells #[.int .i64 0, .int .i64 0, .int .i64 0, .int .i64 0, .int .i64 0, .int .i64 0, .int .i64 0, .int .i64 0] 47)) (w.heap.size + 1) (spL (upto 0 R nought)) := Cs.new _ _ _ _ (by simp)
  have HB0 : Below w.heap.size w ((w.alloc (.cells #[.int .i64 0, .int .i64 0, .int .i64 0, .int .i64 0, .int .i64 0, .int .i64 0, .int .i64 0, .int .i64 0] 47)).alloc (.cells #[.int .i64 0, .int .i64 0, .int .i64 0, .int .i64 0, .int .i64 0, .int .i64 0, .int .i64 0, .int .i64 0] 47)) := by go_grown
  obtain ⟨pf, hpf⟩ : ∃ pf, pf = w.heap.size + 1 := ⟨_, rfl⟩
  have HP : Hid (w.heap.size < pf) := by show w.heap.size < pf; omega
  rw [← hpf] at qf0 ⊢
  clear hpf
  generalize (w.alloc (.cells #[.int .i64 0, .int .i64 0, .int .i64 0, .int .i64 0, .int .i64 0, .int .i64 0, .int .i64 0, .int .i64 0] 47)).alloc (.cells #[.int .i64 0, .int .i64 0, .int .i64 0, .int .i64 0, .int .i64 0, .int .i64 0, .int .i64 0, .int .i64 0] 47) = W0 at *
  go_loopw [14] (fun f wr => ∃ j : Nat, f = .int .i64 j ∧ j ≤ 8 ∧ Cs wr pf (spL (upto j R nought)) ∧ Cs wr w.heap.size (spL nought) ∧ Below w.heap.size w wr) (fun f _ => 8 - (intOf f).toNat)
  case atStart => exact ⟨0, rfl, by omega, qf0, qr0, HB0⟩
  case round =>
    clear qf0 qr0 HB0
    obtain ⟨j, rfl, jl, qf, qr, HB⟩ := hrel
    by_cases cj : j < 8
    · have j0 : (0 : Int) ≤ (j : Int) := by omega
      have j1 : (j : Int) < 8 := by omega
      go_wp2_with (fail)
      refine (RM.out _ j HB).mono ?_
      rintro e w1 ⟨rfl, hw1⟩
      have qf1 := Cs.later hw1 qf
      have qr1 := Cs.later hw1 qr
      have HB1 := HB.trans (hw1.mono HB.size)
      clear hw1 RM qf qr HB
      have c2 := qf1.1 _ _ (upto_at R nought cj)
      have f2 := qf1.2.1 j cj
      have q2 := qf1.set j (.int .i64 (R j)) cj
      rw [upto_step R nought cj] at q2
      have q3 := Cs.beside qr1 j (.int .i64 (R j)) (show w.heap.size ≠ pf by have := HP.out; omega)
      have HB2 : Below w.heap.size w (w1.setCell ⟨pf, j, none⟩ (.int .i64 (R j))) := HB1.setCell (p := ⟨pf, j, none⟩) (show w.heap.size ≤ pf by have := HP.out; omega) _
      clear qf1 qr1 HB1
      go_wp2
      go_roundw
      case rel => exact ⟨j + 1, by go_num, by omega, q2, q3, HB2⟩
      case measure => simp [intOf]; omega
    · obtain rfl : j = 8 := by omega
      rw [show ((8 : Nat) : Int) = 8 from rfl]
      rw [upto_end] at qf
      have cb := cell_later HB c1
      have mw := MapW.later (HB.trans (Below.refl _ _)) HM.out
      clear RM c1 HM
      go_wp2_with (first
        | (at_range; refine wpList_range_tab _ rfl _ rfl m ls rfl mw ?_; intro w2 hrg0 hw2 hs2)
        | go_in)
      go_frame
      have qf2 := Cs.later hw2 qf
      have qr2 := Cs.later hw2 qr
      have HB2 := HB.trans (hw2.mono HB.size)
      have hl := HB.size
      obtain ⟨it, hit⟩ : ∃ it, it = wr.heap.size := ⟨_, rfl⟩
      have HI : Hid (pf < it) := by show pf < it; have := qf.2.2; omega
      rw [← hit] at hrg0 ⊢
      clear hit hw2 hs2 qf qr HB mw cb hl
      go_loopw [29] (fun _ wr => ∃ (done todo : List Rw) (F : Nat → Int), Hid ((done ++ todo).Perm ls) ∧ Rng wr m it done todo ∧ Cs wr pf (spL F) ∧ Hid (∀ i, F i = R i - sumK i k done) ∧ Cs wr w.heap.size (spL nought) ∧ Below w.heap.size w wr) (fun _ wr => wr.rangeLeft m it)
      case atStart => exact ⟨[], ls, R, List.Perm.refl _, hrg0, qf2, fun i => by simp [sumK], qr2, HB2⟩
      case round =>
        clear hrg0 qf2 qr2 HB2
        obtain ⟨done, todo, F, HPm, hrg, qf, HFn, qr, HB⟩ := hrel
        go_wp2_with (first
          | (at_next; refine wpList_next_tab _ rfl _ rfl m it done todo rfl hrg ?_ ?_)
          | go_in)
        · intro h0
          subst h0
          have X : Hid (spV (freV zs ls k) = spV F) := (FE.out done (by have := HPm.out; rwa [List.append_nil] at this)).trans (spV_ext fun i _ => (HFn.out i).symm)
          have d0 := qf.1 0 _ rfl
          have d1 := qf.1 1 _ rfl
          have d2 := qf.1 2 _ rfl
          have d3 := qf.1 3 _ rfl
          have d4 := qf.1 4 _ rfl
          have d5 := qf.1 5 _ rfl
          have d6 := qf.1 6 _ rfl
          have d7 := qf.1 7 _ rfl
          have r0 := qr.1 0 _ rfl
          have r1 := qr.1 1 _ rfl
          have r2 := qr.1 2 _ rfl
          have r3 := qr.1 3 _ rfl
          have r4 := qr.1 4 _ rfl
          have r5 := qr.1 5 _ rfl
          have r6 := qr.1 6 _ rfl
          have r7 := qr.1 7 _ rfl
          have f0 := qr.2.1 0 (by show 0 < 8; omega)
          have f1 := qr.2.1 1 (by show 1 < 8; omega)
          have f2 := qr.2.1 2 (by show 2 < 8; omega)
          have f3 := qr.2.1 3 (by show 3 < 8; omega)
          have f4 := qr.2.1 4 (by show 4 < 8; omega)
          have f5 := qr.2.1 5 (by show 5 < 8; omega)
          have f6 := qr.2.1 6 (by show 6 < 8; omega)
          have f7 := qr.2.1 7 (by show 7 < 8; omega)
          have rz := qr.2.2
          clear hrg HPm HFn HF FE qf qr
          go_wp2
          refine bodyPost_ret (v := spV F) (by simp [results, Try.results18, go_sem, r0, r1, r2, r3, r4, r5, r6, r7]) rfl ⟨congrArg Ending.returned X.out.symm, by go_grown⟩
        · intro r todo' w1 hp hg hrg1 hlt hgr hsz hen
          have HPm' : Hid ((done ++ [r] ++ todo').Perm ls) := by unfold Hid; rw [List.append_assoc]; exact ((hp.append_left done).symm).trans HPm.out
          have BD : Hid (∀ i, i < 8 → r.k = k → (0 ≤ r.s i ∧ r.s i ≤ F i) ∧ F i ≤ 1073741824) := fun i hi hk => by
            obtain ⟨b1, b2, b3⟩ := HF.out done todo HPm.out i hi
            have := b3 r (hp.mem_iff.2 (by simp)) hk
            rw [HFn.out i]
            omega
          have FY : Hid (r.k = k → ∀ i, F i - r.s i = R i - sumK i k (done ++ [r])) := fun hk i => by
            rw [HFn.out i, sumK_app, sumK, if_pos hk, sumK]
            omega
          have FN : Hid (r.k ≠ k → ∀ i, F i = R i - sumK i k (done ++ [r])) := fun hk i => by
            rw [HFn.out i, sumK_app, sumK, if_neg hk, sumK]
            omega
          obtain ⟨L, hL⟩ : ∃ L, L = wr.rangeLeft m it := ⟨_, rfl⟩
          have HL : Hid (∀ n, n < L → n < wr.rangeLeft m it) := fun n h => by rw [← hL]; exact h
          rw [← hL] at hlt
          clear hL
          have ci := Cs.grown qf hgr (show some pf ≠ some it from fun e => by cases e; have := HI.out; omega)
          have cr := Cs.grown qr hgr (show some w.heap.size ≠ some it from fun e => by have := HI.out; have := HP.out; cases e; omega)
          have hb1 : Below w.heap.size w w1 := HB.grown hgr HB.size (fun i e => by cases e; have := HI.out; have := HP.out; omega)
          clear hrg qf qr HB hgr hsz HFn HPm hp HF FE hg
          have ci2 := (ci.alloc (.cells #[.string r.p, .string r.c, .int .i64 r.k] 45)).alloc (.cells #[.int .i64 (r.s 0), .int .i64 (r.s 1), .int .i64 (r.s 2), .int .i64 (r.s 3), .int .i64 (r.s 4), .int .i64 (r.s 5), .int .i64 (r.s 6), .int .i64 (r.s 7)] 47)
          have cr2 := (cr.alloc (.cells #[.string r.p, .string r.c, .int .i64 r.k] 45)).alloc (.cells #[.int .i64 (r.s 0), .int .i64 (r.s 1), .int .i64 (r.s 2), .int .i64 (r.s 3), .int .i64 (r.s 4), .int .i64 (r.s 5), .int .i64 (r.s 6), .int .i64 (r.s 7)] 47)
          have rg2 := (hrg1.alloc (.cells #[.string r.p, .string r.c, .int .i64 r.k] 45)).alloc (.cells #[.int .i64 (r.s 0), .int .i64 (r.s 1), .int .i64 (r.s 2), .int .i64 (r.s 3), .int .i64 (r.s 4), .int .i64 (r.s 5), .int .i64 (r.s 6), .int .i64 (r.s 7)] 47)
          have hb2 : Below w.heap.size w ((w1.alloc (.cells #[.string r.p, .string r.c, .int .i64 r.k] 45)).alloc (.cells #[.int .i64 (r.s 0), .int .i64 (r.s 1), .int .i64 (r.s 2), .int .i64 (r.s 3), .int .i64 (r.s 4), .int .i64 (r.s 5), .int .i64 (r.s 6), .int .i64 (r.s 7)] 47)) := (hb1.alloc hb1.size _).alloc (by have := hb1.size; simp; omega) _
          have le2 : Hid (World.rangeLeft ((w1.alloc (.cells #[.string r.p, .string r.c, .int .i64 r.k] 45)).alloc (.cells #[.int .i64 (r.s 0), .int .i64 (r.s 1), .int .i64 (r.s 2), .int .i64 (r.s 3), .int .i64 (r.s 4), .int .i64 (r.s 5), .int .i64 (r.s 6), .int .i64 (r.s 7)] 47)) m it < L) := by
            unfold Hid
            rw [Rng.left_later (hrg1.alloc _) ((Below.refl _ _).alloc (Nat.le_refl _) _), Rng.left_later hrg1 ((Below.refl _ _).alloc (Nat.le_refl _) _)]
            exact hlt
          clear ci cr hb1 hlt
          by_cases hk : r.k = k
          · have hk1 : (r.k != k) = false := by simp [hk]
            have BD' : Hid (∀ i, i < 8 → (0 ≤ r.s i ∧ r.s i ≤ F i) ∧ F i ≤ 1073741824) := fun i hi => BD.out i hi hk
            have FY' : Hid (∀ i, F i - r.s i = R i - sumK i k (done ++ [r])) := FY.out hk
            clear BD FY FN hk
            go_wp2
            generalize ((w1.alloc (.cells #[.string r.p, .string r.c, .int .i64 r.k] 45)).alloc (.cells #[.int .i64 (r.s 0), .int .i64 (r.s 1), .int .i64 (r.s 2), .int .i64 (r.s 3), .int .i64 (r.s 4), .int .i64 (r.s 5), .int .i64 (r.s 6), .int .i64 (r.s 7)] 47)) = W3 at *
            go_loopw [39] (fun f wr => ∃ j : Nat, f = .int .i64 j ∧ j ≤ 8 ∧ Rng wr m it (done ++ [r]) todo' ∧ Cs wr pf (spL (upto j (fun i => F i - r.s i) F)) ∧ Cs wr w.heap.size (spL nought) ∧ Below w.heap.size w wr ∧ Hid (wr.rangeLeft m it < L)) (fun f _ => 8 - (intOf f).toNat)
            case atStart => exact ⟨0, rfl, by omega, rg2, ci2, cr2, hb2, le2⟩
            case round =>
              clear rg2 ci2 cr2 hb2 le2 hrg1 hen
              obtain ⟨j, rfl, jl, hrg, qf, qr, HB, hlt⟩ := hrel
              by_cases cj : j < 8
              · have j0 : (0 : Int) ≤ (j : Int) := by omega
                have j1 : (j : Int) < 8 := by omega
                have x1 := ix8 r.s cj
                have c1 := qf.1 _ _ (upto_at (fun i => F i - r.s i) F cj)
                have f1 := qf.2.1 j cj
                have q2 := qf.set j (.int .i64 (F j - r.s j)) cj
                rw [upto_step (fun i => F i - r.s i) F cj] at q2
                have q3 := Cs.beside qr j (.int .i64 (F j - r.s j)) (show w.heap.size ≠ pf by have := HP.out; omega)
                have HB2 : Below w.heap.size w (wr.setCell ⟨pf, j, none⟩ (.int .i64 (F j - r.s j))) := HB.setCell (p := ⟨pf, j, none⟩) (show w.heap.size ≤ pf by have := HP.out; omega) _
                have m1 : some m ≠ some pf := fun e => by cases e; have := mb.out.2; have := HP.out; omega
                have m2 : some it ≠ some pf := fun e => by cases e; have := HI.out; omega
                have rg2 := hrg.kept (own_set wr pf j (.int .i64 (F j - r.s j))) m1 m2
                have le2 : Hid ((wr.setCell ⟨pf, j, none⟩ (.int .i64 (F j - r.s j))).rangeLeft m it < L) := by
                  unfold Hid
                  rw [hrg.left_grown (own_set _ _ _ _) m1 m2]
                  exact hlt.out
                obtain ⟨⟨d1, d2⟩, d3⟩ := BD'.out j cj
                clear hrg qf qr HB hlt m1 m2
                go_wp2
                go_roundw
                case rel => exact ⟨j + 1, by go_num, by omega, rg2, q2, q3, HB2, le2⟩
                case measure => simp [intOf]; omega
              · obtain rfl : j = 8 := by omega
                rw [upto_end] at qf
                go_wp2
                go_roundw
                case rel =>
                  exact ⟨done ++ [r], todo', _, HPm', hrg, qf, FY', qr, HB⟩
                case measure => exact HL.out _ hlt.out
          · have hk1 : (r.k != k) = true := by simp [hk]
            have FN' : Hid (∀ i, F i = R i - sumK i k (done ++ [r])) := FN.out hk
            clear BD FY FN hk
            go_wp2
            go_roundw
            case rel => exact ⟨done ++ [r], todo', F, HPm', rg2, ci2, FN', cr2, hb2⟩
            case measure => exact HL.out _ le2.out

/-- What Free answers. -/
def freT (zs : List Zn) (ls : List Rw) (i k : Int) : Int := if isZ zs i = true then freV zs ls k i.toNat else 0
set_option maxHeartbeats 2000000 in
theorem free_is {b m : Nat} {zs : List Zn} {ls : List Rw} (i k : Int) (w : World) (h : Tb w b m zs ls) (hS : Sound zs ls) :
    Calls Try.prog 13 #[tbV b, .int .i64 i, .int .i64 k] w fun e w' => e = .returned (.int .i64 (freT zs ls i k)) ∧ Below w.heap.size w w' := by
  obtain ⟨R, hR⟩ : ∃ R, R = freT zs ls i k := ⟨_, rfl⟩
  rw [← hR]
  have HR : Hid (R = freT zs ls i k) := hR
  clear hR
  have ZS : Hid (∀ w1, Below w.heap.size w w1 → Calls Try.prog 11 #[tbV b] w1 fun e w' => e = .returned (.int .i64 zs.length) ∧ Below w1.heap.size w1 w') := fun w1 hb => zones_is w1 (Tb.later hb h)
  have FRS : Hid (∀ w1, Below w.heap.size w w1 → Calls Try.prog 18 #[tbV b, .int .i64 k] w1 fun e w' => e = .returned (spV (freV zs ls k)) ∧ Below w1.heap.size w1 w') := fun w1 hb => frees_is k w1 (Tb.later hb h) hS
  have zl := (fits_len h.fit).2
  clear h hS
  by_cases i0 : i < 0
  · have X : R = 0 := by rw [HR.out, freT, isZ, decide_eq_false (by omega)]; rfl
    subst X
    clear ZS FRS HR
    go_enter Try.func13, Try.ntmps13
    go_wp2
    go_ret
    exact ⟨rfl, by go_grown⟩
  by_cases il : (zs.length : Int) ≤ i
  · have X : R = 0 := by rw [HR.out, freT, isZ, decide_eq_false (by omega)]; rfl
    subst X
    clear FRS HR
    go_enter Try.func13, Try.ntmps13
    go_wp2_with (fail)
    refine (ZS.out _ (by go_grown)).mono ?_
    rintro e w1 ⟨rfl, hw1⟩
    clear ZS
    go_wp2
    go_ret
    exact ⟨rfl, hw1⟩
  obtain ⟨j, rfl⟩ : ∃ j : Nat, i = j := ⟨i.toNat, by omega⟩
  have X : R = freV zs ls k j := by rw [HR.out, freT, isZ, decide_eq_true (by omega)]; rfl
  have x1 := ix8 (freV zs ls k) (show j < 8 by omega)
  rw [← X] at x1
  clear X HR
  have i2 : ¬ (zs.length : Int) ≤ (j : Int) := by omega
  have i3 : (0 : Int) ≤ (j : Int) := by omega
  go_enter Try.func13, Try.ntmps13
  go_wp2_with (fail)
  refine (ZS.out _ (by go_grown)).mono ?_
  rintro e w1 ⟨rfl, hw1⟩
  go_wp2_with (fail)
  refine (FRS.out _ hw1).mono ?_
  rintro e w2 ⟨rfl, hw2⟩
  have HB := hw1.trans (hw2.mono hw1.size)
  clear ZS FRS hw1 hw2
  go_wp2
  go_ret
  exact ⟨rfl, HB⟩
set_option maxHeartbeats 2000000 in
theorem free_nil (w : World) : Calls Try.prog 13 #[.pointer none, .int .i64 0, .int .i64 0] w fun e w' => e = .returned (.int .i64 0) ∧ Below w.heap.size w w' := by
  go_enter Try.func13, Try.ntmps13
  go_wp2_with (fail)
  refine (zones_nil _).mono ?_
  rintro e w1 ⟨rfl, hw1⟩
  go_wp2
  go_ret
  exact ⟨rfl, hw1⟩
set_option maxHeartbeats 2000000 in
theorem frees_nil (w : World) : Calls Try.prog 18 #[.pointer none, .int .i64 0] w fun e w' => e = .returned (spV nought) ∧ Below w.heap.size w w' := by
  go_enter Try.func18, Try.ntmps18
  go_wp2
  refine bodyPost_ret (v := spV nought) (by simp [results, Try.results18, go_sem, nought]) rfl ⟨rfl, by go_grown⟩

end Go.Proofs.Ytpefjcgccbfgbaa.Bk
