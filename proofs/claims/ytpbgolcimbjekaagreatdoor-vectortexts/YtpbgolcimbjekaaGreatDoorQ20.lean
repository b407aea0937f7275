/-
  A resource's number as package vector reads it, at this program: resource 0. Conditions: the tables of the program lie as its text lays them; a text's length fits the machine.
  A resource's number as package vector reads it, at this program: resource 1. Conditions: the tables of the program lie as its text lays them; a text's length fits the machine.
  A resource's number as package vector reads it, at this program: resource 2. Conditions: the tables of the program lie as its text lays them; a text's length fits the machine.
  What a text is as a vector, by plain functions on lists of letters. No program is spoken of.
-/
import Derived.Test.YtpbgolcimbjekaaGreatDoorQ19
namespace Go.Proofs.YtpbgolcimbjekaaGreatDoor
open Go.RowKit

set_option maxHeartbeats 2000000 in
theorem number_0 (s : ByteArray) (hm : s.size ≤ maxLen) (w : World) (hL : LaidV w) :
    Calls Tryz.prog 21 #[.int .i64 0, .string s] w fun e w' => e = .returned (iiv (numL 0 s.data.toList)) ∧ Below w.heap.size w w' := by
  obtain ⟨p, hp⟩ : ∃ p, p = parseL s.data.toList := ⟨_, rfl⟩
  obtain ⟨R, hR⟩ : ∃ R, R = numP 0 p := ⟨_, rfl⟩
  have PA : Hid (∀ w, LaidV w → Calls Tryz.prog 35 #[.string s] w fun e w' => (∃ h k g : Int, e = .returned (.tuple #[.agg #[.int .u64 h, .int .u64 k], .int .i64 g]) ∧ g = p.2 ∧ Is h k p.1) ∧ Below w.heap.size w w') := fun w hL => by
    rw [hp]
    exact parse_amount s hm w hL.1
  rw [show numL 0 s.data.toList = R by rw [hR, hp]; rfl]
  have HR : Hid (R = numP 0 p) := hR
  have HL : Hid (LaidV w) := hL
  clear hR hL hm hp
  go_enter Tryz.func21, Tryz.ntmps21
  go_wp2_with (fail)
  refine (PA.out _ HL.out).mono ?_
  rintro e w1 ⟨⟨h, k, g, rfl, hg, i⟩, hw1⟩
  have HL1 : Hid (LaidV w1) := HL.out.later hw1
  have I : Hid (Is h k p.1) := i
  have G : Hid (g = p.2) := hg
  clear hg i HL
  have hs := hw1.size
  by_cases g0 : g = 0
  · subst g0
    go_wp2_with (fail)
    refine (vcounted_is I.out (k := 0) rfl _).mono ?_
    rintro e w2 ⟨rfl, hw2⟩
    obtain ⟨n, y, hn⟩ : ∃ n y, cntL 0 p.1 = (n, y) := ⟨_, _, Prod.eta _ |>.symm⟩
    rw [hn, show iiv (n, y) = .tuple #[.int .i64 n, .int .i64 y] from rfl]
    have n0 : 0 ≤ n := by have := cnt_pos 0 p.1; rw [hn] at this; exact this
    have N : Hid (cntL 0 p.1 = (n, y)) := hn
    have HB : Below w.heap.size w w2 := Below.trans (show Below w.heap.size w _ by go_grown) (hw2.mono (by simp; omega))
    have HL2 : Hid (LaidV w2) := (HL1.out.alloc _).later hw2
    clear hn hw1 hw2 HL1 hs
    have hs := HB.size
    by_cases y0 : y = 0
    · subst y0
      obtain ⟨b0, b1, b2, bz⟩ := HL2.out.bounds
      clear HL2
      by_cases c : 1099511627776 < n
      · have X : Hid (numP 0 p = (0, 15)) := by
          unfold Hid numP
          rw [← G.out, N.out, if_neg (by simp), if_neg (by simp), if_pos (by simpa [bnd] using c)]
        go_wp2
        go_ret2
        exact ⟨by rw [HR.out, X.out]; rfl, HB⟩
      · have X : Hid (numP 0 p = (n, 0)) := by
          unfold Hid numP
          rw [← G.out, N.out, if_neg (by simp), if_neg (by simp), if_neg (by simpa [bnd] using c), if_neg (by simp)]
        go_wp2
        go_ret2
        exact ⟨by rw [HR.out, X.out]; rfl, HB⟩
    · have X : Hid (numP 0 p = (0, y)) := by
        unfold Hid numP
        rw [← G.out, N.out, if_neg (by simp), if_pos (by simpa using y0)]
      have g1 : (y != 0) = true := by simp [y0]
      clear HL2
      go_wp2
      go_ret2
      exact ⟨by rw [HR.out, X.out]; rfl, HB⟩
  · have X : Hid (numP 0 p = (0, g)) := by
      unfold Hid numP
      rw [← G.out, if_pos g0]
    have g1 : (g != 0) = true := by simp [g0]
    go_wp2
    go_ret2
    exact ⟨by rw [HR.out, X.out]; rfl, by go_grown⟩

end Go.Proofs.YtpbgolcimbjekaaGreatDoor

namespace Go.Proofs.YtpbgolcimbjekaaGreatDoor
open Go.RowKit

set_option maxHeartbeats 2000000 in
theorem number_1 (s : ByteArray) (hm : s.size ≤ maxLen) (w : World) (hL : LaidV w) :
    Calls Tryz.prog 21 #[.int .i64 1, .string s] w fun e w' => e = .returned (iiv (numL 1 s.data.toList)) ∧ Below w.heap.size w w' := by
  obtain ⟨p, hp⟩ : ∃ p, p = parseL s.data.toList := ⟨_, rfl⟩
  obtain ⟨R, hR⟩ : ∃ R, R = numP 1 p := ⟨_, rfl⟩
  have PA : Hid (∀ w, LaidV w → Calls Tryz.prog 35 #[.string s] w fun e w' => (∃ h k g : Int, e = .returned (.tuple #[.agg #[.int .u64 h, .int .u64 k], .int .i64 g]) ∧ g = p.2 ∧ Is h k p.1) ∧ Below w.heap.size w w') := fun w hL => by
    rw [hp]
    exact parse_amount s hm w hL.1
  rw [show numL 1 s.data.toList = R by rw [hR, hp]; rfl]
  have HR : Hid (R = numP 1 p) := hR
  have HL : Hid (LaidV w) := hL
  clear hR hL hm hp
  go_enter Tryz.func21, Tryz.ntmps21
  go_wp2_with (fail)
  refine (PA.out _ HL.out).mono ?_
  rintro e w1 ⟨⟨h, k, g, rfl, hg, i⟩, hw1⟩
  have HL1 : Hid (LaidV w1) := HL.out.later hw1
  have I : Hid (Is h k p.1) := i
  have G : Hid (g = p.2) := hg
  clear hg i HL
  have hs := hw1.size
  by_cases g0 : g = 0
  · subst g0
    go_wp2_with (fail)
    refine (vcounted_is I.out (k := 1) rfl _).mono ?_
    rintro e w2 ⟨rfl, hw2⟩
    obtain ⟨n, y, hn⟩ : ∃ n y, cntL 1 p.1 = (n, y) := ⟨_, _, Prod.eta _ |>.symm⟩
    rw [hn, show iiv (n, y) = .tuple #[.int .i64 n, .int .i64 y] from rfl]
    have n0 : 0 ≤ n := by have := cnt_pos 1 p.1; rw [hn] at this; exact this
    have N : Hid (cntL 1 p.1 = (n, y)) := hn
    have HB : Below w.heap.size w w2 := Below.trans (show Below w.heap.size w _ by go_grown) (hw2.mono (by simp; omega))
    have HL2 : Hid (LaidV w2) := (HL1.out.alloc _).later hw2
    clear hn hw1 hw2 HL1 hs
    have hs := HB.size
    by_cases y0 : y = 0
    · subst y0
      obtain ⟨b0, b1, b2, bz⟩ := HL2.out.bounds
      clear HL2
      by_cases c : 1125899906842624 < n
      · have X : Hid (numP 1 p = (0, 15)) := by
          unfold Hid numP
          rw [← G.out, N.out, if_neg (by simp), if_neg (by simp), if_pos (by simpa [bnd] using c)]
        go_wp2
        go_ret2
        exact ⟨by rw [HR.out, X.out]; rfl, HB⟩
      · have X : Hid (numP 1 p = (n, 0)) := by
          unfold Hid numP
          rw [← G.out, N.out, if_neg (by simp), if_neg (by simp), if_neg (by simpa [bnd] using c), if_neg (by simp)]
        go_wp2
        go_ret2
        exact ⟨by rw [HR.out, X.out]; rfl, HB⟩
    · have X : Hid (numP 1 p = (0, y)) := by
        unfold Hid numP
        rw [← G.out, N.out, if_neg (by simp), if_pos (by simpa using y0)]
      have g1 : (y != 0) = true := by simp [y0]
      clear HL2
      go_wp2
      go_ret2
      exact ⟨by rw [HR.out, X.out]; rfl, HB⟩
  · have X : Hid (numP 1 p = (0, g)) := by
      unfold Hid numP
      rw [← G.out, if_pos g0]
    have g1 : (g != 0) = true := by simp [g0]
    go_wp2
    go_ret2
    exact ⟨by rw [HR.out, X.out]; rfl, by go_grown⟩

end Go.Proofs.YtpbgolcimbjekaaGreatDoor

namespace Go.Proofs.YtpbgolcimbjekaaGreatDoor
open Go.RowKit

set_option maxHeartbeats 2000000 in
theorem number_2 (s : ByteArray) (hm : s.size ≤ maxLen) (w : World) (hL : LaidV w) :
    Calls Tryz.prog 21 #[.int .i64 2, .string s] w fun e w' => e = .returned (iiv (numL 2 s.data.toList)) ∧ Below w.heap.size w w' := by
  obtain ⟨p, hp⟩ : ∃ p, p = parseL s.data.toList := ⟨_, rfl⟩
  obtain ⟨R, hR⟩ : ∃ R, R = numP 2 p := ⟨_, rfl⟩
  have PA : Hid (∀ w, LaidV w → Calls Tryz.prog 35 #[.string s] w fun e w' => (∃ h k g : Int, e = .returned (.tuple #[.agg #[.int .u64 h, .int .u64 k], .int .i64 g]) ∧ g = p.2 ∧ Is h k p.1) ∧ Below w.heap.size w w') := fun w hL => by
    rw [hp]
    exact parse_amount s hm w hL.1
  rw [show numL 2 s.data.toList = R by rw [hR, hp]; rfl]
  have HR : Hid (R = numP 2 p) := hR
  have HL : Hid (LaidV w) := hL
  clear hR hL hm hp
  go_enter Tryz.func21, Tryz.ntmps21
  go_wp2_with (fail)
  refine (PA.out _ HL.out).mono ?_
  rintro e w1 ⟨⟨h, k, g, rfl, hg, i⟩, hw1⟩
  have HL1 : Hid (LaidV w1) := HL.out.later hw1
  have I : Hid (Is h k p.1) := i
  have G : Hid (g = p.2) := hg
  clear hg i HL
  have hs := hw1.size
  by_cases g0 : g = 0
  · subst g0
    go_wp2_with (fail)
    refine (vcounted_is I.out (k := 2) rfl _).mono ?_
    rintro e w2 ⟨rfl, hw2⟩
    obtain ⟨n, y, hn⟩ : ∃ n y, cntL 2 p.1 = (n, y) := ⟨_, _, Prod.eta _ |>.symm⟩
    rw [hn, show iiv (n, y) = .tuple #[.int .i64 n, .int .i64 y] from rfl]
    have n0 : 0 ≤ n := by have := cnt_pos 2 p.1; rw [hn] at this; exact this
    have N : Hid (cntL 2 p.1 = (n, y)) := hn
    have HB : Below w.heap.size w w2 := Below.trans (show Below w.heap.size w _ by go_grown) (hw2.mono (by simp; omega))
    have HL2 : Hid (LaidV w2) := (HL1.out.alloc _).later hw2
    clear hn hw1 hw2 HL1 hs
    have hs := HB.size
    by_cases y0 : y = 0
    · subst y0
      obtain ⟨b0, b1, b2, bz⟩ := HL2.out.bounds
      clear HL2
      by_cases c : 1125899906842624 < n
      · have X : Hid (numP 2 p = (0, 15)) := by
          unfold Hid numP
          rw [← G.out, N.out, if_neg (by simp), if_neg (by simp), if_pos (by simpa [bnd] using c)]
        go_wp2
        go_ret2
        exact ⟨by rw [HR.out, X.out]; rfl, HB⟩
      by_cases d : n % 2097152 = 0
      · have X : Hid (numP 2 p = (n, 0)) := by
          unfold Hid numP
          rw [← G.out, N.out, if_neg (by simp), if_neg (by simp), if_neg (by simpa [bnd] using c), if_neg (by simpa using d)]
        have d' : (n % 2097152 != 0) = false := by simp [d]
        go_wp2
        go_ret2
        exact ⟨by rw [HR.out, X.out]; rfl, HB⟩
      · have X : Hid (numP 2 p = (0, 11)) := by
          unfold Hid numP
          rw [← G.out, N.out, if_neg (by simp), if_neg (by simp), if_neg (by simpa [bnd] using c), if_pos (by simpa using d)]
        have d' : (n % 2097152 != 0) = true := by simp [d]
        go_wp2
        go_ret2
        exact ⟨by rw [HR.out, X.out]; rfl, HB⟩
    · have X : Hid (numP 2 p = (0, y)) := by
        unfold Hid numP
        rw [← G.out, N.out, if_neg (by simp), if_pos (by simpa using y0)]
      have g1 : (y != 0) = true := by simp [y0]
      clear HL2
      go_wp2
      go_ret2
      exact ⟨by rw [HR.out, X.out]; rfl, HB⟩
  · have X : Hid (numP 2 p = (0, g)) := by
      unfold Hid numP
      rw [← G.out, if_pos g0]
    have g1 : (g != 0) = true := by simp [g0]
    go_wp2
    go_ret2
    exact ⟨by rw [HR.out, X.out]; rfl, by go_grown⟩

end Go.Proofs.YtpbgolcimbjekaaGreatDoor

namespace Go.Proofs.YtpbgolcimbjekaaGreatDoor
open Go.RowKit

/-- The parts of a text between commas. -/
def segs : List UInt8 → List (List UInt8)
  | [] => [[]]
  | c :: r => if c = 44 then [] :: segs r else (c :: (segs r).headD []) :: (segs r).tail
theorem segs_cut : ∀ l : List UInt8, segs l = (cutAt 44 l).1 :: (match (cutAt 44 l).2 with | none => [] | some q => segs q)
  | [] => rfl
  | c :: r => by
    rw [segs, cutAt]
    by_cases e : c = 44
    · rw [if_pos e, if_pos e]
    · rw [if_neg e, if_neg e, segs_cut r]
      rfl
theorem segs_none {l p : List UInt8} (h1 : p = (cutAt 44 l).1) (h2 : (cutAt 44 l).2 = none) : segs l = [p] := by rw [segs_cut, h2, h1]
theorem segs_some {l p q : List UInt8} (h1 : p = (cutAt 44 l).1) (h2 : (cutAt 44 l).2 = some q) : segs l = p :: segs q := by rw [segs_cut, h2, h1]

/-- Which resources were there. -/
def thr (t : Bool × Bool × Bool) (r : Nat) : Bool := if r = 0 then t.1 else if r = 1 then t.2.1 else t.2.2
def sett (t : Bool × Bool × Bool) (r : Nat) : Bool × Bool × Bool := if r = 0 then (true, t.2.1, t.2.2) else if r = 1 then (t.1, true, t.2.2) else (t.1, t.2.1, true)
/-- Part by part: the vector, and no error; or nothing and the error. -/
def runs (v : Int × Int × Int) (t : Bool × Bool × Bool) : List (List UInt8) → (Int × Int × Int) × Int
  | [] => (v, 0)
  | p :: ps =>
    match (cutAt 61 p).2, resL (cutAt 61 p).1 with
    | some q, some r =>
      if thr t r = true then ((0, 0, 0), 11) else
      if (numL r q).2 ≠ 0 then ((0, 0, 0), (numL r q).2) else
      runs (withv v.1 v.2.1 v.2.2 r (numL r q).1) (sett t r) ps
    | _, _ => ((0, 0, 0), 11)
def parseV (l : List UInt8) : (Int × Int × Int) × Int := if l = [] then ((0, 0, 0), 10) else if l = [45] then ((0, 0, 0), 0) else runs (0, 0, 0) (false, false, false) (segs l)
def vev (x : (Int × Int × Int) × Int) : Value := .tuple #[vv x.1, .int .i64 x.2]

theorem runs_cut {v : Int × Int × Int} {t : Bool × Bool × Bool} {p : List UInt8} {ps : List (List UInt8)} (h : (cutAt 61 p).2 = none) : runs v t (p :: ps) = ((0, 0, 0), 11) := by rw [runs, h]
theorem runs_res {v : Int × Int × Int} {t : Bool × Bool × Bool} {p q : List UInt8} {ps : List (List UInt8)} (h : (cutAt 61 p).2 = some q) (hr : resL (cutAt 61 p).1 = none) : runs v t (p :: ps) = ((0, 0, 0), 11) := by rw [runs, h, hr]
theorem runs_thr {v : Int × Int × Int} {t : Bool × Bool × Bool} {p q : List UInt8} {r : Nat} {ps : List (List UInt8)} (h : (cutAt 61 p).2 = some q) (hr : resL (cutAt 61 p).1 = some r) (ht : thr t r = true) : runs v t (p :: ps) = ((0, 0, 0), 11) := by
  rw [runs, h, hr]; exact if_pos ht
theorem runs_err {v : Int × Int × Int} {t : Bool × Bool × Bool} {p q : List UInt8} {r : Nat} {ps : List (List UInt8)} {n e : Int} (h : (cutAt 61 p).2 = some q) (hr : resL (cutAt 61 p).1 = some r) (ht : thr t r = false) (hn : numL r q = (n, e)) (he : e ≠ 0) : runs v t (p :: ps) = ((0, 0, 0), e) := by
  rw [runs, h, hr]
  simp only []
  rw [if_neg (by rw [ht]; simp), hn, if_pos he]
theorem runs_on {v : Int × Int × Int} {t : Bool × Bool × Bool} {p q : List UInt8} {r : Nat} {ps : List (List UInt8)} {n : Int} (h : (cutAt 61 p).2 = some q) (hr : resL (cutAt 61 p).1 = some r) (ht : thr t r = false) (hn : numL r q = (n, 0)) : runs v t (p :: ps) = runs (withv v.1 v.2.1 v.2.2 r n) (sett t r) ps := by
  rw [runs, h, hr]
  simp only []
  rw [if_neg (by rw [ht]; simp), hn, if_neg (by simp)]
theorem res_cases (l : List UInt8) : resL l = none ∨ resL l = some 0 ∨ resL l = some 1 ∨ resL l = some 2 := by
  unfold resL
  by_cases a : l = cpuL
  · rw [if_pos a]; simp
  by_cases b : l = memL
  · rw [if_neg a, if_pos b]; simp
  by_cases c : l = hugL
  · rw [if_neg a, if_neg b, if_pos c]; simp
  · rw [if_neg a, if_neg b, if_neg c]; simp

/-! ### Three flags in a block; three numbers, written -/
def Bb3 (W : World) (b : Nat) (c m h : Bool) : Prop := W.cell? ⟨b, 0, none⟩ = some (.bool c) ∧ W.cell? ⟨b, 1, none⟩ = some (.bool m) ∧ W.cell? ⟨b, 2, none⟩ = some (.bool h) ∧ W.frozen? ⟨b, 0, none⟩ = false ∧ W.frozen? ⟨b, 1, none⟩ = false ∧ W.frozen? ⟨b, 2, none⟩ = false ∧ b < W.heap.size
theorem Bb3.later {W w1 : World} {b : Nat} {c m h : Bool} (hb : Below W.heap.size W w1) (k : Bb3 W b c m h) : Bb3 w1 b c m h := by
  obtain ⟨c0, c1, c2, f0, f1, f2, z⟩ := k
  have := hb.size
  obtain ⟨_, hf⟩ := bcell hb
  exact ⟨cell_later hb c0, cell_later hb c1, cell_later hb c2, (hf _ _ z).trans f0, (hf _ _ z).trans f1, (hf _ _ z).trans f2, by omega⟩
theorem Bb3.alloc {W : World} {b : Nat} {c m h : Bool} (k : Bb3 W b c m h) (o : Obj) : Bb3 (W.alloc o) b c m h := Bb3.later ((Below.refl _ _).alloc (Nat.le_refl _) o) k
theorem Bb3.new (W : World) (b : Nat) (c m h : Bool) (t : TypeId) (e : b = W.heap.size) : Bb3 (W.alloc (.cells #[.bool c, .bool m, .bool h] t)) b c m h := by
  subst e
  exact ⟨by simp [go_sem], by simp [go_sem], by simp [go_sem], by simp [go_sem], by simp [go_sem], by simp [go_sem], by simp⟩
theorem Bb3.put0 {W : World} {b : Nat} {c m h : Bool} (k : Bb3 W b c m h) : Bb3 (W.setCell ⟨b, 0, none⟩ (.bool true)) b true m h := by
  obtain ⟨c0, c1, c2, f0, f1, f2, z⟩ := k
  exact ⟨by simp [go_sem, c0], by simp [go_sem, c1], by simp [go_sem, c2], by simp [go_sem, f0], by simp [go_sem, f1], by simp [go_sem, f2], by simpa using z⟩
theorem Bb3.put1 {W : World} {b : Nat} {c m h : Bool} (k : Bb3 W b c m h) : Bb3 (W.setCell ⟨b, 1, none⟩ (.bool true)) b c true h := by
  obtain ⟨c0, c1, c2, f0, f1, f2, z⟩ := k
  exact ⟨by simp [go_sem, c0], by simp [go_sem, c1], by simp [go_sem, c2], by simp [go_sem, f0], by simp [go_sem, f1], by simp [go_sem, f2], by simpa using z⟩
theorem Bb3.put2 {W : World} {b : Nat} {c m h : Bool} (k : Bb3 W b c m h) : Bb3 (W.setCell ⟨b, 2, none⟩ (.bool true)) b c m true := by
  obtain ⟨c0, c1, c2, f0, f1, f2, z⟩ := k
  exact ⟨by simp [go_sem, c0], by simp [go_sem, c1], by simp [go_sem, c2], by simp [go_sem, f0], by simp [go_sem, f1], by simp [go_sem, f2], by simpa using z⟩
theorem Bx3.beside {W : World} {b b' : Nat} {c m h : Int} (k : Bx3 W b c m h) (i : Nat) (x : Value) (e : b ≠ b') : Bx3 (W.setCell ⟨b', i, none⟩ x) b c m h := by
  obtain ⟨c0, c1, c2, f0, f1, f2, z⟩ := k
  exact ⟨by simp [go_sem, c0], by simp [go_sem, c1], by simp [go_sem, c2], by simp [go_sem, f0], by simp [go_sem, f1], by simp [go_sem, f2], by simpa using z⟩
theorem Bb3.beside {W : World} {b b' : Nat} {c m h : Bool} (k : Bb3 W b c m h) (i : Nat) (x : Value) (e : b ≠ b') : Bb3 (W.setCell ⟨b', i, none⟩ x) b c m h := by
  obtain ⟨c0, c1, c2, f0, f1, f2, z⟩ := k
  exact ⟨by simp [go_sem, c0], by simp [go_sem, c1], by simp [go_sem, c2], by simp [go_sem, f0], by simp [go_sem, f1], by simp [go_sem, f2], by simpa using z⟩
theorem Bx3.put {W : World} {b : Nat} {c m h : Int} (k : Bx3 W b c m h) (x y z : Int) : Bx3 (((W.setCell ⟨b, 0, none⟩ (.int .i64 x)).setCell ⟨b, 1, none⟩ (.int .i64 y)).setCell ⟨b, 2, none⟩ (.int .i64 z)) b x y z := by
  obtain ⟨c0, c1, c2, f0, f1, f2, z⟩ := k
  exact ⟨by simp [go_sem, c0], by simp [go_sem, c1], by simp [go_sem, c2], by simp [go_sem, f0], by simp [go_sem, f1], by simp [go_sem, f2], by simpa using z⟩

end Go.Proofs.YtpbgolcimbjekaaGreatDoor
