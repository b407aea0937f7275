/-
  What a law's ops read as, and whether they are too many or too great to be asked (great), at this program. Conditions: the list reads as ops, at most 2^60.
-/
import Derived.Test.YtpefjcgccbfgbaaBC
import Derived.Test.YtpefjcgccbfgbaaNB
namespace Go.Proofs.Ytpefjcgccbfgbaa.Bk
open Go.RowKit

/-- An op: its kind, its place, an owner and a spread. -/
structure Oq where
  kd : Int
  pl : Int
  p : ByteArray
  c : ByteArray
  k : Int
  s : Nat → Int
def ElO (W : World) (b o : Nat) (q : Oq) : Prop := W.cell? ⟨b, o, none⟩ = some (.int .i64 q.kd) ∧
  W.cell? ⟨b, o + 1, none⟩ = some (.int .i64 q.pl) ∧
  W.cell? ⟨b, o + 2, none⟩ = some (.string q.p) ∧
  W.cell? ⟨b, o + 3, none⟩ = some (.string q.c) ∧
  W.cell? ⟨b, o + 4, none⟩ = some (.int .i64 q.k) ∧
  W.cell? ⟨b, o + 5, none⟩ = some (.int .i64 (q.s 0)) ∧
  W.cell? ⟨b, o + 6, none⟩ = some (.int .i64 (q.s 1)) ∧
  W.cell? ⟨b, o + 7, none⟩ = some (.int .i64 (q.s 2)) ∧
  W.cell? ⟨b, o + 8, none⟩ = some (.int .i64 (q.s 3)) ∧
  W.cell? ⟨b, o + 9, none⟩ = some (.int .i64 (q.s 4)) ∧
  W.cell? ⟨b, o + 10, none⟩ = some (.int .i64 (q.s 5)) ∧
  W.cell? ⟨b, o + 11, none⟩ = some (.int .i64 (q.s 6)) ∧
  W.cell? ⟨b, o + 12, none⟩ = some (.int .i64 (q.s 7))
theorem ElO.later {W w1 : World} {b o : Nat} {q : Oq} (h : ElO W b o q) (hb : Below W.heap.size W w1) : ElO w1 b o q := by
  obtain ⟨h0, h1, h2, h3, h4, h5, h6, h7, h8, h9, h10, h11, h12⟩ := h
  exact ⟨cell_later hb h0, cell_later hb h1, cell_later hb h2, cell_later hb h3, cell_later hb h4, cell_later hb h5, cell_later hb h6, cell_later hb h7, cell_later hb h8, cell_later hb h9, cell_later hb h10, cell_later hb h11, cell_later hb h12⟩
def opL (q : Oq) : List Value := [.int .i64 q.kd, .int .i64 q.pl, .string q.p, .string q.c, .int .i64 q.k, .int .i64 (q.s 0), .int .i64 (q.s 1), .int .i64 (q.s 2), .int .i64 (q.s 3), .int .i64 (q.s 4), .int .i64 (q.s 5), .int .i64 (q.s 6), .int .i64 (q.s 7)]
/-- A slice reads as ops. -/
def RdO (W : World) (v : Value) (qs : List Oq) : Prop := ∃ (a : Option Addr) (cap : Nat), v = .slice a qs.length cap ∧ qs.length ≤ cap ∧ cap ≤ maxLen ∧
  ∀ (j : Nat) (q : Oq), qs[j]? = some q → GdK q.p q.c q.k ∧ ∃ b off : Nat, a = some ⟨b, off, none⟩ ∧ ElO W b (off + j * 13) q
theorem RdO.later {W w1 : World} {v : Value} {qs : List Oq} (h : RdO W v qs) (hb : Below W.heap.size W w1) : RdO w1 v qs := by
  obtain ⟨a, cap, e, h1, h2, h3⟩ := h
  refine ⟨a, cap, e, h1, h2, fun j d hj => ?_⟩
  obtain ⟨k, b, off, e1, e2⟩ := h3 j d hj
  exact ⟨k, b, off, e1, e2.later hb⟩
theorem RdO.alloc {W : World} {v : Value} {qs : List Oq} (h : RdO W v qs) (o : Obj) : RdO (W.alloc o) v qs := h.later ((Below.refl _ _).alloc (Nat.le_refl _) o)
/-- One of them. -/
theorem RdO.one {W : World} {b : Nat} {q : Oq} (h : Cs W b (opL q)) (hg : GdK q.p q.c q.k) : RdO W (.slice (some ⟨b, 0, none⟩) 1 1) [q] := by
  refine ⟨some ⟨b, 0, none⟩, 1, rfl, by simp, by unfold maxLen; omega, fun j r hj => ?_⟩
  obtain rfl : j = 0 := by
    have := (List.getElem?_eq_some_iff.1 hj).1
    simp at this
    omega
  cases hj
  exact ⟨hg, b, 0, rfl, by
    show ElO W b 0 q
    exact ⟨h.1 0 _ rfl, h.1 1 _ rfl, h.1 2 _ rfl, h.1 3 _ rfl, h.1 4 _ rfl, h.1 5 _ rfl, h.1 6 _ rfl, h.1 7 _ rfl, h.1 8 _ rfl, h.1 9 _ rfl, h.1 10 _ rfl, h.1 11 _ rfl, h.1 12 _ rfl⟩⟩
def gtB (q : Oq) : Bool := decide (100 < q.p.size) || decide (100 < q.c.size)
def grL (l : List Oq) (n : Nat) : Bool := l.any gtB || decide (60 < n)
def greatB (qs : List Oq) : Bool := grL qs qs.length
theorem great_no {qs : List Oq} (h : greatB qs = false) : qs.length ≤ 60 ∧ ∀ q ∈ qs, q.p.size ≤ 100 ∧ q.c.size ≤ 100 := by
  unfold greatB grL at h
  rw [Bool.or_eq_false_iff] at h
  refine ⟨by have := of_decide_eq_false h.2; omega, fun q hq => ?_⟩
  have h1 := List.any_eq_false.1 h.1 q hq
  unfold gtB at h1
  rw [Bool.or_eq_true, not_or] at h1
  have h2 : ¬ 100 < q.p.size := by simpa using h1.1
  have h3 : ¬ 100 < q.c.size := by simpa using h1.2
  omega
theorem drop_one {α : Type} {l : List α} {j : Nat} {r : α} (h : l[j]? = some r) : l.drop j = r :: l.drop (j + 1) := by
  obtain ⟨hj, e⟩ := List.getElem?_eq_some_iff.1 h
  rw [List.drop_eq_getElem_cons hj, e]

set_option maxHeartbeats 2000000 in
set_option maxRecDepth 100000 in
theorem great_is {v : Value} {qs : List Oq} (w : World) (h : RdO w v qs) : Calls Try.prog 7 #[v] w fun e w' => e = .returned (.bool (greatB qs)) ∧ Below w.heap.size w w' := by
  obtain ⟨R, hR⟩ : ∃ R, R = greatB qs := ⟨_, rfl⟩
  rw [← hR]
  have HR : Hid (grL (qs.drop 0) qs.length = R) := hR.symm
  clear hR
  obtain ⟨a, cap, rfl, h1, h2, h3⟩ := h
  have H3 : Hid (∀ (j : Nat) (q : Oq), qs[j]? = some q → GdK q.p q.c q.k ∧ ∃ b off : Nat, a = some ⟨b, off, none⟩ ∧ ElO w b (off + j * 13) q) := h3
  have zl : qs.length ≤ maxLen := by omega
  unfold maxLen at zl
  clear h3
  go_enter Try.func7, Try.ntmps7
  go_wp2
  go_loopw [7] (fun f wr => ∃ j : Nat, f = .int .i64 j ∧ j ≤ qs.length ∧ Hid (grL (qs.drop j) qs.length = R) ∧ Below w.heap.size w wr) (fun f _ => qs.length - (intOf f).toNat)
  case atStart => exact ⟨0, rfl, by omega, HR, Below.refl _ _⟩
  case round =>
    clear HR
    obtain ⟨j, rfl, jl, HI, HB⟩ := hrel
    have hs := HB.size
    by_cases cj : j < qs.length
    · obtain ⟨q, hq⟩ : ∃ q, qs[j]? = some q := ⟨qs[j], List.getElem?_eq_getElem cj⟩
      obtain ⟨⟨⟨y1, y2⟩, -⟩, b, off, rfl, TT⟩ := H3.out j q hq
      obtain ⟨t0, t1, t2, t3, t4, t5, t6, t7, t8, t9, t10, t11, t12⟩ := TT.later HB
      have j0 : (0 : Int) ≤ (j : Int) := by omega
      have j1 : (j : Int) < (qs.length : Int) := by omega
      have E := HI.out
      rw [drop_one hq, grL, List.any_cons, gtB] at E
      clear TT hq HI H3
      unfold maxLen at y1 y2
      go_upto_region 4 with (fail)
      have q2 : Cs (wr.alloc (.cells #[.int .i64 q.kd, .int .i64 q.pl, .string q.p, .string q.c, .int .i64 q.k, .int .i64 (q.s 0), .int .i64 (q.s 1), .int .i64 (q.s 2), .int .i64 (q.s 3), .int .i64 (q.s 4), .int .i64 (q.s 5), .int .i64 (q.s 6), .int .i64 (q.s 7)] 57)) wr.heap.size (opL q) := Cs.new _ _ _ _ rfl
      have HB9 : Below w.heap.size w (wr.alloc (.cells #[.int .i64 q.kd, .int .i64 q.pl, .string q.p, .string q.c, .int .i64 q.k, .int .i64 (q.s 0), .int .i64 (q.s 1), .int .i64 (q.s 2), .int .i64 (q.s 3), .int .i64 (q.s 4), .int .i64 (q.s 5), .int .i64 (q.s 6), .int .i64 (q.s 7)] 57)) := HB.alloc HB.size _
      obtain ⟨b9, hb9⟩ : ∃ b9, b9 = wr.heap.size := ⟨_, rfl⟩
      rw [← hb9] at q2 ⊢
      clear hb9
      generalize wr.alloc (.cells #[.int .i64 q.kd, .int .i64 q.pl, .string q.p, .string q.c, .int .i64 q.k, .int .i64 (q.s 0), .int .i64 (q.s 1), .int .i64 (q.s 2), .int .i64 (q.s 3), .int .i64 (q.s 4), .int .i64 (q.s 5), .int .i64 (q.s 6), .int .i64 (q.s 7)] 57) = W9 at *
      clear t0 t1 t2 t3 t4 t5 t6 t7 t8 t9 t10 t11 t12 HB hs
      have d2 := q2.1 2 _ rfl
      have d3 := q2.1 3 _ rfl
      have d9 := q2.2.2
      by_cases g1 : 100 < q.p.size
      · have g1' : (100 : Int) < (q.p.size : Int) := by omega
        obtain rfl : R = true := by rw [← E, decide_eq_true g1]; rfl
        clear E
        go_wp2
        go_ret
        exact ⟨rfl, HB9⟩
      · have g1' : ¬ (100 : Int) < (q.p.size : Int) := by omega
        by_cases g2 : 100 < q.c.size
        · have g2' : (100 : Int) < (q.c.size : Int) := by omega
          obtain rfl : R = true := by rw [← E, decide_eq_true g2, Bool.or_true, Bool.true_or, Bool.true_or]
          clear E
          go_wp2
          go_ret
          exact ⟨rfl, HB9⟩
        · have g2' : ¬ (100 : Int) < (q.c.size : Int) := by omega
          have HX : Hid (grL (qs.drop (j + 1)) qs.length = R) := by rw [decide_eq_false g1, decide_eq_false g2, Bool.or_false, Bool.false_or] at E; exact E
          clear E
          go_wp2
          go_roundw
          case rel => exact ⟨j + 1, by go_num, by omega, HX, HB9⟩
          case measure => simp [intOf]; omega
    · obtain rfl : j = qs.length := by omega
      have E := HI.out
      rw [List.drop_length] at E
      have E2 : decide ((60 : Int) < (qs.length : Int)) = R := by
        rw [← E]
        show _ = (false || decide (60 < qs.length))
        rw [Bool.false_or]
        exact decide_eq_decide.2 (by omega)
      clear E HI
      go_wp2
      go_ret
      exact ⟨rfl, HB⟩

end Go.Proofs.Ytpefjcgccbfgbaa.Bk
