/-
  What the arguments of the laws read as: zones, ops, one op, a case. Conditions: none.
-/
import Derived.Test.YtpefjcgccbfgbaaOA
import Derived.Test.YtpefjcgccbfgbaaNT
import Derived.ProofKit
import Derived.OpenShut
import Derived.Lib.SmallJoins
import Derived.Deep.Slices
namespace Go.Proofs.Ytpefjcgccbfgbaa.Bk
open Go.ChangeShapes Go.WideShapes Go.ChangeAt Go.RowKit Go.Joins Go.Deep
open Go.ChangeMaps (open_string shut_string)

theorem cellsInt : Try.prog.cellsOf 3 = 1 := by kernel_rfl
theorem cellsStr : Try.prog.cellsOf 9 = 1 := by kernel_rfl
theorem cellsPr : Try.prog.cellsOf 33 = 2 := by kernel_rfl
theorem cellsSpr : Try.prog.cellsOf 47 = 8 := by kernel_rfl
theorem cellsOwn : Try.prog.cellsOf 45 = 3 := by kernel_rfl
theorem cellsZn : Try.prog.cellsOf 35 = 4 := by kernel_rfl
theorem cellsOp : Try.prog.cellsOf 57 = 13 := by kernel_rfl
theorem cellsZns : Try.prog.cellsOf 22 = 1 := by kernel_rfl
theorem cellsOps : Try.prog.cellsOf 23 = 1 := by kernel_rfl
theorem cellsCase : Try.prog.cellsOf 25 = 4 := by kernel_rfl
theorem array2 {α : Type} {cs : List α} (h : cs.length = 2) : ∃ c0 c1, cs = [c0, c1] := by
  match cs, h with
  | [c0, c1], _ => exact ⟨c0, c1, rfl⟩
theorem array3 {α : Type} {cs : List α} (h : cs.length = 3) : ∃ c0 c1 c2, cs = [c0, c1, c2] := by
  match cs, h with
  | [c0, c1, c2], _ => exact ⟨c0, c1, c2, rfl⟩
theorem array4 {α : Type} {cs : List α} (h : cs.length = 4) : ∃ c0 c1 c2 c3, cs = [c0, c1, c2, c3] := by
  match cs, h with
  | [c0, c1, c2, c3], _ => exact ⟨c0, c1, c2, c3, rfl⟩
theorem array8 {α : Type} {cs : List α} (h : cs.length = 8) : ∃ c0 c1 c2 c3 c4 c5 c6 c7, cs = [c0, c1, c2, c3, c4, c5, c6, c7] := by
  match cs, h with
  | [c0, c1, c2, c3, c4, c5, c6, c7], _ => exact ⟨c0, c1, c2, c3, c4, c5, c6, c7, rfl⟩
theorem array13 {α : Type} {cs : List α} (h : cs.length = 13) : ∃ c0 c1 c2 c3 c4 c5 c6 c7 c8 c9 c10 c11 c12, cs = [c0, c1, c2, c3, c4, c5, c6, c7, c8, c9, c10, c11, c12] := by
  match cs, h with
  | [c0, c1, c2, c3, c4, c5, c6, c7, c8, c9, c10, c11, c12], _ => exact ⟨c0, c1, c2, c3, c4, c5, c6, c7, c8, c9, c10, c11, c12, rfl⟩

theorem choose_fn {α : Type} (z : α) {n : Nat} {p : Nat → α → Prop} (h : ∀ i, i < n → ∃ x, p i x) : ∃ f : Nat → α, ∀ i, i < n → p i (f i) := by
  classical
  refine ⟨fun i => if hi : i < n then (h i hi).choose else z, fun i hi => ?_⟩
  simp only [dif_pos hi]
  exact (h i hi).choose_spec
def znLs (z : Zn) : List Value := [.int .i64 z.b0, .int .i64 z.b1, .int .i64 z.r0, .int .i64 z.r1]
section
variable {H : Type} {enc : TypeId × Value → H} {W : World} {sp : Nat → Bool} {n : Nat}
theorem read_two {cs : List Value} {y : DataW H × List MemPlace} (h : DataW.trod enc Try.prog W 0 sp true n 33 cs = some y) : ∃ a b : Int, cs = [.int .i64 a, .int .i64 b] := by
  obtain ⟨xs, m, -, -, hl0, hl, hf⟩ := DataW.trod_array Try.underlying33 h
  rw [cellsPr] at hl0
  obtain ⟨c0, c1, rfl⟩ := array2 hl0
  obtain ⟨y0, y1, rfl⟩ := array2 hl
  have g0 := hf 0 (by omega)
  have g1 := hf 1 (by omega)
  simp [cellsInt] at g0 g1
  obtain ⟨a, e0, -, -⟩ := DataW.trod_int Try.underlying3 g0
  obtain ⟨b, e1, -, -⟩ := DataW.trod_int Try.underlying3 g1
  simp at e0 e1
  exact ⟨a, b, by rw [e0, e1]⟩
theorem read_spread {cs : List Value} {y : DataW H × List MemPlace} (h : DataW.trod enc Try.prog W 0 sp true n 47 cs = some y) : ∃ s : Nat → Int, cs = spL s := by
  obtain ⟨xs, m, -, -, hl0, hl, hf⟩ := DataW.trod_array Try.underlying47 h
  rw [cellsSpr] at hl0
  obtain ⟨c0, c1, c2, c3, c4, c5, c6, c7, rfl⟩ := array8 hl0
  obtain ⟨y0, y1, y2, y3, y4, y5, y6, y7, rfl⟩ := array8 hl
  have g0 := hf 0 (by omega)
  have g1 := hf 1 (by omega)
  have g2 := hf 2 (by omega)
  have g3 := hf 3 (by omega)
  have g4 := hf 4 (by omega)
  have g5 := hf 5 (by omega)
  have g6 := hf 6 (by omega)
  have g7 := hf 7 (by omega)
  simp [cellsInt] at g0 g1 g2 g3 g4 g5 g6 g7
  obtain ⟨x0, e0, -, -⟩ := DataW.trod_int Try.underlying3 g0
  obtain ⟨x1, e1, -, -⟩ := DataW.trod_int Try.underlying3 g1
  obtain ⟨x2, e2, -, -⟩ := DataW.trod_int Try.underlying3 g2
  obtain ⟨x3, e3, -, -⟩ := DataW.trod_int Try.underlying3 g3
  obtain ⟨x4, e4, -, -⟩ := DataW.trod_int Try.underlying3 g4
  obtain ⟨x5, e5, -, -⟩ := DataW.trod_int Try.underlying3 g5
  obtain ⟨x6, e6, -, -⟩ := DataW.trod_int Try.underlying3 g6
  obtain ⟨x7, e7, -, -⟩ := DataW.trod_int Try.underlying3 g7
  simp at e0 e1 e2 e3 e4 e5 e6 e7
  exact ⟨fun i => [x0, x1, x2, x3, x4, x5, x6, x7].getD i 0, by rw [e0, e1, e2, e3, e4, e5, e6, e7]; rfl⟩
theorem read_owner {cs : List Value} {y : DataW H × List MemPlace} (h : DataW.trod enc Try.prog W 0 sp true n 45 cs = some y) : ∃ (p c : ByteArray) (k : Int), cs = [.string p, .string c, .int .i64 k] ∧ GdK p c k := by
  obtain ⟨y0, y1, y2, m, -, hl, g0, g1, g2⟩ := trod_struct3 Try.underlying45 h
  rw [cellsOwn] at hl
  obtain ⟨c0, c1, c2, rfl⟩ := array3 hl
  have g0' : DataW.trod enc Try.prog W 0 sp true m 9 [c0] = some y0 := by simpa [cellsStr] using g0
  have g1' : DataW.trod enc Try.prog W 0 sp true m 9 [c1] = some y1 := by simpa [cellsStr] using g1
  have g2' : DataW.trod enc Try.prog W 0 sp true m 3 [c2] = some y2 := by simpa [cellsInt] using g2
  obtain ⟨p, e0, -, w0⟩ := DataW.trod_string Try.underlying9 g0'
  obtain ⟨c, e1, -, w1⟩ := DataW.trod_string Try.underlying9 g1'
  obtain ⟨k, e2, -, w2⟩ := DataW.trod_int Try.underlying3 g2'
  simp at e0 e1 e2
  subst e0 e1 e2
  exact ⟨p, c, k, rfl, ⟨w0, w1⟩, w2⟩
theorem read_zone {cs : List Value} {y : DataW H × List MemPlace} (h : DataW.trod enc Try.prog W 0 sp true n 35 cs = some y) : ∃ z : Zn, cs = znLs z ∧ True := by
  obtain ⟨y0, y1, m, -, hl, g0, g1⟩ := trod_struct2 Try.underlying35 h
  rw [cellsZn] at hl
  obtain ⟨c0, c1, c2, c3, rfl⟩ := array4 hl
  have g0' : DataW.trod enc Try.prog W 0 sp true m 33 [c0, c1] = some y0 := by simpa [cellsPr] using g0
  have g1' : DataW.trod enc Try.prog W 0 sp true m 33 [c2, c3] = some y1 := by simpa [cellsPr] using g1
  obtain ⟨a, b, e0⟩ := read_two g0'
  obtain ⟨c, d, e1⟩ := read_two g1'
  simp at e0 e1
  obtain ⟨rfl, rfl⟩ := e0
  obtain ⟨rfl, rfl⟩ := e1
  exact ⟨⟨a, b, c, d⟩, rfl, trivial⟩
theorem read_op {cs : List Value} {y : DataW H × List MemPlace} (h : DataW.trod enc Try.prog W 0 sp true n 57 cs = some y) : ∃ q : Oq, cs = opL q ∧ GdK q.p q.c q.k := by
  obtain ⟨y0, y1, y2, y3, m, -, hl, g0, g1, g2, g3⟩ := trod_struct4 Try.underlying57 h
  rw [cellsOp] at hl
  obtain ⟨c0, c1, c2, c3, c4, c5, c6, c7, c8, c9, c10, c11, c12, rfl⟩ := array13 hl
  have g0' : DataW.trod enc Try.prog W 0 sp true m 3 [c0] = some y0 := by simpa [cellsInt] using g0
  have g1' : DataW.trod enc Try.prog W 0 sp true m 3 [c1] = some y1 := by simpa [cellsInt] using g1
  have g2' : DataW.trod enc Try.prog W 0 sp true m 45 [c2, c3, c4] = some y2 := by simpa [cellsOwn] using g2
  have g3' : DataW.trod enc Try.prog W 0 sp true m 47 [c5, c6, c7, c8, c9, c10, c11, c12] = some y3 := by simpa [cellsSpr] using g3
  obtain ⟨kd, e0, -, -⟩ := DataW.trod_int Try.underlying3 g0'
  obtain ⟨pl, e1, -, -⟩ := DataW.trod_int Try.underlying3 g1'
  obtain ⟨p, c, k, e2, gk⟩ := read_owner g2'
  obtain ⟨s, e3⟩ := read_spread g3'
  simp only [spL, List.cons.injEq, and_true] at e0 e1 e2 e3
  obtain ⟨rfl, rfl, rfl⟩ := e2
  obtain ⟨rfl, rfl, rfl, rfl, rfl, rfl, rfl, rfl⟩ := e3
  subst e0 e1
  exact ⟨⟨kd, pl, p, c, k, s⟩, rfl, gk⟩
end
section
variable {H : Type} {enc : TypeId × Value → H} {W : World} {n : Nat}
/-- A slice of them that is read. -/
theorem read_zns {a0 : Option Addr} {len cap : Nat} {x : DataW H × List MemPlace}
    (h : DataW.trod enc Try.prog W 0 (fun _ => true) true n 22 [.slice a0 len cap] = some x) : ∃ zs : List Zn, RdZ W (.slice a0 len cap) zs := by
  rcases open_slice Try.underlying22 h with ⟨hcs, -⟩ | ⟨a, len', cap', m, n', D, Pl, hcs, _, hl, hm, hmm, -, hx⟩
  · simp at hcs
    obtain ⟨rfl, rfl, rfl⟩ := hcs
    exact ⟨[], none, 0, rfl, by simp, by simp [maxLen], fun j d hj => by simp at hj⟩
  · simp at hcs
    obtain ⟨rfl, rfl, rfl⟩ := hcs
    simp only [if_true] at hmm
    subst hmm
    have each : ∀ i, i < len → ∃ c : Zn, (True) ∧ ∀ q, q < 4 → W.cell? (a.add (i * 4 + q)) = (znLs c)[q]? := by
      intro i hi
      obtain ⟨cs', h1, h2⟩ := hx i (by omega)
      rw [cellsZn] at h1
      obtain ⟨_, hlen, hcell⟩ := World.cells?_some h1
      obtain ⟨c, rfl, hc⟩ := read_zone h2
      refine ⟨c, hc, fun q hq => ?_⟩
      have := hcell q hq
      rw [add_add] at this
      simpa using this
    obtain ⟨q, hq⟩ := choose_fn (⟨0, 0, 0, 0⟩ : Zn) each
    have hlen : ((List.range len).map q).length = len := by simp
    refine ⟨(List.range len).map q, some a, m, by rw [hlen], by omega, hm, fun j d hj => ?_⟩
    have hjl : j < len := by
      have := (List.getElem?_eq_some_iff.1 hj).1
      simpa using this
    have hd : d = q j := by
      rw [List.getElem?_map, List.getElem?_range hjl] at hj
      injection hj with hj
      exact hj.symm
    subst hd
    obtain ⟨hs0, hc⟩ := hq j hjl
    have hs : a.spot = none := by
      have := World.cell?_spot ((hq 0 (by omega)).2 0 (by omega))
      simpa [Addr.add] using this
    obtain ⟨b, off, sp⟩ := a
    simp at hs
    subst hs
    have c := fun q hq => hc q hq
    simp only [add_plain] at c
    refine ⟨b, off, rfl, ?_, ?_, ?_, ?_⟩
    · exact c 0 (by omega)
    · rw [Nat.add_assoc]; exact c 1 (by omega)
    · rw [Nat.add_assoc]; exact c 2 (by omega)
    · rw [Nat.add_assoc]; exact c 3 (by omega)

/-- A slice of them that is read. -/
theorem read_ops {a0 : Option Addr} {len cap : Nat} {x : DataW H × List MemPlace}
    (h : DataW.trod enc Try.prog W 0 (fun _ => true) true n 23 [.slice a0 len cap] = some x) : ∃ zs : List Oq, RdO W (.slice a0 len cap) zs := by
  rcases open_slice Try.underlying23 h with ⟨hcs, -⟩ | ⟨a, len', cap', m, n', D, Pl, hcs, _, hl, hm, hmm, -, hx⟩
  · simp at hcs
    obtain ⟨rfl, rfl, rfl⟩ := hcs
    exact ⟨[], none, 0, rfl, by simp, by simp [maxLen], fun j d hj => by simp at hj⟩
  · simp at hcs
    obtain ⟨rfl, rfl, rfl⟩ := hcs
    simp only [if_true] at hmm
    subst hmm
    have each : ∀ i, i < len → ∃ c : Oq, (GdK c.p c.c c.k) ∧ ∀ q, q < 13 → W.cell? (a.add (i * 13 + q)) = (opL c)[q]? := by
      intro i hi
      obtain ⟨cs', h1, h2⟩ := hx i (by omega)
      rw [cellsOp] at h1
      obtain ⟨_, hlen, hcell⟩ := World.cells?_some h1
      obtain ⟨c, rfl, hc⟩ := read_op h2
      refine ⟨c, hc, fun q hq => ?_⟩
      have := hcell q hq
      rw [add_add] at this
      simpa using this
    obtain ⟨q, hq⟩ := choose_fn (⟨0, 0, ⟨#[]⟩, ⟨#[]⟩, 0, fun _ => 0⟩ : Oq) each
    have hlen : ((List.range len).map q).length = len := by simp
    refine ⟨(List.range len).map q, some a, m, by rw [hlen], by omega, hm, fun j d hj => ?_⟩
    have hjl : j < len := by
      have := (List.getElem?_eq_some_iff.1 hj).1
      simpa using this
    have hd : d = q j := by
      rw [List.getElem?_map, List.getElem?_range hjl] at hj
      injection hj with hj
      exact hj.symm
    subst hd
    obtain ⟨hs0, hc⟩ := hq j hjl
    have hs : a.spot = none := by
      have := World.cell?_spot ((hq 0 (by omega)).2 0 (by omega))
      simpa [Addr.add] using this
    obtain ⟨b, off, sp⟩ := a
    simp at hs
    subst hs
    have c := fun q hq => hc q hq
    simp only [add_plain] at c
    refine ⟨hs0, b, off, rfl, ?_, ?_, ?_, ?_, ?_, ?_, ?_, ?_, ?_, ?_, ?_, ?_, ?_⟩
    · exact c 0 (by omega)
    · rw [Nat.add_assoc]; exact c 1 (by omega)
    · rw [Nat.add_assoc]; exact c 2 (by omega)
    · rw [Nat.add_assoc]; exact c 3 (by omega)
    · rw [Nat.add_assoc]; exact c 4 (by omega)
    · rw [Nat.add_assoc]; exact c 5 (by omega)
    · rw [Nat.add_assoc]; exact c 6 (by omega)
    · rw [Nat.add_assoc]; exact c 7 (by omega)
    · rw [Nat.add_assoc]; exact c 8 (by omega)
    · rw [Nat.add_assoc]; exact c 9 (by omega)
    · rw [Nat.add_assoc]; exact c 10 (by omega)
    · rw [Nat.add_assoc]; exact c 11 (by omega)
    · rw [Nat.add_assoc]; exact c 12 (by omega)

end

end Go.Proofs.Ytpefjcgccbfgbaa.Bk
