/-
  A slice of vectors that is read: its vectors. Conditions: none.
-/
import Derived.Test.YtpbgolcimbjekaaDoorKT
import Derived.Test.YtpbgolcimbjekaaDoorKR
import Derived.Deep.Slices
namespace Go.Proofs.YtpbgolcimbjekaaDoor
open Go.ChangeShapes Go.WideShapes Go.ChangeAt Go.RowKit Go.Joins Go.Deep

theorem laidOut : laidOutB Tryd.prog = true := by kernel_rfl
theorem vecFields : ∃ f0 f1 f2 : Field, Tryd.prog.underlying 23 = some (.struct #[f0, f1, f2]) ∧ f0.offset = 0 ∧ f1.offset = 1 ∧ f2.offset = 2 ∧ f0.type = 3 ∧ f1.type = 3 ∧ f2.type = 3 := ⟨_, _, _, Tryd.underlying23, rfl, rfl, rfl, rfl, rfl, rfl⟩
theorem choose_fn {α : Type} [Inhabited α] {n : Nat} {p : Nat → α → Prop} (h : ∀ i, i < n → ∃ x, p i x) : ∃ f : Nat → α, ∀ i, i < n → p i (f i) := by
  classical
  refine ⟨fun i => if hi : i < n then (h i hi).choose else default, fun i hi => ?_⟩
  simp only [dif_pos hi]
  exact (h i hi).choose_spec

set_option maxRecDepth 100000 in
theorem read_vecs {H : Type} {enc : TypeId × Value → H} {W : World} {a0 : Option Addr} {len cap fuel : Nat} {x : DataW H × List MemPlace}
    (h : DataW.trod enc Tryd.prog W 0 (fun _ => true) true fuel 33 [.slice a0 len cap] = some x) : ∃ zs : List (Int × Int × Int), RdV W (.slice a0 len cap) zs := by
  rcases open_slice Tryd.underlying33 h with ⟨hcs, -⟩ | ⟨a, len', cap', m, n, D, Pl, hcs, _, hl, hm, hmm, -, hx⟩
  · simp at hcs
    obtain ⟨rfl, rfl, rfl⟩ := hcs
    exact ⟨[], none, 0, rfl, by simp, by simp [maxLen], fun j d hj => by simp at hj⟩
  · simp at hcs
    obtain ⟨rfl, rfl, rfl⟩ := hcs
    simp only [if_true] at hmm
    subst hmm
    obtain ⟨f0, f1, f2, he, o0, o1, o2, t0, t1, t2⟩ := vecFields
    have each : ∀ i, i < len → ∃ d : Int × Int × Int, W.cell? (a.add (i * 3)) = some (.int .i64 d.1) ∧ W.cell? (a.add (i * 3 + 1)) = some (.int .i64 d.2.1) ∧ W.cell? (a.add (i * 3 + 2)) = some (.int .i64 d.2.2) := by
      intro i hi
      obtain ⟨cs', h1, h2⟩ := hx i (by omega)
      rw [cellsVec] at h1
      obtain ⟨_, hlen, hcell⟩ := World.cells?_some h1
      obtain ⟨xs, k, hk, hxy, _, hxl, hf⟩ := DataW.trod_struct he h2
      match xs, hxl, cs', hlen with
      | [y0, y1, y2], _, [v0, v1, v2], _ =>
        have g0 := hf 0 f0 rfl
        have g1 := hf 1 f1 rfl
        have g2 := hf 2 f2 rfl
        simp [o0, o1, o2, t0, t1, t2, cellsInt] at g0 g1 g2
        obtain ⟨n0, q0, -, -⟩ := DataW.trod_int Tryd.underlying3 g0
        obtain ⟨n1, q1, -, -⟩ := DataW.trod_int Tryd.underlying3 g1
        obtain ⟨n2, q2, -, -⟩ := DataW.trod_int Tryd.underlying3 g2
        simp at q0 q1 q2
        subst q0 q1 q2
        have e0 := hcell 0 (by omega)
        have e1 := hcell 1 (by omega)
        have e2 := hcell 2 (by omega)
        rw [add_add] at e0 e1 e2
        exact ⟨(n0, n1, n2), by simpa using e0, by simpa using e1, by simpa using e2⟩
    obtain ⟨q, hq⟩ := choose_fn each
    have hlen : ((List.range len).map q).length = len := by simp
    refine ⟨(List.range len).map q, some a, m, by rw [hlen], by omega, hm, fun j d hj => ?_⟩
    have hjl : j < len := by
      have := (List.getElem?_eq_some_iff.1 hj).1
      simpa using this
    have hd : d = q j := by
      rw [List.getElem?_map, List.getElem?_range hjl] at hj
      injection hj with hj
      exact hj.symm
    subst hd
    obtain ⟨c0, c1, c2⟩ := hq j hjl
    have hs : a.spot = none := by
      have := World.cell?_spot (hq 0 (by omega)).1
      simpa [Addr.add] using this
    obtain ⟨b, off, sp⟩ := a
    simp at hs
    subst hs
    rw [add_plain] at c0 c1 c2
    exact ⟨b, off, rfl, c0, by rwa [Nat.add_assoc], by rwa [Nat.add_assoc]⟩

end Go.Proofs.YtpbgolcimbjekaaDoor
