/-
  Package blocks' small functions at this program (rightZone, rightKind, Zones, Zone, Room), and the document's Fits. Conditions: the table is one.
-/
import Derived.Test.YtpefjcgccbfgbaaNC
namespace Go.Proofs.Ytpefjcgccbfgbaa.Bk
open Go.RowKit

def okZ (r b : Int) : Bool := decide (0 ≤ r ∧ r ≤ b ∧ b ≤ 1073741824)
def fitB (z : Zn) : Bool := okZ z.r0 z.b0 && okZ z.r1 z.b1
theorem fitB_iff {z : Zn} : fitB z = true ↔ Fit z := by
  unfold fitB okZ Fit
  simp
def fitL : List Zn → Bool
  | [] => true
  | z :: l => fitB z && fitL l
theorem fitL_iff : ∀ {zs : List Zn}, fitL zs = true ↔ ∀ z ∈ zs, Fit z
  | [] => by simp [fitL]
  | z :: l => by simp [fitL, fitL_iff, fitB_iff]
/-- May these be a table's zones? -/
def fits (zs : List Zn) : Bool := fitL zs && decide (0 < zs.length ∧ zs.length < 9)
theorem ok_yes {r b : Int} (h : okZ r b = true) : 0 ≤ r ∧ r ≤ b ∧ b ≤ 1073741824 := of_decide_eq_true h
theorem ok_no {r b : Int} (h : okZ r b = false) : b < 0 ∨ 1073741824 < b ∨ r < 0 ∨ b < r := by
  have := of_decide_eq_false h
  omega

/-- An element of an array of eight, and of one of two. -/
theorem ix8 (s : Nat → Int) {j : Nat} (h : j < 8) (w : World) : Sem.run Try.prog (Instr.index 47 (spV s) (.int .i64 (j : Int))) w = .ok (.int .i64 (s j)) w := by
  rcases (show j = 0 ∨ j = 1 ∨ j = 2 ∨ j = 3 ∨ j = 4 ∨ j = 5 ∨ j = 6 ∨ j = 7 by omega) with rfl | rfl | rfl | rfl | rfl | rfl | rfl | rfl <;> kernel_rfl
theorem ix2 (a b : Int) {j : Nat} (h : j < 2) (w : World) : Sem.run Try.prog (Instr.index 33 (.agg #[.int .i64 a, .int .i64 b]) (.int .i64 (j : Int))) w = .ok (.int .i64 (if j = 0 then a else b)) w := by
  rcases (show j = 0 ∨ j = 1 by omega) with rfl | rfl <;> kernel_rfl

def restZ (z : Zn) : Nat → Bool
  | 0 => fitB z
  | 1 => okZ z.r1 z.b1
  | _ => true
def bZ (z : Zn) : Nat → Int
  | 0 => z.b0
  | _ => z.b1
def rZ (z : Zn) : Nat → Int
  | 0 => z.r0
  | _ => z.r1
theorem restZ_at (z : Zn) {j : Nat} (h : j < 2) : restZ z j = (okZ (rZ z j) (bZ z j) && restZ z (j + 1)) := by
  rcases (show j = 0 ∨ j = 1 by omega) with rfl | rfl
  · rfl
  · simp [restZ, rZ, bZ]
def znL (z : Zn) : List Value := [.int .i64 z.b0, .int .i64 z.b1, .int .i64 z.r0, .int .i64 z.r1]
theorem znL_b (z : Zn) {j : Nat} (h : j < 2) : (znL z)[j]? = some (.int .i64 (bZ z j)) := by
  rcases (show j = 0 ∨ j = 1 by omega) with rfl | rfl <;> rfl
theorem znL_r (z : Zn) {j : Nat} (h : j < 2) : (znL z)[2 + j]? = some (.int .i64 (rZ z j)) := by
  rcases (show j = 0 ∨ j = 1 by omega) with rfl | rfl <;> rfl

set_option maxHeartbeats 1000000 in
theorem rightKind_is (k : Int) (w : World) : Calls Try.prog 30 #[.int .i64 k] w fun e w' => e = .returned (.bool (decide (0 ≤ k ∧ k ≤ 1))) ∧ Below w.heap.size w w' := by
  go_enter Try.func30, Try.ntmps30
  go_wp2
  all_goals
    go_ret
    refine ⟨congrArg (fun b => Ending.returned (Value.bool b)) ?_, by go_grown⟩
    rw [Bool.eq_iff_iff]
    simp
    try omega

set_option maxHeartbeats 2000000 in
set_option maxRecDepth 100000 in
theorem rightZone_is (z : Zn) (w : World) : Calls Try.prog 28 #[zoneV z] w fun e w' => e = .returned (.bool (fitB z)) ∧ Below w.heap.size w w' := by
  obtain ⟨R, hR⟩ : ∃ R, R = fitB z := ⟨_, rfl⟩
  have HR : Hid (restZ z 0 = R) := hR.symm
  rw [← hR]
  clear hR
  go_enter Try.func28, Try.ntmps28
  go_wp2
  have q0 : Cs (w.alloc (.cells #[.int .i64 z.b0, .int .i64 z.b1, .int .i64 z.r0, .int .i64 z.r1] 35)) w.heap.size (znL z) := Cs.new _ _ _ _ rfl
  have HB0 : Below w.heap.size w (w.alloc (.cells #[.int .i64 z.b0, .int .i64 z.b1, .int .i64 z.r0, .int .i64 z.r1] 35)) := by go_grown
  generalize w.alloc (.cells #[.int .i64 z.b0, .int .i64 z.b1, .int .i64 z.r0, .int .i64 z.r1] 35) = W0 at *
  go_loopw [8] (fun f wr => ∃ j : Nat, f = .int .i64 j ∧ j ≤ 2 ∧ Hid (restZ z j = R) ∧ wr = W0) (fun f _ => 2 - (intOf f).toNat)
  case atStart => exact ⟨0, rfl, by omega, HR, rfl⟩
  case round =>
    clear HR
    obtain ⟨j, rfl, jl, HO, rfl⟩ := hrel
    by_cases cj : j < 2
    · have E := HO.out
      rw [restZ_at z cj] at E
      have c1 := q0.1 _ _ (znL_r z cj)
      have x1 := ix2 z.b0 z.b1 cj
      rw [show (if j = 0 then z.b0 else z.b1) = bZ z j by rcases (show j = 0 ∨ j = 1 by omega) with rfl | rfl <;> rfl] at x1
      have j0 : (0 : Int) ≤ (j : Int) := by omega
      have j1 : (j : Int) < 2 := by omega
      generalize bZ z j = b at *
      generalize rZ z j = r at *
      have WAY : ((0 ≤ b ∧ b ≤ 1073741824) ∧ (0 ≤ r ∧ r ≤ b) ∧ Hid (restZ z (j + 1) = R)) ∨ (R = false ∧ (b < 0 ∨ (0 ≤ b ∧ 1073741824 < b) ∨ ((0 ≤ b ∧ b ≤ 1073741824) ∧ r < 0) ∨ ((0 ≤ b ∧ b ≤ 1073741824) ∧ 0 ≤ r ∧ b < r))) := by
        cases h : okZ r b with
        | true =>
          have := ok_yes h
          rw [h, Bool.true_and] at E
          exact .inl ⟨by omega, by omega, E⟩
        | false =>
          have := ok_no h
          rw [h, Bool.false_and] at E
          exact .inr ⟨E.symm, by omega⟩
      clear E HO q0
      rcases WAY with ⟨⟨y1, y2⟩, ⟨y3, y4⟩, X⟩ | ⟨rfl, y1 | ⟨y1, y2⟩ | ⟨⟨y1, y2⟩, y3⟩ | ⟨⟨y1, y2⟩, y3, y4⟩⟩
      · go_wp2
        go_roundw
        case rel => exact ⟨j + 1, by go_num, by omega, X, by simp⟩
        case measure => simp [intOf]; omega
      all_goals
        go_wp2
        go_ret
        exact ⟨rfl, HB0⟩
    · obtain rfl : j = 2 := by omega
      have X : true = R := HO.out
      subst X
      go_wp2
      go_ret
      exact ⟨rfl, HB0⟩

/-- A table in memory: its own block, the block of its map; its zones and rows. -/
structure Tb (W : World) (b m : Nat) (zs : List Zn) (ls : List Rw) : Prop where
  zone : ∃ zb zo cap : Nat, W.cell? ⟨b, 0, none⟩ = some (.slice (some ⟨zb, zo, none⟩) zs.length cap) ∧ RdZ W (.slice (some ⟨zb, zo, none⟩) zs.length cap) zs
  held : W.cell? ⟨b, 1, none⟩ = some (.map (some m))
  map : MapW W m ls
  fit : fits zs = true
theorem fits_len {zs : List Zn} (h : fits zs = true) : 0 < zs.length ∧ zs.length < 9 := by
  unfold fits at h
  rw [Bool.and_eq_true] at h
  exact of_decide_eq_true h.2
theorem fits_all {zs : List Zn} (h : fits zs = true) : ∀ z ∈ zs, Fit z := by
  unfold fits at h
  rw [Bool.and_eq_true] at h
  exact fitL_iff.1 h.1
theorem RdZ.same {W w1 : World} {zb zo cap : Nat} {zs : List Zn} (h : RdZ W (.slice (some ⟨zb, zo, none⟩) zs.length cap) zs) (e : w1.heap[zb]? = W.heap[zb]?) : RdZ w1 (.slice (some ⟨zb, zo, none⟩) zs.length cap) zs := by
  obtain ⟨a, c, e1, h1, h2, h3⟩ := h
  cases e1
  refine ⟨_, _, rfl, h1, h2, fun j d hj => ?_⟩
  obtain ⟨b, off, e1, c0, c1, c2, c3⟩ := h3 j d hj
  cases e1
  have k : ∀ i, w1.cell? ⟨zb, i, none⟩ = W.cell? ⟨zb, i, none⟩ := fun i => by simp only [World.cell?, e]
  exact ⟨_, _, rfl, (k _).trans c0, (k _).trans c1, (k _).trans c2, (k _).trans c3⟩
theorem RdZ.cellOf {W : World} {zb zo cap : Nat} {zs : List Zn} (h : RdZ W (.slice (some ⟨zb, zo, none⟩) zs.length cap) zs) (hl : 0 < zs.length) : ∃ z, W.cell? ⟨zb, zo, none⟩ = some (.int .i64 z) := by
  obtain ⟨a, c, e1, h1, h2, h3⟩ := h
  cases e1
  obtain ⟨b, off, e1, c0, -⟩ := h3 0 zs[0] (List.getElem?_eq_getElem hl)
  cases e1
  exact ⟨_, by simpa using c0⟩
section
variable {W w1 : World} {b m : Nat} {zs : List Zn} {ls : List Rw}
theorem Tb.b_lt (h : Tb W b m zs ls) : b < W.heap.size := by have := World.block_lt_of_cell? _ _ h.held; simpa using this
/-- Kept where its own blocks are. -/
theorem Tb.kept {row : Option Nat} (h : Tb W b m zs ls) (hg : W.grownBy w1 row) (hr : ∀ r, row = some r → r ≠ b ∧ r ≠ m ∧ ∀ zb zo n cap, W.cell? ⟨b, 0, none⟩ = some (.slice (some ⟨zb, zo, none⟩) n cap) → r ≠ zb) : Tb w1 b m zs ls := by
  obtain ⟨⟨zb, zo, cap, c0, hz⟩, c1, hm, hf⟩ := h
  obtain ⟨z, cz⟩ := hz.cellOf (fits_len hf).1
  have lb : b < W.heap.size := by have := World.block_lt_of_cell? _ _ c1; simpa using this
  have lz : zb < W.heap.size := by have := World.block_lt_of_cell? _ _ cz; simpa using this
  have eb : w1.heap[b]? = W.heap[b]? := hg.block b lb (fun e => (hr b e.symm).1 rfl)
  have ez : w1.heap[zb]? = W.heap[zb]? := hg.block zb lz (fun e => (hr zb e.symm).2.2 zb zo _ _ c0 rfl)
  have kb : ∀ i, w1.cell? ⟨b, i, none⟩ = W.cell? ⟨b, i, none⟩ := fun i => by simp only [World.cell?, eb]
  exact ⟨⟨zb, zo, cap, (kb _).trans c0, hz.same ez⟩, (kb _).trans c1, hm.kept hg (fun e => (hr m e.symm).2.1 rfl), hf⟩
theorem Tb.later (hb : Below W.heap.size W w1) (h : Tb W b m zs ls) : Tb w1 b m zs ls := h.kept (below_grown hb) (fun r e => by cases e)
theorem Tb.alloc (h : Tb W b m zs ls) (o : Obj) : Tb (W.alloc o) b m zs ls := Tb.later ((Below.refl _ _).alloc (Nat.le_refl _) o) h
theorem Tb.drewN (h : Tb W b m zs ls) (n : Nat) : Tb (W.drewN n) b m zs ls := Tb.later (below_drewN (Below.refl _ _) n) h
/-- A map's block is none of a table's cells. -/
theorem Tb.apart {m' : Nat} {ls' : List Rw} (h : Tb W b m zs ls) (hm : MapW W m' ls') : m' ≠ b ∧ ∀ zb zo n cap, W.cell? ⟨b, 0, none⟩ = some (.slice (some ⟨zb, zo, none⟩) n cap) → m' ≠ zb := by
  obtain ⟨⟨zb, zo, cap, c0, hz⟩, c1, -, hf⟩ := h
  obtain ⟨z, cz⟩ := hz.cellOf (fits_len hf).1
  refine ⟨hm.ne c1, fun zb' zo' n' cap' e => ?_⟩
  rw [c0] at e
  cases e
  exact hm.ne cz
/-- Another table's map has turned. -/
theorem Tb.other {m' : Nat} {ls' : List Rw} (h : Tb W b m zs ls) (hm : MapW W m' ls') (hne : m ≠ m') (hg : W.grownBy w1 (some m')) : Tb w1 b m zs ls :=
  h.kept hg (fun r e => by cases e; exact ⟨(h.apart hm).1, fun e => hne e.symm, (h.apart hm).2⟩)
/-- Its own map has turned. -/
theorem Tb.turned {ls' : List Rw} (h : Tb W b m zs ls) (hg : W.grownBy w1 (some m)) (hm : MapW w1 m ls') : Tb w1 b m zs ls' := by
  have hA := h.apart h.map
  obtain ⟨⟨zb, zo, cap, c0, hz⟩, c1, h1, hf⟩ := h
  obtain ⟨z, cz⟩ := hz.cellOf (fits_len hf).1
  have lb : b < W.heap.size := by have := World.block_lt_of_cell? _ _ c1; simpa using this
  have lz : zb < W.heap.size := by have := World.block_lt_of_cell? _ _ cz; simpa using this
  have eb : w1.heap[b]? = W.heap[b]? := hg.block b lb (fun e => hA.1 (by cases e; rfl))
  have ez : w1.heap[zb]? = W.heap[zb]? := hg.block zb lz (fun e => hA.2 _ _ _ _ c0 (by cases e; rfl))
  have kb : ∀ i, w1.cell? ⟨b, i, none⟩ = W.cell? ⟨b, i, none⟩ := fun i => by simp only [World.cell?, eb]
  exact ⟨⟨zb, zo, cap, (kb _).trans c0, hz.same ez⟩, (kb _).trans c1, hm, hf⟩
end
abbrev tbV (b : Nat) : Value := .pointer (some ⟨b, 0, none⟩)

set_option maxHeartbeats 1000000 in
theorem zones_is {b m : Nat} {zs : List Zn} {ls : List Rw} (w : World) (h : Tb w b m zs ls) : Calls Try.prog 11 #[tbV b] w fun e w' => e = .returned (.int .i64 zs.length) ∧ Below w.heap.size w w' := by
  obtain ⟨⟨zb, zo, cap, c0, -⟩, -, -, -⟩ := h
  go_enter Try.func11, Try.ntmps11
  go_wp2
  go_ret
  exact ⟨rfl, by go_grown⟩
set_option maxHeartbeats 1000000 in
theorem zones_nil (w : World) : Calls Try.prog 11 #[.pointer none] w fun e w' => e = .returned (.int .i64 0) ∧ Below w.heap.size w w' := by
  go_enter Try.func11, Try.ntmps11
  go_wp2
  go_ret
  exact ⟨rfl, by go_grown⟩

end Go.Proofs.Ytpefjcgccbfgbaa.Bk
