/-
  Rows of a table of blocks (an owner and what it holds) as they lie in memory, and the document's order of owners, at this program. Conditions: none but that where it is said, the texts of owners are within the reach.
-/
import Derived.Test.YtpefjcgccbfgbaaGA
import Derived.Test.YtpefjcgccbfgbaaRows
import Derived.WalkKit
import Derived.WalkSpells
import Derived.WalkLawsBesides
import Derived.Handy
import Derived.Deep.Light
import Derived.WalkSmall
import Derived.OwnWalk
import Derived.PlainAid
import Derived.Deep.MidRow
import Derived.Lib.MinMax
import Derived.Lib.SmallJoins
import Derived.BigQuiet
namespace Go.Proofs.Ytpefjcgccbfgbaa.Bk
open Go.RowKit

/-- A row: an owner's texts and kind, and what it holds of each node. -/
structure Rw where
  p : ByteArray
  c : ByteArray
  k : Int
  s : Nat → Int
/-- Its eleven cells. -/
def El (W : World) (b o : Nat) (r : Rw) : Prop := W.cell? ⟨b, o, none⟩ = some (.string r.p) ∧ W.cell? ⟨b, o + 1, none⟩ = some (.string r.c) ∧ W.cell? ⟨b, o + 2, none⟩ = some (.int .i64 r.k) ∧
  W.cell? ⟨b, o + 3, none⟩ = some (.int .i64 (r.s 0)) ∧ W.cell? ⟨b, o + 4, none⟩ = some (.int .i64 (r.s 1)) ∧ W.cell? ⟨b, o + 5, none⟩ = some (.int .i64 (r.s 2)) ∧ W.cell? ⟨b, o + 6, none⟩ = some (.int .i64 (r.s 3)) ∧
  W.cell? ⟨b, o + 7, none⟩ = some (.int .i64 (r.s 4)) ∧ W.cell? ⟨b, o + 8, none⟩ = some (.int .i64 (r.s 5)) ∧ W.cell? ⟨b, o + 9, none⟩ = some (.int .i64 (r.s 6)) ∧ W.cell? ⟨b, o + 10, none⟩ = some (.int .i64 (r.s 7))
theorem El.later {W w1 : World} {b o : Nat} {r : Rw} (h : El W b o r) (hb : Below W.heap.size W w1) : El w1 b o r := by
  obtain ⟨h0, h1, h2, h3, h4, h5, h6, h7, h8, h9, h10⟩ := h
  exact ⟨cell_later hb h0, cell_later hb h1, cell_later hb h2, cell_later hb h3, cell_later hb h4, cell_later hb h5, cell_later hb h6, cell_later hb h7, cell_later hb h8, cell_later hb h9, cell_later hb h10⟩
/-- A slice reads as rows. -/
def RdW (W : World) (v : Value) (zs : List Rw) : Prop := ∃ (a : Option Addr) (cap : Nat), v = .slice a zs.length cap ∧ zs.length ≤ cap ∧ cap ≤ maxLen ∧
  ∀ (j : Nat) (r : Rw), zs[j]? = some r → (r.p.size ≤ maxLen ∧ r.c.size ≤ maxLen) ∧ ∃ b off : Nat, a = some ⟨b, off, none⟩ ∧ El W b (off + j * 11) r
theorem RdW.later {W w1 : World} {v : Value} {zs : List Rw} (h : RdW W v zs) (hb : Below W.heap.size W w1) : RdW w1 v zs := by
  obtain ⟨a, cap, e, h1, h2, h3⟩ := h
  refine ⟨a, cap, e, h1, h2, fun j d hj => ?_⟩
  obtain ⟨k, b, off, e1, e2⟩ := h3 j d hj
  exact ⟨k, b, off, e1, e2.later hb⟩
theorem RdW.alloc {W : World} {v : Value} {zs : List Rw} (h : RdW W v zs) (o : Obj) : RdW (W.alloc o) v zs := h.later ((Below.refl _ _).alloc (Nat.le_refl _) o)
theorem below_drewN {B : Nat} {w w1 : World} (h : Below B w w1) (n : Nat) : Below B w (w1.drewN n) :=
  h.trans ⟨rfl, rfl, rfl, Nat.le_refl _, fun _ _ => rfl⟩
/-- Like texts. -/
def eqS (a b : ByteArray) : Bool := a.data.toList == b.data.toList
theorem eqS_l (a b : ByteArray) : (a.toList == b.toList) = eqS a b := by rw [ByteArray.toList_eq, ByteArray.toList_eq]; rfl
theorem eqS_iff {a b : ByteArray} : eqS a b = true ↔ a = b := by
  unfold eqS
  rw [beq_iff_eq]
  exact ⟨fun h => ByteArray.ext (Array.ext' h), fun h => by rw [h]⟩
theorem eqS_refl (a : ByteArray) : eqS a a = true := eqS_iff.2 rfl

def ltS (a b : ByteArray) : Bool := Op.bytesLess a.toList b.toList
/-- Is an owner ahead of another one? -/
def bef (p c : ByteArray) (k : Int) (p' c' : ByteArray) (k' : Int) : Bool := if eqS p p' = true then (if eqS c c' = true then decide (k < k') else ltS c c') else ltS p p'

set_option maxHeartbeats 1000000 in
theorem before_is (p c p' c' : ByteArray) (k k' : Int) (w : World) :
    Calls Try.prog 39 #[.agg #[.string p, .string c, .int .i64 k], .agg #[.string p', .string c', .int .i64 k']] w fun e w' => e = .returned (.bool (bef p c k p' c' k')) ∧ Below w.heap.size w w' := by
  obtain ⟨R, hR⟩ : ∃ R, R = bef p c k p' c' k' := ⟨_, rfl⟩
  rw [← hR]
  have HR : Hid (R = bef p c k p' c' k') := hR
  clear hR
  have e1 := eqS_l p p'
  have e2 := eqS_l c c'
  cases h1 : eqS p p' with
  | false =>
    rw [h1] at e1
    have X : Hid (R = ltS p p') := by unfold Hid; rw [HR.out, bef, h1, if_neg (by simp)]
    clear h1 HR e2
    go_enter Try.func39, Try.ntmps39
    go_wp2
    go_ret
    exact ⟨by rw [X.out]; rfl, by go_grown⟩
  | true =>
    rw [h1] at e1
    cases h2 : eqS c c' with
    | false =>
      rw [h2] at e2
      have X : Hid (R = ltS c c') := by unfold Hid; rw [HR.out, bef, h1, h2, if_pos rfl, if_neg (by simp)]
      clear h1 h2 HR
      go_enter Try.func39, Try.ntmps39
      go_wp2
      go_ret
      exact ⟨by rw [X.out]; rfl, by go_grown⟩
    | true =>
      rw [h2] at e2
      have X : Hid (R = decide (k < k')) := by unfold Hid; rw [HR.out, bef, h1, h2, if_pos rfl, if_pos rfl]
      clear h1 h2 HR
      go_enter Try.func39, Try.ntmps39
      go_wp2
      go_ret
      exact ⟨by rw [X.out]; rfl, by go_grown⟩

/-- A zone: blocks of both kinds, and how many of them are reserved. -/
structure Zn where
  b0 : Int
  b1 : Int
  r0 : Int
  r1 : Int
def ElZ (W : World) (b o : Nat) (z : Zn) : Prop := W.cell? ⟨b, o, none⟩ = some (.int .i64 z.b0) ∧ W.cell? ⟨b, o + 1, none⟩ = some (.int .i64 z.b1) ∧ W.cell? ⟨b, o + 2, none⟩ = some (.int .i64 z.r0) ∧ W.cell? ⟨b, o + 3, none⟩ = some (.int .i64 z.r1)
theorem ElZ.later {W w1 : World} {b o : Nat} {z : Zn} (h : ElZ W b o z) (hb : Below W.heap.size W w1) : ElZ w1 b o z := by
  obtain ⟨h0, h1, h2, h3⟩ := h
  exact ⟨cell_later hb h0, cell_later hb h1, cell_later hb h2, cell_later hb h3⟩
/-- A slice reads as zones. -/
def RdZ (W : World) (v : Value) (zs : List Zn) : Prop := ∃ (a : Option Addr) (cap : Nat), v = .slice a zs.length cap ∧ zs.length ≤ cap ∧ cap ≤ maxLen ∧
  ∀ (j : Nat) (z : Zn), zs[j]? = some z → ∃ b off : Nat, a = some ⟨b, off, none⟩ ∧ ElZ W b (off + j * 4) z
theorem RdZ.later {W w1 : World} {v : Value} {zs : List Zn} (h : RdZ W v zs) (hb : Below W.heap.size W w1) : RdZ w1 v zs := by
  obtain ⟨a, cap, e, h1, h2, h3⟩ := h
  refine ⟨a, cap, e, h1, h2, fun j d hj => ?_⟩
  obtain ⟨b, off, e1, e2⟩ := h3 j d hj
  exact ⟨b, off, e1, e2.later hb⟩
def Fit (z : Zn) : Prop := (0 ≤ z.r0 ∧ z.r0 ≤ z.b0 ∧ z.b0 ≤ 1073741824) ∧ (0 ≤ z.r1 ∧ z.r1 ≤ z.b1 ∧ z.b1 ≤ 1073741824)
/-- The room of a zone and a kind. -/
def roomZ (z : Zn) (k : Int) : Int := if k = 0 then z.b0 - z.r0 else z.b1 - z.r1
def roomV (zs : List Zn) (i k : Int) : Int := if 0 ≤ i ∧ 0 ≤ k ∧ k ≤ 1 then (match zs[i.toNat]? with | some z => roomZ z k | none => 0) else 0
theorem roomZ_bd {z : Zn} (h : Fit z) (k : Int) : 0 ≤ roomZ z k ∧ roomZ z k ≤ 1073741824 := by
  obtain ⟨h1, h2⟩ := h
  unfold roomZ
  split <;> omega

set_option maxHeartbeats 2000000 in
set_option maxRecDepth 100000 in
theorem room_is {zv : Value} {zs : List Zn} (al : Option Addr) (nl cl : Nat) (i k : Int) (w : World) (h : RdZ w zv zs) (hf : ∀ z ∈ zs, Fit z) :
    Calls Try.prog 24 #[.agg #[zv, .slice al nl cl], .int .i64 i, .int .i64 k] w fun e w' => e = .returned (.int .i64 (roomV zs i k)) ∧ Below w.heap.size w w' := by
  obtain ⟨R, hR⟩ : ∃ R, R = roomV zs i k := ⟨_, rfl⟩
  rw [← hR]
  have HR : Hid (R = roomV zs i k) := hR
  clear hR
  obtain ⟨a, cap, rfl, h1, h2, h3⟩ := h
  have H3 : Hid (∀ (j : Nat) (z : Zn), zs[j]? = some z → ∃ b off : Nat, a = some ⟨b, off, none⟩ ∧ ElZ w b (off + j * 4) z) := h3
  have HF : Hid (∀ z ∈ zs, Fit z) := hf
  have zl : zs.length ≤ maxLen := by omega
  unfold maxLen at zl
  clear h3 hf
  by_cases i0 : i < 0
  · have X : Hid (R = 0) := by unfold Hid; rw [HR.out, roomV, if_neg (by omega)]
    clear HR H3 HF
    go_enter Try.func24, Try.ntmps24
    go_wp2
    go_ret
    exact ⟨by rw [X.out]; rfl, by go_grown⟩
  obtain ⟨j, rfl⟩ : ∃ j : Nat, i = j := ⟨i.toNat, by omega⟩
  by_cases il : zs.length ≤ j
  · have i1 : (zs.length : Int) ≤ (j : Int) := by omega
    have i2 : ¬ (j : Int) < 0 := by omega
    have X : Hid (R = 0) := by
      unfold Hid
      rw [HR.out, roomV, List.getElem?_eq_none (by omega)]
      split <;> rfl
    clear HR H3 HF i0 il
    go_enter Try.func24, Try.ntmps24
    go_wp2
    go_ret
    exact ⟨by rw [X.out]; rfl, by go_grown⟩
  have i1 : ¬ (zs.length : Int) ≤ (j : Int) := by omega
  have i2 : ¬ (j : Int) < 0 := by omega
  have i3 : (j : Int) < (zs.length : Int) := by omega
  have i4 : (0 : Int) ≤ (j : Int) := by omega
  by_cases k0 : k < 0
  · have X : Hid (R = 0) := by unfold Hid; rw [HR.out, roomV, if_neg (by omega)]
    clear HR H3 HF i0 il
    go_enter Try.func24, Try.ntmps24
    go_wp2
    go_ret
    exact ⟨by rw [X.out]; rfl, by go_grown⟩
  by_cases k1 : 1 < k
  · have X : Hid (R = 0) := by unfold Hid; rw [HR.out, roomV, if_neg (by omega)]
    clear HR H3 HF i0 il
    go_enter Try.func24, Try.ntmps24
    go_wp2
    go_ret
    exact ⟨by rw [X.out]; rfl, by go_grown⟩
  obtain ⟨z, hz⟩ : ∃ z, zs[j]? = some z := ⟨zs[j], List.getElem?_eq_getElem (by omega)⟩
  have hF := HF.out z (List.mem_of_getElem? hz)
  obtain ⟨⟨f1, f2, f3⟩, f4, f5, f6⟩ := hF
  obtain ⟨b, off, rfl, c0, c1, c2, c3⟩ := H3.out j z hz
  have bz : b < w.heap.size := by have := World.block_lt_of_cell? _ _ c0; simpa using this
  rcases (show k = 0 ∨ k = 1 by omega) with rfl | rfl
  · have X : Hid (R = z.b0 - z.r0) := by unfold Hid; rw [HR.out, roomV, if_pos (by omega), show (j : Int).toNat = j by omega, hz]; rfl
    clear HR H3 HF i0 il k0 k1 hz
    go_enter Try.func24, Try.ntmps24
    go_wp2_with (fail)
    go_quiet (fail)
    go_wp2
    go_ret
    exact ⟨by rw [X.out]; rfl, below_drewN (by go_grown) _⟩
  · have X : Hid (R = z.b1 - z.r1) := by unfold Hid; rw [HR.out, roomV, if_pos (by omega), show (j : Int).toNat = j by omega, hz]; rfl
    clear HR H3 HF i0 il k0 k1 hz
    go_enter Try.func24, Try.ntmps24
    go_wp2_with (fail)
    go_quiet (fail)
    go_wp2
    go_ret
    exact ⟨by rw [X.out]; rfl, below_drewN (by go_grown) _⟩

end Go.Proofs.Ytpefjcgccbfgbaa.Bk
