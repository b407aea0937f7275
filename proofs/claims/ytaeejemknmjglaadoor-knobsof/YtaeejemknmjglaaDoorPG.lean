/-
  A slice of containers that is read, and who is found in it, at this program. Conditions: the slice reads as a list of containers.
-/
import Derived.Test.YtaeejemknmjglaaDoorPE
import Derived.Test.YtaeejemknmjglaaDoorPC
namespace Go.Proofs.YtaeejemknmjglaaDoor.Sp
open Go.RowKit

/-- The ten cells of a container. -/
def Ten (W : World) (b o : Nat) (c : Ct) : Prop := W.cell? ⟨b, o, none⟩ = some (.string c.n) ∧ W.cell? ⟨b, o + 1, none⟩ = some (.int .i64 c.rc) ∧ W.cell? ⟨b, o + 2, none⟩ = some (.int .i64 c.rm) ∧ W.cell? ⟨b, o + 3, none⟩ = some (.int .i64 c.rh) ∧ W.cell? ⟨b, o + 4, none⟩ = some (.int .i64 c.lc) ∧ W.cell? ⟨b, o + 5, none⟩ = some (.int .i64 c.lm) ∧ W.cell? ⟨b, o + 6, none⟩ = some (.int .i64 c.lh) ∧ W.cell? ⟨b, o + 7, none⟩ = some (.bool c.x) ∧ W.cell? ⟨b, o + 8, none⟩ = some (.bool c.y) ∧ W.cell? ⟨b, o + 9, none⟩ = some (.bool c.z)
theorem Ten.later {W w1 : World} {b o : Nat} {c : Ct} (h : Ten W b o c) (hb : Below W.heap.size W w1) : Ten w1 b o c := by
  obtain ⟨h0, h1, h2, h3, h4, h5, h6, h7, h8, h9⟩ := h
  exact ⟨cell_later hb h0, cell_later hb h1, cell_later hb h2, cell_later hb h3, cell_later hb h4, cell_later hb h5, cell_later hb h6, cell_later hb h7, cell_later hb h8, cell_later hb h9⟩
/-- A slice reads as a row of containers. -/
def RdC (W : World) (v : Value) (zs : List Ct) : Prop := ∃ (a : Option Addr) (cap : Nat), v = .slice a zs.length cap ∧ zs.length ≤ cap ∧ cap ≤ maxLen ∧
  ∀ (j : Nat) (c : Ct), zs[j]? = some c → c.n.size ≤ maxLen ∧ ∃ b off : Nat, a = some ⟨b, off, none⟩ ∧ Ten W b (off + j * 10) c
theorem RdC.later {W w1 : World} {v : Value} {zs : List Ct} (h : RdC W v zs) (hb : Below W.heap.size W w1) : RdC w1 v zs := by
  obtain ⟨a, cap, e, h1, h2, h3⟩ := h
  refine ⟨a, cap, e, h1, h2, fun j d hj => ?_⟩
  obtain ⟨k, b, off, e1, e2⟩ := h3 j d hj
  exact ⟨k, b, off, e1, e2.later hb⟩
theorem RdC.alloc {W : World} {v : Value} {zs : List Ct} (h : RdC W v zs) (o : Obj) : RdC (W.alloc o) v zs := h.later ((Below.refl _ _).alloc (Nat.le_refl _) o)

/-- Like texts. -/
def eqS (a b : ByteArray) : Bool := a.data.toList == b.data.toList
theorem eqS_l (a b : ByteArray) : (a.toList == b.toList) = eqS a b := by rw [ByteArray.toList_eq, ByteArray.toList_eq]; rfl
theorem eqS_iff {a b : ByteArray} : eqS a b = true ↔ a = b := by
  unfold eqS
  rw [beq_iff_eq]
  exact ⟨fun h => ByteArray.ext (Array.ext' h), fun h => by rw [h]⟩
theorem eqS_refl (a : ByteArray) : eqS a a = true := eqS_iff.2 rfl
theorem eqS_comm (a b : ByteArray) : eqS a b = eqS b a := by
  rw [Bool.eq_iff_iff, eqS_iff, eqS_iff]
  exact ⟨fun h => h.symm, fun h => h.symm⟩
/-- The place of the first one of that name. -/
def fnd (n : ByteArray) : List Ct → Option Nat
  | [] => none
  | c :: r => if eqS c.n n then some 0 else (fnd n r).map (· + 1)
theorem fnd_some {n : ByteArray} : ∀ {zs : List Ct} {k : Nat} {c : Ct}, zs[k]? = some c → eqS c.n n = true → (∀ i, i < k → ∀ c, zs[i]? = some c → eqS c.n n = false) → fnd n zs = some k
  | [], k, c, h, _, _ => by simp at h
  | d :: r, 0, c, h, e, _ => by
    simp at h
    subst h
    rw [fnd, if_pos e]
  | d :: r, k + 1, c, h, e, f => by
    have d0 := f 0 (by omega) d rfl
    rw [fnd, if_neg (by rw [d0]; exact Bool.false_ne_true), fnd_some (k := k) (c := c) (by simpa using h) e (fun i hi c hc => f (i + 1) (by omega) c (by simpa using hc))]
    rfl
theorem fnd_none {n : ByteArray} : ∀ {zs : List Ct}, (∀ (i : Nat) (c : Ct), zs[i]? = some c → eqS c.n n = false) → fnd n zs = none
  | [], _ => rfl
  | d :: r, f => by
    rw [fnd, if_neg (by rw [f 0 d rfl]; exact Bool.false_ne_true), fnd_none (fun i c hc => f (i + 1) c (by simpa using hc))]
    rfl
theorem fnd_at {n : ByteArray} : ∀ {zs : List Ct} {k : Nat}, fnd n zs = some k → ∃ c, zs[k]? = some c ∧ eqS c.n n = true ∧ (∀ i, i < k → ∀ c, zs[i]? = some c → eqS c.n n = false)
  | [], k, h => by simp [fnd] at h
  | d :: r, k, h => by
    rw [fnd] at h
    by_cases e : eqS d.n n = true
    · rw [if_pos e] at h
      injection h with h
      subst h
      exact ⟨d, rfl, e, fun i hi => absurd hi (by omega)⟩
    · rw [if_neg e] at h
      cases hk : fnd n r with
      | none => rw [hk] at h; cases h
      | some i =>
        rw [hk] at h
        injection h with h
        obtain rfl : i + 1 = k := h
        obtain ⟨c, h1, h2, h3⟩ := fnd_at hk
        refine ⟨c, by simpa using h1, h2, fun l hl c hc => ?_⟩
        match l with
        | 0 =>
          simp at hc
          subst hc
          exact Bool.eq_false_iff.2 e
        | l + 1 => exact h3 l (by omega) c (by simpa using hc)
def fi (o : Option Nat) : Int := match o with
  | some k => k
  | none => -1

set_option maxHeartbeats 1000000 in
theorem find1_is (m : ByteArray) (rc rm rh lc lm lh : Int) (x y z : Bool) (n : ByteArray) (nb : Nat) (w : World) (hn : w.cell? ⟨nb, 0, none⟩ = some (.string n)) :
    Calls Tryd.prog 61 #[.agg #[.string m, .int .i64 rc, .int .i64 rm, .int .i64 rh, .int .i64 lc, .int .i64 lm, .int .i64 lh, .bool x, .bool y, .bool z], .pointer (some ⟨nb, 0, none⟩)] w fun e w' => e = .returned (.bool (eqS m n)) ∧ Below w.heap.size w w' := by
  have hz := World.block_lt_of_cell? _ _ hn
  simp only at hz
  go_enter Tryd.func61, Tryd.ntmps61
  go_wp2
  go_ret
  exact ⟨by rw [← eqS_l]; rfl, by go_grown⟩

set_option maxHeartbeats 2000000 in
set_option maxRecDepth 100000 in
theorem index_is {v : Value} {zs : List Ct} (n : ByteArray) (nb : Nat) (w : World) (h : RdC w v zs) (hn : w.cell? ⟨nb, 0, none⟩ = some (.string n)) :
    Calls Tryd.prog 60 #[v, .func (.func 61) #[] #[.pointer (some ⟨nb, 0, none⟩)]] w fun e w' => e = .returned (.int .i64 (fi (fnd n zs))) ∧ Below w.heap.size w w' := by
  obtain ⟨R, hR⟩ : ∃ R, R = fi (fnd n zs) := ⟨_, rfl⟩
  rw [← hR]
  have HR : Hid (R = fi (fnd n zs)) := hR
  have HN : Hid (w.cell? ⟨nb, 0, none⟩ = some (.string n)) := hn
  clear hR hn
  obtain ⟨a, cap, rfl, h1, h2, h3⟩ := h
  have H3 : Hid (∀ (j : Nat) (c : Ct), zs[j]? = some c → c.n.size ≤ maxLen ∧ ∃ b off : Nat, a = some ⟨b, off, none⟩ ∧ Ten w b (off + j * 10) c) := h3
  clear h3
  have zl : zs.length ≤ maxLen := by omega
  unfold maxLen at zl
  go_enter Tryd.func60, Tryd.ntmps60
  go_wp2
  go_loopw [8] (fun f wr => ∃ j : Nat, f = .int .i64 j ∧ j ≤ zs.length ∧ Hid (∀ i, i < j → ∀ c, zs[i]? = some c → eqS c.n n = false) ∧ Below w.heap.size w wr) (fun f _ => zs.length - (intOf f).toNat)
  case atStart => exact ⟨0, rfl, by omega, fun i hi => absurd hi (by omega), by go_grown⟩
  case round =>
    obtain ⟨j, rfl, jl, HJ, HB⟩ := hrel
    have hs := HB.size
    by_cases cj : j < zs.length
    · obtain ⟨⟨m, rc, rm, rh, lc, lm, lh, x, y, z⟩, hdj⟩ : ∃ d, zs[j]? = some d := ⟨zs[j], List.getElem?_eq_getElem cj⟩
      obtain ⟨-, b, off, rfl, T⟩ := H3.out j _ hdj
      have DJ : Hid (zs[j]? = some ⟨m, rc, rm, rh, lc, lm, lh, x, y, z⟩) := hdj
      clear hdj
      obtain ⟨c0, c1, c2, c3, c4, c5, c6, c7, c8, c9⟩ := T.later HB
      simp only at c0 c1 c2 c3 c4 c5 c6 c7 c8 c9
      have j0 : (0 : Int) ≤ (j : Int) := by omega
      have j1 : (j : Int) < (zs.length : Int) := by omega
      clear T
      go_wp2_with (fail)
      refine (find1_is m rc rm rh lc lm lh x y z n nb _ (cell_later HB HN.out)).mono ?_
      rintro e w1 ⟨rfl, hw1⟩
      have HB1 : Below w.heap.size w w1 := HB.trans (hw1.mono HB.size)
      obtain ⟨g, hg⟩ : ∃ g, g = eqS m n := ⟨_, rfl⟩
      rw [← hg]
      have G : Hid (eqS m n = g) := hg.symm
      clear hg c0 c1 c2 c3 c4 c5 c6 c7 c8 c9 HB hw1 hs
      cases g with
      | true =>
        have X : Hid (R = j) := by unfold Hid; rw [HR.out, fnd_some DJ.out G.out HJ.out]; rfl
        go_wp2
        go_ret
        exact ⟨by rw [X.out]; rfl, HB1⟩
      | false =>
        have HJ' : Hid (∀ i, i < j + 1 → ∀ c, zs[i]? = some c → eqS c.n n = false) := fun i hi c hc => by
          by_cases e : i = j
          · subst e
            rw [DJ.out] at hc
            injection hc with hc
            subst hc
            exact G.out
          · exact HJ.out i (by omega) c hc
        clear HJ DJ G
        go_wp2
        go_roundw
        case rel => exact ⟨j + 1, by go_num, by omega, HJ', HB1⟩
        case measure => simp [intOf]; omega
    · have X : Hid (R = -1) := by
        unfold Hid
        rw [HR.out, fnd_none (fun i c hc => HJ.out i (by have := (List.getElem?_eq_some_iff.1 hc).1; omega) c hc)]
        rfl
      clear HJ HR
      go_wp2
      go_ret
      exact ⟨by rw [X.out]; rfl, HB⟩

def fv (o : Option Nat) : Value := match o with
  | some k => .tuple #[.int .i64 k, .bool true]
  | none => .tuple #[.int .i64 0, .bool false]

set_option maxHeartbeats 2000000 in
theorem find_is {v : Value} {zs : List Ct} (pn : ByteArray) (pr po : Int) (n : ByteArray) (w : World) (h : RdC w v zs) :
    Calls Tryd.prog 46 #[.agg #[.string pn, .int .i64 pr, .int .i64 po, v], .string n] w fun e w' => e = .returned (fv (fnd n zs)) ∧ Below w.heap.size w w' := by
  have HZ : Hid (RdC w v zs) := h
  clear h
  obtain ⟨o, ho⟩ : ∃ o, o = fnd n zs := ⟨_, rfl⟩
  have C : Hid (∀ w nb, RdC w v zs → w.cell? ⟨nb, 0, none⟩ = some (.string n) → Calls Tryd.prog 60 #[v, .func (.func 61) #[] #[.pointer (some ⟨nb, 0, none⟩)]] w fun e w' => e = .returned (.int .i64 (fi o)) ∧ Below w.heap.size w w') := fun w nb h hn => by rw [ho]; exact index_is n nb w h hn
  rw [← ho]
  clear ho
  obtain ⟨a, cap, rfl, -⟩ := id HZ.out
  go_enter Tryd.func46, Tryd.ntmps46
  go_wp2_with (fail)
  refine (C.out _ _ ((HZ.out.alloc _).alloc _) (by simp [go_sem])).mono ?_
  rintro e w1 ⟨rfl, hw1⟩
  have HB1 : Below w.heap.size w w1 := Below.trans (by go_grown) (hw1.mono (by simp; omega))
  clear hw1
  cases o with
  | none =>
    rw [show fi none = -1 from rfl]
    go_wp2
    go_ret2
    exact ⟨rfl, HB1⟩
  | some k =>
    rw [show fi (some k) = (k : Int) from rfl]
    have k0 : (0 : Int) ≤ (k : Int) := by omega
    have k1 : ¬ (k : Int) < 0 := by omega
    go_wp2
    go_ret2
    exact ⟨rfl, HB1⟩

end Go.Proofs.YtaeejemknmjglaaDoor.Sp
