/-
  The document's answers of a table of blocks that only read (Held, Free, Same), at this program. Conditions: the table reads as zones that fit and as rows.
-/
import Derived.Test.YtpefjcgccbfgbaaBA
import Derived.ChangeKeysEq
namespace Go.Proofs.Ytpefjcgccbfgbaa.Bk
open Go.RowKit

/-- Like owners. -/
def eqO (p c : ByteArray) (k : Int) (p' c' : ByteArray) (k' : Int) : Bool := eqS p p' && (eqS c c' && k == k')
theorem ow_eq (p c p' c' : ByteArray) (k k' : Int) (w : World) : Sem.run Try.prog (Op.equalIn 10000 45 (.agg #[.string p, .string c, .int .i64 k]) (.agg #[.string p', .string c', .int .i64 k'])) w = .ok (eqO p c k p' c' k') w := by
  have e1 := eqS_l p p'
  have e2 := eqS_l c c'
  go_simp
  unfold eqO
  cases eqS p p' <;> cases eqS c c' <;> by_cases h : k = k' <;> simp [h]
theorem eqO_iff {p c p' c' : ByteArray} {k k' : Int} : eqO p c k p' c' k' = true ↔ eqS p p' = true ∧ eqS c c' = true ∧ k = k' := by
  unfold eqO
  rw [Bool.and_eq_true, Bool.and_eq_true, beq_iff_eq]
abbrev spV (s : Nat → Int) : Value := .agg #[.int .i64 (s 0), .int .i64 (s 1), .int .i64 (s 2), .int .i64 (s 3), .int .i64 (s 4), .int .i64 (s 5), .int .i64 (s 6), .int .i64 (s 7)]
def nought : Nat → Int := fun _ => 0
/-- What an owner holds. -/
def hld (p c : ByteArray) (k : Int) : List Rw → Nat → Int
  | [] => nought
  | r :: l => if eqO r.p r.c r.k p c k = true then r.s else hld p c k l

set_option maxHeartbeats 2000000 in
set_option maxRecDepth 100000 in
theorem rheld_is {lv : Value} {ls : List Rw} (az : Option Addr) (nz cz : Nat) (p c : ByteArray) (k : Int) (w : World) (h : RdW w lv ls) :
    Calls Try.prog 23 #[.agg #[.slice az nz cz, lv], .agg #[.string p, .string c, .int .i64 k]] w fun e w' => e = .returned (spV (hld p c k ls)) ∧ Below w.heap.size w w' := by
  obtain ⟨H, hH⟩ : ∃ H, H = hld p c k ls := ⟨_, rfl⟩
  have HH : Hid (hld p c k (ls.drop 0) = H) := hH.symm
  rw [← hH]
  clear hH
  obtain ⟨a, cap, rfl, h1, h2, h3⟩ := h
  have H3 : Hid (∀ (j : Nat) (r : Rw), ls[j]? = some r → (r.p.size ≤ maxLen ∧ r.c.size ≤ maxLen) ∧ ∃ b off : Nat, a = some ⟨b, off, none⟩ ∧ El w b (off + j * 11) r) := h3
  have zl : ls.length ≤ maxLen := by omega
  unfold maxLen at zl
  clear h3
  go_enter Try.func23, Try.ntmps23
  go_wp2
  obtain ⟨po, hpo⟩ : ∃ po, po = w.heap.size + 1 := ⟨_, rfl⟩
  rw [← hpo]
  obtain ⟨pr, hpr⟩ : ∃ pr, pr = po + 1 := ⟨_, rfl⟩
  rw [← hpr]
  have HP : Hid (w.heap.size ≤ po ∧ po < pr) := by show w.heap.size ≤ po ∧ po < pr; omega
  go_loopw [10] (fun f wr => ∃ j : Nat, f = .int .i64 j ∧ j ≤ ls.length ∧ Hid (hld p c k (ls.drop j) = H) ∧ Cs wr po [.string p, .string c, .int .i64 k] ∧ Cs wr pr [.int .i64 0, .int .i64 0, .int .i64 0, .int .i64 0, .int .i64 0, .int .i64 0, .int .i64 0, .int .i64 0] ∧ Below w.heap.size w wr) (fun f _ => ls.length - (intOf f).toNat)
  case atStart =>
    refine ⟨0, rfl, by omega, HH, ?_, ?_, by go_grown⟩
    · rw [hpo]; exact Cs.alloc (Cs.new _ _ _ _ (by simp)) _
    · rw [hpr, hpo]; exact Cs.new _ _ _ _ (by simp)
  case round =>
    clear HH hpo hpr
    obtain ⟨j, rfl, jl, HO, qo, qr, HB⟩ := hrel
    have hs := HB.size
    have o0 := qo.1 0 _ rfl
    have o1 := qo.1 1 _ rfl
    have o2 := qo.1 2 _ rfl
    have oz := qo.2.2
    have rz := qr.2.2
    obtain ⟨hp1, hp2⟩ := HP.out
    have r0 := qr.1 0 _ rfl
    have r1 := qr.1 1 _ rfl
    have r2 := qr.1 2 _ rfl
    have r3 := qr.1 3 _ rfl
    have r4 := qr.1 4 _ rfl
    have r5 := qr.1 5 _ rfl
    have r6 := qr.1 6 _ rfl
    have r7 := qr.1 7 _ rfl
    have f0 := qr.2.1 0 (by show 0 < 8; omega)
    have f1 := qr.2.1 1 (by show 1 < 8; omega)
    have f2 := qr.2.1 2 (by show 2 < 8; omega)
    have f3 := qr.2.1 3 (by show 3 < 8; omega)
    have f4 := qr.2.1 4 (by show 4 < 8; omega)
    have f5 := qr.2.1 5 (by show 5 < 8; omega)
    have f6 := qr.2.1 6 (by show 6 < 8; omega)
    have f7 := qr.2.1 7 (by show 7 < 8; omega)
    by_cases cj : j < ls.length
    · obtain ⟨r, hr⟩ : ∃ r, ls[j]? = some r := ⟨ls[j], List.getElem?_eq_getElem cj⟩
      obtain ⟨-, b, off, rfl, T⟩ := H3.out j r hr
      obtain ⟨t0, t1, t2, t3, t4, t5, t6, t7, t8, t9, t10⟩ := T.later HB
      have E := HO.out
      rw [List.drop_eq_getElem_cons cj, show ls[j] = r from (List.getElem?_eq_some_iff.1 hr).2, hld] at E
      have HE : Hid ((if eqO r.p r.c r.k p c k = true then r.s else hld p c k (ls.drop (j + 1))) = H) := E
      have j0 : (0 : Int) ≤ (j : Int) := by omega
      have j1 : (j : Int) < (ls.length : Int) := by omega
      have e1 := eqS_l r.p p
      have e2 := eqS_l r.c c
      clear E T hr HO
      by_cases g : eqO r.p r.c r.k p c k = true
      · have X : r.s = H := by have := HE.out; rwa [if_pos g] at this
        subst X
        obtain ⟨g1, g2, g3⟩ := eqO_iff.1 g
        rw [g1] at e1
        rw [g2] at e2
        have k1 : (r.k == k) = true := by simp [g3]
        rw [g3] at t2
        clear HE g g1 g2
        go_upto_region 5 with (fail)
        have q1 := qr.alloc (.cells #[.string r.p, .string r.c, .int .i64 k, .int .i64 (r.s 0), .int .i64 (r.s 1), .int .i64 (r.s 2), .int .i64 (r.s 3), .int .i64 (r.s 4), .int .i64 (r.s 5), .int .i64 (r.s 6), .int .i64 (r.s 7)] 66)
        have q2 : Cs (wr.alloc (.cells #[.string r.p, .string r.c, .int .i64 k, .int .i64 (r.s 0), .int .i64 (r.s 1), .int .i64 (r.s 2), .int .i64 (r.s 3), .int .i64 (r.s 4), .int .i64 (r.s 5), .int .i64 (r.s 6), .int .i64 (r.s 7)] 66)) wr.heap.size [.string r.p, .string r.c, .int .i64 k, .int .i64 (r.s 0), .int .i64 (r.s 1), .int .i64 (r.s 2), .int .i64 (r.s 3), .int .i64 (r.s 4), .int .i64 (r.s 5), .int .i64 (r.s 6), .int .i64 (r.s 7)] := Cs.new _ _ _ _ rfl
        have HB9 : Below w.heap.size w (wr.alloc (.cells #[.string r.p, .string r.c, .int .i64 k, .int .i64 (r.s 0), .int .i64 (r.s 1), .int .i64 (r.s 2), .int .i64 (r.s 3), .int .i64 (r.s 4), .int .i64 (r.s 5), .int .i64 (r.s 6), .int .i64 (r.s 7)] 66)) := HB.alloc HB.size _
        obtain ⟨q, hq⟩ : ∃ q, q = wr.heap.size := ⟨_, rfl⟩
        rw [← hq] at q2 ⊢
        clear hq
        generalize wr.alloc (.cells #[.string r.p, .string r.c, .int .i64 k, .int .i64 (r.s 0), .int .i64 (r.s 1), .int .i64 (r.s 2), .int .i64 (r.s 3), .int .i64 (r.s 4), .int .i64 (r.s 5), .int .i64 (r.s 6), .int .i64 (r.s 7)] 66) = W9 at *
        clear r0 r1 r2 r3 r4 r5 r6 r7 f0 f1 f2 f3 f4 f5 f6 f7 t0 t1 t2 t3 t4 t5 t6 t7 t8 t9 t10 o0 o1 o2 oz rz e1 e2 k1 g3 H3 hs
        have r0 := q1.1 0 _ rfl
        have r1 := q1.1 1 _ rfl
        have r2 := q1.1 2 _ rfl
        have r3 := q1.1 3 _ rfl
        have r4 := q1.1 4 _ rfl
        have r5 := q1.1 5 _ rfl
        have r6 := q1.1 6 _ rfl
        have r7 := q1.1 7 _ rfl
        have f0 := q1.2.1 0 (by show 0 < 8; omega)
        have f1 := q1.2.1 1 (by show 1 < 8; omega)
        have f2 := q1.2.1 2 (by show 2 < 8; omega)
        have f3 := q1.2.1 3 (by show 3 < 8; omega)
        have f4 := q1.2.1 4 (by show 4 < 8; omega)
        have f5 := q1.2.1 5 (by show 5 < 8; omega)
        have f6 := q1.2.1 6 (by show 6 < 8; omega)
        have f7 := q1.2.1 7 (by show 7 < 8; omega)
        have d3 := q2.1 3 _ rfl
        have d4 := q2.1 4 _ rfl
        have d5 := q2.1 5 _ rfl
        have d6 := q2.1 6 _ rfl
        have d7 := q2.1 7 _ rfl
        have d8 := q2.1 8 _ rfl
        have d9 := q2.1 9 _ rfl
        have d10 := q2.1 10 _ rfl
        have q1z := q1.2.2
        have q2z := q2.2.2
        go_wp2
        refine bodyPost_ret (v := spV r.s) (by simp [results, Try.results23, go_sem, r0, r1, r2, r3, r4, r5, r6, r7]) rfl ⟨rfl, by go_grown⟩
      · have X : Hid (hld p c k (ls.drop (j + 1)) = H) := by have := HE.out; rwa [if_neg g] at this
        have K1 := qo.alloc (.cells #[.string r.p, .string r.c, .int .i64 r.k, .int .i64 (r.s 0), .int .i64 (r.s 1), .int .i64 (r.s 2), .int .i64 (r.s 3), .int .i64 (r.s 4), .int .i64 (r.s 5), .int .i64 (r.s 6), .int .i64 (r.s 7)] 66)
        have K2 := qr.alloc (.cells #[.string r.p, .string r.c, .int .i64 r.k, .int .i64 (r.s 0), .int .i64 (r.s 1), .int .i64 (r.s 2), .int .i64 (r.s 3), .int .i64 (r.s 4), .int .i64 (r.s 5), .int .i64 (r.s 6), .int .i64 (r.s 7)] 66)
        have K3 : Below w.heap.size w (wr.alloc (.cells #[.string r.p, .string r.c, .int .i64 r.k, .int .i64 (r.s 0), .int .i64 (r.s 1), .int .i64 (r.s 2), .int .i64 (r.s 3), .int .i64 (r.s 4), .int .i64 (r.s 5), .int .i64 (r.s 6), .int .i64 (r.s 7)] 66)) := HB.alloc HB.size _
        clear HE qo qr HB
        cases h1 : eqS r.p p with
        | false =>
          rw [h1] at e1
          clear h1 g e2
          go_wp2
          go_roundw
          case rel => exact ⟨j + 1, by go_num, by omega, X, K1, K2, K3⟩
          case measure => simp [intOf]; omega
        | true =>
          rw [h1] at e1
          cases h2 : eqS r.c c with
          | false =>
            rw [h2] at e2
            clear h1 h2 g
            go_wp2
            go_roundw
            case rel => exact ⟨j + 1, by go_num, by omega, X, K1, K2, K3⟩
            case measure => simp [intOf]; omega
          | true =>
            rw [h2] at e2
            have k1 : ¬ r.k = k := fun h => g (eqO_iff.2 ⟨h1, h2, h⟩)
            have k2 : (r.k == k) = false := by simp [k1]
            clear h1 h2 g
            go_wp2
            go_roundw
            case rel => exact ⟨j + 1, by go_num, by omega, X, K1, K2, K3⟩
            case measure => simp [intOf]; omega
    · obtain rfl : j = ls.length := by omega
      have X : Hid (nought = H) := by
        have := HO.out
        rwa [List.drop_length] at this
      clear HO H3
      go_wp2
      refine bodyPost_ret (v := spV H) (by rw [← X.out]; simp [nought, results, Try.results23, go_sem, r0, r1, r2, r3, r4, r5, r6, r7]) rfl ⟨rfl, by go_grown⟩

/-- The eleven cells of a row. -/
def rowL (r : Rw) : List Value := [.string r.p, .string r.c, .int .i64 r.k, .int .i64 (r.s 0), .int .i64 (r.s 1), .int .i64 (r.s 2), .int .i64 (r.s 3), .int .i64 (r.s 4), .int .i64 (r.s 5), .int .i64 (r.s 6), .int .i64 (r.s 7)]
theorem rowL_at (r : Rw) : ∀ {i : Nat}, i < 8 → (rowL r)[3 + i]? = some (.int .i64 (r.s i))
  | 0, _ => rfl
  | 1, _ => rfl
  | 2, _ => rfl
  | 3, _ => rfl
  | 4, _ => rfl
  | 5, _ => rfl
  | 6, _ => rfl
  | 7, _ => rfl
/-- What is left of a number when what the rows of a kind hold of a node is taken off. -/
def frI (i : Nat) (k : Int) : List Rw → Int → Int
  | [], n => n
  | r :: l, n => frI i k l (if r.k = k then wrap64 (n - r.s i) else n)
def freeV (zs : List Zn) (ls : List Rw) (i k : Int) : Int := if 0 ≤ i ∧ i < 8 ∧ 0 ≤ k ∧ k ≤ 1 then frI i.toNat k ls (roomV zs i k) else 0

set_option maxHeartbeats 2000000 in
set_option maxRecDepth 100000 in
theorem rfree_is {zv lv : Value} {zs : List Zn} {ls : List Rw} (i k : Int) (w : World) (hz : RdZ w zv zs) (hf : ∀ z ∈ zs, Fit z) (h : RdW w lv ls) :
    Calls Try.prog 25 #[.agg #[zv, lv], .int .i64 i, .int .i64 k] w fun e w' => e = .returned (.int .i64 (freeV zs ls i k)) ∧ Below w.heap.size w w' := by
  obtain ⟨R, hR⟩ : ∃ R, R = freeV zs ls i k := ⟨_, rfl⟩
  rw [← hR]
  have HR : Hid (R = freeV zs ls i k) := hR
  clear hR
  obtain ⟨n, hn⟩ : ∃ n, n = roomV zs i k := ⟨_, rfl⟩
  obtain ⟨a, cap, rfl, h1, h2, h3⟩ := h
  have RM : Hid (∀ w1, Below w.heap.size w w1 → Calls Try.prog 24 #[.agg #[zv, .slice a ls.length cap], .int .i64 i, .int .i64 k] w1 fun e w' => e = .returned (.int .i64 n) ∧ Below w1.heap.size w1 w') := fun w1 hb => by rw [hn]; exact room_is a ls.length cap i k w1 (hz.later hb) hf
  obtain ⟨az, cz, rfl, -, -, -⟩ := hz
  have H3 : Hid (∀ (j : Nat) (r : Rw), ls[j]? = some r → (r.p.size ≤ maxLen ∧ r.c.size ≤ maxLen) ∧ ∃ b off : Nat, a = some ⟨b, off, none⟩ ∧ El w b (off + j * 11) r) := h3
  have zl : ls.length ≤ maxLen := by omega
  unfold maxLen at zl
  clear h3 hf
  by_cases i0 : i < 0
  · have X : Hid (R = 0) := by unfold Hid; rw [HR.out, freeV, if_neg (by omega)]
    clear HR H3 hn
    go_enter Try.func25, Try.ntmps25
    go_wp2_with (fail)
    refine (RM.out _ (by go_grown)).mono ?_
    rintro e w1 ⟨rfl, hw1⟩
    have HB1 := Below.trans (show Below w.heap.size w _ by go_grown) (hw1.mono (by simp))
    go_wp2
    go_ret
    exact ⟨by rw [X.out]; rfl, HB1⟩
  by_cases i7 : 7 < i
  · have X : Hid (R = 0) := by unfold Hid; rw [HR.out, freeV, if_neg (by omega)]
    clear HR H3 hn
    go_enter Try.func25, Try.ntmps25
    go_wp2_with (fail)
    refine (RM.out _ (by go_grown)).mono ?_
    rintro e w1 ⟨rfl, hw1⟩
    have HB1 := Below.trans (show Below w.heap.size w _ by go_grown) (hw1.mono (by simp))
    go_wp2
    go_ret
    exact ⟨by rw [X.out]; rfl, HB1⟩
  by_cases k0 : k < 0
  · have X : Hid (R = 0) := by unfold Hid; rw [HR.out, freeV, if_neg (by omega)]
    clear HR H3 hn
    go_enter Try.func25, Try.ntmps25
    go_wp2_with (fail)
    refine (RM.out _ (by go_grown)).mono ?_
    rintro e w1 ⟨rfl, hw1⟩
    have HB1 := Below.trans (show Below w.heap.size w _ by go_grown) (hw1.mono (by simp))
    go_wp2
    go_ret
    exact ⟨by rw [X.out]; rfl, HB1⟩
  by_cases k1 : 1 < k
  · have X : Hid (R = 0) := by unfold Hid; rw [HR.out, freeV, if_neg (by omega)]
    clear HR H3 hn
    go_enter Try.func25, Try.ntmps25
    go_wp2_with (fail)
    refine (RM.out _ (by go_grown)).mono ?_
    rintro e w1 ⟨rfl, hw1⟩
    have HB1 := Below.trans (show Below w.heap.size w _ by go_grown) (hw1.mono (by simp))
    go_wp2
    go_ret
    exact ⟨by rw [X.out]; rfl, HB1⟩
  obtain ⟨m, rfl⟩ : ∃ m : Nat, i = m := ⟨i.toNat, by omega⟩
  have m8 : m < 8 := by omega
  have X : Hid (frI m k (ls.drop 0) n = R) := by unfold Hid; rw [HR.out, freeV, if_pos (by omega), hn]; rfl
  clear HR hn
  go_enter Try.func25, Try.ntmps25
  go_wp2_with (fail)
  refine (RM.out _ (by go_grown)).mono ?_
  rintro e w1 ⟨rfl, hw1⟩
  have HB1 := Below.trans (show Below w.heap.size w _ by go_grown) (hw1.mono (by simp))
  have q1 : Cs w1 w.heap.size [.slice az zs.length cz, .slice a ls.length cap] := Cs.later hw1 (Cs.new _ _ _ _ rfl)
  have s0 := q1.1 0 _ rfl
  have s1 := q1.1 1 _ rfl
  clear hw1 RM q1
  go_wp2
  go_loopw [7, 31] (fun v f wr => ∃ (j : Nat) (n : Int), f = .int .i64 j ∧ j ≤ ls.length ∧ v = .int .i64 n ∧ Hid (frI m k (ls.drop j) n = R) ∧ Below w.heap.size w wr) (fun _ f _ => ls.length - (intOf f).toNat)
  case atStart => exact ⟨0, n, rfl, by omega, rfl, X, HB1⟩
  case round =>
    clear X HB1 s0 s1
    obtain ⟨j, n, rfl, jl, rfl, HO, HB⟩ := hrel
    by_cases cj : j < ls.length
    · obtain ⟨r, hr⟩ : ∃ r, ls[j]? = some r := ⟨ls[j], List.getElem?_eq_getElem cj⟩
      obtain ⟨-, b, off, rfl, T⟩ := H3.out j r hr
      obtain ⟨t0, t1, t2, t3, t4, t5, t6, t7, t8, t9, t10⟩ := T.later HB
      have E := HO.out
      rw [List.drop_eq_getElem_cons cj, show ls[j] = r from (List.getElem?_eq_some_iff.1 hr).2, frI] at E
      have j0 : (0 : Int) ≤ (j : Int) := by omega
      have j1 : (j : Int) < (ls.length : Int) := by omega
      have HE : Hid (frI m k (ls.drop (j + 1)) (if r.k = k then wrap64 (n - r.s m) else n) = R) := E
      clear E T hr HO H3
      go_upto_region 7 with (fail)
      have q2 : Cs (wr.alloc (.cells #[.string r.p, .string r.c, .int .i64 r.k, .int .i64 (r.s 0), .int .i64 (r.s 1), .int .i64 (r.s 2), .int .i64 (r.s 3), .int .i64 (r.s 4), .int .i64 (r.s 5), .int .i64 (r.s 6), .int .i64 (r.s 7)] 66)) wr.heap.size (rowL r) := Cs.new _ _ _ _ rfl
      have HB9 : Below w.heap.size w (wr.alloc (.cells #[.string r.p, .string r.c, .int .i64 r.k, .int .i64 (r.s 0), .int .i64 (r.s 1), .int .i64 (r.s 2), .int .i64 (r.s 3), .int .i64 (r.s 4), .int .i64 (r.s 5), .int .i64 (r.s 6), .int .i64 (r.s 7)] 66)) := HB.alloc HB.size _
      obtain ⟨q, hq⟩ : ∃ q, q = wr.heap.size := ⟨_, rfl⟩
      rw [← hq] at q2 ⊢
      clear hq
      generalize wr.alloc (.cells #[.string r.p, .string r.c, .int .i64 r.k, .int .i64 (r.s 0), .int .i64 (r.s 1), .int .i64 (r.s 2), .int .i64 (r.s 3), .int .i64 (r.s 4), .int .i64 (r.s 5), .int .i64 (r.s 6), .int .i64 (r.s 7)] 66) = W9 at *
      have d2 := q2.1 2 _ rfl
      have d3 := q2.1 (3 + m) _ (rowL_at r m8)
      have m0 : (0 : Int) ≤ (m : Int) := by omega
      have m1 : (m : Int) < 8 := by omega
      clear t0 t1 t2 t3 t4 t5 t6 t7 t8 t9 t10 HB q2
      by_cases e : r.k = k
      · have HE' : Hid (frI m k (ls.drop (j + 1)) (wrap64 (n - r.s m)) = R) := by have := HE.out; rwa [if_pos e] at this
        have e1 : (r.k == k) = true := by simp [e]
        clear HE
        go_wp2
        go_roundw
        case rel => exact ⟨j + 1, _, by go_num, by omega, rfl, HE', HB9⟩
        case measure => simp [intOf]; omega
      · have HE' : Hid (frI m k (ls.drop (j + 1)) n = R) := by have := HE.out; rwa [if_neg e] at this
        have e1 : (r.k == k) = false := by simp [e]
        clear HE
        go_wp2
        go_roundw
        case rel => exact ⟨j + 1, _, by go_num, by omega, rfl, HE', HB9⟩
        case measure => simp [intOf]; omega
    · obtain rfl : j = ls.length := by omega
      have X : Hid (n = R) := by
        have := HO.out
        rwa [List.drop_length] at this
      clear HO H3
      go_wp2
      go_ret
      exact ⟨by rw [← X.out]; rfl, HB⟩

end Go.Proofs.Ytpefjcgccbfgbaa.Bk
