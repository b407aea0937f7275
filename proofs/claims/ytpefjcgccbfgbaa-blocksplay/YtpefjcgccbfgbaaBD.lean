/-
  The document's tables of blocks without a pod's rows (Release), and without an owner's (Without), at this program. Conditions: the table reads as rows, at most 2^40.
-/
import Derived.Test.YtpefjcgccbfgbaaBC
namespace Go.Proofs.Ytpefjcgccbfgbaa.Bk
open Go.RowKit

theorem OwnW.mono {W : World} {b b' : Nat} {o : Value} {xs : List Rw} (h : OwnW W b o xs) (hb : b' ≤ b) : OwnW W b' o xs := by
  obtain ⟨e, h | ⟨g, cap, cur, q, q1, q2⟩⟩ := h
  · exact ⟨e, .inl h⟩
  · exact ⟨e, .inr ⟨g, cap, cur, q, by omega, q2⟩⟩
theorem OwnW.form {W : World} {b : Nat} {o : Value} {xs : List Rw} (h : OwnW W b o xs) : ∃ (a : Option Addr) (cap : Nat), o = .slice a xs.length cap := by
  obtain ⟨-, ⟨rfl, e⟩ | ⟨g, cap, cur, rfl, -⟩⟩ := h
  · exact ⟨none, 0, by rw [e]⟩
  · exact ⟨_, cap, rfl⟩
theorem own_set (W : World) (b o : Nat) (v : Value) : W.grownBy (W.setCell ⟨b, o, none⟩ v) (some b) :=
  ⟨rfl, rfl, rfl, by show W.heap.size ≤ (W.heap.modify b _).size; rw [Array.size_modify]; exact Nat.le_refl _, fun k _ hk => Below.heap_setCell _ _ _ k (fun e => hk (by rw [e]))⟩
/-- Kept by a store into a block that lies ahead. -/
theorem OwnW.put {W W' : World} {b r : Nat} {o : Value} {xs : List Rw} (h : OwnW W b o xs) (hr : r < b) (hg : W.grownBy W' (some r)) : OwnW W' b o xs :=
  h.kept hg (.inr fun e => by have := h.ge r e; omega)

set_option maxHeartbeats 2000000 in
set_option maxRecDepth 100000 in
theorem rrelease_is {lv : Value} {ls : List Rw} (az : Option Addr) (nz cz : Nat) (p : ByteArray) (w : World) (h : RdW w lv ls) (hn : ls.length ≤ 1099511627776) :
    Calls Try.prog 21 #[.agg #[.slice az nz cz, lv], .string p] w fun e w' => ∃ o, e = .returned (.agg #[.slice az nz cz, o]) ∧ OwnW w' w.heap.size o (rel p ls) ∧ Below w.heap.size w w' := by
  obtain ⟨f, hf⟩ : ∃ f : Rw → Bool, f = fun r => !eqS r.p p := ⟨_, rfl⟩
  have F : Hid (rel p ls = ls.filter f) := by rw [hf]; rfl
  have HF : Hid (∀ r, f r = !eqS r.p p) := fun r => by rw [hf]
  rw [F.out]
  clear hf F
  obtain ⟨a, cap, rfl, h1, h2, h3⟩ := h
  have H3 : Hid (∀ (j : Nat) (r : Rw), ls[j]? = some r → (r.p.size ≤ maxLen ∧ r.c.size ≤ maxLen) ∧ ∃ b off : Nat, a = some ⟨b, off, none⟩ ∧ El w b (off + j * 11) r) := h3
  have zl : ls.length ≤ maxLen := by omega
  unfold maxLen at zl
  clear h3
  obtain ⟨i0, hi, hz0, hz1, hz2⟩ := info_parts rowInfo
  go_enter Try.func21, Try.ntmps21
  go_wp2
  obtain ⟨pt, hpt⟩ : ∃ pt, pt = w.heap.size := ⟨_, rfl⟩
  obtain ⟨pr, hpr⟩ : ∃ pr, pr = w.heap.size + 1 := ⟨_, rfl⟩
  have HP : Hid (pt = w.heap.size ∧ pr = w.heap.size + 1) := by show pt = w.heap.size ∧ pr = w.heap.size + 1; omega
  go_loopw [5, 11] (fun o f' wr => ∃ j : Nat, f' = .int .i64 j ∧ j ≤ ls.length ∧ OwnW wr (w.heap.size + 2) o ((ls.take j).filter f) ∧ Cs wr pt [.slice az nz cz, .slice a ls.length cap] ∧ Cs wr pr [.slice none 0 0, .slice none 0 0] ∧ Below w.heap.size w wr) (fun _ f' _ => ls.length - (intOf f').toNat)
  case atStart =>
    refine ⟨0, rfl, by omega, OwnW.nil _ _, ?_, ?_, by go_grown⟩
    · rw [hpt]; exact Cs.alloc (Cs.new _ _ _ _ rfl) _
    · rw [hpr]; exact Cs.new _ _ _ _ (by simp)
  case round =>
    clear hpt hpr
    obtain ⟨j, rfl, jl, own, qt, qr, HB⟩ := hrel
    have hs := HB.size
    obtain ⟨rfl, rfl⟩ := HP.out
    have tz := qt.2.2
    have rz := qr.2.2
    have ol : Hid (((ls.take j).filter f).length ≤ j) := Nat.le_trans (List.length_filter_le _ _) (by rw [List.length_take]; omega)
    by_cases cj : j < ls.length
    · obtain ⟨r, hr⟩ : ∃ r, ls[j]? = some r := ⟨ls[j], List.getElem?_eq_getElem cj⟩
      obtain ⟨-, b, off, rfl, T⟩ := H3.out j r hr
      obtain ⟨t0, t1, t2, t3, t4, t5, t6, t7, t8, t9, t10⟩ := T.later HB
      have FN : Hid ((ls.take (j + 1)).filter f = if (!eqS r.p p) then (ls.take j).filter f ++ [r] else (ls.take j).filter f) := by have := filter_next f hr; rwa [HF.out r] at this
      have j0 : (0 : Int) ≤ (j : Int) := by omega
      have j1 : (j : Int) < (ls.length : Int) := by omega
      clear T hr H3 HF
      go_upto_region 5 with (fail)
      have q2 : Cs (wr.alloc (.cells #[.string r.p, .string r.c, .int .i64 r.k, .int .i64 (r.s 0), .int .i64 (r.s 1), .int .i64 (r.s 2), .int .i64 (r.s 3), .int .i64 (r.s 4), .int .i64 (r.s 5), .int .i64 (r.s 6), .int .i64 (r.s 7)] 66)) wr.heap.size (rowL r) := Cs.new _ _ _ _ rfl
      have HB9 : Below w.heap.size w (wr.alloc (.cells #[.string r.p, .string r.c, .int .i64 r.k, .int .i64 (r.s 0), .int .i64 (r.s 1), .int .i64 (r.s 2), .int .i64 (r.s 3), .int .i64 (r.s 4), .int .i64 (r.s 5), .int .i64 (r.s 6), .int .i64 (r.s 7)] 66)) := HB.alloc HB.size _
      have own9 := own.alloc (.cells #[.string r.p, .string r.c, .int .i64 r.k, .int .i64 (r.s 0), .int .i64 (r.s 1), .int .i64 (r.s 2), .int .i64 (r.s 3), .int .i64 (r.s 4), .int .i64 (r.s 5), .int .i64 (r.s 6), .int .i64 (r.s 7)] 66)
      have kt := qt.alloc (.cells #[.string r.p, .string r.c, .int .i64 r.k, .int .i64 (r.s 0), .int .i64 (r.s 1), .int .i64 (r.s 2), .int .i64 (r.s 3), .int .i64 (r.s 4), .int .i64 (r.s 5), .int .i64 (r.s 6), .int .i64 (r.s 7)] 66)
      have kr := qr.alloc (.cells #[.string r.p, .string r.c, .int .i64 r.k, .int .i64 (r.s 0), .int .i64 (r.s 1), .int .i64 (r.s 2), .int .i64 (r.s 3), .int .i64 (r.s 4), .int .i64 (r.s 5), .int .i64 (r.s 6), .int .i64 (r.s 7)] 66)
      obtain ⟨q, hq⟩ : ∃ q, q = wr.heap.size := ⟨_, rfl⟩
      have HQ : Hid ((w.heap.size + 2) ≤ q) := by show (w.heap.size + 2) ≤ q; omega
      rw [← hq] at q2 ⊢
      clear hq
      generalize wr.alloc (.cells #[.string r.p, .string r.c, .int .i64 r.k, .int .i64 (r.s 0), .int .i64 (r.s 1), .int .i64 (r.s 2), .int .i64 (r.s 3), .int .i64 (r.s 4), .int .i64 (r.s 5), .int .i64 (r.s 6), .int .i64 (r.s 7)] 66) = W9 at *
      clear t0 t1 t2 t3 t4 t5 t6 t7 t8 t9 t10 own qt qr HB tz rz hs
      have hs9 := HB9.size
      have d0 := q2.1 0 _ rfl
      have d1 := q2.1 1 _ rfl
      have d2 := q2.1 2 _ rfl
      have d3 := q2.1 3 _ rfl
      have d4 := q2.1 4 _ rfl
      have d5 := q2.1 5 _ rfl
      have d6 := q2.1 6 _ rfl
      have d7 := q2.1 7 _ rfl
      have d8 := q2.1 8 _ rfl
      have d9 := q2.1 9 _ rfl
      have d10 := q2.1 10 _ rfl
      have q2z := q2.2.2
      have rz := kr.2.2
      have e1 := eqS_l r.p p
      by_cases g : eqS r.p p = true
      · have FN' : (ls.take (j + 1)).filter f = (ls.take j).filter f := by have := FN.out; rwa [g] at this
        have own' := own9
        rw [← FN'] at own'
        clear FN'
        clear own9 FN
        rw [g] at e1
        go_wp2
        go_roundw
        case rel => exact ⟨j + 1, by go_num, by omega, own', kt, kr, HB9⟩
        case measure => simp [intOf]; omega
      · have g0 : eqS r.p p = false := by simpa using g
        have FN' : Hid ((ls.take (j + 1)).filter f = (ls.take j).filter f ++ [r]) := by have := FN.out; rwa [g0] at this
        clear FN g
        rw [g0] at e1
        clear g0
        go_upto_region 6 with (fail)
        -- APPEND
        have ow2 := own9.alloc (.cells #[.string r.p, .string r.c, .int .i64 r.k, .int .i64 (r.s 0), .int .i64 (r.s 1), .int .i64 (r.s 2), .int .i64 (r.s 3), .int .i64 (r.s 4), .int .i64 (r.s 5), .int .i64 (r.s 6), .int .i64 (r.s 7)] 66)
        go_wp2_with (first
          | (at_builtin; refine wpList_append_own _ rfl _ _ 41 rfl (w.heap.size + 2) 66 i0 (.agg #[.string ⟨#[]⟩, .string ⟨#[]⟩, .int .i64 0, .int .i64 0, .int .i64 0, .int .i64 0, .int .i64 0, .int .i64 0, .int .i64 0, .int .i64 0, .int .i64 0]) 11 104 Try.underlying41 hi hz0 hz1 hz2 rfl (by decide) _ _ _ rfl ow2 ⟨W9.heap.size, 0, none⟩ 1 1 (rowL r) rfl rfl ?c1 ?c2 ?c3 ?c4 ?c5 ?_)
          | fail)
        case c1 => first | exact rowL_new W9 r _ | exact fun j u hj => hj
        case c2 => exact rowL_one r
        case c3 => have := ol.out; unfold maxLen; omega
        case c4 => have := ol.out; omega
        case c5 => first | omega | (simp; omega)
        · intro v' w4 hown' hgrow _
          have own4 := OwnW.more hown'
          rw [← FN'.out] at own4
          have HB4 : Below w.heap.size w w4 := (HB9.alloc HB9.size _).grown hgrow (by simp; omega) (fun k hk => by have := ow2.ge k hk; omega)
          have k4 : Cs w4 w.heap.size [.slice az nz cz, .slice (some ⟨b, off, none⟩) ls.length cap] := Cs.grown (kt.alloc _) hgrow (fun e => by have := ow2.ge _ e.symm; omega)
          have r4 : Cs w4 (w.heap.size + 1) [.slice none 0 0, .slice none 0 0] := Cs.grown (kr.alloc _) hgrow (fun e => by have := ow2.ge _ e.symm; omega)
          clear ow2 own9 hown' hgrow FN' HB9 kt kr d0 d1 d2 d3 d4 d5 d6 d7 d8 d9 d10 q2 q2z rz hs9
          go_wp2
          go_roundw
          case rel => exact ⟨j + 1, by go_num, by omega, own4, k4, r4, HB4⟩
          case measure => simp [intOf]; omega
    · obtain rfl : j = ls.length := by omega
      rw [List.take_length] at own
      obtain ⟨oa, ocap, rfl⟩ := own.form
      have OW : Hid (OwnW wr (w.heap.size + 2) (.slice oa (ls.filter f).length ocap) (ls.filter f)) := own
      clear own
      have t0 := qt.1 0 _ rfl
      have r0 := qr.1 0 _ rfl
      have r1 := qr.1 1 _ rfl
      have fr0 := qr.2.1 0 (by show 0 < 2; omega)
      have fr1 := qr.2.1 1 (by show 1 < 2; omega)
      go_wp2
      refine bodyPost_ret (v := .agg #[.slice az nz cz, .slice oa (ls.filter f).length ocap]) (by simp [results, Try.results21, go_sem, r0, r1]) rfl ⟨_, rfl, OwnW.mono (((OW.out).put (r := w.heap.size + 1) (by omega) (own_set _ _ _ _)).put (r := w.heap.size + 1) (by omega) (own_set _ _ _ _)) (by omega), by go_grown⟩

set_option maxHeartbeats 2000000 in
set_option maxRecDepth 100000 in
theorem rwithout_is {lv : Value} {ls : List Rw} (az : Option Addr) (nz cz : Nat) (p c : ByteArray) (k : Int) (w : World) (h : RdW w lv ls) (hn : ls.length ≤ 1099511627776) :
    Calls Try.prog 38 #[.agg #[.slice az nz cz, lv], .agg #[.string p, .string c, .int .i64 k]] w fun e w' => ∃ o, e = .returned (.agg #[.slice az nz cz, o]) ∧ OwnW w' w.heap.size o (wth p c k ls) ∧ Below w.heap.size w w' := by
  obtain ⟨f, hf⟩ : ∃ f : Rw → Bool, f = fun r => !eqO r.p r.c r.k p c k := ⟨_, rfl⟩
  have F : Hid (wth p c k ls = ls.filter f) := by rw [hf]; rfl
  have HF : Hid (∀ r, f r = !eqO r.p r.c r.k p c k) := fun r => by rw [hf]
  rw [F.out]
  clear hf F
  obtain ⟨a, cap, rfl, h1, h2, h3⟩ := h
  have H3 : Hid (∀ (j : Nat) (r : Rw), ls[j]? = some r → (r.p.size ≤ maxLen ∧ r.c.size ≤ maxLen) ∧ ∃ b off : Nat, a = some ⟨b, off, none⟩ ∧ El w b (off + j * 11) r) := h3
  have zl : ls.length ≤ maxLen := by omega
  unfold maxLen at zl
  clear h3
  obtain ⟨i0, hi, hz0, hz1, hz2⟩ := info_parts rowInfo
  go_enter Try.func38, Try.ntmps38
  go_wp2
  obtain ⟨pt, hpt⟩ : ∃ pt, pt = w.heap.size := ⟨_, rfl⟩
  obtain ⟨po, hpo⟩ : ∃ po, po = w.heap.size + 1 := ⟨_, rfl⟩
  obtain ⟨pr, hpr⟩ : ∃ pr, pr = w.heap.size + 1 + 1 := ⟨_, rfl⟩
  have HP : Hid (pt = w.heap.size ∧ po = w.heap.size + 1 ∧ pr = w.heap.size + 1 + 1) := by show pt = w.heap.size ∧ po = w.heap.size + 1 ∧ pr = w.heap.size + 1 + 1; omega
  go_loopw [5, 11] (fun o f' wr => ∃ j : Nat, f' = .int .i64 j ∧ j ≤ ls.length ∧ OwnW wr (w.heap.size + 3) o ((ls.take j).filter f) ∧ Cs wr pt [.slice az nz cz, .slice a ls.length cap] ∧ Cs wr po [.string p, .string c, .int .i64 k] ∧ Cs wr pr [.slice none 0 0, .slice none 0 0] ∧ Below w.heap.size w wr) (fun _ f' _ => ls.length - (intOf f').toNat)
  case atStart =>
    refine ⟨0, rfl, by omega, OwnW.nil _ _, ?_, ?_, ?_, by go_grown⟩
    · rw [hpt]; exact Cs.alloc (Cs.alloc (Cs.new _ _ _ _ rfl) _) _
    · rw [hpo]; exact Cs.alloc (Cs.new _ _ _ _ (by simp)) _
    · rw [hpr]; exact Cs.new _ _ _ _ (by simp)
  case round =>
    clear hpt hpo hpr
    obtain ⟨j, rfl, jl, own, qt, qo, qr, HB⟩ := hrel
    have hs := HB.size
    obtain ⟨rfl, rfl, rfl⟩ := HP.out
    have tz := qt.2.2
    have oz := qo.2.2
    have rz := qr.2.2
    have ol : Hid (((ls.take j).filter f).length ≤ j) := Nat.le_trans (List.length_filter_le _ _) (by rw [List.length_take]; omega)
    by_cases cj : j < ls.length
    · obtain ⟨r, hr⟩ : ∃ r, ls[j]? = some r := ⟨ls[j], List.getElem?_eq_getElem cj⟩
      obtain ⟨-, b, off, rfl, T⟩ := H3.out j r hr
      obtain ⟨t0, t1, t2, t3, t4, t5, t6, t7, t8, t9, t10⟩ := T.later HB
      have FN : Hid ((ls.take (j + 1)).filter f = if (!eqO r.p r.c r.k p c k) then (ls.take j).filter f ++ [r] else (ls.take j).filter f) := by have := filter_next f hr; rwa [HF.out r] at this
      have j0 : (0 : Int) ≤ (j : Int) := by omega
      have j1 : (j : Int) < (ls.length : Int) := by omega
      clear T hr H3 HF
      go_upto_region 5 with (fail)
      have q2 : Cs (wr.alloc (.cells #[.string r.p, .string r.c, .int .i64 r.k, .int .i64 (r.s 0), .int .i64 (r.s 1), .int .i64 (r.s 2), .int .i64 (r.s 3), .int .i64 (r.s 4), .int .i64 (r.s 5), .int .i64 (r.s 6), .int .i64 (r.s 7)] 66)) wr.heap.size (rowL r) := Cs.new _ _ _ _ rfl
      have HB9 : Below w.heap.size w (wr.alloc (.cells #[.string r.p, .string r.c, .int .i64 r.k, .int .i64 (r.s 0), .int .i64 (r.s 1), .int .i64 (r.s 2), .int .i64 (r.s 3), .int .i64 (r.s 4), .int .i64 (r.s 5), .int .i64 (r.s 6), .int .i64 (r.s 7)] 66)) := HB.alloc HB.size _
      have own9 := own.alloc (.cells #[.string r.p, .string r.c, .int .i64 r.k, .int .i64 (r.s 0), .int .i64 (r.s 1), .int .i64 (r.s 2), .int .i64 (r.s 3), .int .i64 (r.s 4), .int .i64 (r.s 5), .int .i64 (r.s 6), .int .i64 (r.s 7)] 66)
      have kt := qt.alloc (.cells #[.string r.p, .string r.c, .int .i64 r.k, .int .i64 (r.s 0), .int .i64 (r.s 1), .int .i64 (r.s 2), .int .i64 (r.s 3), .int .i64 (r.s 4), .int .i64 (r.s 5), .int .i64 (r.s 6), .int .i64 (r.s 7)] 66)
      have ko := qo.alloc (.cells #[.string r.p, .string r.c, .int .i64 r.k, .int .i64 (r.s 0), .int .i64 (r.s 1), .int .i64 (r.s 2), .int .i64 (r.s 3), .int .i64 (r.s 4), .int .i64 (r.s 5), .int .i64 (r.s 6), .int .i64 (r.s 7)] 66)
      have kr := qr.alloc (.cells #[.string r.p, .string r.c, .int .i64 r.k, .int .i64 (r.s 0), .int .i64 (r.s 1), .int .i64 (r.s 2), .int .i64 (r.s 3), .int .i64 (r.s 4), .int .i64 (r.s 5), .int .i64 (r.s 6), .int .i64 (r.s 7)] 66)
      obtain ⟨q, hq⟩ : ∃ q, q = wr.heap.size := ⟨_, rfl⟩
      have HQ : Hid ((w.heap.size + 3) ≤ q) := by show (w.heap.size + 3) ≤ q; omega
      rw [← hq] at q2 ⊢
      clear hq
      generalize wr.alloc (.cells #[.string r.p, .string r.c, .int .i64 r.k, .int .i64 (r.s 0), .int .i64 (r.s 1), .int .i64 (r.s 2), .int .i64 (r.s 3), .int .i64 (r.s 4), .int .i64 (r.s 5), .int .i64 (r.s 6), .int .i64 (r.s 7)] 66) = W9 at *
      clear t0 t1 t2 t3 t4 t5 t6 t7 t8 t9 t10 own qt qo qr HB tz oz rz hs
      have hs9 := HB9.size
      have d0 := q2.1 0 _ rfl
      have d1 := q2.1 1 _ rfl
      have d2 := q2.1 2 _ rfl
      have d3 := q2.1 3 _ rfl
      have d4 := q2.1 4 _ rfl
      have d5 := q2.1 5 _ rfl
      have d6 := q2.1 6 _ rfl
      have d7 := q2.1 7 _ rfl
      have d8 := q2.1 8 _ rfl
      have d9 := q2.1 9 _ rfl
      have d10 := q2.1 10 _ rfl
      have o0 := ko.1 0 _ rfl
      have o1 := ko.1 1 _ rfl
      have o2 := ko.1 2 _ rfl
      have oz := ko.2.2
      have q2z := q2.2.2
      have rz := kr.2.2
      have e1 := eqS_l r.p p
      have e2 := eqS_l r.c c
      by_cases g : eqO r.p r.c r.k p c k = true
      · have FN' : (ls.take (j + 1)).filter f = (ls.take j).filter f := by have := FN.out; rwa [g] at this
        have own' := own9
        rw [← FN'] at own'
        clear FN'
        clear own9 FN
        obtain ⟨g1, g2, g3⟩ := eqO_iff.1 g
        rw [g1] at e1
        rw [g2] at e2
        have k1 : (r.k == k) = true := by simp [g3]
        clear g g1 g2
        go_wp2
        go_roundw
        case rel => exact ⟨j + 1, by go_num, by omega, own', kt, ko, kr, HB9⟩
        case measure => simp [intOf]; omega
      · have g0 : eqO r.p r.c r.k p c k = false := by simpa using g
        have FN' : Hid ((ls.take (j + 1)).filter f = (ls.take j).filter f ++ [r]) := by have := FN.out; rwa [g0] at this
        clear FN g
        cases h1 : eqS r.p p with
        | false =>
          rw [h1] at e1
          clear h1 g0 e2
          go_upto_region 6 with (fail)
          clear e1
          -- APPEND
          have ow2 := own9.alloc (.cells #[.string r.p, .string r.c, .int .i64 r.k, .int .i64 (r.s 0), .int .i64 (r.s 1), .int .i64 (r.s 2), .int .i64 (r.s 3), .int .i64 (r.s 4), .int .i64 (r.s 5), .int .i64 (r.s 6), .int .i64 (r.s 7)] 66)
          go_wp2_with (first
            | (at_builtin; refine wpList_append_own _ rfl _ _ 41 rfl (w.heap.size + 3) 66 i0 (.agg #[.string ⟨#[]⟩, .string ⟨#[]⟩, .int .i64 0, .int .i64 0, .int .i64 0, .int .i64 0, .int .i64 0, .int .i64 0, .int .i64 0, .int .i64 0, .int .i64 0]) 11 104 Try.underlying41 hi hz0 hz1 hz2 rfl (by decide) _ _ _ rfl ow2 ⟨W9.heap.size, 0, none⟩ 1 1 (rowL r) rfl rfl ?c1 ?c2 ?c3 ?c4 ?c5 ?_)
            | fail)
          case c1 => first | exact rowL_new W9 r _ | exact fun j u hj => hj
          case c2 => exact rowL_one r
          case c3 => have := ol.out; unfold maxLen; omega
          case c4 => have := ol.out; omega
          case c5 => first | omega | (simp; omega)
          · intro v' w4 hown' hgrow _
            have own4 := OwnW.more hown'
            rw [← FN'.out] at own4
            have HB4 : Below w.heap.size w w4 := (HB9.alloc HB9.size _).grown hgrow (by simp; omega) (fun k hk => by have := ow2.ge k hk; omega)
            have k4 : Cs w4 w.heap.size [.slice az nz cz, .slice (some ⟨b, off, none⟩) ls.length cap] := Cs.grown (kt.alloc _) hgrow (fun e => by have := ow2.ge _ e.symm; omega)
            have o4 : Cs w4 (w.heap.size + 1) [.string p, .string c, .int .i64 k] := Cs.grown (ko.alloc _) hgrow (fun e => by have := ow2.ge _ e.symm; omega)
            have r4 : Cs w4 (w.heap.size + 1 + 1) [.slice none 0 0, .slice none 0 0] := Cs.grown (kr.alloc _) hgrow (fun e => by have := ow2.ge _ e.symm; omega)
            clear ow2 own9 hown' hgrow FN' HB9 kt ko kr d0 d1 d2 d3 d4 d5 d6 d7 d8 d9 d10 q2 q2z rz hs9
            go_wp2
            go_roundw
            case rel => exact ⟨j + 1, by go_num, by omega, own4, k4, o4, r4, HB4⟩
            case measure => simp [intOf]; omega
        | true =>
          rw [h1] at e1
          cases h2 : eqS r.c c with
          | false =>
            rw [h2] at e2
            clear h1 h2 g0
            go_upto_region 6 with (fail)
            clear e1 e2
            -- APPEND
            have ow2 := own9.alloc (.cells #[.string r.p, .string r.c, .int .i64 r.k, .int .i64 (r.s 0), .int .i64 (r.s 1), .int .i64 (r.s 2), .int .i64 (r.s 3), .int .i64 (r.s 4), .int .i64 (r.s 5), .int .i64 (r.s 6), .int .i64 (r.s 7)] 66)
            go_wp2_with (first
              | (at_builtin; refine wpList_append_own _ rfl _ _ 41 rfl (w.heap.size + 3) 66 i0 (.agg #[.string ⟨#[]⟩, .string ⟨#[]⟩, .int .i64 0, .int .i64 0, .int .i64 0, .int .i64 0, .int .i64 0, .int .i64 0, .int .i64 0, .int .i64 0, .int .i64 0]) 11 104 Try.underlying41 hi hz0 hz1 hz2 rfl (by decide) _ _ _ rfl ow2 ⟨W9.heap.size, 0, none⟩ 1 1 (rowL r) rfl rfl ?c1 ?c2 ?c3 ?c4 ?c5 ?_)
              | fail)
            case c1 => first | exact rowL_new W9 r _ | exact fun j u hj => hj
            case c2 => exact rowL_one r
            case c3 => have := ol.out; unfold maxLen; omega
            case c4 => have := ol.out; omega
            case c5 => first | omega | (simp; omega)
            · intro v' w4 hown' hgrow _
              have own4 := OwnW.more hown'
              rw [← FN'.out] at own4
              have HB4 : Below w.heap.size w w4 := (HB9.alloc HB9.size _).grown hgrow (by simp; omega) (fun k hk => by have := ow2.ge k hk; omega)
              have k4 : Cs w4 w.heap.size [.slice az nz cz, .slice (some ⟨b, off, none⟩) ls.length cap] := Cs.grown (kt.alloc _) hgrow (fun e => by have := ow2.ge _ e.symm; omega)
              have o4 : Cs w4 (w.heap.size + 1) [.string p, .string c, .int .i64 k] := Cs.grown (ko.alloc _) hgrow (fun e => by have := ow2.ge _ e.symm; omega)
              have r4 : Cs w4 (w.heap.size + 1 + 1) [.slice none 0 0, .slice none 0 0] := Cs.grown (kr.alloc _) hgrow (fun e => by have := ow2.ge _ e.symm; omega)
              clear ow2 own9 hown' hgrow FN' HB9 kt ko kr d0 d1 d2 d3 d4 d5 d6 d7 d8 d9 d10 q2 q2z rz hs9
              go_wp2
              go_roundw
              case rel => exact ⟨j + 1, by go_num, by omega, own4, k4, o4, r4, HB4⟩
              case measure => simp [intOf]; omega
          | true =>
            rw [h2] at e2
            have k1 : (r.k == k) = false := by unfold eqO at g0; rw [h1, h2] at g0; simpa using g0
            clear h1 h2 g0
            go_upto_region 6 with (fail)
            clear e1 e2 k1
            -- APPEND
            have ow2 := own9.alloc (.cells #[.string r.p, .string r.c, .int .i64 r.k, .int .i64 (r.s 0), .int .i64 (r.s 1), .int .i64 (r.s 2), .int .i64 (r.s 3), .int .i64 (r.s 4), .int .i64 (r.s 5), .int .i64 (r.s 6), .int .i64 (r.s 7)] 66)
            go_wp2_with (first
              | (at_builtin; refine wpList_append_own _ rfl _ _ 41 rfl (w.heap.size + 3) 66 i0 (.agg #[.string ⟨#[]⟩, .string ⟨#[]⟩, .int .i64 0, .int .i64 0, .int .i64 0, .int .i64 0, .int .i64 0, .int .i64 0, .int .i64 0, .int .i64 0, .int .i64 0]) 11 104 Try.underlying41 hi hz0 hz1 hz2 rfl (by decide) _ _ _ rfl ow2 ⟨W9.heap.size, 0, none⟩ 1 1 (rowL r) rfl rfl ?c1 ?c2 ?c3 ?c4 ?c5 ?_)
              | fail)
            case c1 => first | exact rowL_new W9 r _ | exact fun j u hj => hj
            case c2 => exact rowL_one r
            case c3 => have := ol.out; unfold maxLen; omega
            case c4 => have := ol.out; omega
            case c5 => first | omega | (simp; omega)
            · intro v' w4 hown' hgrow _
              have own4 := OwnW.more hown'
              rw [← FN'.out] at own4
              have HB4 : Below w.heap.size w w4 := (HB9.alloc HB9.size _).grown hgrow (by simp; omega) (fun k hk => by have := ow2.ge k hk; omega)
              have k4 : Cs w4 w.heap.size [.slice az nz cz, .slice (some ⟨b, off, none⟩) ls.length cap] := Cs.grown (kt.alloc _) hgrow (fun e => by have := ow2.ge _ e.symm; omega)
              have o4 : Cs w4 (w.heap.size + 1) [.string p, .string c, .int .i64 k] := Cs.grown (ko.alloc _) hgrow (fun e => by have := ow2.ge _ e.symm; omega)
              have r4 : Cs w4 (w.heap.size + 1 + 1) [.slice none 0 0, .slice none 0 0] := Cs.grown (kr.alloc _) hgrow (fun e => by have := ow2.ge _ e.symm; omega)
              clear ow2 own9 hown' hgrow FN' HB9 kt ko kr d0 d1 d2 d3 d4 d5 d6 d7 d8 d9 d10 q2 q2z rz hs9
              go_wp2
              go_roundw
              case rel => exact ⟨j + 1, by go_num, by omega, own4, k4, o4, r4, HB4⟩
              case measure => simp [intOf]; omega
    · obtain rfl : j = ls.length := by omega
      rw [List.take_length] at own
      obtain ⟨oa, ocap, rfl⟩ := own.form
      have OW : Hid (OwnW wr (w.heap.size + 3) (.slice oa (ls.filter f).length ocap) (ls.filter f)) := own
      clear own
      have t0 := qt.1 0 _ rfl
      have r0 := qr.1 0 _ rfl
      have r1 := qr.1 1 _ rfl
      have fr0 := qr.2.1 0 (by show 0 < 2; omega)
      have fr1 := qr.2.1 1 (by show 1 < 2; omega)
      go_wp2
      refine bodyPost_ret (v := .agg #[.slice az nz cz, .slice oa (ls.filter f).length ocap]) (by simp [results, Try.results38, go_sem, r0, r1]) rfl ⟨_, rfl, OwnW.mono (((OW.out).put (r := w.heap.size + 1 + 1) (by omega) (own_set _ _ _ _)).put (r := w.heap.size + 1 + 1) (by omega) (own_set _ _ _ _)) (by omega), by go_grown⟩

end Go.Proofs.Ytpefjcgccbfgbaa.Bk
