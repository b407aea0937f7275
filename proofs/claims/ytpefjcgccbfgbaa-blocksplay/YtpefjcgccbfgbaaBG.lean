/-
  The document's Put of a table of blocks, at this program. Conditions: the table reads as zones that fit and as rows as a table has them; the owner's texts are within the reach.
-/
import Derived.Test.YtpefjcgccbfgbaaNS
import Derived.Deep.RegionHeld3
import Derived.Deep.RegionWith
import Derived.Deep.CutRange
import Derived.Deep.DeepCutAuto
import Derived.Deep.CutBlock
namespace Go.Proofs.Ytpefjcgccbfgbaa.Bk
open Go.RowKit

theorem free_wth {zs : List Zn} (hz : fits zs = true) {ls : List Rw} (h : Ord zs ls) (p c : ByteArray) (k : Int) {i : Nat} (hi : i < 8) : freeV zs (wth p c k ls) (i : Int) k = freV zs ls k i + hld p c k ls i := by
  have hs : Sound zs (wth p c k ls) := h.sound.filter _
  rw [freeV_is hz hs, ← fre_wth h.sorted p c k i]
  unfold freT isZ
  by_cases hl : i < zs.length
  · rw [decide_eq_true (by omega), if_pos rfl, show (i : Int).toNat = i by omega]
  · rw [decide_eq_false (by omega), if_neg (by simp)]
    have h1 := hs.le i k hi
    have h2 := sumK_nn (i := i) (k := k) fun r hr => hs.nn r hr i hi
    have h3 := roomV_out (zs := zs) (i := i) (by omega) k
    unfold freV
    omega
theorem drop_at {α : Type} {l : List α} {j : Nat} {r : α} (h : l[j]? = some r) : l.drop j = r :: l.drop (j + 1) := by
  obtain ⟨hj, e⟩ := List.getElem?_eq_some_iff.1 h
  rw [List.drop_eq_getElem_cons hj, e]
/-- What is left of the insertion. -/
def insT (x : Rw) (d : Bool) (l : List Rw) : List Rw := if d = true then l else insW x l
theorem wayS {n j : Nat} {v : Int} {R S : Bool} (E : ((decide (0 ≤ v ∧ v ≤ 1073741824 ∧ (n ≤ j → v = 0))) && S) = R) :
    ((0 ≤ v ∧ v ≤ 1073741824 ∧ (n ≤ j → v = 0)) ∧ S = R) ∨ (R = false ∧ (v < 0 ∨ (0 ≤ v ∧ 1073741824 < v) ∨ (0 < v ∧ v ≤ 1073741824 ∧ n ≤ j))) := by
  by_cases h : 0 ≤ v ∧ v ≤ 1073741824 ∧ (n ≤ j → v = 0)
  · rw [decide_eq_true h, Bool.true_and] at E
    exact .inl ⟨h, E⟩
  · rw [decide_eq_false h, Bool.false_and] at E
    exact .inr ⟨E.symm, by omega⟩

set_option maxHeartbeats 4000000 in
set_option maxRecDepth 100000 in
theorem rput_is {zv lv : Value} {zs : List Zn} {ls : List Rw} (p c : ByteArray) (k : Int) (s : Nat → Int) (w : World) (hz : RdZ w zv zs) (hf : fits zs = true) (h0 : OwnW w 0 lv ls) (hsz : ∀ r ∈ ls, r.p.size ≤ maxLen ∧ r.c.size ≤ maxLen) (ho : Ord zs ls) (hg : GdK p c k) (hn : ls.length ≤ 1073741824) :
    Calls Try.prog 22 #[.agg #[zv, lv], ownV p c k, spV s] w fun e w' => ∃ lv', e = .returned (.tuple #[.agg #[zv, lv'], .int .i64 (putE zs ls p c k s)]) ∧ OwnW w' 0 lv' (putL zs ls p c k s) ∧ Below w.heap.size w w' := by
  have h : RdW w lv ls := h0.read hsz
  obtain ⟨E, hE⟩ : ∃ E, E = putE zs ls p c k s := ⟨_, rfl⟩
  obtain ⟨ms, hms⟩ : ∃ ms, ms = putL zs ls p c k s := ⟨_, rfl⟩
  rw [← hE, ← hms]
  have HM : Hid (ms = if E = 0 then putR ls p c k s else ls) := by rw [hms, hE]; rfl
  obtain ⟨xs, hxs⟩ : ∃ xs, xs = wth p c k ls := ⟨_, rfl⟩
  obtain ⟨A1, hA1⟩ : ∃ A1, A1 = nmB p := ⟨_, rfl⟩
  obtain ⟨A2, hA2⟩ : ∃ A2, A2 = nmB c := ⟨_, rfl⟩
  obtain ⟨A3, hA3⟩ : ∃ A3, A3 = decide (0 ≤ k ∧ k ≤ 1) := ⟨_, rfl⟩
  obtain ⟨B, hB⟩ : ∃ B, B = okS zs.length s := ⟨_, rfl⟩
  obtain ⟨G, hG⟩ : ∃ G : Nat → Int, G = fun i : Nat => freeV zs xs (i : Int) k := ⟨_, rfl⟩
  obtain ⟨Z, hZ⟩ : ∃ Z, Z = zeroB s := ⟨_, rfl⟩
  have HE : Hid (E = if ((A1 && (A2 && A3)) && B) = true then (if all8f (fun i => decide (s i ≤ G i)) 0 = true then 0 else 20) else 2) := by
    have e : all8f (fun i => decide (s i ≤ G i)) 0 = all8f (roomAt zs ls p c k s) 0 := all8f_ext fun i hi => by rw [hG, hxs]; simp only [free_wth hf ho p c k hi, roomAt]
    rw [e, hE, hA1, hA2, hA3, hB]
    rfl
  have HB : Hid (all8f (okAt zs.length s) 0 = B) := hB.symm
  have HZ : Hid (putR ls p c k s = if Z = true then xs else insW ⟨p, c, k, s⟩ xs) := by rw [hZ, hxs]; rfl
  have HA3 : Hid (A3 = decide (0 ≤ k ∧ k ≤ 1)) := hA3
  have XM : Hid (∀ r ∈ insW ⟨p, c, k, s⟩ xs, r.p.size ≤ maxLen ∧ r.c.size ≤ maxLen) := by
    obtain ⟨a9, c9, e9, h1, h2, h3⟩ := h
    intro r hr
    rcases insW_mem.1 hr with rfl | hr
    · exact hg.1
    · rw [hxs] at hr
      obtain ⟨j, hj⟩ := List.getElem?_of_mem (List.mem_filter.1 hr).1
      exact (h3 j r hj).1
  have XN : Hid (xs.length ≤ 1073741824) := by rw [hxs]; exact Nat.le_trans (List.length_filter_le _ _) hn
  have C1 : Hid (∀ w1, Calls Try.prog 37 #[.string p] w1 fun e w' => e = .returned (.bool A1) ∧ w' = w1) := fun w1 => by rw [hA1]; exact Sp.refName_is p hg.1.1 w1
  have C2 : Hid (∀ w1, Calls Try.prog 37 #[.string c] w1 fun e w' => e = .returned (.bool A2) ∧ w' = w1) := fun w1 => by rw [hA2]; exact Sp.refName_is c hg.1.2 w1
  have ZE : Hid (∀ w1 : World, Sem.run Try.prog (Op.equalIn 10000 47 (spV s) (.agg #[.int .i64 0, .int .i64 0, .int .i64 0, .int .i64 0, .int .i64 0, .int .i64 0, .int .i64 0, .int .i64 0])) w1 = .ok Z w1) := fun w1 => by rw [hZ]; exact sp_eq 9998 s nought w1
  have HS : Hid (Sound zs xs) := by rw [hxs]; exact ho.sound.filter _
  have HR0 : Hid (OwnW w 0 lv ls) := h0
  clear h0 hsz
  have HZ0 : Hid (RdZ w zv zs) := hz
  have HFa : Hid (∀ z ∈ zs, Fit z) := fits_all hf
  have zl8 := (fits_len hf).2
  obtain ⟨az, cz, rfl, -, -, -⟩ := hz
  have C3 : Hid (∀ w1, Below w.heap.size w w1 → Calls Try.prog 38 #[.agg #[.slice az zs.length cz, lv], ownV p c k] w1 fun e w' => ∃ o, e = .returned (.agg #[.slice az zs.length cz, o]) ∧ OwnW w' w1.heap.size o xs ∧ Below w1.heap.size w1 w') := fun w1 hb => by
    rw [hxs]; exact rwithout_is az zs.length cz p c k w1 (h.later hb) (by omega)
  have CF : Hid (∀ (w1 : World) (o : Value) (i : Nat), Below w.heap.size w w1 → RdW w1 o xs → Calls Try.prog 25 #[.agg #[.slice az zs.length cz, o], .int .i64 i, .int .i64 k] w1 fun e w' => e = .returned (.int .i64 (G i)) ∧ Below w1.heap.size w1 w') := fun w1 o i hb hr => by
    rw [hG]; exact rfree_is i k w1 (RdZ.later HZ0.out hb) HFa.out hr
  have CB : Hid (∀ (r : Rw) w1, Calls Try.prog 39 #[ownV p c k, ownV r.p r.c r.k] w1 fun e w' => e = .returned (.bool (bef p c k r.p r.c r.k)) ∧ Below w1.heap.size w1 w') := fun r w1 => before_is p c r.p r.c k r.k w1
  obtain ⟨la, lc, rfl, -, -, -⟩ := h
  clear hE hms hxs hA1 hA2 hA3 hB hG hZ ho hg hn hf HZ0 HFa
  go_enter Try.func22, Try.ntmps22
  go_upto_region 1 with (fail)
  have q_t : Cs ((((w.alloc (.cells #[.slice az zs.length cz, .slice la ls.length lc] 54)).alloc (.cells #[.string p, .string c, .int .i64 k] 45)).alloc (.cells #[.int .i64 (s 0), .int .i64 (s 1), .int .i64 (s 2), .int .i64 (s 3), .int .i64 (s 4), .int .i64 (s 5), .int .i64 (s 6), .int .i64 (s 7)] 47)).alloc (.cells #[.slice none 0 0, .slice none 0 0] 54)) w.heap.size [.slice az zs.length cz, .slice la ls.length lc] := Cs.alloc (Cs.alloc (Cs.alloc (Cs.new _ _ _ _ rfl) _) _) _
  have q_o : Cs ((((w.alloc (.cells #[.slice az zs.length cz, .slice la ls.length lc] 54)).alloc (.cells #[.string p, .string c, .int .i64 k] 45)).alloc (.cells #[.int .i64 (s 0), .int .i64 (s 1), .int .i64 (s 2), .int .i64 (s 3), .int .i64 (s 4), .int .i64 (s 5), .int .i64 (s 6), .int .i64 (s 7)] 47)).alloc (.cells #[.slice none 0 0, .slice none 0 0] 54)) (w.heap.size + 1) [.string p, .string c, .int .i64 k] := Cs.alloc (Cs.alloc (Cs.new _ _ _ _ (by simp)) _) _
  have q_s : Cs ((((w.alloc (.cells #[.slice az zs.length cz, .slice la ls.length lc] 54)).alloc (.cells #[.string p, .string c, .int .i64 k] 45)).alloc (.cells #[.int .i64 (s 0), .int .i64 (s 1), .int .i64 (s 2), .int .i64 (s 3), .int .i64 (s 4), .int .i64 (s 5), .int .i64 (s 6), .int .i64 (s 7)] 47)).alloc (.cells #[.slice none 0 0, .slice none 0 0] 54)) (w.heap.size + 1 + 1) (spL s) := Cs.alloc (Cs.new _ _ _ _ (by simp)) _
  have q_r : Cs ((((w.alloc (.cells #[.slice az zs.length cz, .slice la ls.length lc] 54)).alloc (.cells #[.string p, .string c, .int .i64 k] 45)).alloc (.cells #[.int .i64 (s 0), .int .i64 (s 1), .int .i64 (s 2), .int .i64 (s 3), .int .i64 (s 4), .int .i64 (s 5), .int .i64 (s 6), .int .i64 (s 7)] 47)).alloc (.cells #[.slice none 0 0, .slice none 0 0] 54)) (w.heap.size + 1 + 1 + 1) [.slice none 0 0, .slice none 0 0] := Cs.new _ _ _ _ (by simp)
  have HB1 : Below w.heap.size w ((((w.alloc (.cells #[.slice az zs.length cz, .slice la ls.length lc] 54)).alloc (.cells #[.string p, .string c, .int .i64 k] 45)).alloc (.cells #[.int .i64 (s 0), .int .i64 (s 1), .int .i64 (s 2), .int .i64 (s 3), .int .i64 (s 4), .int .i64 (s 5), .int .i64 (s 6), .int .i64 (s 7)] 47)).alloc (.cells #[.slice none 0 0, .slice none 0 0] 54)) := by go_grown
  obtain ⟨pt, hpt⟩ : ∃ pt, pt = w.heap.size := ⟨_, rfl⟩
  obtain ⟨po, hpo⟩ : ∃ po, po = w.heap.size + 1 := ⟨_, rfl⟩
  obtain ⟨ps, hps⟩ : ∃ ps, ps = w.heap.size + 1 + 1 := ⟨_, rfl⟩
  obtain ⟨pr, hpr⟩ : ∃ pr, pr = w.heap.size + 1 + 1 + 1 := ⟨_, rfl⟩
  have HPr : Hid (w.heap.size ≤ pr) := by rw [hpr]; show w.heap.size ≤ _; omega
  have HPn : Hid (pt ≠ pr ∧ po ≠ pr ∧ ps ≠ pr) := by rw [hpr, hpt, hpo, hps]; show _ ∧ _ ∧ _; omega
  rw [← hpr] at q_r ⊢
  rw [← hps] at q_s ⊢
  rw [← hpo] at q_o ⊢
  have q_t2 : Cs ((((w.alloc (.cells #[.slice az zs.length cz, .slice la ls.length lc] 54)).alloc (.cells #[.string p, .string c, .int .i64 k] 45)).alloc (.cells #[.int .i64 (s 0), .int .i64 (s 1), .int .i64 (s 2), .int .i64 (s 3), .int .i64 (s 4), .int .i64 (s 5), .int .i64 (s 6), .int .i64 (s 7)] 47)).alloc (.cells #[.slice none 0 0, .slice none 0 0] 54)) pt [.slice az zs.length cz, .slice la ls.length lc] := by rw [hpt]; exact q_t
  clear q_t
  have q_t := q_t2
  clear q_t2
  obtain ⟨W1, hW1⟩ : ∃ W1, W1 = ((((w.alloc (.cells #[.slice az zs.length cz, .slice la ls.length lc] 54)).alloc (.cells #[.string p, .string c, .int .i64 k] 45)).alloc (.cells #[.int .i64 (s 0), .int .i64 (s 1), .int .i64 (s 2), .int .i64 (s 3), .int .i64 (s 4), .int .i64 (s 5), .int .i64 (s 6), .int .i64 (s 7)] 47)).alloc (.cells #[.slice none 0 0, .slice none 0 0] 54)) := ⟨_, rfl⟩
  rw [← hW1] at q_t q_o q_s q_r HB1 ⊢
  clear hW1
  have ht : Value.pointer (some ⟨w.heap.size, 0, none⟩) = .pointer (some ⟨pt, 0, none⟩) := by rw [hpt]
  rw [ht]
  clear ht hpt hpo hps hpr
  have t0 := q_t.1 0 _ rfl
  have t1 := q_t.1 1 _ rfl
  have o0 := q_o.1 0 _ rfl
  have o1 := q_o.1 1 _ rfl
  have o2 := q_o.1 2 _ rfl
  have r0 := q_r.1 0 _ rfl
  have r1 := q_r.1 1 _ rfl
  have fr0 := q_r.2.1 0 (by show 0 < 2; omega)
  have fr1 := q_r.2.1 1 (by show 1 < 2; omega)
  go_wp2_with (fail)
  refine (C1.out _).mono ?_
  rintro e w9 ⟨rfl, hw9⟩
  rw [hw9]
  clear hw9 C1
  cases A1 with
  | false =>
    obtain rfl : E = 2 := by rw [HE.out]; rfl
    obtain rfl : ms = ls := by rw [HM.out]; rfl
    clear HE HM HZ HB HA3 XM XN ZE HS C3 CF CB C2
    go_wp2
    refine bodyPost_ret (v := .tuple #[.agg #[.slice az zs.length cz, .slice la ms.length lc], .int .i64 2]) (by simp [results, Try.results22, go_sem, r0, r1]) rfl ⟨_, rfl, HR0.out.later (((HB1).setCell (p := ⟨pr, 0, none⟩) HPr.out _).setCell (p := ⟨pr, 1, none⟩) HPr.out _), ((HB1).setCell (p := ⟨pr, 0, none⟩) HPr.out _).setCell (p := ⟨pr, 1, none⟩) HPr.out _⟩
  | true =>
    go_wp2_with (fail)
    refine (C2.out _).mono ?_
    rintro e w9 ⟨rfl, hw9⟩
    rw [hw9]
    clear hw9 C2
    cases A2 with
    | false =>
      obtain rfl : E = 2 := by rw [HE.out]; rfl
      obtain rfl : ms = ls := by rw [HM.out]; rfl
      clear HE HM HZ HB HA3 XM XN ZE HS C3 CF CB
      go_wp2
      refine bodyPost_ret (v := .tuple #[.agg #[.slice az zs.length cz, .slice la ms.length lc], .int .i64 2]) (by simp [results, Try.results22, go_sem, r0, r1]) rfl ⟨_, rfl, HR0.out.later (((HB1).setCell (p := ⟨pr, 0, none⟩) HPr.out _).setCell (p := ⟨pr, 1, none⟩) HPr.out _), ((HB1).setCell (p := ⟨pr, 0, none⟩) HPr.out _).setCell (p := ⟨pr, 1, none⟩) HPr.out _⟩
    | true =>
      by_cases k0 : k < 0
      · obtain rfl : A3 = false := by rw [HA3.out]; exact decide_eq_false (by omega)
        obtain rfl : E = 2 := by rw [HE.out]; rfl
        obtain rfl : ms = ls := by rw [HM.out]; rfl
        clear HE HM HZ HB HA3 XM XN ZE HS C3 CF CB
        go_wp2
        refine bodyPost_ret (v := .tuple #[.agg #[.slice az zs.length cz, .slice la ms.length lc], .int .i64 2]) (by simp [results, Try.results22, go_sem, r0, r1]) rfl ⟨_, rfl, HR0.out.later (((HB1).setCell (p := ⟨pr, 0, none⟩) HPr.out _).setCell (p := ⟨pr, 1, none⟩) HPr.out _), ((HB1).setCell (p := ⟨pr, 0, none⟩) HPr.out _).setCell (p := ⟨pr, 1, none⟩) HPr.out _⟩
      by_cases k1 : 1 < k
      · obtain rfl : A3 = false := by rw [HA3.out]; exact decide_eq_false (by omega)
        obtain rfl : E = 2 := by rw [HE.out]; rfl
        obtain rfl : ms = ls := by rw [HM.out]; rfl
        clear HE HM HZ HB HA3 XM XN ZE HS C3 CF CB
        go_wp2
        refine bodyPost_ret (v := .tuple #[.agg #[.slice az zs.length cz, .slice la ms.length lc], .int .i64 2]) (by simp [results, Try.results22, go_sem, r0, r1]) rfl ⟨_, rfl, HR0.out.later (((HB1).setCell (p := ⟨pr, 0, none⟩) HPr.out _).setCell (p := ⟨pr, 1, none⟩) HPr.out _), ((HB1).setCell (p := ⟨pr, 0, none⟩) HPr.out _).setCell (p := ⟨pr, 1, none⟩) HPr.out _⟩
      obtain rfl : A3 = true := by rw [HA3.out]; exact decide_eq_true (by omega)
      have HE2 : Hid (E = if B = true then (if all8f (fun i => decide (s i ≤ G i)) 0 = true then 0 else 20) else 2) := by unfold Hid; rw [HE.out, Bool.and_true, Bool.and_true, Bool.true_and]
      clear HE HA3
      go_wp2
      go_loopw [8] (fun f wr => ∃ j : Nat, f = .int .i64 j ∧ j ≤ 8 ∧ Hid (all8f (okAt zs.length s) j = B) ∧ wr = W1) (fun f _ => 8 - (intOf f).toNat)
      case atStart => exact ⟨0, rfl, by omega, HB, rfl⟩
      case round =>
        clear HB
        obtain ⟨j, rfl, jl, HO, rfl⟩ := hrel
        by_cases cj : j < 8
        · have E1 := HO.out
          rw [all8f_at _ cj, okAt] at E1
          have cs := q_s.1 _ _ (spL_at s cj)
          have j0 : (0 : Int) ≤ (j : Int) := by omega
          have j1 : (j : Int) < 8 := by omega
          generalize s j = v at *
          have WAY := wayS E1
          clear E1 HO
          rcases WAY with ⟨⟨y1, y2, y3⟩, X⟩ | ⟨rfl, WAY⟩
          · have HX : Hid (all8f (okAt zs.length s) (j + 1) = B) := X
            clear X
            by_cases v0 : 0 < v
            · have l1 : (j : Int) < (zs.length : Int) := by
                have : ¬ zs.length ≤ j := fun h => by have := y3 h; omega
                omega
              clear y3
              go_wp2
              go_roundw
              case rel => exact ⟨j + 1, by go_num, by omega, HX, by simp⟩
              case measure => simp [intOf]; omega
            · obtain rfl : v = 0 := by omega
              clear y3
              by_cases l1 : (zs.length : Int) ≤ (j : Int)
              · go_wp2
                go_roundw
                case rel => exact ⟨j + 1, by go_num, by omega, HX, by simp⟩
                case measure => simp [intOf]; omega
              · have l2 : (j : Int) < (zs.length : Int) := by omega
                go_wp2
                go_roundw
                case rel => exact ⟨j + 1, by go_num, by omega, HX, by simp⟩
                case measure => simp [intOf]; omega
          · obtain rfl : E = 2 := by rw [HE2.out]; rfl
            obtain rfl : ms = ls := by rw [HM.out]; rfl
            clear HE2 HM HZ XM XN ZE HS C3 CF CB
            rcases WAY with y1 | ⟨y1, y2⟩ | ⟨y1, y2, y3⟩
            · go_wp2
              refine bodyPost_ret (v := .tuple #[.agg #[.slice az zs.length cz, .slice la ms.length lc], .int .i64 2]) (by simp [results, Try.results22, go_sem, r0, r1]) rfl ⟨_, rfl, HR0.out.later (((HB1).setCell (p := ⟨pr, 0, none⟩) HPr.out _).setCell (p := ⟨pr, 1, none⟩) HPr.out _), ((HB1).setCell (p := ⟨pr, 0, none⟩) HPr.out _).setCell (p := ⟨pr, 1, none⟩) HPr.out _⟩
            · go_wp2
              refine bodyPost_ret (v := .tuple #[.agg #[.slice az zs.length cz, .slice la ms.length lc], .int .i64 2]) (by simp [results, Try.results22, go_sem, r0, r1]) rfl ⟨_, rfl, HR0.out.later (((HB1).setCell (p := ⟨pr, 0, none⟩) HPr.out _).setCell (p := ⟨pr, 1, none⟩) HPr.out _), ((HB1).setCell (p := ⟨pr, 0, none⟩) HPr.out _).setCell (p := ⟨pr, 1, none⟩) HPr.out _⟩
            · have y4 : (zs.length : Int) ≤ (j : Int) := by omega
              have y5 : 0 ≤ v := by omega
              have y6 : (v != 0) = true := by simp; omega
              go_wp2
              refine bodyPost_ret (v := .tuple #[.agg #[.slice az zs.length cz, .slice la ms.length lc], .int .i64 2]) (by simp [results, Try.results22, go_sem, r0, r1]) rfl ⟨_, rfl, HR0.out.later (((HB1).setCell (p := ⟨pr, 0, none⟩) HPr.out _).setCell (p := ⟨pr, 1, none⟩) HPr.out _), ((HB1).setCell (p := ⟨pr, 0, none⟩) HPr.out _).setCell (p := ⟨pr, 1, none⟩) HPr.out _⟩
        · obtain rfl : j = 8 := by omega
          rw [show ((8 : Nat) : Int) = 8 from rfl]
          obtain rfl : B = true := HO.out.symm
          have HE3 : Hid (E = if all8f (fun i => decide (s i ≤ G i)) 0 = true then 0 else 20) := by unfold Hid; rw [HE2.out]; rfl
          clear HE2 HO
          go_wp2_with (fail)
          refine (C3.out _ HB1).mono ?_
          rintro e w2 ⟨xo, rfl, ow, hb⟩
          have RX : RdW w2 xo xs := ow.read fun r hr => XM.out r (insW_mem.2 (.inr hr))
          obtain ⟨oa, oc, rfl⟩ := ow.form
          have q_t2 := Cs.later hb q_t
          have q_o2 := Cs.later hb q_o
          have q_s2 := Cs.later hb q_s
          have q_r2 := Cs.later hb q_r
          have HB2 := HB1.trans (hb.mono HB1.size)
          have HPz : Hid (pr < wr.heap.size) := q_r.2.2
          clear hb C3 q_t q_o q_s q_r HB1 t0 t1 o0 o1 o2 r0 r1 fr0 fr1
          go_wp2
          have q_9 : Cs (w2.alloc (.cells #[.slice az zs.length cz, .slice oa xs.length oc] 54)) w2.heap.size [.slice az zs.length cz, .slice oa xs.length oc] := Cs.new _ _ _ _ rfl
          have q_t3 := q_t2.alloc (.cells #[.slice az zs.length cz, .slice oa xs.length oc] 54)
          have q_o3 := q_o2.alloc (.cells #[.slice az zs.length cz, .slice oa xs.length oc] 54)
          have q_s3 := q_s2.alloc (.cells #[.slice az zs.length cz, .slice oa xs.length oc] 54)
          have q_r3 := q_r2.alloc (.cells #[.slice az zs.length cz, .slice oa xs.length oc] 54)
          have RX3 := RX.alloc (.cells #[.slice az zs.length cz, .slice oa xs.length oc] 54)
          have ow3 := ow.alloc (.cells #[.slice az zs.length cz, .slice oa xs.length oc] 54)
          have HB3 := HB2.alloc HB2.size (.cells #[.slice az zs.length cz, .slice oa xs.length oc] 54)
          obtain ⟨p9, hp9⟩ : ∃ p9, p9 = w2.heap.size := ⟨_, rfl⟩
          rw [← hp9] at q_9 ⊢
          clear hp9 q_t2 q_o2 q_s2 q_r2 RX HB2 ow
          generalize w2.alloc (.cells #[.slice az zs.length cz, .slice oa xs.length oc] 54) = W3 at *
          obtain ⟨F, hF⟩ : ∃ F, F = all8f (fun i => decide (s i ≤ G i)) 0 := ⟨_, rfl⟩
          have HF : Hid (all8f (fun i => decide (s i ≤ G i)) 0 = F) := hF.symm
          rw [← hF] at HE3
          clear hF
          go_loopw [10] (fun f wr => ∃ j : Nat, f = .int .i64 j ∧ j ≤ 8 ∧ Hid (all8f (fun i => decide (s i ≤ G i)) j = F) ∧ Below W3.heap.size W3 wr) (fun f _ => 8 - (intOf f).toNat)
          case atStart => exact ⟨0, rfl, by omega, HF, Below.refl _ _⟩
          case round =>
            clear HF
            obtain ⟨j, rfl, jl, HO, B3⟩ := hrel
            have HBr := HB3.trans (B3.mono HB3.size)
            have k_t := Cs.later B3 q_t3
            have k_o := Cs.later B3 q_o3
            have k_s := Cs.later B3 q_s3
            have k_r := Cs.later B3 q_r3
            have k_9 := Cs.later B3 q_9
            have KX := RX3.later B3
            have KO := ow3.later B3
            clear ow3
            by_cases cj : j < 8
            · have E1 := HO.out
              rw [all8f_at _ cj] at E1
              have j0 : (0 : Int) ≤ (j : Int) := by omega
              have j1 : (j : Int) < 8 := by omega
              have CG := fun w1 hb => CF.out w1 (.slice oa xs.length oc) j hb
              have spj := spL_at s cj
              clear q_t3 q_o3 q_s3 q_r3 q_9 RX3
              by_cases g : s j ≤ G j
              · have X : Hid (all8f (fun i => decide (s i ≤ G i)) (j + 1) = F) := by rw [decide_eq_true g, Bool.true_and] at E1; exact E1
                have g2 : ¬ G j < s j := by omega
                clear E1 HO
                generalize s j = sj at *
                generalize G j = gj at *
                go_upto_region 12 with (fail)
                have BW : Hid (Below wr.heap.size wr _) := Below.drew (Below.refl _ _)
                refine wp_region_noPanic ?_
                refine wp_region_held_drew (S := fun w' => Cs w' ps (spL s) ∧ Cs w' p9 [.slice az zs.length cz, .slice oa xs.length oc] ∧ Cs w' po [.string p, .string c, .int .i64 k]) (by kernel_rfl) ?_ (fun hHeld => ?_)
                · exact ⟨Cs.later BW.out k_s, Cs.later BW.out k_9, Cs.later BW.out k_o⟩
                generalize World.drew _ = wd0 at *
                refine wpAnyH_take (i := 0) (v := ?_) rfl (by kernel_rfl) (by kernel_rfl) (by kernel_rfl) (fun _ _ _ h => h) (Or.inl ⟨by rfl, ?_⟩) (by assumption) ?_
                rotate_left
                · (intro wS hSw; have sj' := hSw.1.1 _ _ spj; have n0 := hSw.2.1.1 0 _ rfl; have n1 := hSw.2.1.1 1 _ rfl; have o2 := hSw.2.2.1 2 _ rfl; go_simp; try with_reducible rfl)
                change wpAnyH _ _ _ _ _ _ _ (Act.put _ (some 71) _) _
                simp only [Act.put, List.setIfInBounds_toArray, List.set_cons_zero, List.set_cons_succ]
                refine wpAnyH_take (i := 1) (v := ?_) rfl (by kernel_rfl) (by kernel_rfl) (by kernel_rfl) (fun _ _ _ h => h) (Or.inl ⟨by rfl, ?_⟩) (by assumption) ?_
                rotate_left
                · (intro wS hSw; have sj' := hSw.1.1 _ _ spj; have n0 := hSw.2.1.1 0 _ rfl; have n1 := hSw.2.1.1 1 _ rfl; have o2 := hSw.2.2.1 2 _ rfl; go_simp; try with_reducible rfl)
                change wpAnyH _ _ _ _ _ _ _ (Act.put _ (some 72) _) _
                simp only [Act.put, List.setIfInBounds_toArray, List.set_cons_zero, List.set_cons_succ]
                refine wpAnyH_take (i := 2) (v := ?_) rfl (by kernel_rfl) (by kernel_rfl) (by kernel_rfl) (fun _ _ _ h => h) (Or.inl ⟨by rfl, ?_⟩) (by assumption) ?_
                rotate_left
                · (intro wS hSw; have sj' := hSw.1.1 _ _ spj; have n0 := hSw.2.1.1 0 _ rfl; have n1 := hSw.2.1.1 1 _ rfl; have o2 := hSw.2.2.1 2 _ rfl; go_simp; try with_reducible rfl)
                change wpAnyH _ _ _ _ _ _ _ (Act.put _ (some 73) _) _
                simp only [Act.put, List.setIfInBounds_toArray, List.set_cons_zero, List.set_cons_succ]
                refine wpAnyH_take (i := 3) (v := ?_) rfl (by kernel_rfl) (by kernel_rfl) (by kernel_rfl) (fun _ _ _ h => h) (Or.inl ⟨by rfl, ?_⟩) (by assumption) ?_
                rotate_left
                · (intro wS hSw; have sj' := hSw.1.1 _ _ spj; have n0 := hSw.2.1.1 0 _ rfl; have n1 := hSw.2.1.1 1 _ rfl; have o2 := hSw.2.2.1 2 _ rfl; go_simp; try with_reducible rfl)
                change wpAnyH _ _ _ _ _ _ _ (Act.put _ (some 74) _) _
                simp only [Act.put, List.setIfInBounds_toArray, List.set_cons_zero, List.set_cons_succ]
                refine wpAnyH_take (i := 4) (v := ?_) rfl (by kernel_rfl) (by kernel_rfl) (by kernel_rfl) (fun _ _ _ h => h) (Or.inl ⟨by rfl, ?_⟩) (by assumption) ?_
                rotate_left
                · (intro wS hSw; have sj' := hSw.1.1 _ _ spj; have n0 := hSw.2.1.1 0 _ rfl; have n1 := hSw.2.1.1 1 _ rfl; have o2 := hSw.2.2.1 2 _ rfl; go_simp; try with_reducible rfl)
                change wpAnyH _ _ _ _ _ _ _ (Act.put _ (some 75) _) _
                simp only [Act.put, List.setIfInBounds_toArray, List.set_cons_zero, List.set_cons_succ]
                refine wpAnyH_take (i := 5) (v := ?_) rfl (by kernel_rfl) (by kernel_rfl) (by kernel_rfl) (fun _ _ _ h => h) (Or.inl ⟨by rfl, ?_⟩) (by assumption) ?_
                rotate_left
                · (intro wS hSw; have sj' := hSw.1.1 _ _ spj; have n0 := hSw.2.1.1 0 _ rfl; have n1 := hSw.2.1.1 1 _ rfl; have o2 := hSw.2.2.1 2 _ rfl; go_simp; try with_reducible rfl)
                change wpAnyH _ _ _ _ _ _ _ (Act.put _ (some 76) _) _
                simp only [Act.put, List.setIfInBounds_toArray, List.set_cons_zero, List.set_cons_succ]
                refine wpAnyH_take (i := 6) (v := ?_) rfl (by kernel_rfl) (by kernel_rfl) (by kernel_rfl) (fun _ _ _ h => h) (Or.inl ⟨by rfl, ?_⟩) (by assumption) ?_
                rotate_left
                · (intro wS hSw; have sj' := hSw.1.1 _ _ spj; have n0 := hSw.2.1.1 0 _ rfl; have n1 := hSw.2.1.1 1 _ rfl; have o2 := hSw.2.2.1 2 _ rfl; go_simp; try with_reducible rfl)
                change wpAnyH _ _ _ _ _ _ _ (Act.put _ (some 77) _) _
                simp only [Act.put, List.setIfInBounds_toArray, List.set_cons_zero, List.set_cons_succ]
                refine wpAnyH_ready (rs := [7]) (by kernel_rfl) (by simp) ?_
                refine AllReadyH.cons rfl (fun K hK => ?_) AllReadyH.nil
                go_simp
                refine (CG _ (HBr.trans (BW.out.mono HBr.size)) (KX.later BW.out)).mono ?_
                rintro e v1 ⟨rfl, hv1⟩
                have BW' : Hid (Below wr.heap.size wr v1) := BW.out.trans (hv1.mono BW.out.size)
                clear hv1 BW
                have BW := BW'
                clear BW'
                (try go_wp2_with (fail))
                refine hK.out _ _ ?_ (fun hHeld => ?_)
                · exact ⟨Cs.later BW.out k_s, Cs.later BW.out k_9, Cs.later BW.out k_o⟩
                clear hK K
                refine wpAnyH_take (i := 8) (v := ?_) rfl (by kernel_rfl) (by kernel_rfl) (by kernel_rfl) (fun _ _ _ h => h) (Or.inl ⟨by rfl, ?_⟩) (by assumption) ?_
                rotate_left
                · (intro wS hSw; have sj' := hSw.1.1 _ _ spj; have n0 := hSw.2.1.1 0 _ rfl; have n1 := hSw.2.1.1 1 _ rfl; have o2 := hSw.2.2.1 2 _ rfl; go_simp; try with_reducible rfl)
                change wpAnyH _ _ _ _ _ _ _ (Act.put _ (some 79) _) _
                simp only [Act.put, List.setIfInBounds_toArray, List.set_cons_zero, List.set_cons_succ]
                refine wpAnyH_done (by kernel_rfl) ?_ _
                refine NoPanic.normal ?_
                go_wp2
                go_roundw
                case rel => exact ⟨j + 1, by go_num, by omega, X, B3.trans (BW.out.mono B3.size)⟩
                case measure => simp [intOf]; omega
              · obtain rfl : F = false := by rw [decide_eq_false g, Bool.false_and] at E1; exact E1.symm
                obtain rfl : E = 20 := by rw [HE3.out]; rfl
                obtain rfl : ms = ls := by rw [HM.out]; rfl
                have g2 : G j < s j := by omega
                clear E1 HO HE3 HM HZ XN ZE HS CB CF XM
                generalize s j = sj at *
                generalize G j = gj at *
                go_upto_region 12 with (fail)
                have BW : Hid (Below wr.heap.size wr _) := Below.drew (Below.refl _ _)
                refine wp_region_noPanic ?_
                refine wp_region_held_drew (S := fun w' => Cs w' ps (spL s) ∧ Cs w' p9 [.slice az zs.length cz, .slice oa xs.length oc] ∧ Cs w' po [.string p, .string c, .int .i64 k]) (by kernel_rfl) ?_ (fun hHeld => ?_)
                · exact ⟨Cs.later BW.out k_s, Cs.later BW.out k_9, Cs.later BW.out k_o⟩
                generalize World.drew _ = wd0 at *
                refine wpAnyH_take (i := 0) (v := ?_) rfl (by kernel_rfl) (by kernel_rfl) (by kernel_rfl) (fun _ _ _ h => h) (Or.inl ⟨by rfl, ?_⟩) (by assumption) ?_
                rotate_left
                · (intro wS hSw; have sj' := hSw.1.1 _ _ spj; have n0 := hSw.2.1.1 0 _ rfl; have n1 := hSw.2.1.1 1 _ rfl; have o2 := hSw.2.2.1 2 _ rfl; go_simp; try with_reducible rfl)
                change wpAnyH _ _ _ _ _ _ _ (Act.put _ (some 71) _) _
                simp only [Act.put, List.setIfInBounds_toArray, List.set_cons_zero, List.set_cons_succ]
                refine wpAnyH_take (i := 1) (v := ?_) rfl (by kernel_rfl) (by kernel_rfl) (by kernel_rfl) (fun _ _ _ h => h) (Or.inl ⟨by rfl, ?_⟩) (by assumption) ?_
                rotate_left
                · (intro wS hSw; have sj' := hSw.1.1 _ _ spj; have n0 := hSw.2.1.1 0 _ rfl; have n1 := hSw.2.1.1 1 _ rfl; have o2 := hSw.2.2.1 2 _ rfl; go_simp; try with_reducible rfl)
                change wpAnyH _ _ _ _ _ _ _ (Act.put _ (some 72) _) _
                simp only [Act.put, List.setIfInBounds_toArray, List.set_cons_zero, List.set_cons_succ]
                refine wpAnyH_take (i := 2) (v := ?_) rfl (by kernel_rfl) (by kernel_rfl) (by kernel_rfl) (fun _ _ _ h => h) (Or.inl ⟨by rfl, ?_⟩) (by assumption) ?_
                rotate_left
                · (intro wS hSw; have sj' := hSw.1.1 _ _ spj; have n0 := hSw.2.1.1 0 _ rfl; have n1 := hSw.2.1.1 1 _ rfl; have o2 := hSw.2.2.1 2 _ rfl; go_simp; try with_reducible rfl)
                change wpAnyH _ _ _ _ _ _ _ (Act.put _ (some 73) _) _
                simp only [Act.put, List.setIfInBounds_toArray, List.set_cons_zero, List.set_cons_succ]
                refine wpAnyH_take (i := 3) (v := ?_) rfl (by kernel_rfl) (by kernel_rfl) (by kernel_rfl) (fun _ _ _ h => h) (Or.inl ⟨by rfl, ?_⟩) (by assumption) ?_
                rotate_left
                · (intro wS hSw; have sj' := hSw.1.1 _ _ spj; have n0 := hSw.2.1.1 0 _ rfl; have n1 := hSw.2.1.1 1 _ rfl; have o2 := hSw.2.2.1 2 _ rfl; go_simp; try with_reducible rfl)
                change wpAnyH _ _ _ _ _ _ _ (Act.put _ (some 74) _) _
                simp only [Act.put, List.setIfInBounds_toArray, List.set_cons_zero, List.set_cons_succ]
                refine wpAnyH_take (i := 4) (v := ?_) rfl (by kernel_rfl) (by kernel_rfl) (by kernel_rfl) (fun _ _ _ h => h) (Or.inl ⟨by rfl, ?_⟩) (by assumption) ?_
                rotate_left
                · (intro wS hSw; have sj' := hSw.1.1 _ _ spj; have n0 := hSw.2.1.1 0 _ rfl; have n1 := hSw.2.1.1 1 _ rfl; have o2 := hSw.2.2.1 2 _ rfl; go_simp; try with_reducible rfl)
                change wpAnyH _ _ _ _ _ _ _ (Act.put _ (some 75) _) _
                simp only [Act.put, List.setIfInBounds_toArray, List.set_cons_zero, List.set_cons_succ]
                refine wpAnyH_take (i := 5) (v := ?_) rfl (by kernel_rfl) (by kernel_rfl) (by kernel_rfl) (fun _ _ _ h => h) (Or.inl ⟨by rfl, ?_⟩) (by assumption) ?_
                rotate_left
                · (intro wS hSw; have sj' := hSw.1.1 _ _ spj; have n0 := hSw.2.1.1 0 _ rfl; have n1 := hSw.2.1.1 1 _ rfl; have o2 := hSw.2.2.1 2 _ rfl; go_simp; try with_reducible rfl)
                change wpAnyH _ _ _ _ _ _ _ (Act.put _ (some 76) _) _
                simp only [Act.put, List.setIfInBounds_toArray, List.set_cons_zero, List.set_cons_succ]
                refine wpAnyH_take (i := 6) (v := ?_) rfl (by kernel_rfl) (by kernel_rfl) (by kernel_rfl) (fun _ _ _ h => h) (Or.inl ⟨by rfl, ?_⟩) (by assumption) ?_
                rotate_left
                · (intro wS hSw; have sj' := hSw.1.1 _ _ spj; have n0 := hSw.2.1.1 0 _ rfl; have n1 := hSw.2.1.1 1 _ rfl; have o2 := hSw.2.2.1 2 _ rfl; go_simp; try with_reducible rfl)
                change wpAnyH _ _ _ _ _ _ _ (Act.put _ (some 77) _) _
                simp only [Act.put, List.setIfInBounds_toArray, List.set_cons_zero, List.set_cons_succ]
                refine wpAnyH_ready (rs := [7]) (by kernel_rfl) (by simp) ?_
                refine AllReadyH.cons rfl (fun K hK => ?_) AllReadyH.nil
                go_simp
                refine (CG _ (HBr.trans (BW.out.mono HBr.size)) (KX.later BW.out)).mono ?_
                rintro e v1 ⟨rfl, hv1⟩
                have BW' : Hid (Below wr.heap.size wr v1) := BW.out.trans (hv1.mono BW.out.size)
                clear hv1 BW
                have BW := BW'
                clear BW'
                (try go_wp2_with (fail))
                refine hK.out _ _ ?_ (fun hHeld => ?_)
                · exact ⟨Cs.later BW.out k_s, Cs.later BW.out k_9, Cs.later BW.out k_o⟩
                clear hK K
                refine wpAnyH_take (i := 8) (v := ?_) rfl (by kernel_rfl) (by kernel_rfl) (by kernel_rfl) (fun _ _ _ h => h) (Or.inl ⟨by rfl, ?_⟩) (by assumption) ?_
                rotate_left
                · (intro wS hSw; have sj' := hSw.1.1 _ _ spj; have n0 := hSw.2.1.1 0 _ rfl; have n1 := hSw.2.1.1 1 _ rfl; have o2 := hSw.2.2.1 2 _ rfl; go_simp; try with_reducible rfl)
                change wpAnyH _ _ _ _ _ _ _ (Act.put _ (some 79) _) _
                simp only [Act.put, List.setIfInBounds_toArray, List.set_cons_zero, List.set_cons_succ]
                refine wpAnyH_done (by kernel_rfl) ?_ _
                refine NoPanic.normal ?_
                have z_t := Cs.later BW.out k_t
                have z_r := Cs.later BW.out k_r
                have t0 := z_t.1 0 _ rfl
                have t1 := z_t.1 1 _ rfl
                have r0 := z_r.1 0 _ rfl
                have r1 := z_r.1 1 _ rfl
                have fr0 := z_r.2.1 0 (by show 0 < 2; omega)
                have fr1 := z_r.2.1 1 (by show 1 < 2; omega)
                go_wp2
                refine bodyPost_ret (v := .tuple #[.agg #[.slice az zs.length cz, .slice la ms.length lc], .int .i64 20]) (by simp [results, Try.results22, go_sem, r0, r1]) rfl ⟨_, rfl, HR0.out.later (((HBr.trans (BW.out.mono HBr.size)).setCell (p := ⟨pr, 0, none⟩) HPr.out _).setCell (p := ⟨pr, 1, none⟩) HPr.out _), (((HBr.trans (BW.out.mono HBr.size)).setCell (p := ⟨pr, 0, none⟩) HPr.out _).setCell (p := ⟨pr, 1, none⟩) HPr.out _)⟩
            · obtain rfl : j = 8 := by omega
              rw [show ((8 : Nat) : Int) = 8 from rfl]
              obtain rfl : F = true := HO.out.symm
              obtain rfl : E = 0 := by rw [HE3.out]; rfl
              have HM2 : Hid (ms = if Z = true then xs else insW ⟨p, c, k, s⟩ xs) := by unfold Hid; rw [HM.out, if_pos rfl, HZ.out]
              have sm := ZE.out
              clear HE3 HM HZ HO B3 q_t3 q_o3 q_s3 q_r3 q_9 RX3 HB3 CF ZE HS
              have s0 := k_s.1 0 _ rfl
              have s1 := k_s.1 1 _ rfl
              have s2 := k_s.1 2 _ rfl
              have s3 := k_s.1 3 _ rfl
              have s4 := k_s.1 4 _ rfl
              have s5 := k_s.1 5 _ rfl
              have s6 := k_s.1 6 _ rfl
              have s7 := k_s.1 7 _ rfl
              have n0 := k_9.1 0 _ rfl
              have n1 := k_9.1 1 _ rfl
              have r0 := k_r.1 0 _ rfl
              have r1 := k_r.1 1 _ rfl
              have fr0 := k_r.2.1 0 (by show 0 < 2; omega)
              have fr1 := k_r.2.1 1 (by show 1 < 2; omega)
              have rz := k_r.2.2
              have sz := k_s.2.2
              cases Z with
              | true =>
                obtain rfl : ms = xs := by rw [HM2.out]; rfl
                clear HM2 XN CB
                go_wp2
                refine bodyPost_ret (v := .tuple #[.agg #[.slice az zs.length cz, .slice oa ms.length oc], .int .i64 0]) (by simp [results, Try.results22, go_sem, r0, r1]) rfl ⟨_, rfl, ((KO.put HPz.out (own_set _ _ _ _)).put HPz.out (own_set _ _ _ _)).mono (Nat.zero_le _), ((HBr.setCell (p := ⟨pr, 0, none⟩) HPr.out _).setCell (p := ⟨pr, 1, none⟩) HPr.out _)⟩
              | false =>
                have HM3 : Hid (ms = insW ⟨p, c, k, s⟩ xs) := by unfold Hid; rw [HM2.out]; rfl
                clear HM2 KO HPz
                obtain ⟨W4, hW4⟩ : ∃ W4, W4 = wr := ⟨_, rfl⟩
                subst hW4
                have K3 : Hid (∀ (j : Nat) (r : Rw), xs[j]? = some r → (r.p.size ≤ maxLen ∧ r.c.size ≤ maxLen) ∧ ∃ b off : Nat, oa = some ⟨b, off, none⟩ ∧ El W4 b (off + j * 11) r) := by
                  obtain ⟨a9, c9, e9, -, -, h3⟩ := KX
                  cases e9
                  exact h3
                clear KX
                obtain ⟨i0, hi, hz0, hz1, hz2⟩ := info_parts rowInfo
                go_wp2
                go_loopw [11, 12, 88] (fun o d f wr => ∃ (j : Nat) (D : Bool) (out : List Rw), f = .int .i64 j ∧ d = .bool D ∧ j ≤ xs.length ∧ OwnW wr W4.heap.size o out ∧ Hid (insW ⟨p, c, k, s⟩ xs = out ++ insT ⟨p, c, k, s⟩ D (xs.drop j)) ∧ Hid (out.length ≤ j + (if D = true then 1 else 0)) ∧ Below W4.heap.size W4 wr) (fun _ _ f _ => xs.length - (intOf f).toNat)
                case atStart => exact ⟨0, false, [], rfl, rfl, by omega, OwnW.nil _ _, by show _ = _; rfl, by show (0 : Nat) ≤ _; omega, Below.refl _ _⟩
                case round =>
                  obtain ⟨j, D, out, rfl, rfl, jl, own, HI, HL, B4⟩ := hrel
                  have hs := B4.size
                  by_cases cj : j < xs.length
                  · obtain ⟨r, hr⟩ : ∃ r, xs[j]? = some r := ⟨xs[j], List.getElem?_eq_getElem cj⟩
                    obtain ⟨-, b, off, rfl, TT⟩ := K3.out j r hr
                    obtain ⟨t0, t1, t2, t3, t4, t5, t6, t7, t8, t9, t10⟩ := TT.later B4
                    have HD : Hid (xs.drop j = r :: xs.drop (j + 1)) := drop_at hr
                    have j0 : (0 : Int) ≤ (j : Int) := by omega
                    have j1 : (j : Int) < (xs.length : Int) := by omega
                    have xn := XN.out
                    clear TT hr K3 s0 s1 s2 s3 s4 s5 s6 s7 n0 n1 r0 r1 fr0 fr1 sm
                    go_upto_region 21 with (fail)
                    have q2 : Cs (wr.alloc (.cells #[.string r.p, .string r.c, .int .i64 r.k, .int .i64 (r.s 0), .int .i64 (r.s 1), .int .i64 (r.s 2), .int .i64 (r.s 3), .int .i64 (r.s 4), .int .i64 (r.s 5), .int .i64 (r.s 6), .int .i64 (r.s 7)] 66)) wr.heap.size (rowL r) := Cs.new _ _ _ _ rfl
                    have B9 : Below W4.heap.size W4 (wr.alloc (.cells #[.string r.p, .string r.c, .int .i64 r.k, .int .i64 (r.s 0), .int .i64 (r.s 1), .int .i64 (r.s 2), .int .i64 (r.s 3), .int .i64 (r.s 4), .int .i64 (r.s 5), .int .i64 (r.s 6), .int .i64 (r.s 7)] 66)) := B4.alloc B4.size _
                    have own9 := own.alloc (.cells #[.string r.p, .string r.c, .int .i64 r.k, .int .i64 (r.s 0), .int .i64 (r.s 1), .int .i64 (r.s 2), .int .i64 (r.s 3), .int .i64 (r.s 4), .int .i64 (r.s 5), .int .i64 (r.s 6), .int .i64 (r.s 7)] 66)
                    obtain ⟨q, hq⟩ : ∃ q, q = wr.heap.size := ⟨_, rfl⟩
                    have HQ : Hid (∀ b, _ → b ≠ q) := fun b hb => by have := (World.ownsRow.lt own b hb).2; omega
                    rw [← hq] at q2 ⊢
                    clear hq
                    generalize wr.alloc (.cells #[.string r.p, .string r.c, .int .i64 r.k, .int .i64 (r.s 0), .int .i64 (r.s 1), .int .i64 (r.s 2), .int .i64 (r.s 3), .int .i64 (r.s 4), .int .i64 (r.s 5), .int .i64 (r.s 6), .int .i64 (r.s 7)] 66) = W9 at *
                    clear t0 t1 t2 t3 t4 t5 t6 t7 t8 t9 t10 own B4 hs rz sz
                    have o9 := (Cs.later B9 k_o).2.2
                    cases D with
                    | true =>
                      have ol : out.length ≤ j + 1 := HL.out
                      have HI2 : Hid (insW ⟨p, c, k, s⟩ xs = (out ++ [r]) ++ insT ⟨p, c, k, s⟩ true (xs.drop (j + 1))) := by
                        unfold Hid
                        rw [HI.out, HD.out, List.append_assoc]
                        rfl
                      clear HI HD HL
                      have hs9 := B9.size
                      have d0 := q2.1 0 _ rfl
                      have d1 := q2.1 1 _ rfl
                      have d2 := q2.1 2 _ rfl
                      have d3 := q2.1 3 _ rfl
                      have d4 := q2.1 4 _ rfl
                      have d5 := q2.1 5 _ rfl
                      have d6 := q2.1 6 _ rfl
                      have d7 := q2.1 7 _ rfl
                      have d8 := q2.1 8 _ rfl
                      have d9 := q2.1 9 _ rfl
                      have d10 := q2.1 10 _ rfl
                      have dz := q2.2.2
                      have ow2 := own9.alloc (.cells #[.string r.p, .string r.c, .int .i64 r.k, .int .i64 (r.s 0), .int .i64 (r.s 1), .int .i64 (r.s 2), .int .i64 (r.s 3), .int .i64 (r.s 4), .int .i64 (r.s 5), .int .i64 (r.s 6), .int .i64 (r.s 7)] 66)
                      go_wp2_with (first
                        | (at_builtin; refine wpList_append_own _ rfl _ _ 41 rfl W4.heap.size 66 i0 (.agg #[.string ⟨#[]⟩, .string ⟨#[]⟩, .int .i64 0, .int .i64 0, .int .i64 0, .int .i64 0, .int .i64 0, .int .i64 0, .int .i64 0, .int .i64 0, .int .i64 0]) 11 104 Try.underlying41 hi hz0 hz1 hz2 rfl (by decide) _ _ _ rfl ow2 ⟨W9.heap.size, 0, none⟩ 1 1 (rowL r) rfl rfl ?c1 ?c2 ?c3 ?c4 ?c5 ?_)
                        | fail)
                      case c1 => first | exact rowL_new W9 r _ | exact fun j u hj => hj
                      case c2 => exact rowL_one r
                      case c3 => have := XN.out; unfold maxLen; omega
                      case c4 => have := XN.out; omega
                      case c5 => first | omega | (simp; omega)
                      intro v4 w4 hown' hgrow _
                      have own4 := OwnW.more hown'
                      have B44 : Below W4.heap.size W4 w4 := (B9.alloc B9.size _).grown hgrow (by simp; omega) (fun k hk => by have := ow2.ge k hk; omega)
                      clear ow2 hown' hgrow own9 q2 B9 dz d0 d1 d2 d3 d4 d5 d6 d7 d8 d9 d10 hs9
                      go_wp2
                      go_roundw
                      case rel => exact ⟨j + 1, true, out ++ [r], by go_num, rfl, by omega, own4, HI2, by show _ ≤ j + 1 + 1; simp; omega, B44⟩
                      case measure => simp [intOf]; omega
                    | false =>
                      have ol : out.length ≤ j := HL.out
                      clear HL
                      have o0 := (Cs.later B9 k_o).1 0 _ rfl
                      have o1 := (Cs.later B9 k_o).1 1 _ rfl
                      have o2 := (Cs.later B9 k_o).1 2 _ rfl
                      have d0 := q2.1 0 _ rfl
                      have d1 := q2.1 1 _ rfl
                      have d2 := q2.1 2 _ rfl
                      have d9z := q2.2.2
                      go_wp2_with (fail)
                      refine (CB.out r _).mono ?_
                      rintro e w5 ⟨rfl, hb⟩
                      have q5 := Cs.later hb q2
                      have own5 := own9.later hb
                      have B5 := B9.trans (hb.mono B9.size)
                      have hs5 := B5.size
                      clear o0 o1 o2 d0 d1 d2 d9z q2 own9 B9 hb o9
                      by_cases g : bef p c k r.p r.c r.k = true
                      · rw [g]
                        have HI2 : Hid (insW ⟨p, c, k, s⟩ xs = ((out ++ [⟨p, c, k, s⟩]) ++ [r]) ++ insT ⟨p, c, k, s⟩ true (xs.drop (j + 1))) := by
                          unfold Hid
                          rw [HI.out, HD.out]
                          show out ++ insW _ (r :: _) = _
                          rw [insW, if_pos g]
                          simp [insT]
                        clear HI HD g
                        have x_o := Cs.later B5 k_o
                        have x_s := Cs.later B5 k_s
                        have o0 := x_o.1 0 _ rfl
                        have o1 := x_o.1 1 _ rfl
                        have o2 := x_o.1 2 _ rfl
                        have s0 := x_s.1 0 _ rfl
                        have s1 := x_s.1 1 _ rfl
                        have s2 := x_s.1 2 _ rfl
                        have s3 := x_s.1 3 _ rfl
                        have s4 := x_s.1 4 _ rfl
                        have s5 := x_s.1 5 _ rfl
                        have s6 := x_s.1 6 _ rfl
                        have s7 := x_s.1 7 _ rfl
                        have oz := x_o.2.2
                        have sz := x_s.2.2
                        have ow2 := own5.alloc (.cells #[.string p, .string c, .int .i64 k, .int .i64 (s 0), .int .i64 (s 1), .int .i64 (s 2), .int .i64 (s 3), .int .i64 (s 4), .int .i64 (s 5), .int .i64 (s 6), .int .i64 (s 7)] 66)
                        go_wp2_with (first
                          | (at_builtin; refine wpList_append_own _ rfl _ _ 41 rfl W4.heap.size 66 i0 (.agg #[.string ⟨#[]⟩, .string ⟨#[]⟩, .int .i64 0, .int .i64 0, .int .i64 0, .int .i64 0, .int .i64 0, .int .i64 0, .int .i64 0, .int .i64 0, .int .i64 0]) 11 104 Try.underlying41 hi hz0 hz1 hz2 rfl (by decide) _ _ _ rfl ow2 ⟨w5.heap.size, 0, none⟩ 1 1 (rowL ⟨p, c, k, s⟩) rfl rfl ?c1 ?c2 ?c3 ?c4 ?c5 ?_)
                          | fail)
                        case c1 => first | exact rowL_new w5 ⟨p, c, k, s⟩ _ | exact fun j u hj => hj
                        case c2 => exact rowL_one ⟨p, c, k, s⟩
                        case c3 => have := XN.out; unfold maxLen; omega
                        case c4 => have := XN.out; omega
                        case c5 => first | omega | (simp; omega)
                        intro v4 w6 hown' hgrow _
                        have own6 := OwnW.more hown'
                        have B6 : Below W4.heap.size W4 w6 := (B5.alloc B5.size _).grown hgrow (by simp; omega) (fun k hk => by have := ow2.ge k hk; omega)
                        clear x_o x_s o0 o1 o2 oz sz s0 s1 s2 s3 s4 s5 s6 s7
                        have hs6 := B6.size
                        have q6 := Cs.grown (q5.alloc (.cells #[.string p, .string c, .int .i64 k, .int .i64 (s 0), .int .i64 (s 1), .int .i64 (s 2), .int .i64 (s 3), .int .i64 (s 4), .int .i64 (s 5), .int .i64 (s 6), .int .i64 (s 7)] 66)) hgrow (fun e => HQ.out _ e.symm rfl)
                        clear q5 own5 B5 hs5 hown' ow2 hgrow
                        have ol2 : (out ++ [(⟨p, c, k, s⟩ : Rw)]).length ≤ j + 1 := by simp; omega
                        generalize out ++ [(⟨p, c, k, s⟩ : Rw)] = out2 at *
                        clear ol
                        have d0 := q6.1 0 _ rfl
                        have d1 := q6.1 1 _ rfl
                        have d2 := q6.1 2 _ rfl
                        have d3 := q6.1 3 _ rfl
                        have d4 := q6.1 4 _ rfl
                        have d5 := q6.1 5 _ rfl
                        have d6 := q6.1 6 _ rfl
                        have d7 := q6.1 7 _ rfl
                        have d8 := q6.1 8 _ rfl
                        have d9 := q6.1 9 _ rfl
                        have d10 := q6.1 10 _ rfl
                        have dz := q6.2.2
                        have ow2 := own6.alloc (.cells #[.string r.p, .string r.c, .int .i64 r.k, .int .i64 (r.s 0), .int .i64 (r.s 1), .int .i64 (r.s 2), .int .i64 (r.s 3), .int .i64 (r.s 4), .int .i64 (r.s 5), .int .i64 (r.s 6), .int .i64 (r.s 7)] 66)
                        go_wp2_with (first
                          | (at_builtin; refine wpList_append_own _ rfl _ _ 41 rfl W4.heap.size 66 i0 (.agg #[.string ⟨#[]⟩, .string ⟨#[]⟩, .int .i64 0, .int .i64 0, .int .i64 0, .int .i64 0, .int .i64 0, .int .i64 0, .int .i64 0, .int .i64 0, .int .i64 0]) 11 104 Try.underlying41 hi hz0 hz1 hz2 rfl (by decide) _ _ _ rfl ow2 ⟨w6.heap.size, 0, none⟩ 1 1 (rowL r) rfl rfl ?c1 ?c2 ?c3 ?c4 ?c5 ?_)
                          | fail)
                        case c1 => first | exact rowL_new w6 r _ | exact fun j u hj => hj
                        case c2 => exact rowL_one r
                        case c3 => have := XN.out; unfold maxLen; simp; omega
                        case c4 => have := XN.out; simp; omega
                        case c5 => first | omega | (simp; omega)
                        intro v4 w4 hown' hgrow _
                        have own4 := OwnW.more hown'
                        have B44 : Below W4.heap.size W4 w4 := (B6.alloc B6.size _).grown hgrow (by simp; omega) (fun k hk => by have := ow2.ge k hk; omega)
                        clear ow2 hown' hgrow own6 q6 B6 dz d0 d1 d2 d3 d4 d5 d6 d7 d8 d9 d10 hs6
                        go_wp2
                        go_roundw
                        case rel => exact ⟨j + 1, true, out2 ++ [r], by go_num, rfl, by omega, own4, HI2, by show _ ≤ j + 1 + 1; simp; omega, B44⟩
                        case measure => simp [intOf]; omega
                      · have g0 : bef p c k r.p r.c r.k = false := by simpa using g
                        rw [g0]
                        have HI2 : Hid (insW ⟨p, c, k, s⟩ xs = (out ++ [r]) ++ insT ⟨p, c, k, s⟩ false (xs.drop (j + 1))) := by
                          unfold Hid
                          rw [HI.out, HD.out]
                          show out ++ insW _ (r :: _) = _
                          rw [insW, if_neg g, List.append_assoc]
                          rfl
                        clear HI HD g g0
                        have d0 := q5.1 0 _ rfl
                        have d1 := q5.1 1 _ rfl
                        have d2 := q5.1 2 _ rfl
                        have d3 := q5.1 3 _ rfl
                        have d4 := q5.1 4 _ rfl
                        have d5 := q5.1 5 _ rfl
                        have d6 := q5.1 6 _ rfl
                        have d7 := q5.1 7 _ rfl
                        have d8 := q5.1 8 _ rfl
                        have d9 := q5.1 9 _ rfl
                        have d10 := q5.1 10 _ rfl
                        have dz := q5.2.2
                        have ow2 := own5.alloc (.cells #[.string r.p, .string r.c, .int .i64 r.k, .int .i64 (r.s 0), .int .i64 (r.s 1), .int .i64 (r.s 2), .int .i64 (r.s 3), .int .i64 (r.s 4), .int .i64 (r.s 5), .int .i64 (r.s 6), .int .i64 (r.s 7)] 66)
                        go_wp2_with (first
                          | (at_builtin; refine wpList_append_own _ rfl _ _ 41 rfl W4.heap.size 66 i0 (.agg #[.string ⟨#[]⟩, .string ⟨#[]⟩, .int .i64 0, .int .i64 0, .int .i64 0, .int .i64 0, .int .i64 0, .int .i64 0, .int .i64 0, .int .i64 0, .int .i64 0]) 11 104 Try.underlying41 hi hz0 hz1 hz2 rfl (by decide) _ _ _ rfl ow2 ⟨w5.heap.size, 0, none⟩ 1 1 (rowL r) rfl rfl ?c1 ?c2 ?c3 ?c4 ?c5 ?_)
                          | fail)
                        case c1 => first | exact rowL_new w5 r _ | exact fun j u hj => hj
                        case c2 => exact rowL_one r
                        case c3 => have := XN.out; unfold maxLen; omega
                        case c4 => have := XN.out; omega
                        case c5 => first | omega | (simp; omega)
                        intro v4 w4 hown' hgrow _
                        have own4 := OwnW.more hown'
                        have B44 : Below W4.heap.size W4 w4 := (B5.alloc B5.size _).grown hgrow (by simp; omega) (fun k hk => by have := ow2.ge k hk; omega)
                        clear ow2 hown' hgrow own5 q5 B5 dz d0 d1 d2 d3 d4 d5 d6 d7 d8 d9 d10 hs5
                        go_wp2
                        go_roundw
                        case rel => exact ⟨j + 1, false, out ++ [r], by go_num, rfl, by omega, own4, HI2, by show _ ≤ j + 1; simp; omega, B44⟩
                        case measure => simp [intOf]; omega
                  · obtain rfl : j = xs.length := by omega
                    have HPw : Hid (pr < W4.heap.size) := rz
                    clear K3 s0 s1 s2 s3 s4 s5 s6 s7 n0 n1 r0 r1 fr0 fr1 sm rz sz XM CB
                    rw [List.drop_length] at HI
                    cases D with
                    | true =>
                      obtain rfl : ms = out := by rw [HM3.out, HI.out]; simp [insT]
                      clear HI HL HM3
                      have z_t := Cs.later B4 k_t
                      have z_r := Cs.later B4 k_r
                      have t0 := z_t.1 0 _ rfl
                      have t1 := z_t.1 1 _ rfl
                      have r0 := z_r.1 0 _ rfl
                      have r1 := z_r.1 1 _ rfl
                      have fr0 := z_r.2.1 0 (by show 0 < 2; omega)
                      have fr1 := z_r.2.1 1 (by show 1 < 2; omega)
                      have tz := z_t.2.2
                      have rz := z_r.2.2
                      obtain ⟨ea, ec, rfl⟩ := own.form
                      go_wp2
                      refine bodyPost_ret (v := .tuple #[.agg #[.slice az zs.length cz, .slice ea ms.length ec], .int .i64 0]) (by simp [results, Try.results22, go_sem, r0, r1]) rfl ⟨_, rfl, ((own.put HPw.out (own_set _ _ _ _)).put HPw.out (own_set _ _ _ _)).mono (Nat.zero_le _), (((HBr.trans (B4.mono HBr.size)).setCell (p := ⟨pr, 0, none⟩) HPr.out _).setCell (p := ⟨pr, 1, none⟩) HPr.out _)⟩
                    | false =>
                      have ol : out.length ≤ xs.length := HL.out
                      obtain rfl : ms = out ++ [⟨p, c, k, s⟩] := by rw [HM3.out, HI.out]; rfl
                      clear HI HL HM3
                      have hs := B4.size
                      have x_o := Cs.later B4 k_o
                      have x_s := Cs.later B4 k_s
                      have o0 := x_o.1 0 _ rfl
                      have o1 := x_o.1 1 _ rfl
                      have o2 := x_o.1 2 _ rfl
                      have s0 := x_s.1 0 _ rfl
                      have s1 := x_s.1 1 _ rfl
                      have s2 := x_s.1 2 _ rfl
                      have s3 := x_s.1 3 _ rfl
                      have s4 := x_s.1 4 _ rfl
                      have s5 := x_s.1 5 _ rfl
                      have s6 := x_s.1 6 _ rfl
                      have s7 := x_s.1 7 _ rfl
                      have oz := x_o.2.2
                      have sz := x_s.2.2
                      have ow2 := own.alloc (.cells #[.string p, .string c, .int .i64 k, .int .i64 (s 0), .int .i64 (s 1), .int .i64 (s 2), .int .i64 (s 3), .int .i64 (s 4), .int .i64 (s 5), .int .i64 (s 6), .int .i64 (s 7)] 66)
                      go_wp2_with (first
                        | (at_builtin; refine wpList_append_own _ rfl _ _ 41 rfl W4.heap.size 66 i0 (.agg #[.string ⟨#[]⟩, .string ⟨#[]⟩, .int .i64 0, .int .i64 0, .int .i64 0, .int .i64 0, .int .i64 0, .int .i64 0, .int .i64 0, .int .i64 0, .int .i64 0]) 11 104 Try.underlying41 hi hz0 hz1 hz2 rfl (by decide) _ _ _ rfl ow2 ⟨wr.heap.size, 0, none⟩ 1 1 (rowL ⟨p, c, k, s⟩) rfl rfl ?c1 ?c2 ?c3 ?c4 ?c5 ?_)
                        | fail)
                      case c1 => first | exact rowL_new wr ⟨p, c, k, s⟩ _ | exact fun j u hj => hj
                      case c2 => exact rowL_one ⟨p, c, k, s⟩
                      case c3 => have := XN.out; unfold maxLen; omega
                      case c4 => have := XN.out; omega
                      case c5 => first | omega | (simp; omega)
                      intro v4 w6 hown' hgrow _
                      have own6 := OwnW.more hown'
                      have B6 : Below W4.heap.size W4 w6 := (B4.alloc B4.size _).grown hgrow (by simp; omega) (fun k hk => by have := ow2.ge k hk; omega)
                      clear x_o x_s o0 o1 o2 oz sz s0 s1 s2 s3 s4 s5 s6 s7
                      clear hown' hgrow ow2 own B4
                      have z_t := Cs.later B6 k_t
                      have z_r := Cs.later B6 k_r
                      have t0 := z_t.1 0 _ rfl
                      have t1 := z_t.1 1 _ rfl
                      have r0 := z_r.1 0 _ rfl
                      have r1 := z_r.1 1 _ rfl
                      have fr0 := z_r.2.1 0 (by show 0 < 2; omega)
                      have fr1 := z_r.2.1 1 (by show 1 < 2; omega)
                      have tz := z_t.2.2
                      have rz := z_r.2.2
                      obtain ⟨ea, ec, rfl⟩ := own6.form
                      go_wp2
                      refine bodyPost_ret (v := .tuple #[.agg #[.slice az zs.length cz, .slice ea (out ++ [(⟨p, c, k, s⟩ : Rw)]).length ec], .int .i64 0]) (by simp [results, Try.results22, go_sem, r0, r1]) rfl ⟨_, rfl, ((own6.put HPw.out (own_set _ _ _ _)).put HPw.out (own_set _ _ _ _)).mono (Nat.zero_le _), (((HBr.trans (B6.mono HBr.size)).setCell (p := ⟨pr, 0, none⟩) HPr.out _).setCell (p := ⟨pr, 1, none⟩) HPr.out _)⟩


end Go.Proofs.Ytpefjcgccbfgbaa.Bk
