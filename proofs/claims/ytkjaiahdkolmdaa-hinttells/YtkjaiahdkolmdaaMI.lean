/-
  The document's masks of the first nodes, in order, at this program. Conditions: at most eight nodes.
-/
import Derived.Test.YtkjaiahdkolmdaaMG
import Derived.Test.YtkjaiahdkolmdaaMH
import Derived.Deep.Upon
namespace Go.Proofs.Ytkjaiahdkolmdaa.Mk
open Go.RowKit

theorem own_form {W : World} {base : Nat} {T : TypeId} {s n : Nat} {v : Value} {xs : List Value} (h : W.ownsRow base T s v n xs) (hn : 0 < n) : ∃ g cap, v = .slice (some ⟨g, 0, none⟩) n cap ∧ base ≤ g ∧ n ≤ cap ∧ cap ≤ maxLen := by
  obtain ⟨-, ⟨rfl, rfl⟩ | ⟨g, cap, cur, e, hb, -, h1, h2, -⟩⟩ := h
  · omega
  · exact ⟨g, cap, e, hb, h1, h2⟩
theorem own_later {W w1 : World} {base : Nat} {T : TypeId} {s n : Nat} {v : Value} {xs : List Value} (h : W.ownsRow base T s v n xs) (hb : Below W.heap.size W w1) : w1.ownsRow base T s v n xs :=
  World.ownsRow.kept (row := none) h ⟨hb.os, hb.tape, hb.output, hb.size, fun k hk _ => hb.block k hk⟩ (by cases hv : v.ownBlock <;> simp)
theorem src_drop {W : World} {base n cap g : Nat} {T : TypeId} {L : List Nat} (own : W.ownsRow base T 1 (.slice (some ⟨g, 0, none⟩) n cap) n (L.map encM)) (P q : Nat) (hq : P < L.length → q = P) :
    ∀ j u, ((L.drop P).map encM)[j]? = some u → W.cell? ((⟨g, q, none⟩ : Addr).add j) = some u := by
  intro j u hj
  rw [List.getElem?_map, List.getElem?_drop] at hj
  have hl : P + j < L.length := by
    rcases Nat.lt_or_ge (P + j) L.length with h | h
    · exact h
    · rw [List.getElem?_eq_none h] at hj; cases hj
  have := World.ownsRow.cells own rfl (P + j) u (by rw [List.getElem?_map]; exact hj)
  rw [Addr.add_lit] at this ⊢
  rw [hq (by omega)]
  rwa [Nat.zero_add] at this
theorem src_take {W : World} {base n cap g : Nat} {T : TypeId} {L : List Nat} (own : W.ownsRow base T 1 (.slice (some ⟨g, 0, none⟩) n cap) n (L.map encM)) (P : Nat) :
    ∀ j u, ((L.take P).map encM)[j]? = some u → W.cell? ((⟨g, 0, none⟩ : Addr).add j) = some u := by
  intro j u hj
  rw [List.getElem?_map, List.getElem?_take] at hj
  split at hj
  · exact World.ownsRow.cells own rfl j u (by rw [List.getElem?_map]; exact hj)
  · cases hj
theorem one_cells {L : List Nat} : ∀ u ∈ L.map encM, u.oneCell' = true := by
  intro u hu
  obtain ⟨x, -, rfl⟩ := List.mem_map.1 hu
  rfl
theorem src_place (g cap P n : Nat) (hn : n ≤ cap) (hP : P ≤ n) : ∃ q, (if cap = P then some (⟨g, 0, none⟩ : Addr) else some ⟨g, P, none⟩) = some ⟨g, q, none⟩ ∧ (P < n → q = P) := by
  by_cases h : cap = P
  · exact ⟨0, if_pos h, fun _ => by omega⟩
  · exact ⟨P, if_neg h, fun _ => rfl⟩
/-- A slice that was just written out is one's own. -/
theorem own_new (W : World) (base : Nat) (T : TypeId) (vs : List Value) (n h : Nat) (hn : vs.length = n) (hh : h = W.heap.size) (hb : base ≤ h) (hm : n ≤ maxLen) :
    (W.alloc (.cells vs.toArray T)).ownsRow base T 1 (.slice (some ⟨h, 0, none⟩) n n) n vs := by
  subst hh hn
  exact ⟨by omega, .inr ⟨_, vs.length, vs.toArray, rfl, hb, World.alloc_heap_new W _, Nat.le_refl _, hm, by simp, by simp⟩⟩

set_option maxHeartbeats 4000000 in
set_option maxRecDepth 100000 in
theorem rmasks_is (k : Nat) (hk : k ≤ 8) (w : World) :
    Calls Try.prog 26 #[.int .i64 k] w fun e w' => ∃ v, e = .returned v ∧ w'.ownsRow w.heap.size 3 1 v (fullM k).length ((fullM k).map encM) ∧ Below w.heap.size w w' := by
  obtain ⟨i0, hi, hz0, hz1, hz2⟩ := info_parts intInfo
  rw [← RM_full hk]
  have P8 : 2 ^ k ≤ 256 := Nat.pow_le_pow_right (show 0 < 2 by omega) hk
  have HK : Hid (k ≤ 8) := hk
  go_enter Try.func26, Try.ntmps26
  go_wp2
  go_loopw [3, 4] (fun s f wr => ∃ j : Nat, j ≤ k ∧ s = .int .i64 (2 ^ j : Nat) ∧ f = .int .i64 j ∧ Below w.heap.size w wr) (fun _ f _ => k - (intOf f).toNat)
  case atStart => exact ⟨0, by omega, rfl, rfl, Below.refl _ _⟩
  case round =>
    obtain ⟨j, jl, rfl, rfl, HB⟩ := hrel
    by_cases jk : j < k
    · have j1 : (j : Int) < (k : Int) := by omega
      have E1 := Nat.pow_succ 2 j
      have E2 : 2 ^ (j + 1) ≤ 256 := Nat.pow_le_pow_right (show 0 < 2 by omega) (show j + 1 ≤ 8 by omega)
      generalize hq : 2 ^ j = q at *
      have HR : Hid (q * 2 = 2 ^ (j + 1)) := E1.symm
      have e5 : wrap64 ((q : Int) * 2) = ((q * 2 : Nat) : Int) := by unfold wrap64; omega
      clear E1 E2 hq
      go_wp2
      go_roundw
      case rel => exact ⟨j + 1, by omega, by rw [e5, HR.out], by go_num, HB⟩
      case measure => simp [intOf]; omega
    · obtain rfl : j = k := by omega
      clear jk jl
      obtain ⟨E, hE⟩ : ∃ E, E = 2 ^ j := ⟨_, rfl⟩
      have HE : Hid (E = 2 ^ j) := hE
      have E1 : 1 ≤ E := by rw [hE]; exact Nat.one_le_two_pow
      rw [← hE] at P8 ⊢
      clear hE
      have j1 : ¬ (j : Int) < (j : Int) := by omega
      go_wp2
      go_loopw [5, 6] (fun o f wr => ∃ m : Nat, 1 ≤ m ∧ m ≤ E ∧ f = .int .i64 m ∧ Hid (m = 1 → o = .slice none 0 0) ∧ wr.ownsRow w.heap.size 3 1 o (RM m).length ((RM m).map encM) ∧ Below w.heap.size w wr) (fun _ f _ => E - (intOf f).toNat)
      case atStart => exact ⟨1, by omega, E1, rfl, fun _ => rfl, World.ownsRow_nil _ _ _ _, HB⟩
      case round =>
        clear HB
        obtain ⟨m, m1, mE, rfl, HN, own, HB⟩ := hrel
        have hs := HB.size
        by_cases mk : m < E
        · have m2 : (m : Int) < (E : Int) := by omega
          have HS : Hid (RM (m + 1) = insM m (RM m)) := RM_succ m1
          have ML : (RM m).length = m - 1 := RM_len m m1
          have HM : Hid (∀ x ∈ RM m, x < 256) := fun x hx => by have := RM_mem m hx; omega
          have HL : Hid (low m = m) := low_of (by omega)
          clear mk
          obtain ⟨L, hL⟩ : ∃ L, L = RM m := ⟨_, rfl⟩
          rw [← hL] at own HS ML HM
          clear hL
          have M6 : m < 256 := by omega
          rcases Nat.eq_zero_or_pos L.length with l0 | l0
          · have N := HN.out (by omega)
            obtain rfl : L = [] := List.length_eq_zero_iff.1 l0
            subst N
            have S : Hid (RM (m + 1) = [m]) := HS.out
            have m3 : m + 1 ≤ E := by omega
            clear HS HM ML HL l0 mE P8 E1 HN own
            go_wp2
            go_loopw [7] (fun f wr => f = .int .i64 0 ∧ Below w.heap.size w wr) (fun f _ => (intOf f).toNat)
            case atStart => exact ⟨rfl, HB⟩
            case round =>
              clear HB hs
              obtain ⟨rfl, HB⟩ := hrel
              have hs := HB.size
              have own0 := own_new (wr.alloc (.cells #[.int .i64 m] 3)) w.heap.size 3 [] 0 (wr.heap.size + 1) rfl (by simp) (by omega) (by omega)
              go_wp2_with (first
                | (at_builtin; refine wpList_append_own _ rfl _ _ 34 rfl w.heap.size 3 i0 (.int .i64 0) 1 8 Try.underlying34 hi hz0 hz1 hz2 rfl (by decide) _ _ _ rfl own0 ⟨wr.heap.size, 0, none⟩ 1 1 [encM m] rfl rfl ?c1 ?c2 ?c3 ?c4 ?c5 ?_)
                | fail)
              case c1 =>
                intro j u hj
                match j, hj with
                | 0, hj => injection hj with hj; subst hj; simp [Addr.add, go_sem]
              case c2 => intro u hu; simp at hu; subst hu; rfl
              case c3 => unfold maxLen; omega
              case c4 => omega
              case c5 => simp; omega
              · intro v' w4 hown' hgrow _
                have own5 : w4.ownsRow w.heap.size 3 1 v' (RM (m + 1)).length ((RM (m + 1)).map encM) := by
                  rw [S.out]
                  simpa using hown'
                have HB4 : Below w.heap.size w w4 := (show Below w.heap.size w ((wr.alloc (.cells #[.int .i64 m] 3)).alloc (.cells #[] 3)) by go_grown).grown hgrow (by simp; omega) (fun k hk => by have := (World.ownsRow.lt own0 k hk).1; omega)
                clear own0 hown' hgrow HB S
                go_wp2
                go_roundw
                case rel => exact ⟨m + 1, by omega, m3, by go_num, fun e => by omega, own5, HB4⟩
                case measure => simp [intOf]; omega
          · have LE := scan_le m L L.length
            obtain ⟨P, hP⟩ : ∃ P, P = scan m L L.length := ⟨_, rfl⟩
            have HSP : Hid (RM (m + 1) = L.take P ++ m :: L.drop P) := by unfold Hid; rw [HS.out, insM, ← hP]
            have HP0 : Hid (scan m L L.length = P) := hP.symm
            rw [← hP] at LE
            obtain ⟨g, cap, rfl, gb, gc, gm⟩ := own_form own l0
            have m3 : m + 1 ≤ E := by omega
            have LB : L.length < 256 := by omega
            clear hP HS HN E1 mE ML
            go_wp2
            go_loopw [7] (fun f wr => ∃ i : Nat, i ≤ L.length ∧ f = .int .i64 i ∧ Hid (scan m L i = P) ∧ wr.ownsRow w.heap.size 3 1 (.slice (some ⟨g, 0, none⟩) L.length cap) L.length (L.map encM) ∧ Below w.heap.size w wr) (fun f _ => (intOf f).toNat)
            case atStart => exact ⟨L.length, Nat.le_refl _, rfl, HP0, own, HB⟩
            case round =>
              clear own HB HP0 hs
              obtain ⟨i, iL, rfl, HP, own, HB⟩ := hrel
              have hs := HB.size
              have glt := (World.ownsRow.lt own g rfl).2
              by_cases i1 : i = 0
              · subst i1
                have P0 : P = 0 := HP.out.symm
                subst P0
                have own2 := own
                have HB2 := HB
                clear HM HL HP own HB hs
                obtain ⟨w2, hw2⟩ : ∃ w2, w2 = wr := ⟨_, rfl⟩
                rw [← hw2] at own2 HB2 ⊢
                clear hw2
                go_upto_region 13 with (fail)
                have gw := (World.ownsRow.lt own2 g rfl).2
                have hs2 := HB2.size
                have own0 := own_new w2 w.heap.size 3 [encM m] 1 w2.heap.size rfl rfl HB2.size (by unfold maxLen; omega)
                have ownA := own2.alloc (.cells #[encM m] 3)
                have SD : Hid (∀ j u, (L.map encM)[j]? = some u → (w2.alloc (.cells #[encM m] 3)).cell? ((⟨g, 0, none⟩ : Addr).add j) = some u) := src_drop ownA 0 0 (fun _ => rfl)
                go_upto_region 14 with (first
                  | (at_builtin; refine wpList_append_own _ rfl _ _ 34 rfl w.heap.size 3 i0 (.int .i64 0) 1 8 Try.underlying34 hi hz0 hz1 hz2 rfl (by decide) _ _ _ rfl own0 ⟨g, 0, none⟩ L.length cap (L.map encM) rfl (by simp) SD.out one_cells (by unfold maxLen; omega) (by omega) (by simp; omega) ?_; intro v1 w4 own1 hgrow _; obtain ⟨g1, cap1, rfl, gb1, gc1, gm1⟩ := own_form own1 (by omega))
                  | fail)
                have hgrow' : (w2.alloc (.cells #[encM m] 3)).grownBy w4 (some w2.heap.size) := hgrow
                have HB4 : Below w.heap.size w w4 := (HB2.alloc HB2.size _).grown hgrow' (by simp; omega) (fun k hk => by injection hk with hk; omega)
                have ownB : w4.ownsRow w.heap.size 3 1 (.slice (some ⟨g, 0, none⟩) L.length cap) L.length (L.map encM) := ownA.kept hgrow' (.inr (show some g ≠ some w2.heap.size from fun e => by injection e with e; omega))
                have OB : Hid (w4.ownsRow w.heap.size 3 1 (.slice (some ⟨g1, 0, none⟩) (1 + L.length) cap1) (1 + L.length) ((m :: L).map encM)) := own1
                clear own0 ownA own2 SD hgrow hgrow' own1 HB2 hs2 gw
                have hs4 := HB4.size
                have gw1 := (World.ownsRow.lt OB.out g1 rfl).2
                have own0 := own_new w4 w.heap.size 3 [] 0 w4.heap.size rfl rfl HB4.size (by unfold maxLen; omega)
                have ownC := ownB.alloc (.cells #[] 3)
                have ST : Hid (∀ j u, ((L.take 0).map encM)[j]? = some u → (w4.alloc (.cells #[] 3)).cell? ((⟨g, 0, none⟩ : Addr).add j) = some u) := src_take ownC 0
                have OC : Hid ((w4.alloc (.cells #[] 3)).ownsRow w.heap.size 3 1 (.slice (some ⟨g1, 0, none⟩) (1 + L.length) cap1) (1 + L.length) ((m :: L).map encM)) := OB.out.alloc _
                have TL : Hid (((L.take 0).map encM).length = 0 * 1) := by show ((L.take 0).map encM).length = 0 * 1; simp
                have CL : Hid (((m :: L).map encM).length = (1 + L.length) * 1) := by show ((m :: L).map encM).length = (1 + L.length) * 1; simp; omega
                clear ownC ownB OB
                go_wp2_with (first
                  | (at_builtin; refine wpList_append_own _ rfl _ _ 34 rfl w.heap.size 3 i0 (.int .i64 0) 1 8 Try.underlying34 hi hz0 hz1 hz2 rfl (by decide) _ _ _ rfl own0 ⟨g, 0, none⟩ 0 cap ((L.take 0).map encM) rfl TL.out ST.out one_cells (by unfold maxLen; omega) (by omega) (by simp; omega) ?_; intro v2 w5 own3 hgrow _; have hgrow' : (w4.alloc (.cells #[] 3)).grownBy w5 (some w4.heap.size) := hgrow; have HB5 : Below w.heap.size w w5 := (HB4.alloc HB4.size _).grown hgrow' (by simp; omega) (fun k hk => by injection hk with hk; omega); have OD : Hid (w5.ownsRow w.heap.size 3 1 (.slice (some ⟨g1, 0, none⟩) (1 + L.length) cap1) (1 + L.length) ((m :: L).map encM)) := OC.out.kept hgrow' (.inr (show some g1 ≠ some w4.heap.size from fun e => by injection e with e; omega)); have hs5 := HB5.size; clear hgrow hgrow' OC ST)
                  | (at_builtin; refine wpList_append_own _ rfl _ _ 34 rfl w.heap.size 3 i0 (.int .i64 0) 1 8 Try.underlying34 hi hz0 hz1 hz2 rfl (by decide) _ _ _ rfl own3 ⟨g1, 0, none⟩ (1 + L.length) cap1 ((m :: L).map encM) rfl CL.out (World.ownsRow.cells OD.out rfl) one_cells (by unfold maxLen; omega) (by omega) (by omega) ?_; intro v3 w6 own6 hgrow _)
                  | fail)
                have HB6 : Below w.heap.size w w6 := HB5.grown hgrow (by omega) (fun k hk => (World.ownsRow.lt own3 k hk).1)
                have own7 : w6.ownsRow w.heap.size 3 1 v3 (RM (m + 1)).length ((RM (m + 1)).map encM) := by
                  have e : (RM (m + 1)).length = 0 + 0 + (1 + L.length) := by rw [HSP.out, List.length_append, List.length_cons, List.length_take, List.length_drop]; omega
                  rw [e, HSP.out, List.map_append]
                  exact own6
                clear own0 own3 own6 OD HB5 hgrow HSP TL CL
                go_wp2
                go_roundw
                case rel => exact ⟨m + 1, by omega, m3, by go_num, fun e => by omega, own7, HB6⟩
                case measure => simp [intOf]; omega
              · obtain ⟨i', ei⟩ : ∃ i', i = i' + 1 := ⟨i - 1, by omega⟩
                have e1 : (i : Int) - 1 = (i' : Int) := by rw [ei]; simp
                have e0 : (0 : Int) < (i : Int) := by omega
                have i2 : i' < L.length := by omega
                obtain ⟨x, hx⟩ : ∃ x, L[i']? = some x := ⟨L[i'], List.getElem?_eq_getElem i2⟩
                have cx : wr.cell? ⟨g, i', none⟩ = some (.int .i64 (x : Int)) := by
                  have := World.ownsRow.cells own rfl i' (encM x) (by rw [List.getElem?_map, hx]; rfl)
                  rw [Addr.add_lit] at this
                  simpa using this
                have x8 := HM.out x (List.mem_of_getElem? hx)
                have E := HP.out
                rw [ei, scan, show L.getD i' 0 = x by rw [List.getD, hx]; rfl] at E
                have EI : Hid (i = i' + 1) := ei
                have i3 : (i' : Int) < 256 := by omega
                have i4 : (0 : Int) ≤ (i' : Int) := by omega
                have C : Hid (∀ w, Calls Try.prog 33 #[.int .i64 m, .int .i64 x] w fun e w' => e = .returned (.bool (aheadB m x)) ∧ Below w.heap.size w w') := fun w => by
                  have := rahead_is m x w
                  rwa [HL.out, low_of x8] at this
                have HE : Hid ((if aheadB m x then scan m L i' else i' + 1) = P) := E
                generalize aheadB m x = t at *
                clear E hx ei x8 HP
                cases t with
                | true =>
                  have HP' : Hid (scan m L i' = P) := HE.out
                  clear HE
                  go_wp2_with (fail)
                  refine (C.out _).mono ?_
                  rintro e w2 ⟨rfl, hw2⟩
                  have HB2 : Below w.heap.size w w2 := HB.trans (hw2.mono HB.size)
                  have own2 : w2.ownsRow w.heap.size 3 1 (.slice (some ⟨g, 0, none⟩) L.length cap) L.length (L.map encM) := own_later own hw2
                  clear C own HB hw2
                  go_wp2
                  go_roundw
                  case rel => exact ⟨i', by omega, rfl, HP', own2, HB2⟩
                  case measure =>
                    simp [intOf]
                    have := EI.out
                    omega
                | false =>
                  have P0 : P = i := HE.out.symm.trans EI.out.symm
                  subst P0
                  clear HE
                  go_wp2_with (fail)
                  refine (C.out _).mono ?_
                  rintro e w2 ⟨rfl, hw2⟩
                  have HB2 : Below w.heap.size w w2 := HB.trans (hw2.mono HB.size)
                  have own2 : w2.ownsRow w.heap.size 3 1 (.slice (some ⟨g, 0, none⟩) L.length cap) L.length (L.map encM) := own_later own hw2
                  clear C own HB hw2 hs cx e1 i3 i4 EI
                  go_upto_region 13 with (fail)
                  have p1 : (P : Int) ≤ (L.length : Int) := by omega
                  have p2 : (L.length : Int) ≤ (cap : Int) := by omega
                  have p3 : (0 : Int) ≤ (P : Int) := by omega
                  have p4 : (P : Int) ≤ (cap : Int) := by omega
                  obtain ⟨q, hq, hqP⟩ := src_place g cap P L.length gc iL
                  have HQ : Hid (P < L.length → q = P) := hqP
                  have gw := (World.ownsRow.lt own2 g rfl).2
                  have hs2 := HB2.size
                  have own0 := own_new w2 w.heap.size 3 [encM m] 1 w2.heap.size rfl rfl HB2.size (by unfold maxLen; omega)
                  have ownA := own2.alloc (.cells #[encM m] 3)
                  have SD : Hid (∀ j u, ((L.drop P).map encM)[j]? = some u → (w2.alloc (.cells #[encM m] 3)).cell? ((⟨g, q, none⟩ : Addr).add j) = some u) := src_drop ownA P q HQ.out
                  clear hqP
                  go_upto_region 14 with (first
                    | (at_builtin; refine wpList_append_own _ rfl _ _ 34 rfl w.heap.size 3 i0 (.int .i64 0) 1 8 Try.underlying34 hi hz0 hz1 hz2 rfl (by decide) _ _ _ rfl own0 ⟨g, q, none⟩ (L.length - P) (cap - P) ((L.drop P).map encM) rfl (by simp) SD.out one_cells (by unfold maxLen; omega) (by omega) (by simp; omega) ?_; intro v1 w4 own1 hgrow _; obtain ⟨g1, cap1, rfl, gb1, gc1, gm1⟩ := own_form own1 (by omega))
                    | fail)
                  have hgrow' : (w2.alloc (.cells #[encM m] 3)).grownBy w4 (some w2.heap.size) := hgrow
                  have HB4 : Below w.heap.size w w4 := (HB2.alloc HB2.size _).grown hgrow' (by simp; omega) (fun k hk => by injection hk with hk; omega)
                  have ownB : w4.ownsRow w.heap.size 3 1 (.slice (some ⟨g, 0, none⟩) L.length cap) L.length (L.map encM) := ownA.kept hgrow' (.inr (show some g ≠ some w2.heap.size from fun e => by injection e with e; omega))
                  have OB : Hid (w4.ownsRow w.heap.size 3 1 (.slice (some ⟨g1, 0, none⟩) (1 + (L.length - P)) cap1) (1 + (L.length - P)) ((m :: L.drop P).map encM)) := own1
                  clear own0 ownA own2 SD hgrow hgrow' own1 HQ hq HB2 hs2 gw
                  have hs4 := HB4.size
                  have gw1 := (World.ownsRow.lt OB.out g1 rfl).2
                  have own0 := own_new w4 w.heap.size 3 [] 0 w4.heap.size rfl rfl HB4.size (by unfold maxLen; omega)
                  have ownC := ownB.alloc (.cells #[] 3)
                  have ST : Hid (∀ j u, ((L.take P).map encM)[j]? = some u → (w4.alloc (.cells #[] 3)).cell? ((⟨g, 0, none⟩ : Addr).add j) = some u) := src_take ownC P
                  have OC : Hid ((w4.alloc (.cells #[] 3)).ownsRow w.heap.size 3 1 (.slice (some ⟨g1, 0, none⟩) (1 + (L.length - P)) cap1) (1 + (L.length - P)) ((m :: L.drop P).map encM)) := OB.out.alloc _
                  have PL : P ≤ L.length := iL
                  have TL : Hid (((L.take P).map encM).length = P * 1) := by show ((L.take P).map encM).length = P * 1; simp; omega
                  have CL : Hid (((m :: L.drop P).map encM).length = (1 + (L.length - P)) * 1) := by show ((m :: L.drop P).map encM).length = (1 + (L.length - P)) * 1; simp; omega
                  clear ownC ownB OB
                  go_wp2_with (first
                    | (at_builtin; refine wpList_append_own _ rfl _ _ 34 rfl w.heap.size 3 i0 (.int .i64 0) 1 8 Try.underlying34 hi hz0 hz1 hz2 rfl (by decide) _ _ _ rfl own0 ⟨g, 0, none⟩ P cap ((L.take P).map encM) rfl TL.out ST.out one_cells (by unfold maxLen; omega) (by omega) (by simp; omega) ?_; intro v2 w5 own3 hgrow _; have hgrow' : (w4.alloc (.cells #[] 3)).grownBy w5 (some w4.heap.size) := hgrow; have HB5 : Below w.heap.size w w5 := (HB4.alloc HB4.size _).grown hgrow' (by simp; omega) (fun k hk => by injection hk with hk; omega); have OD : Hid (w5.ownsRow w.heap.size 3 1 (.slice (some ⟨g1, 0, none⟩) (1 + (L.length - P)) cap1) (1 + (L.length - P)) ((m :: L.drop P).map encM)) := OC.out.kept hgrow' (.inr (show some g1 ≠ some w4.heap.size from fun e => by injection e with e; omega)); have hs5 := HB5.size; clear hgrow hgrow' OC ST)
                    | (at_builtin; refine wpList_append_own _ rfl _ _ 34 rfl w.heap.size 3 i0 (.int .i64 0) 1 8 Try.underlying34 hi hz0 hz1 hz2 rfl (by decide) _ _ _ rfl own3 ⟨g1, 0, none⟩ (1 + (L.length - P)) cap1 ((m :: L.drop P).map encM) rfl CL.out (World.ownsRow.cells OD.out rfl) one_cells (by unfold maxLen; omega) (by omega) (by omega) ?_; intro v3 w6 own6 hgrow _)
                    | fail)
                  have HB6 : Below w.heap.size w w6 := HB5.grown hgrow (by omega) (fun k hk => (World.ownsRow.lt own3 k hk).1)
                  have own7 : w6.ownsRow w.heap.size 3 1 v3 (RM (m + 1)).length ((RM (m + 1)).map encM) := by
                    have e : (RM (m + 1)).length = 0 + P + (1 + (L.length - P)) := by rw [HSP.out, List.length_append, List.length_cons, List.length_take, List.length_drop]; omega
                    rw [e, HSP.out, List.map_append]
                    exact own6
                  clear own0 own3 own6 OD HB5 hgrow HSP TL CL
                  go_wp2
                  go_roundw
                  case rel => exact ⟨m + 1, by omega, m3, by go_num, fun e => by omega, own7, HB6⟩
                  case measure => simp [intOf]; omega
        · obtain rfl : m = E := by omega
          have m2 : ¬ (m : Int) < (m : Int) := by omega
          clear HN m1 mE mk
          go_wp2
          go_ret
          refine ⟨_, rfl, ?_, HB⟩
          rw [← HE.out]
          exact own

end Go.Proofs.Ytkjaiahdkolmdaa.Mk
