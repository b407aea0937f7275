/-
  Tables that are made (New) and cloned (Clone), and sums of spreads (Sum), at this program. Conditions: the slice reads as zones; the table is one.
-/
import Derived.Test.YtpefjcgccbfgbaaNJ
import Derived.Test.YtpefjcgccbfgbaaSh
namespace Go.Proofs.Ytpefjcgccbfgbaa.Bk
open Go.RowKit Go.Shelf

theorem zoneInfo : (Try.prog.info? 35).map (fun i => (i.zero, i.size, i.bytes)) = some (some (.agg #[.int .i64 0, .int .i64 0, .int .i64 0, .int .i64 0]), 4, 32) := by kernel_rfl
theorem flatZ_at : ∀ {xs : List Zn} {j i : Nat} {r : Zn} {v : Value}, xs[j]? = some r → (znL r)[i]? = some v → (xs.map znL).flatten[j * 4 + i]? = some v
  | [], j, i, r, v, h, _ => by simp at h
  | x :: t, 0, i, r, v, h, hv => by
    simp at h
    subst h
    have : i < (znL x).length := (List.getElem?_eq_some_iff.1 hv).1
    rw [List.map_cons, List.flatten_cons, Nat.zero_mul, Nat.zero_add, List.getElem?_append_left this]
    exact hv
  | x :: t, j + 1, i, r, v, h, hv => by
    rw [List.map_cons, List.flatten_cons, List.getElem?_append_right (by show 4 ≤ _; omega), show (j + 1) * 4 + i - (znL x).length = j * 4 + i by show (j + 1) * 4 + i - 4 = _; omega]
    exact flatZ_at (by simpa using h) hv
theorem flatZ_inv : ∀ {xs : List Zn} {n : Nat} {v : Value}, (xs.map znL).flatten[n]? = some v → ∃ j i r, n = j * 4 + i ∧ i < 4 ∧ xs[j]? = some r ∧ (znL r)[i]? = some v
  | [], n, v, h => by simp at h
  | x :: t, n, v, h => by
    rw [List.map_cons, List.flatten_cons] at h
    by_cases hn : n < 4
    · rw [List.getElem?_append_left (show n < (znL x).length from hn)] at h
      exact ⟨0, n, x, by omega, hn, rfl, h⟩
    · rw [List.getElem?_append_right (show (znL x).length ≤ n by show 4 ≤ n; omega)] at h
      obtain ⟨j, i, r, e, hi, hr, hv⟩ := flatZ_inv h
      exact ⟨j + 1, i, r, by rw [show (znL x).length = 4 from rfl] at e; omega, hi, by simpa using hr, hv⟩
theorem flatZ_len : ∀ xs : List Zn, (xs.map znL).flatten.length = xs.length * 4
  | [] => rfl
  | x :: t => by
    rw [List.map_cons, List.flatten_cons, List.length_append, flatZ_len t, List.length_cons, show (znL x).length = 4 from rfl]
    omega
theorem flatZ_one (xs : List Zn) : ∀ u ∈ (xs.map znL).flatten, u.oneCell' = true := by
  intro u hu
  obtain ⟨n, hn⟩ := List.getElem?_of_mem hu
  obtain ⟨j, i, r, -, hi, -, hv⟩ := flatZ_inv hn
  rcases (show i = 0 ∨ i = 1 ∨ i = 2 ∨ i = 3 by omega) with rfl | rfl | rfl | rfl <;> (cases hv; rfl)
theorem RdZ.cells {W : World} {zb zo cap : Nat} {zs : List Zn} (h : RdZ W (.slice (some ⟨zb, zo, none⟩) zs.length cap) zs) : ∀ j u, (zs.map znL).flatten[j]? = some u → W.cell? ⟨zb, zo + j, none⟩ = some u := fun n u hu => by
  obtain ⟨j, i, r, rfl, hi, hr, hv⟩ := flatZ_inv hu
  obtain ⟨a, c, e1, h1, h2, h3⟩ := h
  cases e1
  obtain ⟨b', off, e2, c0, c1, c2, c3⟩ := h3 j r hr
  cases e2
  rcases (show i = 0 ∨ i = 1 ∨ i = 2 ∨ i = 3 by omega) with rfl | rfl | rfl | rfl <;> cases hv
  · exact c0
  · rw [← Nat.add_assoc]; exact c1
  · rw [← Nat.add_assoc]; exact c2
  · rw [← Nat.add_assoc]; exact c3
/-- A slice of one's own of zones. -/
theorem ownZ_read {W : World} {base : Nat} {o : Value} {xs : List Zn} (h : W.ownsRow base 35 4 o xs.length (xs.map znL).flatten) (hn : o ≠ .slice none 0 0) : ∃ zb cap : Nat, o = .slice (some ⟨zb, 0, none⟩) xs.length cap ∧ RdZ W o xs := by
  have hc := fun g hg => World.ownsRow.cells (g := g) h hg
  obtain ⟨-, ⟨rfl, e⟩ | ⟨g, cap, cur, rfl, -, hb, h1, h2, -⟩⟩ := h
  · exact absurd rfl hn
  · refine ⟨g, cap, rfl, some ⟨g, 0, none⟩, cap, rfl, h1, h2, fun j r hj => ⟨g, 0, rfl, ?_⟩⟩
    have c : ∀ i v, (znL r)[i]? = some v → W.cell? ⟨g, 0 + j * 4 + i, none⟩ = some v := fun i v hv => by
      have := hc g rfl (j * 4 + i) v (flatZ_at hj hv)
      rw [Addr.add_lit] at this
      rwa [Nat.add_assoc]
    exact ⟨c 0 _ rfl, c 1 _ rfl, c 2 _ rfl, c 3 _ rfl⟩
/-- slices.Clone at zones. -/
theorem cloneZ_is {zb zo cap : Nat} {zs : List Zn} (w : World) (h : RdZ w (.slice (some ⟨zb, zo, none⟩) zs.length cap) zs) (hl : zs.length ≤ 1099511627776) :
    Calls Try.prog 29 #[.slice (some ⟨zb, zo, none⟩) zs.length cap] w fun e w' => ∃ zb' cap' : Nat, e = .returned (.slice (some ⟨zb', 0, none⟩) zs.length cap') ∧ RdZ w' (.slice (some ⟨zb', 0, none⟩) zs.length cap') zs ∧ Below w.heap.size w w' := by
  obtain ⟨i0, hi, hz0, hz1, hz2⟩ := info_parts zoneInfo
  have hcon := AnyE.slices_Clone Try.cloneZ i0 _ 4 32 hi hz0 hz1 hz2 rfl (by decide) Try.sizeOf35 zb zo zs.length cap (zs.map znL).flatten w (flatZ_len zs) (by unfold maxLen; omega) (by omega) h.cells (flatZ_one zs)
  change Calls Try.prog 29 _ _ _ at hcon
  refine hcon.mono ?_
  rintro e w' ⟨v', rfl, own, hn, hb⟩
  obtain ⟨zb', cap', rfl, hr⟩ := ownZ_read own hn
  exact ⟨zb', cap', rfl, hr, hb⟩
/-- maps.Clone at a table's map. -/
theorem cloneM_is {m : Nat} {ls : List Rw} (w : World) (h : MapW w m ls) :
    Calls Try.prog 34 #[.map (some m)] w fun e w' => e = .returned (.map (some w.heap.size)) ∧ MapW w' w.heap.size ls ∧ Below w.heap.size w w' := by
  obtain ⟨D, h1, h2⟩ := h
  have hcon := AnyW.maps_Clone_owns Try.cloneM 45 rdSp m _ D w h1
  change Calls Try.prog 34 _ _ _ at hcon
  exact hcon.mono fun e w' ⟨he, ho, _, hb⟩ => ⟨he, ⟨D, ho, h2⟩, hb⟩

/-- What New answers, and what lies behind it. -/
def NewPost (w : World) (R : Bool) (zs : List Zn) (e : Ending) (w' : World) : Prop :=
  Below w.heap.size w w' ∧ ((R = true ∧ ∃ b m, e = .returned (.tuple #[tbV b, .int .i64 0]) ∧ Tb w' b m zs [] ∧ w.heap.size ≤ b ∧ w.heap.size ≤ m) ∨ (R = false ∧ e = .returned (.tuple #[.pointer none, .int .i64 2])))
set_option maxHeartbeats 4000000 in
set_option maxRecDepth 100000 in
theorem new_is {v : Value} {zs : List Zn} (w : World) (h : RdZ w v zs) : Calls Try.prog 8 #[v] w fun e w' => NewPost w (fits zs) zs e w' := by
  obtain ⟨R, hR⟩ : ∃ R, R = fits zs := ⟨_, rfl⟩
  rw [← hR]
  obtain ⟨L, hL⟩ : ∃ L, L = fitL zs := ⟨_, rfl⟩
  have HR : Hid (R = (L && decide (0 < zs.length ∧ zs.length < 9))) := by rw [hR, hL]; rfl
  have HT : Hid (fitL (zs.drop 0) = L) := hL.symm
  have HF : Hid (R = true → fits zs = true) := fun e => hR ▸ e
  have HZ : Hid (RdZ w v zs) := h
  clear hR hL
  obtain ⟨a, cap, rfl, h1, h2, h3⟩ := h
  have H3 : Hid (∀ (j : Nat) (z : Zn), zs[j]? = some z → ∃ b off : Nat, a = some ⟨b, off, none⟩ ∧ ElZ w b (off + j * 4) z) := h3
  have zl : zs.length ≤ maxLen := by omega
  unfold maxLen at zl
  clear h3
  have hmm := @run_makeMap Try.prog
  by_cases l0 : zs.length < 1
  · have X : R = false := by rw [HR.out, decide_eq_false (show ¬ (0 < zs.length ∧ zs.length < 9) by omega), Bool.and_false]
    have l1 : (zs.length : Int) < 1 := by omega
    subst X
    clear HR HT HF HZ H3
    go_enter Try.func8, Try.ntmps8
    go_wp2
    refine bodyPost_ret (v := .tuple #[.pointer none, .int .i64 2]) (by simp [results, Try.results8, go_sem]) rfl ⟨by go_grown, .inr ⟨rfl, rfl⟩⟩
  by_cases l8 : 8 < zs.length
  · have X : R = false := by rw [HR.out, decide_eq_false (show ¬ (0 < zs.length ∧ zs.length < 9) by omega), Bool.and_false]
    have l1 : ¬ (zs.length : Int) < 1 := by omega
    have l2 : (8 : Int) < (zs.length : Int) := by omega
    subst X
    clear HR HT HF HZ H3
    go_enter Try.func8, Try.ntmps8
    go_wp2
    refine bodyPost_ret (v := .tuple #[.pointer none, .int .i64 2]) (by simp [results, Try.results8, go_sem]) rfl ⟨by go_grown, .inr ⟨rfl, rfl⟩⟩
  have X : R = L := by rw [HR.out, decide_eq_true (show 0 < zs.length ∧ zs.length < 9 by omega), Bool.and_true]
  subst X
  clear HR
  have l1 : ¬ (zs.length : Int) < 1 := by omega
  have l2 : ¬ (8 : Int) < (zs.length : Int) := by omega
  have C1 : Hid (∀ (z : Zn) w1, Calls Try.prog 28 #[zoneV z] w1 fun e w' => e = .returned (.bool (fitB z)) ∧ Below w1.heap.size w1 w') := fun z w1 => rightZone_is z w1
  go_enter Try.func8, Try.ntmps8
  go_wp2
  go_loopw [16] (fun f wr => ∃ j : Nat, f = .int .i64 j ∧ j ≤ zs.length ∧ Hid (fitL (zs.drop j) = R) ∧ Below w.heap.size w wr) (fun f _ => zs.length - (intOf f).toNat)
  case atStart => exact ⟨0, rfl, by omega, HT, by go_grown⟩
  case round =>
    clear HT
    obtain ⟨j, rfl, jl, HO, HB⟩ := hrel
    by_cases cj : j < zs.length
    · obtain ⟨z, hz⟩ : ∃ z, zs[j]? = some z := ⟨zs[j], List.getElem?_eq_getElem cj⟩
      obtain ⟨b, off, rfl, E⟩ := H3.out j z hz
      obtain ⟨t0, t1, t2, t3⟩ := E.later HB
      have F := HO.out
      rw [fitL_drop hz] at F
      have C2 := C1.out z
      obtain ⟨g, hg⟩ : ∃ g, g = fitB z := ⟨_, rfl⟩
      rw [← hg] at F C2
      have HF2 : Hid ((g && fitL (zs.drop (j + 1))) = R) := F
      have j0 : (0 : Int) ≤ (j : Int) := by omega
      have j1 : (j : Int) < (zs.length : Int) := by omega
      clear E F hz HO H3 C1 hg
      go_wp2_with (fail)
      refine (C2 _).mono ?_
      rintro e w2 ⟨rfl, hw2⟩
      have HB2 : Below w.heap.size w w2 := (HB.alloc HB.size _).trans (hw2.mono (by have := HB.size; simp; omega))
      clear C2 hw2 HB t0 t1 t2 t3
      cases g with
      | false =>
        have X : R = false := by rw [← HF2.out]; rfl
        subst X
        clear HF2 HF HZ
        go_wp2
        refine bodyPost_ret (v := .tuple #[.pointer none, .int .i64 2]) (by simp [results, Try.results8, go_sem]) rfl ⟨HB2, .inr ⟨rfl, rfl⟩⟩
      | true =>
        have X : Hid (fitL (zs.drop (j + 1)) = R) := by have := HF2.out; rwa [Bool.true_and] at this
        clear HF2
        go_wp2
        go_roundw
        case rel => exact ⟨j + 1, by go_num, by omega, X, HB2⟩
        case measure => simp [intOf]; omega
    · obtain rfl : j = zs.length := by omega
      have X : R = true := by rw [← HO.out, List.drop_length]; rfl
      subst X
      obtain ⟨b, off, rfl, -⟩ := H3.out 0 zs[0] (List.getElem?_eq_getElem (by omega))
      have Z1 := RdZ.later HZ.out HB
      have FT := HF.out rfl
      have C3 := cloneZ_is wr Z1 (by omega)
      clear HO HZ Z1 H3 C1 HF
      go_wp2_with (fail)
      refine C3.mono ?_
      rintro e w2 ⟨zb, zc, rfl, rz, hw2⟩
      have HB2 : Below w.heap.size w w2 := HB.trans (hw2.mono HB.size)
      have M3 : Hid (MapW (w2.alloc (.map #[] 0)) w2.heap.size []) := MapW.made w2
      have RZ := RdZ.later rz ((Below.refl w2.heap.size w2).alloc (Nat.le_refl _) (.map #[] 0))
      have HB3 : Below w.heap.size w (w2.alloc (.map #[] 0)) := HB2.alloc HB2.size _
      clear C3 hw2 rz
      obtain ⟨m, hm⟩ : ∃ m, m = w2.heap.size := ⟨_, rfl⟩
      have HM : Hid (w.heap.size ≤ m) := by rw [hm]; exact HB2.size
      go_wp2
      rw [← hm] at M3 ⊢
      have hs3 : Hid ((w2.alloc (.map #[] 0)).heap.size = m + 1) := by rw [hm]; exact World.size_alloc _ _
      clear hm
      generalize w2.alloc (.map #[] 0) = W3 at *
      refine bodyPost_ret (v := .tuple #[tbV (m + 1), .int .i64 0]) (by simp [results, Try.results8, go_sem]) rfl ⟨HB3.alloc HB3.size _, .inl ⟨rfl, m + 1, m, rfl, ?_, Nat.le_succ_of_le HM.out, HM.out⟩⟩
      have q1 : Cs (W3.alloc (.cells #[.slice (some ⟨zb, 0, none⟩) zs.length zc, .map (some m)] 74)) (m + 1) [.slice (some ⟨zb, 0, none⟩) zs.length zc, .map (some m)] := Cs.new _ _ _ _ hs3.out.symm
      exact ⟨⟨zb, 0, zc, q1.1 0 _ rfl, RdZ.later RZ ((Below.refl _ _).alloc (Nat.le_refl _) _)⟩, q1.1 1 _ rfl, M3.out.alloc _, FT⟩

/-- A spread's sum. -/
def sumTo (s : Nat → Int) : Nat → Int
  | 0 => 0
  | n + 1 => sumTo s n + s n
theorem sumTo_bd {s : Nat → Int} (h : ∀ i, i < 8 → 0 ≤ s i ∧ s i ≤ 1099511627776) : ∀ {n : Nat}, n ≤ 8 → 0 ≤ sumTo s n ∧ sumTo s n ≤ n * 1099511627776
  | 0, _ => by simp [sumTo]
  | n + 1, hn => by
    have h1 := sumTo_bd h (n := n) (by omega)
    have h2 := h n (by omega)
    simp only [sumTo]
    omega
set_option maxHeartbeats 2000000 in
set_option maxRecDepth 100000 in
theorem sum_is (s : Nat → Int) (hs : ∀ i, i < 8 → 0 ≤ s i ∧ s i ≤ 1099511627776) (w : World) : Calls Try.prog 27 #[spV s] w fun e w' => e = .returned (.int .i64 (sumTo s 8)) ∧ Below w.heap.size w w' := by
  have HS : Hid (∀ i, i < 8 → (0 ≤ s i ∧ s i ≤ 1099511627776) ∧ 0 ≤ sumTo s i ∧ sumTo s i ≤ 8796093022208) := fun i hi => ⟨hs i hi, by have := sumTo_bd hs (n := i) (by omega); omega⟩
  clear hs
  go_enter Try.func27, Try.ntmps27
  go_wp2
  have HB0 : Below w.heap.size w (w.alloc (.cells #[.int .i64 (s 0), .int .i64 (s 1), .int .i64 (s 2), .int .i64 (s 3), .int .i64 (s 4), .int .i64 (s 5), .int .i64 (s 6), .int .i64 (s 7)] 47)) := by go_grown
  generalize w.alloc (.cells #[.int .i64 (s 0), .int .i64 (s 1), .int .i64 (s 2), .int .i64 (s 3), .int .i64 (s 4), .int .i64 (s 5), .int .i64 (s 6), .int .i64 (s 7)] 47) = W0 at *
  go_loopw [3, 7] (fun n f wr => ∃ j : Nat, f = .int .i64 j ∧ j ≤ 8 ∧ n = .int .i64 (sumTo s j) ∧ wr = W0) (fun _ f _ => 8 - (intOf f).toNat)
  case atStart => exact ⟨0, rfl, by omega, rfl, rfl⟩
  case round =>
    obtain ⟨j, rfl, jl, rfl, rfl⟩ := hrel
    by_cases cj : j < 8
    · have j0 : (0 : Int) ≤ (j : Int) := by omega
      have j1 : (j : Int) < 8 := by omega
      have x1 := ix8 s cj
      obtain ⟨⟨b1, b2⟩, b3, b4⟩ := HS.out j cj
      have ST : Hid (sumTo s (j + 1) = sumTo s j + s j) := rfl
      generalize sumTo s j = y at *
      generalize s j = x at *
      clear HS
      go_wp2
      go_roundw
      case rel => exact ⟨j + 1, by go_num, by omega, by rw [ST.out], by simp⟩
      case measure => simp [intOf]; omega
    · obtain rfl : j = 8 := by omega
      go_wp2
      go_ret
      exact ⟨rfl, HB0⟩

set_option maxHeartbeats 2000000 in
set_option maxRecDepth 100000 in
theorem clone_is {b m : Nat} {zs : List Zn} {ls : List Rw} (w : World) (h : Tb w b m zs ls) :
    Calls Try.prog 19 #[tbV b] w fun e w' => ∃ b' m', e = .returned (tbV b') ∧ Tb w' b' m' zs ls ∧ w.heap.size ≤ b' ∧ w.heap.size ≤ m' ∧ Below w.heap.size w w' := by
  have HT : Hid (Tb w b m zs ls) := h
  have FT := h.fit
  have zl := (fits_len FT).2
  obtain ⟨⟨zb, zo, cap, c0, hz⟩, c1, hm, -⟩ := h
  have RZ : Hid (∀ w1, Below w.heap.size w w1 → w1.cell? ⟨b, 0, none⟩ = some (.slice (some ⟨zb, zo, none⟩) zs.length cap) ∧ RdZ w1 (.slice (some ⟨zb, zo, none⟩) zs.length cap) zs ∧ w1.cell? ⟨b, 1, none⟩ = some (.map (some m)) ∧ MapW w1 m ls) := fun w1 hb => ⟨cell_later hb c0, RdZ.later hz hb, cell_later hb c1, MapW.later hb hm⟩
  clear HT c0 hz c1 hm
  go_enter Try.func19, Try.ntmps19
  go_upto_region 3 with (fail)
  have BW : Hid (Below w.heap.size w _) := Below.drew (Below.refl _ _)
  refine wp_region_noPanic ?_
  refine wp_region_held_drew (S := fun w' => w'.cell? ⟨b, 0, none⟩ = some (.slice (some ⟨zb, zo, none⟩) zs.length cap) ∧ w'.cell? ⟨b, 1, none⟩ = some (.map (some m))) (by kernel_rfl) ?_ (fun hHeld => ?_)
  · exact ⟨(RZ.out _ BW.out).1, (RZ.out _ BW.out).2.2.1⟩
  generalize World.drew _ = wd0 at *
  refine wpAnyH_take (i := 0) (v := ?_) rfl (by kernel_rfl) (by kernel_rfl) (by kernel_rfl) (fun _ _ _ h => h) (Or.inl ⟨by rfl, ?_⟩) (by assumption) ?_
  rotate_left
  · (intro wS hSw; have cb0 := hSw.1; have cb1 := hSw.2; go_simp; try with_reducible rfl)
  change wpAnyH _ _ _ _ _ _ _ (Act.put _ (some 5) _) _
  simp only [Act.put, List.setIfInBounds_toArray, List.set_cons_zero, List.set_cons_succ]
  refine wpAnyH_take (i := 1) (v := ?_) rfl (by kernel_rfl) (by kernel_rfl) (by kernel_rfl) (fun _ _ _ h => h) (Or.inl ⟨by rfl, ?_⟩) (by assumption) ?_
  rotate_left
  · (intro wS hSw; have cb0 := hSw.1; have cb1 := hSw.2; go_simp; try with_reducible rfl)
  change wpAnyH _ _ _ _ _ _ _ (Act.put _ (some 6) _) _
  simp only [Act.put, List.setIfInBounds_toArray, List.set_cons_zero, List.set_cons_succ]
  refine wpAnyH_take (i := 2) (v := ?_) rfl (by kernel_rfl) (by kernel_rfl) (by kernel_rfl) (fun _ _ _ h => h) (Or.inl ⟨by rfl, ?_⟩) (by assumption) ?_
  rotate_left
  · (intro wS hSw; have cb0 := hSw.1; have cb1 := hSw.2; go_simp; try with_reducible rfl)
  change wpAnyH _ _ _ _ _ _ _ (Act.put _ (some 7) _) _
  simp only [Act.put, List.setIfInBounds_toArray, List.set_cons_zero, List.set_cons_succ]
  refine wpAnyH_take (i := 3) (v := ?_) rfl (by kernel_rfl) (by kernel_rfl) (by kernel_rfl) (fun _ _ _ h => h) (Or.inl ⟨by rfl, ?_⟩) (by assumption) ?_
  rotate_left
  · (intro wS hSw; have cb0 := hSw.1; have cb1 := hSw.2; go_simp; try with_reducible rfl)
  change wpAnyH _ _ _ _ _ _ _ (Act.put _ (some 8) _) _
  simp only [Act.put, List.setIfInBounds_toArray, List.set_cons_zero, List.set_cons_succ]
  refine wpAnyH_take (i := 5) (v := ?_) rfl (by kernel_rfl) (by kernel_rfl) (by kernel_rfl) (fun _ _ _ h => h) (Or.inl ⟨by rfl, ?_⟩) (by assumption) ?_
  rotate_left
  · (intro wS hSw; have cb0 := hSw.1; have cb1 := hSw.2; go_simp; try with_reducible rfl)
  change wpAnyH _ _ _ _ _ _ _ (Act.put _ (some 10) _) _
  simp only [Act.put, List.setIfInBounds_toArray, List.set_cons_zero, List.set_cons_succ]
  refine wpAnyH_take (i := 6) (v := ?_) rfl (by kernel_rfl) (by kernel_rfl) (by kernel_rfl) (fun _ _ _ h => h) (Or.inl ⟨by rfl, ?_⟩) (by assumption) ?_
  rotate_left
  · (intro wS hSw; have cb0 := hSw.1; have cb1 := hSw.2; go_simp; try with_reducible rfl)
  change wpAnyH _ _ _ _ _ _ _ (Act.put _ (some 11) _) _
  simp only [Act.put, List.setIfInBounds_toArray, List.set_cons_zero, List.set_cons_succ]
  refine wpAnyH_take (i := 7) (v := ?_) rfl (by kernel_rfl) (by kernel_rfl) (by kernel_rfl) (fun _ _ _ h => h) (Or.inl ⟨by rfl, ?_⟩) (by assumption) ?_
  rotate_left
  · (intro wS hSw; have cb0 := hSw.1; have cb1 := hSw.2; go_simp; try with_reducible rfl)
  change wpAnyH _ _ _ _ _ _ _ (Act.put _ (some 12) _) _
  simp only [Act.put, List.setIfInBounds_toArray, List.set_cons_zero, List.set_cons_succ]
  refine wpAnyH_take (i := 8) (v := ?_) rfl (by kernel_rfl) (by kernel_rfl) (by kernel_rfl) (fun _ _ _ h => h) (Or.inl ⟨by rfl, ?_⟩) (by assumption) ?_
  rotate_left
  · (intro wS hSw; have cb0 := hSw.1; have cb1 := hSw.2; go_simp; try with_reducible rfl)
  change wpAnyH _ _ _ _ _ _ _ (Act.put _ (some 13) _) _
  simp only [Act.put, List.setIfInBounds_toArray, List.set_cons_zero, List.set_cons_succ]
  refine wpAnyH_ready (rs := [4]) (by kernel_rfl) (by simp) ?_
  refine AllReadyH.cons rfl (fun K hK => ?_) AllReadyH.nil
  go_simp
  refine (cloneZ_is _ (RZ.out _ BW.out).2.1 (by omega)).mono ?_
  rintro e v1 ⟨zb', zc', rfl, rz, hv1⟩
  have BW' : Hid (Below w.heap.size w v1) := BW.out.trans (hv1.mono BW.out.size)
  have RN' : Hid (RdZ v1 (.slice (some ⟨zb', 0, none⟩) zs.length zc') zs) := rz
  clear hv1 BW
  have BW := BW'
  clear BW'
  have RN := RN'
  clear RN'
  (try go_wp2_with (fail))
  refine hK.out _ _ ?_ (fun hHeld => ?_)
  · exact ⟨(RZ.out _ BW.out).1, (RZ.out _ BW.out).2.2.1⟩
  clear hK K
  refine wpAnyH_ready (rs := [9]) (by kernel_rfl) (by simp) ?_
  refine AllReadyH.cons rfl (fun K hK => ?_) AllReadyH.nil
  go_simp
  refine (cloneM_is _ (RZ.out _ BW.out).2.2.2).mono ?_
  rintro e v2 ⟨rfl, mn, hv2⟩
  have BW' : Hid (Below w.heap.size w v2) := BW.out.trans (hv2.mono BW.out.size)
  have RN' : Hid (RdZ v2 (.slice (some ⟨zb', 0, none⟩) zs.length zc') zs) := RdZ.later RN.out hv2
  have MN' : Hid (MapW v2 v1.heap.size ls ∧ w.heap.size ≤ v1.heap.size) := ⟨mn, BW.out.size⟩
  clear hv2 BW RN
  have BW := BW'
  clear BW'
  have RN := RN'
  clear RN'
  have MN := MN'
  clear MN'
  (try go_wp2_with (fail))
  refine hK.out _ _ ?_ (fun hHeld => ?_)
  · exact ⟨(RZ.out _ BW.out).1, (RZ.out _ BW.out).2.2.1⟩
  clear hK K
  refine wpAnyH_take (i := 10) (v := ?_) rfl (by kernel_rfl) (by kernel_rfl) (by kernel_rfl) (fun _ _ _ h => h) (Or.inl ⟨by rfl, ?_⟩) (by assumption) ?_
  rotate_left
  · (intro wS hSw; have cb0 := hSw.1; have cb1 := hSw.2; go_simp; try with_reducible rfl)
  change wpAnyH _ _ _ _ _ _ _ (Act.put _ (some 15) _) _
  simp only [Act.put, List.setIfInBounds_toArray, List.set_cons_zero, List.set_cons_succ]
  refine wpAnyH_ready (rs := [11]) (by kernel_rfl) (by simp) ?_
  refine AllReadyH.cons rfl (fun K hK => ?_) AllReadyH.nil
  go_simp
  have q1 : Cs (v2.alloc (.cells #[.slice (some ⟨zb', 0, none⟩) zs.length zc', .map (some v1.heap.size)] 74)) v2.heap.size [.slice (some ⟨zb', 0, none⟩) zs.length zc', .map (some v1.heap.size)] := Cs.new _ _ _ _ rfl
  have BB := BW.out.alloc BW.out.size (.cells #[.slice (some ⟨zb', 0, none⟩) zs.length zc', .map (some v1.heap.size)] 74)
  have TT : Tb (v2.alloc (.cells #[.slice (some ⟨zb', 0, none⟩) zs.length zc', .map (some v1.heap.size)] 74)) v2.heap.size v1.heap.size zs ls := ⟨⟨zb', 0, zc', q1.1 0 _ rfl, RdZ.later RN.out ((Below.refl _ _).alloc (Nat.le_refl _) _)⟩, q1.1 1 _ rfl, MN.out.1.alloc _, FT⟩
  have n1 := BW.out.size
  have n2 := MN.out.2
  refine hK.out _ _ ?_ (fun hHeld => ?_)
  · exact ⟨(RZ.out _ BB).1, (RZ.out _ BB).2.2.1⟩
  clear hK K q1
  refine wpAnyH_take (i := 12) (v := ?_) rfl (by kernel_rfl) (by kernel_rfl) (by kernel_rfl) (fun _ _ _ h => h) (Or.inl ⟨by rfl, ?_⟩) (by assumption) ?_
  rotate_left
  · (intro wS hSw; have cb0 := hSw.1; have cb1 := hSw.2; go_simp; try with_reducible rfl)
  change wpAnyH _ _ _ _ _ _ _ (Act.put _ (some 2) _) _
  simp only [Act.put, List.setIfInBounds_toArray, List.set_cons_zero, List.set_cons_succ]
  refine wpAnyH_done (by kernel_rfl) ?_ _
  refine NoPanic.normal ?_
  go_wp2
  go_ret
  exact ⟨_, _, rfl, TT, n1, n2, BB⟩
set_option maxHeartbeats 2000000 in
theorem clone_nil (w : World) : Calls Try.prog 19 #[.pointer none] w fun e w' => e = .returned (.pointer none) ∧ Below w.heap.size w w' := by
  go_enter Try.func19, Try.ntmps19
  go_wp2
  go_ret
  exact ⟨rfl, by go_grown⟩

end Go.Proofs.Ytpefjcgccbfgbaa.Bk
