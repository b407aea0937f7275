/-
  Two maps and two tables held against one another (maps.Equal, Same), at this program. Conditions: both are maps of owners, or tables of the same zones.
-/
import Derived.Test.YtpefjcgccbfgbaaNK
import Derived.Test.YtpefjcgccbfgbaaNO
namespace Go.Proofs.Ytpefjcgccbfgbaa.Bk
open Go.RowKit Go.Shelf Go.Maps

theorem Rep.look_any {D : DataW Unit} {ls : List Rw} (h : Rep D ls) {p c : ByteArray} {k : Int} (g : GdK p c k) : has D (keyL p c k) = ls.any (fun q => eqO q.p q.c q.k p c k) := by
  rw [h.any, Bool.eq_iff_iff, List.any_eq_true, List.any_eq_true]
  constructor
  · rintro ⟨q, hq, e⟩
    exact ⟨q, hq, (key_eqO (h.good q hq) g).2 (kq_iff.1 e)⟩
  · rintro ⟨q, hq, e⟩
    exact ⟨q, hq, kq_iff.2 ((key_eqO (h.good q hq) g).1 e)⟩
theorem MapW.look_ok {W : World} {b : Nat} {ls : List Rw} (h : MapW W b ls) {p c : ByteArray} {k : Int} (g : GdK p c k) :
    Sem.run Try.prog (Instr.lookup tMap (.map (some b)) (ownV p c k) true) W = .ok (.tuple #[spV (hld p c k ls), .bool (ls.any fun q => eqO q.p q.c q.k p c k)]) W := by
  obtain ⟨D, h1, h2⟩ := h
  obtain ⟨v, ps, hrun, hv⟩ := h1.look_ok ownK Try.underlying72 (zeroSp W) (rdSp_mk nought) g.key
  rw [h2.look g] at hv
  obtain ⟨s, rfl, hy⟩ := rdSp_inv hv
  simp only [Prod.mk.injEq] at hy
  rw [spD_inj hy.1, ← h2.look_any g]
  exact hrun
/-- Does the list hold a row's owner, and just what it holds? -/
def mt (ls : List Rw) (r : Rw) : Bool := (ls.any fun q => eqO q.p q.c q.k r.p r.c r.k) && eqP r.s (hld r.p r.c r.k ls)
def sameM (l m : List Rw) : Bool := decide (l.length = m.length) && l.all (mt m)

set_option maxHeartbeats 4000000 in
set_option maxRecDepth 100000 in
theorem eqM_is {m n : Nat} {ls ms : List Rw} (w : World) (h : MapW w m ls) (h' : MapW w n ms) :
    Calls Try.prog 36 #[.map (some m), .map (some n)] w fun e w' => e = .returned (.bool (sameM ls ms)) ∧ Below w.heap.size w w' := by
  obtain ⟨R, hR⟩ : ∃ R, R = sameM ls ms := ⟨_, rfl⟩
  rw [← hR]
  have HR : Hid (R = (decide (ls.length = ms.length) && ls.all (mt ms))) := hR
  clear hR
  have ln1 := fun ty => h.len ty
  have ln2 := fun ty => h'.len ty
  have H2 : Hid (MapW w n ms) := h'
  clear h'
  go_enter Try.func36, Try.ntmps36
  by_cases ll : ls.length = ms.length
  case neg =>
    have lt : ((ls.length : Int) != (ms.length : Int)) = true := by simp; omega
    have X : R = false := by rw [HR.out, decide_eq_false ll]; rfl
    subst X
    go_wp2
    go_ret
    exact ⟨rfl, by go_grown⟩
  have lt : ((ls.length : Int) != (ms.length : Int)) = false := by simp; omega
  have HR2 : Hid (R = ls.all (mt ms)) := by unfold Hid; rw [HR.out, decide_eq_true ll, Bool.true_and]
  clear ll HR
  go_wp2_with (first
    | (at_range; refine wpList_range_tab _ rfl _ rfl m ls rfl h ?_; intro w2 hrg0 hw2 hs2)
    | go_in)
  (try go_frame)
  obtain ⟨it, hit⟩ : ∃ it, it = w.heap.size := ⟨_, rfl⟩
  have HI : Hid (w.heap.size ≤ it) := by rw [hit]; exact Nat.le_refl _
  rw [← hit] at hrg0 ⊢
  clear hit hs2 h ln1 ln2 lt
  go_loopw [16] (fun _ wr => ∃ (done todo : List Rw), Hid ((done ++ todo).Perm ls) ∧ Rng wr m it done todo ∧ Hid (∀ r ∈ done, mt ms r = true) ∧ Below w.heap.size w wr) (fun _ wr => wr.rangeLeft m it)
  case atStart => exact ⟨[], ls, List.Perm.refl _, hrg0, fun r hr => absurd hr (by simp), hw2⟩
  case round =>
    clear hrg0 hw2
    obtain ⟨done, todo, HP, hrg, HM, HB⟩ := hrel
    go_wp2_with (first
      | (at_next; refine wpList_next_tab _ rfl _ rfl m it done todo rfl hrg ?_ ?_)
      | go_in)
    · intro h0
      subst h0
      have X : R = true := by
        rw [HR2.out, List.all_eq_true]
        intro r hr
        have := HP.out
        rw [List.append_nil] at this
        exact HM.out r (this.mem_iff.2 hr)
      subst X
      clear HR2 HM HP hrg
      go_wp2
      go_ret
      exact ⟨rfl, HB⟩
    · intro r todo' w1 hp hg hrg1 hlt hgr hsz hen
      obtain ⟨L, hL⟩ : ∃ L, L = wr.rangeLeft m it := ⟨_, rfl⟩
      have HLL : Hid (∀ n, n < L → n < wr.rangeLeft m it) := fun n h => by rw [← hL]; exact h
      rw [← hL] at hlt
      have HB1 : Below w.heap.size w w1 := HB.grown hgr HB.size (fun k e => by cases e; exact HI.out)
      have HP1 : Hid ((done ++ [r] ++ todo').Perm ls) := by unfold Hid; rw [List.append_assoc]; exact ((hp.append_left done).symm).trans HP.out
      have RM : Hid (r ∈ ls) := HP1.out.mem_iff.1 (by simp)
      have R2 := (hrg1.alloc (.cells #[.string r.p, .string r.c, .int .i64 r.k] 45)).alloc (.cells #[.int .i64 (r.s 0), .int .i64 (r.s 1), .int .i64 (r.s 2), .int .i64 (r.s 3), .int .i64 (r.s 4), .int .i64 (r.s 5), .int .i64 (r.s 6), .int .i64 (r.s 7)] 47)
      have HB2 : Below w.heap.size w ((w1.alloc (.cells #[.string r.p, .string r.c, .int .i64 r.k] 45)).alloc (.cells #[.int .i64 (r.s 0), .int .i64 (r.s 1), .int .i64 (r.s 2), .int .i64 (r.s 3), .int .i64 (r.s 4), .int .i64 (r.s 5), .int .i64 (r.s 6), .int .i64 (r.s 7)] 47)) := (HB1.alloc HB1.size _).alloc (Nat.le_trans HB1.size (by rw [World.size_alloc]; exact Nat.le_succ _)) _
      have qo : Cs ((w1.alloc (.cells #[.string r.p, .string r.c, .int .i64 r.k] 45)).alloc (.cells #[.int .i64 (r.s 0), .int .i64 (r.s 1), .int .i64 (r.s 2), .int .i64 (r.s 3), .int .i64 (r.s 4), .int .i64 (r.s 5), .int .i64 (r.s 6), .int .i64 (r.s 7)] 47)) w1.heap.size [.string r.p, .string r.c, .int .i64 r.k] := Cs.alloc (Cs.new _ _ _ _ rfl) _
      have qs : Cs ((w1.alloc (.cells #[.string r.p, .string r.c, .int .i64 r.k] 45)).alloc (.cells #[.int .i64 (r.s 0), .int .i64 (r.s 1), .int .i64 (r.s 2), .int .i64 (r.s 3), .int .i64 (r.s 4), .int .i64 (r.s 5), .int .i64 (r.s 6), .int .i64 (r.s 7)] 47)) (w1.heap.size + 1) (spL r.s) := Cs.new _ _ _ _ (by simp)
      have L2 : Hid (World.rangeLeft ((w1.alloc (.cells #[.string r.p, .string r.c, .int .i64 r.k] 45)).alloc (.cells #[.int .i64 (r.s 0), .int .i64 (r.s 1), .int .i64 (r.s 2), .int .i64 (r.s 3), .int .i64 (r.s 4), .int .i64 (r.s 5), .int .i64 (r.s 6), .int .i64 (r.s 7)] 47)) m it < L) := by
        unfold Hid
        rw [Rng.left_later (hrg1.alloc _) ((Below.refl _ _).alloc (Nat.le_refl _) _), Rng.left_later hrg1 ((Below.refl _ _).alloc (Nat.le_refl _) _)]
        exact hlt
      clear hL hrg hgr hsz HB HP HB1 hlt hrg1 hp
      go_upto_region 6 with (fail)
      obtain ⟨po, hpo⟩ : ∃ po, po = w1.heap.size := ⟨_, rfl⟩
      obtain ⟨ps, hps⟩ : ∃ ps, ps = w1.heap.size + 1 := ⟨_, rfl⟩
      rw [← hps] at qs ⊢
      rw [← hpo] at qo ⊢
      clear hpo hps hen
      generalize (w1.alloc (.cells #[.string r.p, .string r.c, .int .i64 r.k] 45)).alloc (.cells #[.int .i64 (r.s 0), .int .i64 (r.s 1), .int .i64 (r.s 2), .int .i64 (r.s 3), .int .i64 (r.s 4), .int .i64 (r.s 5), .int .i64 (r.s 6), .int .i64 (r.s 7)] 47) = W2 at *
      have o0 := qo.1 0 _ rfl
      have o1 := qo.1 1 _ rfl
      have o2 := qo.1 2 _ rfl
      have s0 := qs.1 0 _ rfl
      have s1 := qs.1 1 _ rfl
      have s2 := qs.1 2 _ rfl
      have s3 := qs.1 3 _ rfl
      have s4 := qs.1 4 _ rfl
      have s5 := qs.1 5 _ rfl
      have s6 := qs.1 6 _ rfl
      have s7 := qs.1 7 _ rfl
      have lk := (MapW.later HB2 H2.out : MapW W2 n ms).look_ok hg
      obtain ⟨x, hx⟩ : ∃ x, x = ms.any fun q => eqO q.p q.c q.k r.p r.c r.k := ⟨_, rfl⟩
      obtain ⟨H, hH⟩ : ∃ H, H = hld r.p r.c r.k ms := ⟨_, rfl⟩
      rw [← hx, ← hH] at lk
      obtain ⟨y, hy⟩ : ∃ y, y = eqP r.s H := ⟨_, rfl⟩
      have sm : ∀ w : World, Sem.run Try.prog (Op.equalIn 10000 47 (spV r.s) (spV H)) w = .ok y w := fun w => by rw [hy]; exact sp_eq 9998 r.s H w
      have HM2 : Hid (mt ms r = (x && y)) := by rw [hx, hy, hH]; rfl
      have zo := qo.2.2
      have zs := qs.2.2
      clear hx hy hH hg
      cases x with
      | false =>
        have X : R = false := by
          rw [HR2.out, List.all_eq_false]
          exact ⟨r, RM.out, by rw [HM2.out]; simp⟩
        subst X
        clear HR2 HM HM2 H2 R2 L2 HLL sm qo qs
        go_wp2
        go_ret
        exact ⟨rfl, HB2.alloc HB2.size _⟩
      | true =>
        have R3 := R2.alloc (.cells #[.int .i64 (H 0), .int .i64 (H 1), .int .i64 (H 2), .int .i64 (H 3), .int .i64 (H 4), .int .i64 (H 5), .int .i64 (H 6), .int .i64 (H 7)] 47)
        have HB3 := HB2.alloc HB2.size (.cells #[.int .i64 (H 0), .int .i64 (H 1), .int .i64 (H 2), .int .i64 (H 3), .int .i64 (H 4), .int .i64 (H 5), .int .i64 (H 6), .int .i64 (H 7)] 47)
        have L3 : Hid (World.rangeLeft (W2.alloc (.cells #[.int .i64 (H 0), .int .i64 (H 1), .int .i64 (H 2), .int .i64 (H 3), .int .i64 (H 4), .int .i64 (H 5), .int .i64 (H 6), .int .i64 (H 7)] 47)) m it < L) := by
          unfold Hid
          rw [R2.left_later ((Below.refl _ _).alloc (Nat.le_refl _) _)]
          exact L2.out
        clear R2 L2
        cases y with
        | false =>
          have X : R = false := by
            rw [HR2.out, List.all_eq_false]
            exact ⟨r, RM.out, by rw [HM2.out]; simp⟩
          subst X
          clear HR2 HM HM2 H2 R3 L3 HLL qo qs
          go_wp2
          go_ret
          exact ⟨rfl, HB3⟩
        | true =>
          have HM3 : Hid (∀ q ∈ done ++ [r], mt ms q = true) := fun q hq => by
            rcases List.mem_append.1 hq with h | h
            · exact HM.out q h
            · obtain rfl : q = r := by simpa using h
              rw [HM2.out]; rfl
          clear HM HM2 qo qs
          go_wp2
          go_roundw
          case rel => exact ⟨done ++ [r], todo', HP1, R3, HM3, HB3⟩
          case measure => exact HLL.out _ L3.out

theorem eqZ_refl (z : Zn) : eqZ z z = true := by unfold eqZ; simp
theorem allZ : ∀ zs : List Zn, Lib.allEq eqZ zs zs = true
  | [] => rfl
  | z :: l => by rw [Lib.allEq, eqZ_refl, allZ l]; rfl
theorem neqZ : NeqAt Try.prog 35 (fun z : Zn => .agg (znL z).toArray) eqZ := by
  refine ⟨fun x y w => ?_, GuardAt.agg _ (by kernel_rfl)⟩
  have e := zone_eq x y w
  show Sem.run Try.prog (binOp .neq 35 (zoneV x) (zoneV y)) w = _
  go_simp
theorem eqZ_is {z1 o1 c1 z2 o2 c2 : Nat} {zs : List Zn} (w : World) (h : RdZ w (.slice (some ⟨z1, o1, none⟩) zs.length c1) zs) (k : RdZ w (.slice (some ⟨z2, o2, none⟩) zs.length c2) zs) (hl : zs.length ≤ 1000) :
    Calls Try.prog 35 #[.slice (some ⟨z1, o1, none⟩) zs.length c1, .slice (some ⟨z2, o2, none⟩) zs.length c2] w fun e w' => e = .returned (.bool true) ∧ Below w.heap.size w w' := by
  haveI : Inhabited Zn := ⟨zn0⟩
  have cl : ∀ {zb zo cap : Nat}, RdZ w (.slice (some ⟨zb, zo, none⟩) zs.length cap) zs → ∀ j, j < zs.length → ∀ i v, (znL zs[j]!)[i]? = some v → w.cell? ⟨zb, zo + j * 4 + i, none⟩ = some v := fun hz j hj i v hv => by
    rw [getElem!_pos zs j hj] at hv
    have := hz.cells (j * 4 + i) v (flatZ_at (List.getElem?_eq_getElem hj) hv)
    rwa [Nat.add_assoc]
  have hcon := AnyQ.slices_Equal Try.eqZ 4 Try.isAgg35 Try.sizeOf35 znL (fun _ => rfl) eqZ neqZ z1 o1 zs.length c1 z2 o2 zs.length c2 zs zs w (Nat.le_refl _) (Nat.le_refl _) (by omega) (by omega) (cl h) (cl k)
  change Calls Try.prog 35 _ _ _ at hcon
  rw [List.take_length, allZ] at hcon
  exact hcon.mono fun e w' ⟨he, q, hq⟩ => ⟨he, by rw [hq]; exact below_drewN (Below.refl _ _) q⟩

set_option maxHeartbeats 2000000 in
set_option maxRecDepth 100000 in
theorem same_is {b1 m1 b2 m2 : Nat} {zs : List Zn} {ls ms : List Rw} (w : World) (h : Tb w b1 m1 zs ls) (k : Tb w b2 m2 zs ms) :
    Calls Try.prog 20 #[tbV b1, tbV b2] w fun e w' => e = .returned (.bool (sameM ls ms)) ∧ Below w.heap.size w w' := by
  obtain ⟨R, hR⟩ : ∃ R, R = sameM ls ms := ⟨_, rfl⟩
  rw [← hR]
  have zl := (fits_len h.fit).2
  obtain ⟨⟨z1, o1, c1, a0, hz1⟩, a1, hm1, -⟩ := h
  obtain ⟨⟨z2, o2, c2, d0, hz2⟩, d1, hm2, -⟩ := k
  have RZ : Hid (∀ w1, Below w.heap.size w w1 → (w1.cell? ⟨b1, 0, none⟩ = some (.slice (some ⟨z1, o1, none⟩) zs.length c1) ∧ w1.cell? ⟨b1, 1, none⟩ = some (.map (some m1)) ∧ w1.cell? ⟨b2, 0, none⟩ = some (.slice (some ⟨z2, o2, none⟩) zs.length c2) ∧ w1.cell? ⟨b2, 1, none⟩ = some (.map (some m2))) ∧
    (Calls Try.prog 35 #[.slice (some ⟨z1, o1, none⟩) zs.length c1, .slice (some ⟨z2, o2, none⟩) zs.length c2] w1 fun e w' => e = .returned (.bool true) ∧ Below w1.heap.size w1 w') ∧
    (Calls Try.prog 36 #[.map (some m1), .map (some m2)] w1 fun e w' => e = .returned (.bool R) ∧ Below w1.heap.size w1 w')) := fun w1 hb =>
    ⟨⟨cell_later hb a0, cell_later hb a1, cell_later hb d0, cell_later hb d1⟩, eqZ_is w1 (hz1.later hb) (hz2.later hb) (by omega), by rw [hR]; exact eqM_is w1 (MapW.later hb hm1) (MapW.later hb hm2)⟩
  clear a0 hz1 a1 hm1 d0 hz2 d1 hm2 hR
  go_enter Try.func20, Try.ntmps20
  go_upto_region 3 with (fail)
  have BW : Hid (Below w.heap.size w _) := Below.drew (Below.refl _ _)
  refine wp_region_noPanic ?_
  refine wp_region_held_drew (S := fun w' => w'.cell? ⟨b1, 0, none⟩ = some (.slice (some ⟨z1, o1, none⟩) zs.length c1) ∧ w'.cell? ⟨b1, 1, none⟩ = some (.map (some m1)) ∧ w'.cell? ⟨b2, 0, none⟩ = some (.slice (some ⟨z2, o2, none⟩) zs.length c2) ∧ w'.cell? ⟨b2, 1, none⟩ = some (.map (some m2))) (by kernel_rfl) ?_ (fun hHeld => ?_)
  · exact (RZ.out _ BW.out).1
  generalize World.drew _ = wd0 at *
  refine wpAnyH_take (i := 0) (v := ?_) rfl (by kernel_rfl) (by kernel_rfl) (by kernel_rfl) (fun _ _ _ h => h) (Or.inl ⟨by rfl, ?_⟩) (by assumption) ?_
  rotate_left
  · (intro wS hSw; have e1 := hSw.1; have e2 := hSw.2.1; have e3 := hSw.2.2.1; have e4 := hSw.2.2.2; go_simp; try with_reducible rfl)
  change wpAnyH _ _ _ _ _ _ _ (Act.put _ (some 14) _) _
  simp only [Act.put, List.setIfInBounds_toArray, List.set_cons_zero, List.set_cons_succ]
  refine wpAnyH_take (i := 1) (v := ?_) rfl (by kernel_rfl) (by kernel_rfl) (by kernel_rfl) (fun _ _ _ h => h) (Or.inl ⟨by rfl, ?_⟩) (by assumption) ?_
  rotate_left
  · (intro wS hSw; have e1 := hSw.1; have e2 := hSw.2.1; have e3 := hSw.2.2.1; have e4 := hSw.2.2.2; go_simp; try with_reducible rfl)
  change wpAnyH _ _ _ _ _ _ _ (Act.put _ (some 15) _) _
  simp only [Act.put, List.setIfInBounds_toArray, List.set_cons_zero, List.set_cons_succ]
  refine wpAnyH_take (i := 2) (v := ?_) rfl (by kernel_rfl) (by kernel_rfl) (by kernel_rfl) (fun _ _ _ h => h) (Or.inl ⟨by rfl, ?_⟩) (by assumption) ?_
  rotate_left
  · (intro wS hSw; have e1 := hSw.1; have e2 := hSw.2.1; have e3 := hSw.2.2.1; have e4 := hSw.2.2.2; go_simp; try with_reducible rfl)
  change wpAnyH _ _ _ _ _ _ _ (Act.put _ (some 16) _) _
  simp only [Act.put, List.setIfInBounds_toArray, List.set_cons_zero, List.set_cons_succ]
  refine wpAnyH_take (i := 3) (v := ?_) rfl (by kernel_rfl) (by kernel_rfl) (by kernel_rfl) (fun _ _ _ h => h) (Or.inl ⟨by rfl, ?_⟩) (by assumption) ?_
  rotate_left
  · (intro wS hSw; have e1 := hSw.1; have e2 := hSw.2.1; have e3 := hSw.2.2.1; have e4 := hSw.2.2.2; go_simp; try with_reducible rfl)
  change wpAnyH _ _ _ _ _ _ _ (Act.put _ (some 17) _) _
  simp only [Act.put, List.setIfInBounds_toArray, List.set_cons_zero, List.set_cons_succ]
  refine wpAnyH_take (i := 4) (v := ?_) rfl (by kernel_rfl) (by kernel_rfl) (by kernel_rfl) (fun _ _ _ h => h) (Or.inl ⟨by rfl, ?_⟩) (by assumption) ?_
  rotate_left
  · (intro wS hSw; have e1 := hSw.1; have e2 := hSw.2.1; have e3 := hSw.2.2.1; have e4 := hSw.2.2.2; go_simp; try with_reducible rfl)
  change wpAnyH _ _ _ _ _ _ _ (Act.put _ (some 18) _) _
  simp only [Act.put, List.setIfInBounds_toArray, List.set_cons_zero, List.set_cons_succ]
  refine wpAnyH_take (i := 5) (v := ?_) rfl (by kernel_rfl) (by kernel_rfl) (by kernel_rfl) (fun _ _ _ h => h) (Or.inl ⟨by rfl, ?_⟩) (by assumption) ?_
  rotate_left
  · (intro wS hSw; have e1 := hSw.1; have e2 := hSw.2.1; have e3 := hSw.2.2.1; have e4 := hSw.2.2.2; go_simp; try with_reducible rfl)
  change wpAnyH _ _ _ _ _ _ _ (Act.put _ (some 19) _) _
  simp only [Act.put, List.setIfInBounds_toArray, List.set_cons_zero, List.set_cons_succ]
  refine wpAnyH_take (i := 6) (v := ?_) rfl (by kernel_rfl) (by kernel_rfl) (by kernel_rfl) (fun _ _ _ h => h) (Or.inl ⟨by rfl, ?_⟩) (by assumption) ?_
  rotate_left
  · (intro wS hSw; have e1 := hSw.1; have e2 := hSw.2.1; have e3 := hSw.2.2.1; have e4 := hSw.2.2.2; go_simp; try with_reducible rfl)
  change wpAnyH _ _ _ _ _ _ _ (Act.put _ (some 20) _) _
  simp only [Act.put, List.setIfInBounds_toArray, List.set_cons_zero, List.set_cons_succ]
  refine wpAnyH_take (i := 7) (v := ?_) rfl (by kernel_rfl) (by kernel_rfl) (by kernel_rfl) (fun _ _ _ h => h) (Or.inl ⟨by rfl, ?_⟩) (by assumption) ?_
  rotate_left
  · (intro wS hSw; have e1 := hSw.1; have e2 := hSw.2.1; have e3 := hSw.2.2.1; have e4 := hSw.2.2.2; go_simp; try with_reducible rfl)
  change wpAnyH _ _ _ _ _ _ _ (Act.put _ (some 21) _) _
  simp only [Act.put, List.setIfInBounds_toArray, List.set_cons_zero, List.set_cons_succ]
  refine wpAnyH_ready (rs := [8]) (by kernel_rfl) (by simp) ?_
  refine AllReadyH.cons rfl (fun K hK => ?_) AllReadyH.nil
  go_simp
  refine ((RZ.out _ BW.out).2.1).mono ?_
  rintro e v1 ⟨rfl, hv1⟩
  have BW' : Hid (Below w.heap.size w v1) := BW.out.trans (hv1.mono BW.out.size)
  clear hv1 BW
  have BW := BW'
  clear BW'
  (try go_wp2_with (fail))
  refine hK.out _ _ ?_ (fun hHeld => ?_)
  · exact (RZ.out _ BW.out).1
  clear hK K
  refine wpAnyH_take (i := 9) (v := ?_) rfl (by kernel_rfl) (by kernel_rfl) (by kernel_rfl) (fun _ _ _ h => h) (Or.inl ⟨by rfl, ?_⟩) (by assumption) ?_
  rotate_left
  · (intro wS hSw; have e1 := hSw.1; have e2 := hSw.2.1; have e3 := hSw.2.2.1; have e4 := hSw.2.2.2; go_simp; try with_reducible rfl)
  change wpAnyH _ _ _ _ _ _ _ (Act.put _ (some 23) _) _
  simp only [Act.put, List.setIfInBounds_toArray, List.set_cons_zero, List.set_cons_succ]
  refine wpAnyH_take (i := 10) (v := ?_) rfl (by kernel_rfl) (by kernel_rfl) (by kernel_rfl) (fun _ _ _ h => h) (Or.inl ⟨by rfl, ?_⟩) (by assumption) ?_
  rotate_left
  · (intro wS hSw; have e1 := hSw.1; have e2 := hSw.2.1; have e3 := hSw.2.2.1; have e4 := hSw.2.2.2; go_simp; try with_reducible rfl)
  change wpAnyH _ _ _ _ _ _ _ (Act.put _ (some 24) _) _
  simp only [Act.put, List.setIfInBounds_toArray, List.set_cons_zero, List.set_cons_succ]
  refine wpAnyH_take (i := 11) (v := ?_) rfl (by kernel_rfl) (by kernel_rfl) (by kernel_rfl) (fun _ _ _ h => h) (Or.inl ⟨by rfl, ?_⟩) (by assumption) ?_
  rotate_left
  · (intro wS hSw; have e1 := hSw.1; have e2 := hSw.2.1; have e3 := hSw.2.2.1; have e4 := hSw.2.2.2; go_simp; try with_reducible rfl)
  change wpAnyH _ _ _ _ _ _ _ (Act.put _ (some 25) _) _
  simp only [Act.put, List.setIfInBounds_toArray, List.set_cons_zero, List.set_cons_succ]
  refine wpAnyH_take (i := 12) (v := ?_) rfl (by kernel_rfl) (by kernel_rfl) (by kernel_rfl) (fun _ _ _ h => h) (Or.inl ⟨by rfl, ?_⟩) (by assumption) ?_
  rotate_left
  · (intro wS hSw; have e1 := hSw.1; have e2 := hSw.2.1; have e3 := hSw.2.2.1; have e4 := hSw.2.2.2; go_simp; try with_reducible rfl)
  change wpAnyH _ _ _ _ _ _ _ (Act.put _ (some 26) _) _
  simp only [Act.put, List.setIfInBounds_toArray, List.set_cons_zero, List.set_cons_succ]
  refine wpAnyH_take (i := 13) (v := ?_) rfl (by kernel_rfl) (by kernel_rfl) (by kernel_rfl) (fun _ _ _ h => h) (Or.inl ⟨by rfl, ?_⟩) (by assumption) ?_
  rotate_left
  · (intro wS hSw; have e1 := hSw.1; have e2 := hSw.2.1; have e3 := hSw.2.2.1; have e4 := hSw.2.2.2; go_simp; try with_reducible rfl)
  change wpAnyH _ _ _ _ _ _ _ (Act.put _ (some 27) _) _
  simp only [Act.put, List.setIfInBounds_toArray, List.set_cons_zero, List.set_cons_succ]
  refine wpAnyH_take (i := 14) (v := ?_) rfl (by kernel_rfl) (by kernel_rfl) (by kernel_rfl) (fun _ _ _ h => h) (Or.inl ⟨by rfl, ?_⟩) (by assumption) ?_
  rotate_left
  · (intro wS hSw; have e1 := hSw.1; have e2 := hSw.2.1; have e3 := hSw.2.2.1; have e4 := hSw.2.2.2; go_simp; try with_reducible rfl)
  change wpAnyH _ _ _ _ _ _ _ (Act.put _ (some 28) _) _
  simp only [Act.put, List.setIfInBounds_toArray, List.set_cons_zero, List.set_cons_succ]
  refine wpAnyH_take (i := 15) (v := ?_) rfl (by kernel_rfl) (by kernel_rfl) (by kernel_rfl) (fun _ _ _ h => h) (Or.inl ⟨by rfl, ?_⟩) (by assumption) ?_
  rotate_left
  · (intro wS hSw; have e1 := hSw.1; have e2 := hSw.2.1; have e3 := hSw.2.2.1; have e4 := hSw.2.2.2; go_simp; try with_reducible rfl)
  change wpAnyH _ _ _ _ _ _ _ (Act.put _ (some 29) _) _
  simp only [Act.put, List.setIfInBounds_toArray, List.set_cons_zero, List.set_cons_succ]
  refine wpAnyH_take (i := 16) (v := ?_) rfl (by kernel_rfl) (by kernel_rfl) (by kernel_rfl) (fun _ _ _ h => h) (Or.inl ⟨by rfl, ?_⟩) (by assumption) ?_
  rotate_left
  · (intro wS hSw; have e1 := hSw.1; have e2 := hSw.2.1; have e3 := hSw.2.2.1; have e4 := hSw.2.2.2; go_simp; try with_reducible rfl)
  change wpAnyH _ _ _ _ _ _ _ (Act.put _ (some 30) _) _
  simp only [Act.put, List.setIfInBounds_toArray, List.set_cons_zero, List.set_cons_succ]
  refine wpAnyH_take (i := 17) (v := ?_) rfl (by kernel_rfl) (by kernel_rfl) (by kernel_rfl) (fun _ _ _ h => h) (Or.inl ⟨by rfl, ?_⟩) (by assumption) ?_
  rotate_left
  · (intro wS hSw; have e1 := hSw.1; have e2 := hSw.2.1; have e3 := hSw.2.2.1; have e4 := hSw.2.2.2; go_simp; try with_reducible rfl)
  change wpAnyH _ _ _ _ _ _ _ (Act.put _ (some 31) _) _
  simp only [Act.put, List.setIfInBounds_toArray, List.set_cons_zero, List.set_cons_succ]
  refine wpAnyH_ready (rs := [18]) (by kernel_rfl) (by simp) ?_
  refine AllReadyH.cons rfl (fun K hK => ?_) AllReadyH.nil
  go_simp
  refine ((RZ.out _ BW.out).2.2).mono ?_
  rintro e v2 ⟨rfl, hv2⟩
  have BW' : Hid (Below w.heap.size w v2) := BW.out.trans (hv2.mono BW.out.size)
  clear hv2 BW
  have BW := BW'
  clear BW'
  (try go_wp2_with (fail))
  refine hK.out _ _ ?_ (fun hHeld => ?_)
  · exact (RZ.out _ BW.out).1
  clear hK K
  refine wpAnyH_take (i := 19) (v := ?_) rfl (by kernel_rfl) (by kernel_rfl) (by kernel_rfl) (fun _ _ _ h => h) (Or.inl ⟨by rfl, ?_⟩) (by assumption) ?_
  rotate_left
  · (intro wS hSw; have e1 := hSw.1; have e2 := hSw.2.1; have e3 := hSw.2.2.1; have e4 := hSw.2.2.2; go_simp; try with_reducible rfl)
  change wpAnyH _ _ _ _ _ _ _ (Act.put _ (some 33) _) _
  simp only [Act.put, List.setIfInBounds_toArray, List.set_cons_zero, List.set_cons_succ]
  refine wpAnyH_take (i := 20) (v := ?_) rfl (by kernel_rfl) (by kernel_rfl) (by kernel_rfl) (fun _ _ _ h => h) (Or.inl ⟨by rfl, ?_⟩) (by assumption) ?_
  rotate_left
  · (intro wS hSw; have e1 := hSw.1; have e2 := hSw.2.1; have e3 := hSw.2.2.1; have e4 := hSw.2.2.2; go_simp; try with_reducible rfl)
  change wpAnyH _ _ _ _ _ _ _ (Act.put _ (some 4) _) _
  simp only [Act.put, List.setIfInBounds_toArray, List.set_cons_zero, List.set_cons_succ]
  refine wpAnyH_done (by kernel_rfl) ?_ _
  refine NoPanic.normal ?_
  go_wp2
  go_ret
  exact ⟨rfl, BW.out⟩
set_option maxHeartbeats 1000000 in
theorem same_nil (w : World) : Calls Try.prog 20 #[.pointer none, .pointer none] w fun e w' => e = .returned (.bool true) ∧ Below w.heap.size w w' := by
  go_enter Try.func20, Try.ntmps20
  go_wp2
  go_ret
  exact ⟨rfl, by go_grown⟩

end Go.Proofs.Ytpefjcgccbfgbaa.Bk
