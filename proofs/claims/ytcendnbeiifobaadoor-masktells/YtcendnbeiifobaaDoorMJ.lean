/-
  The text of a mask at this program: package mask's own. Conditions: none.
-/
import Derived.Test.YtcendnbeiifobaaDoorMD
namespace Go.Proofs.YtcendnbeiifobaaDoor.Mk
open Go.RowKit Go.Shelf

attribute [local go_sem] Oper.semAt_some

/-- The text of one node; of all of a mask's. -/
def word (x : Fin 8) : ByteArray := ⟨#[UInt8.ofNat (48 + x.1)]⟩
def textL (b : Nat) : List UInt8 := if nd b = [] then [45] else Lib.join ((nd b).map fun x => (word x).data.toList) [44]
theorem itoa_word (x : Fin 8) (w : World) : Calls Tryd.prog 31 #[encN x] w fun e w' => e = .returned (.string (word x)) ∧ w' = w := by
  have := Tryd.strconv_Itoa_small x.1 (by omega) w
  rw [Lib.decDigits, dif_pos (by omega)] at this
  exact this

theorem strInfo : (Tryd.prog.info? 9).map (fun i => (i.zero, i.size, i.bytes)) = some (some (.string ⟨#[]⟩), 1, 16) := by kernel_rfl
abbrev encS (x : Fin 8) : Value := .string (word x)
/-- There is room behind what one owns. -/
theorem own_room {W : World} {base n cap g : Nat} {T : TypeId} {xs : List Value} (h : W.ownsRow base T 1 (.slice (some ⟨g, 0, none⟩) n cap) n xs) (hn : n < cap) : ∃ z, W.cell? ⟨g, n, none⟩ = some z := by
  obtain ⟨hl, ⟨e, -⟩ | ⟨g', cap', cur, e, -, hb, h1, h2, h3, h4⟩⟩ := h
  · cases e
  · injection e with e1 e2 e3
    injection e1 with e1
    injection e1 with e1
    subst e1 e3
    refine ⟨cur[n]'(by omega), ?_⟩
    simp only [World.cell?, hb]
    exact Array.getElem?_eq_getElem (by omega)
theorem own_thaw {W : World} {base n cap g : Nat} {T : TypeId} {xs : List Value} (h : W.ownsRow base T 1 (.slice (some ⟨g, 0, none⟩) n cap) n xs) (i : Nat) : W.frozen? ⟨g, i, none⟩ = false := by
  obtain ⟨hl, ⟨e, -⟩ | ⟨g', cap', cur, e, -, hb, -⟩⟩ := h
  · cases e
  · injection e with e1 e2 e3
    injection e1 with e1
    injection e1 with e1
    subst e1
    simp [World.frozen?, hb]
theorem own_write {W : World} {base n cap g : Nat} {T : TypeId} {xs : List Value} (h : W.ownsRow base T 1 (.slice (some ⟨g, 0, none⟩) n cap) n xs) (hn : n < cap) (v : Value) :
    (W.setCell ⟨g, n, none⟩ v).ownsRow base T 1 (.slice (some ⟨g, 0, none⟩) (n + 1) cap) (n + 1) (xs ++ [v]) := by
  obtain ⟨hl, ⟨e, -⟩ | ⟨g', cap', cur, e, hb, hg, h1, h2, h3, h4⟩⟩ := h
  · cases e
  · injection e with e1 e2 e3
    injection e1 with e1
    injection e1 with e1
    subst e1 e3
    refine ⟨by rw [List.length_append, List.length_singleton]; omega, .inr ⟨g, cap, cur.setIfInBounds n v, rfl, hb, ?_, by omega, h2, by rw [Array.size_setIfInBounds]; exact h3, ?_⟩⟩
    · obtain ⟨hlt, hk⟩ := Array.getElem?_eq_some_iff.1 hg
      show (W.heap.modify g _)[g]? = _
      rw [Array.getElem?_eq_getElem (by rw [Array.size_modify]; exact hlt), Array.getElem_modify_self, hk]
      rfl
    · rw [Array.toList_setIfInBounds, Nat.mul_one, List.take_succ_eq_append_getElem (by rw [List.length_set, Array.length_toList]; omega), List.getElem_set_self]
      rw [List.take_set_of_le (by omega)]
      rw [Nat.mul_one] at h4
      rw [h4]

theorem nd_some : ∀ b : Fin 256, b.1 ≠ 0 → nd b.1 ≠ [] := by decide +kernel
theorem join_len : ∀ b : Fin 256, (Lib.join ((nd b.1).map fun x => (word x).data.toList) [44]).length ≤ 15 := by decide +kernel
theorem own_own {β : Type} (base : Nat) (T : TypeId) (s : Nat) (v : β → Value) (k : β → Nat) (f : β → List Value) : Own (fun x W => W.ownsRow base T s (v x) (k x) (f x)) := by
  rintro x X Y row hr hg hrow
  refine hr.kept hg ?_
  rcases hr.2 with ⟨e, _⟩ | ⟨g, cap, cur, e, _, hgb, _⟩
  · rw [e]; exact .inl rfl
  · rw [e]
    refine .inr fun e' => ?_
    obtain ⟨o, ho, hc⟩ := hrow g (by simpa [Value.ownBlock] using e'.symm)
    rw [hgb] at ho; cases ho; cases hc

set_option maxRecDepth 100000 in
set_option maxHeartbeats 2000000 in
theorem text_in (n : Nat) (hn : 3 ≤ n) (m : Int) (w : World) :
    CallsIn Fence.wide n Tryd.prog 21 #[.int .i64 m] w fun e W' => e = .returned (.string ⟨(textL (low m)).toArray⟩) ∧ Below w.heap.size w W' := by
  have h1 : 1 ≤ n := by omega
  by_cases hz : low m = 0
  · have C0 : Hid (∀ w, Calls Tryd.prog 27 #[.int .i64 m] w fun e w' => e = .returned (.int .u8 0) ∧ w' = w) := fun w => by
      have := bitsOf_is m w
      rw [hz] at this
      exact this
    have R : Hid ((⟨(textL (low m)).toArray⟩ : ByteArray) = ⟨#[45]⟩) := by rw [hz]; rfl
    rw [R.out]
    clear hz R
    refine callsIn_of_wp Tryd.func21 rfl trivial ?_ rfl
    simp only [Tryd.ntmps21, List.size_toArray, List.length_cons, List.length_nil, Nat.reduceAdd, Nat.reduceSub, Array.replicate_succ, Array.replicate_zero, List.push_toArray, List.append_toArray, List.nil_append, List.cons_append]
    gi_wp2_with (fail)
    refine ⟨trivial, (callsIn_wide.2 (C0.out _)).mono ?_⟩
    rintro e w' ⟨rfl, hw⟩
    rw [hw]
    clear hw
    gi_wp2
    go_ret
    exact ⟨rfl, Below.refl _ _⟩
  · obtain ⟨xs, hxs⟩ : ∃ xs, xs = nd (low m) := ⟨_, rfl⟩
    have ST := fun (Bn : Nat) (w : World) => nodes_stops (n - 1) (by omega) Bn m w
    have C0 : Hid (∀ w, Calls Tryd.prog 27 #[.int .i64 m] w fun e w' => e = .returned (.int .u8 (low m)) ∧ w' = w) := fun w => bitsOf_is m w
    obtain ⟨R, hR⟩ : ∃ R, R = (⟨(textL (low m)).toArray⟩ : ByteArray) := ⟨_, rfl⟩
    rw [← hR]
    have HR : Hid (R = ⟨(Lib.join (xs.map fun x => (word x).data.toList) [44]).toArray⟩) := by
      show R = _
      rw [hR, hxs, textL, if_neg (nd_some ⟨low m, low_lt m⟩ hz)]
    have JL : Hid ((Lib.join (xs.map fun x => (word x).data.toList) [44]).length ≤ 15) := by rw [hxs]; exact join_len ⟨low m, low_lt m⟩
    have XL : Hid (xs.length ≤ 8) := by rw [hxs]; exact cnt_le _
    rw [← hxs] at ST
    have z0 : ((low m : Int) == 0) = false := by simp; omega
    have z1 : ¬ (low m : Int) = 0 := by omega
    clear hR hz hxs
    generalize low m = b at *
    obtain ⟨i0, hi, hz0, hz1, hz2⟩ := info_parts strInfo
    refine callsIn_of_wp_marks Tryd.func21 rfl trivial ?_ rfl
    simp only [Tryd.ntmps21, List.size_toArray, List.length_cons, List.length_nil, Nat.reduceAdd, Nat.reduceSub, Array.replicate_succ, Array.replicate_zero, List.push_toArray, List.append_toArray, List.nil_append, List.cons_append]
    gi_wp2_with (fail)
    refine ⟨trivial, (callsIn_wide.2 (C0.out _)).mono ?_⟩
    rintro e w' ⟨rfl, hw⟩
    rw [hw]
    clear hw
    gi_wp2_with (first
      | (gi_at_make; refine wpListIn_make_own _ rfl _ _ 47 rfl w.heap.size 9 i0 (.string ⟨#[]⟩) 1 Tryd.underlying47 hi hz0 hz1 _ _ _ 8 rfl rfl rfl (by rw [hz2]; omega) (by unfold maxLen; omega) (Nat.le_refl _) ?_; intro w1 own0 hgrow)
      | fail)
    refine ⟨trivial, (callsIn_wide.2 (nodes_is m _)).mono ?_⟩
    rintro e w' ⟨rfl, rfl⟩
    gi_wp2_with (fail)
    have hlt0 := (World.ownsRow.lt own0 w.heap.size rfl).2
    have HBw : Below w.heap.size w w1 := (Below.refl _ w).grown hgrow (Nat.le_refl _) (fun k hk => by cases hk)
    have bL := Boxed.new w1 47 (.slice (some ⟨w.heap.size, 0, none⟩) 0 8)
    have bM := Boxed.new (w1.alloc (.cells #[.slice (some ⟨w.heap.size, 0, none⟩) 0 8] 47)) 3 (.int .i64 m)
    simp only [World.size_alloc] at bM
    have hB0 : Below w.heap.size w ((w1.alloc (.cells #[.slice (some ⟨w.heap.size, 0, none⟩) 0 8] 47)).alloc (.cells #[.int .i64 m] 3)) := (HBw.alloc HBw.size _).alloc (by have := HBw.size; simp; omega) _
    refine wpIn_rangeFunc_ownG rfl h1 (gf := 34) (lb := #[.pointer (some ⟨w1.heap.size + 1, 0, none⟩)]) rfl trivial (enters_of Tryd.func34 (by kernel_rfl) rfl)
      (ST (w1.heap.size + 1) _ (by simp) bM.cell) Keep1.trans (keep1_b (by simp)) (Below.refl _ _) (fun _ => rfl)
      (fun pre W => (Boxed W w1.heap.size 47 (.slice (some ⟨w.heap.size, 0, none⟩) pre.length 8) ∧ W.ownsRow w.heap.size 9 1 (.slice (some ⟨w.heap.size, 0, none⟩) pre.length 8) pre.length (pre.map encS) ∧ Boxed W (w1.heap.size + 1) 3 (.int .i64 m)) ∧ Below w.heap.size w W)
      (fun _ _ _ => False)
      (OwnFrom.and (OwnFrom.and (Own.from (boxed_own _ _ (fun pre : List (Fin 8) => .slice (some ⟨w.heap.size, 0, none⟩) pre.length 8)) _) (OwnFrom.and (Own.from (own_own _ _ _ (fun pre : List (Fin 8) => .slice (some ⟨w.heap.size, 0, none⟩) pre.length 8) (fun pre => pre.length) (fun pre => pre.map encS)) _) (Own.from (boxed_own _ _ _) _))) (ownFrom_below (Nat.le_refl _) (by have := HBw.size; simp; omega)))
      (fun _ _ _ _ _ hs _ _ => hs)
      ⟨⟨bL.alloc _, (own0.alloc _).alloc _, bM⟩, hB0⟩
      (fun x => { tmps := #[.int .i64 m, undef, .string ⟨#[]⟩, .pointer (some ⟨w1.heap.size, 0, none⟩), encN x, .int .i64 m, .int .u8 b, .bool false, .slice (some ⟨w.heap.size, 0, none⟩) 0 8, .int .i64 m, .func (.func 34) #[] #[.pointer (some ⟨w1.heap.size + 1, 0, none⟩)], encN x, undef, undef, undef, undef, undef, undef, undef], defers := [] }) ?assign ?body ?done ?stop
    case assign =>
      intro l x W K hK
      gi_wp2
      exact hK
    case body =>
      rintro l pre x W ⟨⟨hv, hrow, hm⟩, hB⟩ hlt
      have hc := hv.cell
      have hf := hv.frozen
      have hs := hB.size
      have hlm := hm.lt
      obtain ⟨z, hz⟩ := own_room hrow hlt
      have hfz := own_thaw hrow pre.length
      have hd : 1 ≤ n - 1 - 1 := by omega
      have hmx : Tryd.prog.follows .mixedOrders = true := by kernel_rfl
      have l1 : pre.length + 1 ≤ 8 := hlt
      generalize hw : word x = t
      have HW : Hid (encS x = .string t) := by rw [← hw]; rfl
      have C : Hid (∀ w, Calls Tryd.prog 31 #[encN x] w fun e w' => e = .returned (.string t) ∧ w' = w) := fun w => by rw [← hw]; exact itoa_word x w
      clear hw
      have HP : Hid ((pre ++ [x]).length = pre.length + 1) := by show (pre ++ [x]).length = pre.length + 1; simp
      have HO := own_write hrow hlt (encS x)
      have HM : Hid ((pre ++ [x]).map encS = pre.map encS ++ [encS x]) := by show (pre ++ [x]).map encS = _; simp
      have hgw := (World.ownsRow.lt hrow w.heap.size rfl).2
      have hlv := hv.lt
      have hne : w.heap.size ≠ w1.heap.size := by omega
      have hB3 := hB.setCell (p := ⟨w.heap.size, pre.length, none⟩) (Nat.le_refl _) (encS x)
      generalize hq : pre.length = q at *
      rw [HW.out] at HO HM hB3
      have R1 : Boxed (W.setCell ⟨w.heap.size, q, none⟩ (.string t)) w1.heap.size 47 (.slice (some ⟨w.heap.size, 0, none⟩) q 8) := (Below.heap_setCell W ⟨w.heap.size, q, none⟩ (.string t) _ (Ne.symm hne)).trans hv
      have R2 : Boxed (W.setCell ⟨w.heap.size, q, none⟩ (.string t)) (w1.heap.size + 1) 3 (.int .i64 m) := (Below.heap_setCell W ⟨w.heap.size, q, none⟩ (.string t) _ (by show w1.heap.size + 1 ≠ w.heap.size; omega)).trans hm
      have R3 := R1.set (.slice (some ⟨w.heap.size, 0, none⟩) (q + 1) 8)
      have R4 := R2.other (B' := w1.heap.size) (by omega) (.slice (some ⟨w.heap.size, 0, none⟩) (q + 1) 8)
      have R5 := HO.kept (grownBy_setCell' _ w1.heap.size (.slice (some ⟨w.heap.size, 0, none⟩) (q + 1) 8)) (.inr (show some w.heap.size ≠ some w1.heap.size from fun e => hne (by injection e)))
      have R6 : KeepsOthers W ((((W.setCell ⟨w.heap.size, q, none⟩ (.string t)).setCell ⟨w1.heap.size, 0, none⟩ (.slice (some ⟨w.heap.size, 0, none⟩) (q + 1) 8)).alloc (.cells #[.string t] 9)).drew) := (((KeepsOthers.setCell _ _ _).trans (KeepsOthers.setCell _ _ _)).trans (KeepsOthers.alloc _ _)).trans (KeepsOthers.drew _)
      have R7 : Below w.heap.size w ((((W.setCell ⟨w.heap.size, q, none⟩ (.string t)).setCell ⟨w1.heap.size, 0, none⟩ (.slice (some ⟨w.heap.size, 0, none⟩) (q + 1) 8)).alloc (.cells #[.string t] 9)).drew) := Below.drew (Below.alloc (hB3.setCell (p := ⟨w1.heap.size, 0, none⟩) (Nat.le_of_lt hlt0) _) (by simp [World.setCell]; omega) _)
      have R8 : Boxed ((((W.setCell ⟨w.heap.size, q, none⟩ (.string t)).setCell ⟨w1.heap.size, 0, none⟩ (.slice (some ⟨w.heap.size, 0, none⟩) (q + 1) 8)).alloc (.cells #[.string t] 9)).drew) (w1.heap.size + 1) 3 (.int .i64 m) := R4.alloc _
      have R9 : Keep1 (w1.heap.size + 1) W ((((W.setCell ⟨w.heap.size, q, none⟩ (.string t)).setCell ⟨w1.heap.size, 0, none⟩ (.slice (some ⟨w.heap.size, 0, none⟩) (q + 1) 8)).alloc (.cells #[.string t] 9)).drew) := Eq.trans R8 hm.symm
      have R10 : ((((W.setCell ⟨w.heap.size, q, none⟩ (.string t)).setCell ⟨w1.heap.size, 0, none⟩ (.slice (some ⟨w.heap.size, 0, none⟩) (q + 1) 8)).alloc (.cells #[.string t] 9)).drew).ownsRow w.heap.size 9 1 (.slice (some ⟨w.heap.size, 0, none⟩) (pre ++ [x]).length 8) (pre ++ [x]).length ((pre ++ [x]).map encS) := by
        rw [HP.out, HM.out]
        exact R5.alloc _
      have R11 : Boxed ((((W.setCell ⟨w.heap.size, q, none⟩ (.string t)).setCell ⟨w1.heap.size, 0, none⟩ (.slice (some ⟨w.heap.size, 0, none⟩) (q + 1) 8)).alloc (.cells #[.string t] 9)).drew) w1.heap.size 47 (.slice (some ⟨w.heap.size, 0, none⟩) (pre ++ [x]).length 8) := by
        rw [HP.out]
        exact R3.alloc _
      have FIN0 := And.intro (R6.from ((w1.alloc (.cells #[.slice (some ⟨w.heap.size, 0, none⟩) 0 8] 47)).alloc (.cells #[.int .i64 m] 3)).heap.size) (And.intro R9 (And.intro (And.intro R11 (And.intro R10 R8)) R7))
      have FIN : Hid _ := FIN0
      clear FIN0
      clear R1 R2 R3 R4 R5 R6 R7 R8 R9 R10 R11 HP HM HO hB3 hrow hm hv hB HW
      gi_wp2_with (fail)
      gi_region_with_o (refine ⟨trivial, ?_⟩; gi_at_call 31; refine (CallsIn.inRound l (callsIn_wide.2 (C.out _))).mono ?_; rintro e w' ⟨rfl, rfl⟩)
      all_goals exact FIN.out
    case done =>
      rintro D ys W hD rfl ⟨⟨hv, hrow, hm⟩, hB⟩ hK
      have hc := hv.cell
      have hcells : ∀ (j : Nat) (x : ByteArray), (ys.map word)[j]? = some x → W.cell? ⟨w.heap.size, 0 + j, none⟩ = some (.string x) := fun j x hx => by
        have := World.ownsRow.cells hrow rfl j (.string x) (by
          rw [List.getElem?_map] at hx ⊢
          cases hy : ys[j]? with
          | none => rw [hy] at hx; cases hx
          | some y =>
            rw [hy] at hx
            injection hx with hx
            rw [← hx]
            rfl)
        rwa [Addr.add_lit] at this
      have J := Tryd.strings_Join w.heap.size 0 8 (ys.map word) ⟨#[44]⟩ W hcells (World.ownsRow.lt hrow w.heap.size rfl).2 (by rw [List.length_map]; have := XL.out; omega) (by rw [List.length_map]; exact XL.out) (by have := JL.out; rw [List.map_map]; exact Nat.le_trans this (by omega))
      rw [List.length_map, List.map_map] at J
      have JJ : Hid (Calls Tryd.prog 32 #[.slice (some ⟨w.heap.size, 0, none⟩) ys.length 8, .string ⟨#[44]⟩] W fun e w' => e = .returned (.string R) ∧ Below W.heap.size W w') := by
        show Calls _ _ _ _ _
        rw [HR.out]
        exact J
      clear J hcells hrow hv hm HR JL XL C0 ST
      gi_wp2_with (fail)
      refine ⟨trivial, (callsIn_wide.2 JJ.out).mono ?_⟩
      rintro e w2 ⟨rfl, hw2⟩
      have HB2 : Below w.heap.size w w2 := hB.trans (hw2.mono hB.size)
      have hK2 : w2.heap[D]? = some (.deferred (some [])) := (hw2.block D (Array.getElem?_eq_some_iff.1 hK).1).trans hK
      gi_wp2
      refine ⟨by simp, .inl ⟨_, _, rfl, run_takeDeferred hK2, ?_⟩⟩
      exact ⟨_, results_tmp rfl _ _ _, rfl, HB2.trans (belowK_b (w := w) (Nat.le_refl _) w2 D _ _ (by have := HBw.size; simp at hD; omega) hK2 rfl rfl)⟩
    case stop =>
      rintro D c pre W _ _ h _
      exact h.elim

theorem text_is (m : Int) (w : World) :
    Calls Tryd.prog 21 #[.int .i64 m] w fun e w' => e = .returned (.string ⟨(textL (low m)).toArray⟩) ∧ Below w.heap.size w w' :=
  (callsIn_wide (n := 3)).1 (text_in 3 (Nat.le_refl _) m w)

end Go.Proofs.YtcendnbeiifobaaDoor.Mk
