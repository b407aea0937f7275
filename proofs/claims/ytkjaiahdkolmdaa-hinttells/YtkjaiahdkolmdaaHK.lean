/-
  What is needed, spread over a mask, at this program. Conditions: none on the arguments.
-/
import Derived.Test.YtkjaiahdkolmdaaHJ
namespace Go.Proofs.Ytkjaiahdkolmdaa.Mk
open Go.RowKit Go.Shelf

attribute [local go_sem] Oper.semAt_some

def nought : Nat → Int := fun _ => 0
/-- What is left, and what has been spread, behind nodes of a list. -/
def stepO (s : Nat → Int) (z : Int × (Nat → Int)) (x : Fin 8) : Int × (Nat → Int) := (z.1 - min (s x.1) z.1, fun i => if i = x.1 then min (s x.1) z.1 else z.2 i)
def stO (s : Nat → Int) (need : Int) (l : List (Fin 8)) : Int × (Nat → Int) := l.foldl (stepO s) (need, nought)
theorem stO_snoc (s : Nat → Int) (need : Int) (l : List (Fin 8)) (x : Fin 8) : stO s need (l ++ [x]) = stepO s (stO s need l) x := by unfold stO; rw [List.foldl_append]; rfl
theorem foldl_le {s : Nat → Int} (h : ∀ i, i < 8 → 0 ≤ s i) : ∀ (l : List (Fin 8)) (z : Int × (Nat → Int)), 0 ≤ z.1 → 0 ≤ (l.foldl (stepO s) z).1 ∧ (l.foldl (stepO s) z).1 ≤ z.1
  | [], z, hz => ⟨hz, Int.le_refl _⟩
  | x :: l, z, hz => by
    have hx := h x.1 x.2
    have h1 : 0 ≤ (stepO s z x).1 ∧ (stepO s z x).1 ≤ z.1 := by
      show 0 ≤ z.1 - min (s x.1) z.1 ∧ z.1 - min (s x.1) z.1 ≤ z.1
      omega
    have := foldl_le h l (stepO s z x) h1.1
    rw [List.foldl_cons]
    exact ⟨this.1, by omega⟩
theorem stO_is (s : Nat → Int) (b : Nat) (need : Int) : ∀ k, k ≤ 8 → (stO s need (ndT b k)).1 = remS s b need k ∧ ∀ i, (stO s need (ndT b k)).2 i = if i < k then ovS s b need i else 0
  | 0, _ => ⟨rfl, fun i => by rw [ndT_zero, if_neg (by omega)]; rfl⟩
  | k + 1, hk => by
    have ih := stO_is s b need k (by omega)
    rw [ndT_tb b (show k < 8 by omega), remS]
    by_cases e : tb b k = true
    · rw [if_pos e, if_pos e, stO_snoc]
      refine ⟨by show _ - min _ _ = _; rw [ih.1], fun i => ?_⟩
      show (if i = k then min (s k) (stO s need (ndT b k)).1 else (stO s need (ndT b k)).2 i) = _
      rw [ih.1, ih.2]
      by_cases ik : i = k
      · subst ik
        rw [if_pos rfl, if_pos (by omega), ovS, if_pos e]
      · rw [if_neg ik]
        by_cases il : i < k
        · rw [if_pos il, if_pos (by omega)]
        · rw [if_neg il, if_neg (by omega)]
    · rw [if_neg e, if_neg e]
      refine ⟨ih.1, fun i => ?_⟩
      rw [ih.2]
      by_cases ik : i = k
      · subst ik
        rw [if_neg (by omega), if_pos (by omega), ovS, if_neg e]
      · by_cases il : i < k
        · rw [if_pos il, if_pos (by omega)]
        · rw [if_neg il, if_neg (by omega)]
theorem cs_own2 {β : Type} (b : Nat) (f : β → Value) (g : β → List Value) : Own (fun (x : β) W => Cs W b (f x :: g x)) := fun x X Y row hs hg hrow =>
  hs.grown hg (fun e' => by
    obtain ⟨o, ho, hc⟩ := hrow b e'.symm
    obtain ⟨o', ho', hc'⟩ := cells_of_cell (hs.1 0 (f x) rfl)
    rw [ho] at ho'
    cases ho'
    rw [hc] at hc'
    cases hc')
def rightO (s : Nat → Int) (m need : Int) : Bool := okS s && (okM m && okN need)
/-- Is it all there? What is spread. -/
def overB (s : Nat → Int) (m need : Int) : Bool := rightO s m need && decide (remS s (low m) need 8 ≤ 0)
def overF (s : Nat → Int) (m need : Int) : Nat → Int := if overB s m need = true then ovS s (low m) need else nought
theorem spL_set (f : Nat → Int) (v : Int) {i : Nat} (h : i < 8) : (spL f).set i (.int .i64 v) = spL (fun j => if j = i then v else f j) := by
  rcases (show i = 0 ∨ i = 1 ∨ i = 2 ∨ i = 3 ∨ i = 4 ∨ i = 5 ∨ i = 6 ∨ i = 7 by omega) with rfl | rfl | rfl | rfl | rfl | rfl | rfl | rfl <;> rfl

theorem cs_store8 {W : World} {p : Nat} {f g : Nat → Int} (h : Cs W p (spL f)) : Cs ((((((((W.setCell ⟨p, 0, none⟩ (.int .i64 (g 0))).setCell ⟨p, 1, none⟩ (.int .i64 (g 1))).setCell ⟨p, 2, none⟩ (.int .i64 (g 2))).setCell ⟨p, 3, none⟩ (.int .i64 (g 3))).setCell ⟨p, 4, none⟩ (.int .i64 (g 4))).setCell ⟨p, 5, none⟩ (.int .i64 (g 5))).setCell ⟨p, 6, none⟩ (.int .i64 (g 6))).setCell ⟨p, 7, none⟩ (.int .i64 (g 7))) p (spL g) :=
  (((((((h.set 0 (.int .i64 (g 0)) (by simp)).set 1 (.int .i64 (g 1)) (by simp)).set 2 (.int .i64 (g 2)) (by simp)).set 3 (.int .i64 (g 3)) (by simp)).set 4 (.int .i64 (g 4)) (by simp)).set 5 (.int .i64 (g 5)) (by simp)).set 6 (.int .i64 (g 6)) (by simp)).set 7 (.int .i64 (g 7)) (by simp)
theorem below_store8 {w W : World} {n p : Nat} (g : Nat → Int) (h : Below n w W) (hp : n ≤ p) : Below n w ((((((((W.setCell ⟨p, 0, none⟩ (.int .i64 (g 0))).setCell ⟨p, 1, none⟩ (.int .i64 (g 1))).setCell ⟨p, 2, none⟩ (.int .i64 (g 2))).setCell ⟨p, 3, none⟩ (.int .i64 (g 3))).setCell ⟨p, 4, none⟩ (.int .i64 (g 4))).setCell ⟨p, 5, none⟩ (.int .i64 (g 5))).setCell ⟨p, 6, none⟩ (.int .i64 (g 6))).setCell ⟨p, 7, none⟩ (.int .i64 (g 7))) :=
  (((((((h.setCell (p := ⟨p, 0, none⟩) hp _).setCell (p := ⟨p, 1, none⟩) hp _).setCell (p := ⟨p, 2, none⟩) hp _).setCell (p := ⟨p, 3, none⟩) hp _).setCell (p := ⟨p, 4, none⟩) hp _).setCell (p := ⟨p, 5, none⟩) hp _).setCell (p := ⟨p, 6, none⟩) hp _).setCell (p := ⟨p, 7, none⟩) hp _
theorem keeps_store8 (W : World) (p : Nat) (g : Nat → Int) : KeepsOthers W ((((((((W.setCell ⟨p, 0, none⟩ (.int .i64 (g 0))).setCell ⟨p, 1, none⟩ (.int .i64 (g 1))).setCell ⟨p, 2, none⟩ (.int .i64 (g 2))).setCell ⟨p, 3, none⟩ (.int .i64 (g 3))).setCell ⟨p, 4, none⟩ (.int .i64 (g 4))).setCell ⟨p, 5, none⟩ (.int .i64 (g 5))).setCell ⟨p, 6, none⟩ (.int .i64 (g 6))).setCell ⟨p, 7, none⟩ (.int .i64 (g 7))) :=
  (((((((KeepsOthers.setCell W _ _).trans (KeepsOthers.setCell _ _ _)).trans (KeepsOthers.setCell _ _ _)).trans (KeepsOthers.setCell _ _ _)).trans (KeepsOthers.setCell _ _ _)).trans (KeepsOthers.setCell _ _ _)).trans (KeepsOthers.setCell _ _ _)).trans (KeepsOthers.setCell _ _ _)

set_option maxRecDepth 100000 in
set_option maxHeartbeats 4000000 in
theorem over_in (n : Nat) (hn : 3 ≤ n) (s : Nat → Int) (m need : Int) (w : World) :
    CallsIn Fence.wide n Try.prog 9 #[spV s, .int .i64 m, .int .i64 need] w fun e w' => e = .returned (.tuple #[spV (overF s m need), .bool (overB s m need)]) ∧ Below w.heap.size w w' := by
  have h1 : 1 ≤ n := by omega
  have ST := fun (Bn : Nat) (w : World) => nodes_stops (n - 1) (by omega) Bn m w
  have A1 : Hid (∀ w, Calls Try.prog 19 #[spV s] w fun e w' => e = .returned (.bool (okS s)) ∧ Below w.heap.size w w') := rightSpread_is s
  have A2 : Hid (∀ w, Calls Try.prog 20 #[.int .i64 m] w fun e w' => e = .returned (.bool (okM m)) ∧ w' = w) := rightMask_is m
  have A3 : Hid (∀ w, Calls Try.prog 21 #[.int .i64 need] w fun e w' => e = .returned (.bool (okN need)) ∧ w' = w) := rightNumber_is need
  have NOT : Hid (rightO s m need = false → overB s m need = false ∧ overF s m need = nought) := fun h => by
    have e : overB s m need = false := by unfold overB; rw [h]; rfl
    exact ⟨e, by unfold overF; rw [e]; rfl⟩
  have YES : Hid (rightO s m need = true → (∀ i, i < 8 → 0 ≤ s i) ∧ (0 ≤ need ∧ need ≤ 1073741824) ∧ overB s m need = decide ((stO s need (nd (low m))).1 ≤ 0) ∧ ((stO s need (nd (low m))).1 ≤ 0 → spV (stO s need (nd (low m))).2 = spV (overF s m need)) ∧ (¬ (stO s need (nd (low m))).1 ≤ 0 → overF s m need = nought)) := fun h => by
    have h' := h
    unfold rightO at h'
    simp only [Bool.and_eq_true] at h'
    have hS := okS_all h'.1
    have hN := okN_yes h'.2.2
    have e0 := stO_is s (low m) need 8 (Nat.le_refl _)
    rw [ndT_all] at e0
    have e1 : overB s m need = decide ((stO s need (nd (low m))).1 ≤ 0) := by unfold overB; rw [h, Bool.true_and, e0.1]
    refine ⟨fun i hi => (hS i hi).1, hN, e1, fun hz => ?_, fun hz => ?_⟩
    · have e2 : overF s m need = ovS s (low m) need := by unfold overF; rw [e1, decide_eq_true hz]; rfl
      rw [e2]
      exact spV_ext fun i hi => by rw [e0.2, if_pos hi]
    · unfold overF
      rw [e1, decide_eq_false hz]
      rfl
  have RO : Hid (rightO s m need = (okS s && (okM m && okN need))) := rfl
  generalize rightO s m need = ro at *
  generalize overB s m need = ob at *
  generalize overF s m need = of at *
  generalize okS s = x at *
  generalize okM m = y at *
  generalize okN need = z at *
  have q3 : Cs (((w.alloc (.cells (spL s).toArray 23)).alloc (.cells #[.int .i64 need] 3)).alloc (.cells #[.int .i64 0, .int .i64 0, .int .i64 0, .int .i64 0, .int .i64 0, .int .i64 0, .int .i64 0, .int .i64 0] 23)) w.heap.size (spL s) := ((Cs.new _ _ _ _ rfl).alloc _).alloc _
  have q5 : Boxed (((w.alloc (.cells (spL s).toArray 23)).alloc (.cells #[.int .i64 need] 3)).alloc (.cells #[.int .i64 0, .int .i64 0, .int .i64 0, .int .i64 0, .int .i64 0, .int .i64 0, .int .i64 0, .int .i64 0] 23)) (w.heap.size + 1) 3 (.int .i64 need) := by
    have := Boxed.new (w.alloc (.cells (spL s).toArray 23)) 3 (.int .i64 need)
    rw [World.size_alloc] at this
    exact this.alloc _
  have q6 : Cs (((w.alloc (.cells (spL s).toArray 23)).alloc (.cells #[.int .i64 need] 3)).alloc (.cells #[.int .i64 0, .int .i64 0, .int .i64 0, .int .i64 0, .int .i64 0, .int .i64 0, .int .i64 0, .int .i64 0] 23)) (w.heap.size + 1 + 1) (spL nought) := Cs.new _ _ _ _ (by simp)
  have g0 : Below w.heap.size w (((w.alloc (.cells (spL s).toArray 23)).alloc (.cells #[.int .i64 need] 3)).alloc (.cells #[.int .i64 0, .int .i64 0, .int .i64 0, .int .i64 0, .int .i64 0, .int .i64 0, .int .i64 0, .int .i64 0] 23)) := by go_grown
  have s0 : (((w.alloc (.cells (spL s).toArray 23)).alloc (.cells #[.int .i64 need] 3)).alloc (.cells #[.int .i64 0, .int .i64 0, .int .i64 0, .int .i64 0, .int .i64 0, .int .i64 0, .int .i64 0, .int .i64 0] 23)).heap.size = w.heap.size + 1 + 1 + 1 := by simp
  refine callsIn_of_wp_marks Try.func9 rfl trivial ?_ rfl
  simp only [Try.ntmps9, List.size_toArray, List.length_cons, List.length_nil, Nat.reduceAdd, Nat.reduceSub, Array.replicate_succ, Array.replicate_zero, List.push_toArray, List.append_toArray, List.nil_append, List.cons_append]
  refine wpIn_wide.2 ?_
  go_wp2_with (fail)
  refine (A1.out _).mono ?_
  generalize (((w.alloc (.cells (spL s).toArray 23)).alloc (.cells #[.int .i64 need] 3)).alloc (.cells #[.int .i64 0, .int .i64 0, .int .i64 0, .int .i64 0, .int .i64 0, .int .i64 0, .int .i64 0, .int .i64 0] 23)) = W0 at *
  rintro e w1 ⟨rfl, hb⟩
  replace q3 := Cs.later hb q3
  replace q5 : Boxed w1 (w.heap.size + 1) 3 (.int .i64 need) := boxed_low q5 hb (by omega)
  replace q6 := Cs.later hb q6
  have g1 := g0.trans (hb.mono g0.size)
  have s1 := hb.size
  clear A1 hb g0
  have d5 := q5.cell
  have z5 := q5.lt
  cases x with
  | false =>
    have HE := NOT.out RO.out
    obtain ⟨rfl, rfl⟩ := HE
    have z6 := q6.2.2
    have c0 := q6.1 0 _ rfl
    have c1 := q6.1 1 _ rfl
    have c2 := q6.1 2 _ rfl
    have c3 := q6.1 3 _ rfl
    have c4 := q6.1 4 _ rfl
    have c5 := q6.1 5 _ rfl
    have c6 := q6.1 6 _ rfl
    have c7 := q6.1 7 _ rfl
    have f0 := q6.2.1 0 (by show 0 < 8; omega)
    have f1 := q6.2.1 1 (by show 1 < 8; omega)
    have f2 := q6.2.1 2 (by show 2 < 8; omega)
    have f3 := q6.2.1 3 (by show 3 < 8; omega)
    have f4 := q6.2.1 4 (by show 4 < 8; omega)
    have f5 := q6.2.1 5 (by show 5 < 8; omega)
    have f6 := q6.2.1 6 (by show 6 < 8; omega)
    have f7 := q6.2.1 7 (by show 7 < 8; omega)
    have K6 : Hid (Cs ((((((((w1.setCell ⟨w.heap.size + 1 + 1, 0, none⟩ (.int .i64 0)).setCell ⟨w.heap.size + 1 + 1, 1, none⟩ (.int .i64 0)).setCell ⟨w.heap.size + 1 + 1, 2, none⟩ (.int .i64 0)).setCell ⟨w.heap.size + 1 + 1, 3, none⟩ (.int .i64 0)).setCell ⟨w.heap.size + 1 + 1, 4, none⟩ (.int .i64 0)).setCell ⟨w.heap.size + 1 + 1, 5, none⟩ (.int .i64 0)).setCell ⟨w.heap.size + 1 + 1, 6, none⟩ (.int .i64 0)).setCell ⟨w.heap.size + 1 + 1, 7, none⟩ (.int .i64 0)) (w.heap.size + 1 + 1) (spL nought)) := cs_store8 (g := nought) q6
    have K7 : Hid (Below w.heap.size w ((((((((w1.setCell ⟨w.heap.size + 1 + 1, 0, none⟩ (.int .i64 0)).setCell ⟨w.heap.size + 1 + 1, 1, none⟩ (.int .i64 0)).setCell ⟨w.heap.size + 1 + 1, 2, none⟩ (.int .i64 0)).setCell ⟨w.heap.size + 1 + 1, 3, none⟩ (.int .i64 0)).setCell ⟨w.heap.size + 1 + 1, 4, none⟩ (.int .i64 0)).setCell ⟨w.heap.size + 1 + 1, 5, none⟩ (.int .i64 0)).setCell ⟨w.heap.size + 1 + 1, 6, none⟩ (.int .i64 0)).setCell ⟨w.heap.size + 1 + 1, 7, none⟩ (.int .i64 0))) := below_store8 nought g1 (by omega)
    clear q6 g1 YES NOT RO ST q3 s0
    go_wp2
    have k6 := K6.out
    have k7 := K7.out
    clear K6 K7
    generalize ((((((((w1.setCell ⟨w.heap.size + 1 + 1, 0, none⟩ (.int .i64 0)).setCell ⟨w.heap.size + 1 + 1, 1, none⟩ (.int .i64 0)).setCell ⟨w.heap.size + 1 + 1, 2, none⟩ (.int .i64 0)).setCell ⟨w.heap.size + 1 + 1, 3, none⟩ (.int .i64 0)).setCell ⟨w.heap.size + 1 + 1, 4, none⟩ (.int .i64 0)).setCell ⟨w.heap.size + 1 + 1, 5, none⟩ (.int .i64 0)).setCell ⟨w.heap.size + 1 + 1, 6, none⟩ (.int .i64 0)).setCell ⟨w.heap.size + 1 + 1, 7, none⟩ (.int .i64 0)) = U at *
    have e0 := k6.1 0 _ rfl
    have e1 := k6.1 1 _ rfl
    have e2 := k6.1 2 _ rfl
    have e3 := k6.1 3 _ rfl
    have e4 := k6.1 4 _ rfl
    have e5 := k6.1 5 _ rfl
    have e6 := k6.1 6 _ rfl
    have e7 := k6.1 7 _ rfl
    refine ⟨.tuple #[spV nought, .bool false], ?_, rfl, k7⟩
    simp [results, Try.results9, go_sem, e0, e1, e2, e3, e4, e5, e6, e7]
  | true =>
    cases y with
    | false =>
      have HE := NOT.out RO.out
      obtain ⟨rfl, rfl⟩ := HE
      have z6 := q6.2.2
      have c0 := q6.1 0 _ rfl
      have c1 := q6.1 1 _ rfl
      have c2 := q6.1 2 _ rfl
      have c3 := q6.1 3 _ rfl
      have c4 := q6.1 4 _ rfl
      have c5 := q6.1 5 _ rfl
      have c6 := q6.1 6 _ rfl
      have c7 := q6.1 7 _ rfl
      have f0 := q6.2.1 0 (by show 0 < 8; omega)
      have f1 := q6.2.1 1 (by show 1 < 8; omega)
      have f2 := q6.2.1 2 (by show 2 < 8; omega)
      have f3 := q6.2.1 3 (by show 3 < 8; omega)
      have f4 := q6.2.1 4 (by show 4 < 8; omega)
      have f5 := q6.2.1 5 (by show 5 < 8; omega)
      have f6 := q6.2.1 6 (by show 6 < 8; omega)
      have f7 := q6.2.1 7 (by show 7 < 8; omega)
      have K6 : Hid (Cs ((((((((w1.setCell ⟨w.heap.size + 1 + 1, 0, none⟩ (.int .i64 0)).setCell ⟨w.heap.size + 1 + 1, 1, none⟩ (.int .i64 0)).setCell ⟨w.heap.size + 1 + 1, 2, none⟩ (.int .i64 0)).setCell ⟨w.heap.size + 1 + 1, 3, none⟩ (.int .i64 0)).setCell ⟨w.heap.size + 1 + 1, 4, none⟩ (.int .i64 0)).setCell ⟨w.heap.size + 1 + 1, 5, none⟩ (.int .i64 0)).setCell ⟨w.heap.size + 1 + 1, 6, none⟩ (.int .i64 0)).setCell ⟨w.heap.size + 1 + 1, 7, none⟩ (.int .i64 0)) (w.heap.size + 1 + 1) (spL nought)) := cs_store8 (g := nought) q6
      have K7 : Hid (Below w.heap.size w ((((((((w1.setCell ⟨w.heap.size + 1 + 1, 0, none⟩ (.int .i64 0)).setCell ⟨w.heap.size + 1 + 1, 1, none⟩ (.int .i64 0)).setCell ⟨w.heap.size + 1 + 1, 2, none⟩ (.int .i64 0)).setCell ⟨w.heap.size + 1 + 1, 3, none⟩ (.int .i64 0)).setCell ⟨w.heap.size + 1 + 1, 4, none⟩ (.int .i64 0)).setCell ⟨w.heap.size + 1 + 1, 5, none⟩ (.int .i64 0)).setCell ⟨w.heap.size + 1 + 1, 6, none⟩ (.int .i64 0)).setCell ⟨w.heap.size + 1 + 1, 7, none⟩ (.int .i64 0))) := below_store8 nought g1 (by omega)
      clear q6 g1 YES NOT RO ST q3 s0
      go_wp2_with (fail)
      refine (A2.out _).mono ?_
      rintro e w2 ⟨rfl, hw⟩
      rw [hw]
      clear hw A2
      go_wp2
      have k6 := K6.out
      have k7 := K7.out
      clear K6 K7
      generalize ((((((((w1.setCell ⟨w.heap.size + 1 + 1, 0, none⟩ (.int .i64 0)).setCell ⟨w.heap.size + 1 + 1, 1, none⟩ (.int .i64 0)).setCell ⟨w.heap.size + 1 + 1, 2, none⟩ (.int .i64 0)).setCell ⟨w.heap.size + 1 + 1, 3, none⟩ (.int .i64 0)).setCell ⟨w.heap.size + 1 + 1, 4, none⟩ (.int .i64 0)).setCell ⟨w.heap.size + 1 + 1, 5, none⟩ (.int .i64 0)).setCell ⟨w.heap.size + 1 + 1, 6, none⟩ (.int .i64 0)).setCell ⟨w.heap.size + 1 + 1, 7, none⟩ (.int .i64 0)) = U at *
      have e0 := k6.1 0 _ rfl
      have e1 := k6.1 1 _ rfl
      have e2 := k6.1 2 _ rfl
      have e3 := k6.1 3 _ rfl
      have e4 := k6.1 4 _ rfl
      have e5 := k6.1 5 _ rfl
      have e6 := k6.1 6 _ rfl
      have e7 := k6.1 7 _ rfl
      refine ⟨.tuple #[spV nought, .bool false], ?_, rfl, k7⟩
      simp [results, Try.results9, go_sem, e0, e1, e2, e3, e4, e5, e6, e7]
    | true =>
      cases z with
      | false =>
        have HE := NOT.out RO.out
        obtain ⟨rfl, rfl⟩ := HE
        have z6 := q6.2.2
        have c0 := q6.1 0 _ rfl
        have c1 := q6.1 1 _ rfl
        have c2 := q6.1 2 _ rfl
        have c3 := q6.1 3 _ rfl
        have c4 := q6.1 4 _ rfl
        have c5 := q6.1 5 _ rfl
        have c6 := q6.1 6 _ rfl
        have c7 := q6.1 7 _ rfl
        have f0 := q6.2.1 0 (by show 0 < 8; omega)
        have f1 := q6.2.1 1 (by show 1 < 8; omega)
        have f2 := q6.2.1 2 (by show 2 < 8; omega)
        have f3 := q6.2.1 3 (by show 3 < 8; omega)
        have f4 := q6.2.1 4 (by show 4 < 8; omega)
        have f5 := q6.2.1 5 (by show 5 < 8; omega)
        have f6 := q6.2.1 6 (by show 6 < 8; omega)
        have f7 := q6.2.1 7 (by show 7 < 8; omega)
        have K6 : Hid (Cs ((((((((w1.setCell ⟨w.heap.size + 1 + 1, 0, none⟩ (.int .i64 0)).setCell ⟨w.heap.size + 1 + 1, 1, none⟩ (.int .i64 0)).setCell ⟨w.heap.size + 1 + 1, 2, none⟩ (.int .i64 0)).setCell ⟨w.heap.size + 1 + 1, 3, none⟩ (.int .i64 0)).setCell ⟨w.heap.size + 1 + 1, 4, none⟩ (.int .i64 0)).setCell ⟨w.heap.size + 1 + 1, 5, none⟩ (.int .i64 0)).setCell ⟨w.heap.size + 1 + 1, 6, none⟩ (.int .i64 0)).setCell ⟨w.heap.size + 1 + 1, 7, none⟩ (.int .i64 0)) (w.heap.size + 1 + 1) (spL nought)) := cs_store8 (g := nought) q6
        have K7 : Hid (Below w.heap.size w ((((((((w1.setCell ⟨w.heap.size + 1 + 1, 0, none⟩ (.int .i64 0)).setCell ⟨w.heap.size + 1 + 1, 1, none⟩ (.int .i64 0)).setCell ⟨w.heap.size + 1 + 1, 2, none⟩ (.int .i64 0)).setCell ⟨w.heap.size + 1 + 1, 3, none⟩ (.int .i64 0)).setCell ⟨w.heap.size + 1 + 1, 4, none⟩ (.int .i64 0)).setCell ⟨w.heap.size + 1 + 1, 5, none⟩ (.int .i64 0)).setCell ⟨w.heap.size + 1 + 1, 6, none⟩ (.int .i64 0)).setCell ⟨w.heap.size + 1 + 1, 7, none⟩ (.int .i64 0))) := below_store8 nought g1 (by omega)
        clear q6 g1 YES NOT RO ST q3 s0
        go_wp2_with (fail)
        refine (A2.out _).mono ?_
        rintro e w2 ⟨rfl, hw⟩
        rw [hw]
        clear hw A2
        go_wp2_with (fail)
        refine (A3.out _).mono ?_
        rintro e w2 ⟨rfl, hw⟩
        rw [hw]
        clear hw A3
        go_wp2
        have k6 := K6.out
        have k7 := K7.out
        clear K6 K7
        generalize ((((((((w1.setCell ⟨w.heap.size + 1 + 1, 0, none⟩ (.int .i64 0)).setCell ⟨w.heap.size + 1 + 1, 1, none⟩ (.int .i64 0)).setCell ⟨w.heap.size + 1 + 1, 2, none⟩ (.int .i64 0)).setCell ⟨w.heap.size + 1 + 1, 3, none⟩ (.int .i64 0)).setCell ⟨w.heap.size + 1 + 1, 4, none⟩ (.int .i64 0)).setCell ⟨w.heap.size + 1 + 1, 5, none⟩ (.int .i64 0)).setCell ⟨w.heap.size + 1 + 1, 6, none⟩ (.int .i64 0)).setCell ⟨w.heap.size + 1 + 1, 7, none⟩ (.int .i64 0)) = U at *
        have e0 := k6.1 0 _ rfl
        have e1 := k6.1 1 _ rfl
        have e2 := k6.1 2 _ rfl
        have e3 := k6.1 3 _ rfl
        have e4 := k6.1 4 _ rfl
        have e5 := k6.1 5 _ rfl
        have e6 := k6.1 6 _ rfl
        have e7 := k6.1 7 _ rfl
        refine ⟨.tuple #[spV nought, .bool false], ?_, rfl, k7⟩
        simp [results, Try.results9, go_sem, e0, e1, e2, e3, e4, e5, e6, e7]
      | true =>
        obtain ⟨SP, NP, rfl, Y1, Y2⟩ := YES.out RO.out
        clear NOT YES RO
        have CN : Hid (∀ w, Calls Try.prog 22 #[.int .i64 m] w fun e w' => e = .returned (.func (.func 31) #[] #[.pointer (some ⟨w.heap.size, 0, none⟩)]) ∧ w' = w.alloc (.cells #[.int .i64 m] 3)) := fun w => nodes_is m w
        go_wp2_with (fail)
        refine (A2.out _).mono ?_
        rintro e w2 ⟨rfl, hw⟩
        rw [hw]
        clear hw A2
        go_wp2_with (fail)
        refine (A3.out _).mono ?_
        rintro e w2 ⟨rfl, hw⟩
        rw [hw]
        clear hw A3
        go_wp2_with (fail)
        refine (CN.out _).mono ?_
        rintro e w2 ⟨rfl, rfl⟩
        clear CN
        go_wp2_with (fail)
        refine wpIn_wide (n := n).1 ?_
        obtain ⟨W2, hW2⟩ : ∃ W2, W2 = ((w1.alloc (.cells #[.int .i64 0, .int .i64 0, .int .i64 0, .int .i64 0, .int .i64 0, .int .i64 0, .int .i64 0, .int .i64 0] 23)).alloc (.cells #[.int .i64 m] 3)) := ⟨_, rfl⟩
        have s2 : W2.heap.size = w1.heap.size + 1 + 1 := by rw [hW2]; simp
        have g2 : Below w.heap.size w W2 := by rw [hW2]; exact (g1.alloc g1.size _).alloc (by have := g1.size; simp; omega) _
        have b2 : Below w1.heap.size w1 W2 := by rw [hW2]; exact ((Below.refl _ _).alloc (Nat.le_refl _) _).alloc (by simp) _
        have q8 : Cs W2 w1.heap.size (spL nought) := by rw [hW2]; exact (Cs.new _ _ _ _ rfl).alloc _
        have qM : Boxed W2 (w1.heap.size + 1) 3 (.int .i64 m) := by
          rw [hW2]
          have := Boxed.new (w1.alloc (.cells #[.int .i64 0, .int .i64 0, .int .i64 0, .int .i64 0, .int .i64 0, .int .i64 0, .int .i64 0, .int .i64 0] 23)) 3 (.int .i64 m)
          rwa [World.size_alloc] at this
        replace q3 := Cs.later b2 q3
        replace q5 : Boxed W2 (w.heap.size + 1) 3 (.int .i64 need) := boxed_low q5 b2 (by omega)
        replace q6 := Cs.later b2 q6
        rw [← hW2]
        clear hW2 b2 g1 d5 z5
        have SZ : Hid (w.heap.size + 1 + 1 < w1.heap.size) := by show w.heap.size + 1 + 1 < w1.heap.size; omega
        refine wpIn_rangeFunc_ownG rfl h1 (gf := 31) (lb := #[.pointer (some ⟨w1.heap.size + 1, 0, none⟩)]) rfl trivial (enters_of Try.func31 (by kernel_rfl) rfl)
          (ST (w1.heap.size + 1) _ (by omega) qM.cell) Keep1.trans (keep1_b (by omega)) (Below.refl _ _) (fun _ => rfl)
          (fun pre V => (Cs V w.heap.size (spL s) ∧ Boxed V (w.heap.size + 1) 3 (.int .i64 (stO s need pre).1) ∧ Cs V (w.heap.size + 1 + 1) (spL nought) ∧ Cs V w1.heap.size (spL (stO s need pre).2) ∧ Boxed V (w1.heap.size + 1) 3 (.int .i64 m)) ∧ Below w.heap.size w V)
          (fun _ _ _ => False)
          (OwnFrom.and (OwnFrom.and (Own.from (cs_own _ _ _) _) (OwnFrom.and (Own.from (boxed_own _ _ (fun pre : List (Fin 8) => .int .i64 (stO s need pre).1)) _) (OwnFrom.and (Own.from (cs_own _ _ _) _) (OwnFrom.and (Own.from (cs_own2 (β := List (Fin 8)) _ (fun pre => .int .i64 ((stO s need pre).2 0)) (fun pre => (spL (stO s need pre).2).tail)) _) (Own.from (boxed_own _ _ _) _))))) (ownFrom_below (Nat.le_refl _) (by omega)))
          (fun _ _ _ _ _ hs _ _ => hs)
          ⟨⟨q3, q5, q6, q8, qM⟩, g2⟩
          (fun x => { tmps := #[spV s, .int .i64 m, .int .i64 need, .pointer (some ⟨w.heap.size, 0, none⟩), undef, .pointer (some ⟨w.heap.size + 1, 0, none⟩), .pointer (some ⟨w.heap.size + 1 + 1, 0, none⟩), .bool false, .pointer (some ⟨w1.heap.size, 0, none⟩), encN x, spV s, .bool true, .bool false, .bool false, .int .i64 m, .bool true, .bool false, .bool false, .bool false, .int .i64 need, .bool true, .bool false, .bool false, undef, .int .i64 m, .func (.func 31) #[] #[.pointer (some ⟨w1.heap.size + 1, 0, none⟩)], encN x, undef, undef, undef, undef, undef, undef, undef, undef, undef, undef, undef, undef, undef, undef, undef, undef], defers := [] }) ?assign ?body ?done ?stop
        case assign =>
          intro l x W K hK
          gi_wp2
          exact hK
        case body =>
          rintro l pre x V ⟨⟨q3, q5, q6, q8, qM⟩, hB⟩ hlt
          have hd : 1 ≤ n - 1 - 1 := by omega
          have hmx : Try.prog.follows .mixedOrders = true := by kernel_rfl
          have c3 := q3.1 x.1 _ (spL_at s x.2)
          have c5 := q5.cell
          have f5 := q5.frozen
          have z3 := q3.2.2
          have z5 := q5.lt
          have z8 := q8.2.2
          have x0 : (0 : Int) ≤ (x.1 : Int) := by omega
          have x1 : (x.1 : Int) < 8 := by omega
          have sz := SZ.out
          have FL := foldl_le SP pre (need, nought) NP.1
          have HX : Hid (stO s need (pre ++ [x]) = stepO s (stO s need pre) x) := stO_snoc s need pre x
          have sx := SP x.1 x.2
          have c8 := q8.1 x.1 _ (spL_at _ x.2)
          have f8 := q8.2.1 x.1 (by show x.1 < 8; exact x.2)
          have f8' : V.frozen? ⟨w1.heap.size, x.1, none⟩ = false := f8
          obtain ⟨z, hz⟩ : ∃ z, z = stO s need pre := ⟨_, rfl⟩
          rw [← hz] at q5 q8 c5 c8 HX
          have FL' : 0 ≤ z.1 ∧ z.1 ≤ need := by rw [hz]; exact FL
          clear FL hz f8
          obtain ⟨R, Fv⟩ := z
          replace FL' : 0 ≤ R ∧ R ≤ need := FL'
          replace c5 : V.cell? ⟨w.heap.size + 1, 0, none⟩ = some (.int .i64 R) := c5
          replace c8 : V.cell? ⟨w1.heap.size, x.1, none⟩ = some (.int .i64 (Fv x.1)) := c8
          replace q5 : Boxed V (w.heap.size + 1) 3 (.int .i64 R) := q5
          replace q8 : Cs V w1.heap.size (spL Fv) := q8
          obtain ⟨S, hS⟩ : ∃ S, S = s x.1 := ⟨_, rfl⟩
          rw [← hS] at c3 sx
          have HX2 : Hid ((stO s need (pre ++ [x])).1 = R - min S R ∧ spL (stO s need (pre ++ [x])).2 = (spL Fv).set x.1 (.int .i64 (min S R))) := by
            rw [HX.out, spL_set Fv _ x.2, hS]
            exact ⟨rfl, rfl⟩
          have NP' := NP
          have WR : Hid (IntKind.i64.wrap (R - min S R) = R - min S R) := IntWalk.i64_in _ (by omega)
          obtain ⟨M, hM⟩ : ∃ M, M = min S R := ⟨_, rfl⟩
          have HM : Hid (M = min S R) := hM
          rw [← hM] at HX2 WR
          obtain ⟨Y, hY⟩ : ∃ Y, Y = ((V.setCell ⟨w1.heap.size, x.1, none⟩ (.int .i64 M)).drew.setCell ⟨w.heap.size + 1, 0, none⟩ (.int .i64 (R - M))).drew := ⟨_, rfl⟩
          have k1 : KeepsOthers V Y := by rw [hY]; exact (((KeepsOthers.setCell _ _ _).trans (KeepsOthers.drew _)).trans (KeepsOthers.setCell _ _ _)).trans (KeepsOthers.drew _)
          have Q3 : Cs Y w.heap.size (spL s) := by rw [hY]; exact (q3.beside (b' := w1.heap.size) x.1 (.int .i64 M) (by omega)).beside (b' := w.heap.size + 1) 0 _ (by omega)
          have Q6 : Cs Y (w.heap.size + 1 + 1) (spL nought) := by rw [hY]; exact (q6.beside (b' := w1.heap.size) x.1 (.int .i64 M) (by omega)).beside (b' := w.heap.size + 1) 0 _ (by omega)
          have Q8 : Cs Y w1.heap.size (spL (stO s need (pre ++ [x])).2) := by rw [hY, HX2.out.2]; exact (q8.set x.1 (.int .i64 M) x.2).beside (b' := w.heap.size + 1) 0 _ (by omega)
          have Q5 : Boxed Y (w.heap.size + 1) 3 (.int .i64 (stO s need (pre ++ [x])).1) := by
            rw [hY, HX2.out.1]
            have h1 : Boxed (V.setCell ⟨w1.heap.size, x.1, none⟩ (.int .i64 M)) (w.heap.size + 1) 3 (.int .i64 R) := (Below.heap_setCell V ⟨w1.heap.size, x.1, none⟩ (.int .i64 M) _ (by show w.heap.size + 1 ≠ w1.heap.size; omega)).trans q5
            exact h1.set _
          have QM : Y.heap[w1.heap.size + 1]? = V.heap[w1.heap.size + 1]? := by
            rw [hY]
            exact (Below.heap_setCell _ ⟨w.heap.size + 1, 0, none⟩ _ _ (by show w1.heap.size + 1 ≠ w.heap.size + 1; omega)).trans (Below.heap_setCell V ⟨w1.heap.size, x.1, none⟩ _ _ (by show w1.heap.size + 1 ≠ w1.heap.size; omega))
          have QB : Below w.heap.size w Y := by rw [hY]; exact Below.drew ((Below.drew (hB.setCell (p := ⟨w1.heap.size, x.1, none⟩) (by show w.heap.size ≤ w1.heap.size; omega) _)).setCell (p := ⟨w.heap.size + 1, 0, none⟩) (by show w.heap.size ≤ w.heap.size + 1; omega) _)
          have FIN : Hid (KeepsFrom W2.heap.size V Y ∧ Keep1 (w1.heap.size + 1) V Y ∧ (Cs Y w.heap.size (spL s) ∧ Boxed Y (w.heap.size + 1) 3 (.int .i64 (stO s need (pre ++ [x])).1) ∧ Cs Y (w.heap.size + 1 + 1) (spL nought) ∧ Cs Y w1.heap.size (spL (stO s need (pre ++ [x])).2) ∧ Boxed Y (w1.heap.size + 1) 3 (.int .i64 m)) ∧ Below w.heap.size w Y) :=
            ⟨k1.from _, QM, ⟨Q3, Q5, Q6, Q8, Eq.trans QM qM⟩, QB⟩
          rw [hY] at FIN
          have UQ : ∀ U, U = (V.setCell ⟨w1.heap.size, x.1, none⟩ (.int .i64 M)).drew → U.cell? ⟨w1.heap.size, x.1, none⟩ = some (.int .i64 M) ∧ U.cell? ⟨w.heap.size + 1, 0, none⟩ = some (.int .i64 R) ∧ U.frozen? ⟨w.heap.size + 1, 0, none⟩ = false ∧ w1.heap.size < U.heap.size := fun U hU => by
            have a1 := (q8.set x.1 (.int .i64 M) x.2).1 x.1 (.int .i64 M) (by rw [spL_set Fv _ x.2, spL_at _ x.2, if_pos rfl])
            have a2 : Boxed (V.setCell ⟨w1.heap.size, x.1, none⟩ (.int .i64 M)) (w.heap.size + 1) 3 (.int .i64 R) := (Below.heap_setCell V ⟨w1.heap.size, x.1, none⟩ (.int .i64 M) _ (by show w.heap.size + 1 ≠ w1.heap.size; omega)).trans q5
            rw [hU]
            exact ⟨a1, a2.cell, a2.frozen, (q8.set x.1 (.int .i64 M) x.2).2.2⟩
          have HU : Hid (∀ U, U = (V.setCell ⟨w1.heap.size, x.1, none⟩ (.int .i64 M)).drew → U.cell? ⟨w1.heap.size, x.1, none⟩ = some (.int .i64 M) ∧ U.cell? ⟨w.heap.size + 1, 0, none⟩ = some (.int .i64 R) ∧ U.frozen? ⟨w.heap.size + 1, 0, none⟩ = false ∧ w1.heap.size < U.heap.size) := UQ
          clear UQ
          clear k1 Q3 Q6 Q8 Q5 QM QB hY HX HX2 q3 q5 q6 q8 qM hB hS SP NP ST NP' hM FL' sx
          gi_wp2_with (fail)
          gi_region_with_o (fail)
          all_goals
            rw [← HM.out]
            obtain ⟨U, hU⟩ : ∃ U, U = (V.setCell ⟨w1.heap.size, x.1, none⟩ (.int .i64 M)).drew := ⟨_, rfl⟩
            obtain ⟨u1, u2, u3, u4⟩ := HU.out U hU
            rw [← hU] at FIN ⊢
            clear hU HU c3 c5 f5 c8 f8'
            gi_wp2_with (fail)
            gi_region_with_o (fail)
            all_goals
              rw [WR.out]
              gi_wp2
              exact FIN.out
        case done =>
          rintro D ys V hD rfl ⟨⟨q3, q5, q6, q8, qM⟩, hB⟩ hK
          have sz := SZ.out
          have z6 := q6.2.2
          obtain ⟨z, hz⟩ : ∃ z, z = stO s need (nd (low m)) := ⟨_, rfl⟩
          obtain ⟨R, Fv⟩ := z
          have e1 : (stO s need (nd (low m))).1 = R := by rw [← hz]
          have e2 : (stO s need (nd (low m))).2 = Fv := by rw [← hz]
          have DT : Hid (decide ((stO s need (nd (low m))).1 ≤ 0) = decide (R ≤ 0)) := by rw [e1]; rfl
          rw [e1] at q5 Y1 Y2
          rw [e2] at q8 Y1
          have c9 := q5.cell
          have z9 := q5.lt
          have c0 := q6.1 0 _ rfl
          have c1 := q6.1 1 _ rfl
          have c2 := q6.1 2 _ rfl
          have c3 := q6.1 3 _ rfl
          have c4 := q6.1 4 _ rfl
          have c5 := q6.1 5 _ rfl
          have c6 := q6.1 6 _ rfl
          have c7 := q6.1 7 _ rfl
          have f0 := q6.2.1 0 (by show 0 < 8; omega)
          have f1 := q6.2.1 1 (by show 1 < 8; omega)
          have f2 := q6.2.1 2 (by show 2 < 8; omega)
          have f3 := q6.2.1 3 (by show 3 < 8; omega)
          have f4 := q6.2.1 4 (by show 4 < 8; omega)
          have f5 := q6.2.1 5 (by show 5 < 8; omega)
          have f6 := q6.2.1 6 (by show 6 < 8; omega)
          have f7 := q6.2.1 7 (by show 7 < 8; omega)
          have hDs : w1.heap.size + 2 ≤ D := by omega
          clear e1 e2
          by_cases hr : R ≤ 0
          · replace DT : Hid (decide ((stO s need (nd (low m))).1 ≤ 0) = true ∧ True) := ⟨by rw [DT.out]; exact decide_eq_true hr, trivial⟩
            have z8 := q8.2.2
            have d0 := q8.1 0 _ rfl
            have d1 := q8.1 1 _ rfl
            have d2 := q8.1 2 _ rfl
            have d3 := q8.1 3 _ rfl
            have d4 := q8.1 4 _ rfl
            have d5 := q8.1 5 _ rfl
            have d6 := q8.1 6 _ rfl
            have d7 := q8.1 7 _ rfl
            have K6 : Hid (Cs ((((((((V.setCell ⟨w.heap.size + 1 + 1, 0, none⟩ (.int .i64 (Fv 0))).setCell ⟨w.heap.size + 1 + 1, 1, none⟩ (.int .i64 (Fv 1))).setCell ⟨w.heap.size + 1 + 1, 2, none⟩ (.int .i64 (Fv 2))).setCell ⟨w.heap.size + 1 + 1, 3, none⟩ (.int .i64 (Fv 3))).setCell ⟨w.heap.size + 1 + 1, 4, none⟩ (.int .i64 (Fv 4))).setCell ⟨w.heap.size + 1 + 1, 5, none⟩ (.int .i64 (Fv 5))).setCell ⟨w.heap.size + 1 + 1, 6, none⟩ (.int .i64 (Fv 6))).setCell ⟨w.heap.size + 1 + 1, 7, none⟩ (.int .i64 (Fv 7))) (w.heap.size + 1 + 1) (spL Fv)) := cs_store8 (g := Fv) q6
            have K7 : Hid (Below w.heap.size w ((((((((V.setCell ⟨w.heap.size + 1 + 1, 0, none⟩ (.int .i64 (Fv 0))).setCell ⟨w.heap.size + 1 + 1, 1, none⟩ (.int .i64 (Fv 1))).setCell ⟨w.heap.size + 1 + 1, 2, none⟩ (.int .i64 (Fv 2))).setCell ⟨w.heap.size + 1 + 1, 3, none⟩ (.int .i64 (Fv 3))).setCell ⟨w.heap.size + 1 + 1, 4, none⟩ (.int .i64 (Fv 4))).setCell ⟨w.heap.size + 1 + 1, 5, none⟩ (.int .i64 (Fv 5))).setCell ⟨w.heap.size + 1 + 1, 6, none⟩ (.int .i64 (Fv 6))).setCell ⟨w.heap.size + 1 + 1, 7, none⟩ (.int .i64 (Fv 7)))) := below_store8 Fv hB (by omega)
            have K8 : Hid (((((((((V.setCell ⟨w.heap.size + 1 + 1, 0, none⟩ (.int .i64 (Fv 0))).setCell ⟨w.heap.size + 1 + 1, 1, none⟩ (.int .i64 (Fv 1))).setCell ⟨w.heap.size + 1 + 1, 2, none⟩ (.int .i64 (Fv 2))).setCell ⟨w.heap.size + 1 + 1, 3, none⟩ (.int .i64 (Fv 3))).setCell ⟨w.heap.size + 1 + 1, 4, none⟩ (.int .i64 (Fv 4))).setCell ⟨w.heap.size + 1 + 1, 5, none⟩ (.int .i64 (Fv 5))).setCell ⟨w.heap.size + 1 + 1, 6, none⟩ (.int .i64 (Fv 6))).setCell ⟨w.heap.size + 1 + 1, 7, none⟩ (.int .i64 (Fv 7))).heap[D]? = some (.deferred (some [])) ∧ True) := ⟨(keeps_store8 V (w.heap.size + 1 + 1) Fv).same D _ hK rfl, trivial⟩
            have ny : decide (0 < R) = false := decide_eq_false (by omega)
            have EQ : Hid (spV Fv = spV of ∧ True) := ⟨Y1 hr, trivial⟩
            clear Y1 hr s0 s1
            have HDs : Hid (w1.heap.size + 2 ≤ D ∧ W2.heap.size ≤ D ∧ w.heap.size ≤ D) := ⟨hDs, hD, by have := SZ.out; omega⟩
            clear q3 q5 q6 q8 qM hB hK ST SP hz Y2 s2 hD hDs sz g2
            gi_wp2
            go_wp2
            refine ⟨by simp, .inl ⟨_, _, rfl, run_takeDeferred K8.out.1, ?_⟩⟩
            have k6 := K6.out
            have k7 := K7.out
            have k8 := K8.out.1
            have sz := SZ.out
            have hDs := HDs.out
            clear K6 K7 K8
            generalize ((((((((V.setCell ⟨w.heap.size + 1 + 1, 0, none⟩ (.int .i64 (Fv 0))).setCell ⟨w.heap.size + 1 + 1, 1, none⟩ (.int .i64 (Fv 1))).setCell ⟨w.heap.size + 1 + 1, 2, none⟩ (.int .i64 (Fv 2))).setCell ⟨w.heap.size + 1 + 1, 3, none⟩ (.int .i64 (Fv 3))).setCell ⟨w.heap.size + 1 + 1, 4, none⟩ (.int .i64 (Fv 4))).setCell ⟨w.heap.size + 1 + 1, 5, none⟩ (.int .i64 (Fv 5))).setCell ⟨w.heap.size + 1 + 1, 6, none⟩ (.int .i64 (Fv 6))).setCell ⟨w.heap.size + 1 + 1, 7, none⟩ (.int .i64 (Fv 7))) = U at *
            replace k6 : Cs (U.putObj D (.deferred none)) (w.heap.size + 1 + 1) (spL Fv) := k6.same (World.putObj_heap_other (by omega)) (by rw [World.putObj_size]; exact k6.2.2)
            have e0 := k6.1 0 _ rfl
            have e1 := k6.1 1 _ rfl
            have e2 := k6.1 2 _ rfl
            have e3 := k6.1 3 _ rfl
            have e4 := k6.1 4 _ rfl
            have e5 := k6.1 5 _ rfl
            have e6 := k6.1 6 _ rfl
            have e7 := k6.1 7 _ rfl
            refine ⟨.tuple #[spV Fv, .bool true], ?_, by rw [DT.out.1, EQ.out.1], k7.trans (belowK_b (w := w) (Nat.le_refl _) U D _ _ (by omega) k8 rfl rfl)⟩
            simp [results, Try.results9, go_sem, e0, e1, e2, e3, e4, e5, e6, e7]
          · replace DT : Hid (decide ((stO s need (nd (low m))).1 ≤ 0) = false ∧ True) := ⟨by rw [DT.out]; exact decide_eq_false hr, trivial⟩
            have K6 : Hid (Cs ((((((((V.setCell ⟨w.heap.size + 1 + 1, 0, none⟩ (.int .i64 0)).setCell ⟨w.heap.size + 1 + 1, 1, none⟩ (.int .i64 0)).setCell ⟨w.heap.size + 1 + 1, 2, none⟩ (.int .i64 0)).setCell ⟨w.heap.size + 1 + 1, 3, none⟩ (.int .i64 0)).setCell ⟨w.heap.size + 1 + 1, 4, none⟩ (.int .i64 0)).setCell ⟨w.heap.size + 1 + 1, 5, none⟩ (.int .i64 0)).setCell ⟨w.heap.size + 1 + 1, 6, none⟩ (.int .i64 0)).setCell ⟨w.heap.size + 1 + 1, 7, none⟩ (.int .i64 0)) (w.heap.size + 1 + 1) (spL nought)) := cs_store8 (g := nought) q6
            have K7 : Hid (Below w.heap.size w ((((((((V.setCell ⟨w.heap.size + 1 + 1, 0, none⟩ (.int .i64 0)).setCell ⟨w.heap.size + 1 + 1, 1, none⟩ (.int .i64 0)).setCell ⟨w.heap.size + 1 + 1, 2, none⟩ (.int .i64 0)).setCell ⟨w.heap.size + 1 + 1, 3, none⟩ (.int .i64 0)).setCell ⟨w.heap.size + 1 + 1, 4, none⟩ (.int .i64 0)).setCell ⟨w.heap.size + 1 + 1, 5, none⟩ (.int .i64 0)).setCell ⟨w.heap.size + 1 + 1, 6, none⟩ (.int .i64 0)).setCell ⟨w.heap.size + 1 + 1, 7, none⟩ (.int .i64 0))) := below_store8 nought hB (by omega)
            have K8 : Hid (((((((((V.setCell ⟨w.heap.size + 1 + 1, 0, none⟩ (.int .i64 0)).setCell ⟨w.heap.size + 1 + 1, 1, none⟩ (.int .i64 0)).setCell ⟨w.heap.size + 1 + 1, 2, none⟩ (.int .i64 0)).setCell ⟨w.heap.size + 1 + 1, 3, none⟩ (.int .i64 0)).setCell ⟨w.heap.size + 1 + 1, 4, none⟩ (.int .i64 0)).setCell ⟨w.heap.size + 1 + 1, 5, none⟩ (.int .i64 0)).setCell ⟨w.heap.size + 1 + 1, 6, none⟩ (.int .i64 0)).setCell ⟨w.heap.size + 1 + 1, 7, none⟩ (.int .i64 0)).heap[D]? = some (.deferred (some [])) ∧ True) := ⟨(keeps_store8 V (w.heap.size + 1 + 1) nought).same D _ hK rfl, trivial⟩
            have ny : 0 < R := by omega
            have EQ : Hid (of = nought ∧ True) := ⟨Y2 (by omega), trivial⟩
            clear Y2 hr s0 s1
            have HDs : Hid (w1.heap.size + 2 ≤ D ∧ W2.heap.size ≤ D ∧ w.heap.size ≤ D) := ⟨hDs, hD, by have := SZ.out; omega⟩
            clear q3 q5 q6 q8 qM hB hK ST SP hz Y1 s2 hD hDs sz g2
            gi_wp2
            go_wp2
            refine ⟨by simp, .inl ⟨_, _, rfl, run_takeDeferred K8.out.1, ?_⟩⟩
            have k6 := K6.out
            have k7 := K7.out
            have k8 := K8.out.1
            have sz := SZ.out
            have hDs := HDs.out
            clear K6 K7 K8
            generalize ((((((((V.setCell ⟨w.heap.size + 1 + 1, 0, none⟩ (.int .i64 0)).setCell ⟨w.heap.size + 1 + 1, 1, none⟩ (.int .i64 0)).setCell ⟨w.heap.size + 1 + 1, 2, none⟩ (.int .i64 0)).setCell ⟨w.heap.size + 1 + 1, 3, none⟩ (.int .i64 0)).setCell ⟨w.heap.size + 1 + 1, 4, none⟩ (.int .i64 0)).setCell ⟨w.heap.size + 1 + 1, 5, none⟩ (.int .i64 0)).setCell ⟨w.heap.size + 1 + 1, 6, none⟩ (.int .i64 0)).setCell ⟨w.heap.size + 1 + 1, 7, none⟩ (.int .i64 0)) = U at *
            replace k6 : Cs (U.putObj D (.deferred none)) (w.heap.size + 1 + 1) (spL nought) := k6.same (World.putObj_heap_other (by omega)) (by rw [World.putObj_size]; exact k6.2.2)
            have e0 := k6.1 0 _ rfl
            have e1 := k6.1 1 _ rfl
            have e2 := k6.1 2 _ rfl
            have e3 := k6.1 3 _ rfl
            have e4 := k6.1 4 _ rfl
            have e5 := k6.1 5 _ rfl
            have e6 := k6.1 6 _ rfl
            have e7 := k6.1 7 _ rfl
            refine ⟨.tuple #[spV nought, .bool false], ?_, by rw [DT.out.1, EQ.out.1], k7.trans (belowK_b (w := w) (Nat.le_refl _) U D _ _ (by omega) k8 rfl rfl)⟩
            simp [results, Try.results9, go_sem, e0, e1, e2, e3, e4, e5, e6, e7]
        case stop =>
          rintro D c pre V hD hpre h hK
          exact h.elim

theorem over_is (s : Nat → Int) (m need : Int) (w : World) :
    Calls Try.prog 9 #[spV s, .int .i64 m, .int .i64 need] w fun e w' => e = .returned (.tuple #[spV (overF s m need), .bool (overB s m need)]) ∧ Below w.heap.size w w' := callsIn_wide.1 (over_in 3 (Nat.le_refl _) s m need w)

end Go.Proofs.Ytkjaiahdkolmdaa.Mk
