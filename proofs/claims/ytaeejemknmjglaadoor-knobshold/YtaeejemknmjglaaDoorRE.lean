/-
  Plain facts on the knobs of a pod: sums over its containers. No program is spoken of but for its name.
-/
import Derived.Test.YtaeejemknmjglaaDoorRD
import Derived.Test.YtaeejemknmjglaaDoorPJ
namespace Go.Proofs.YtaeejemknmjglaaDoor.Sp
open Go.RowKit

/-- The sum of a number of each. -/
def sm (f : Ct → Int) : List Ct → Int
  | [] => 0
  | c :: r => f c + sm f r
/-- The sum of the Limits, or Unlimited, if one of them is 0. -/
def unl (f : Ct → Int) (zs : List Ct) : Int := if zs.any (fun c => f c == 0) = true then 4611686018427387904 else sm f zs
theorem sumL_all (g : Ct → Int × Int × Int) : ∀ (zs : List Ct) (s x : Int × Int × Int), sumL s (zs.map g) = some x → x = (s.1 + sm (fun c => (g c).1) zs, s.2.1 + sm (fun c => (g c).2.1) zs, s.2.2 + sm (fun c => (g c).2.2) zs)
  | [], s, x, h => by
    injection h with h
    subst h
    simp [sm]
  | c :: r, s, x, h => by
    rw [List.map_cons] at h
    cases e : addV s (g c) with
    | none => rw [sumL_no e] at h; cases h
    | some y =>
      rw [sumL_on e] at h
      have := sumL_all g r y x h
      unfold addV both onl at e
      split at e
      · split at e
        · injection e with e
          subst e
          rw [this]
          simp only [sm]
          refine Prod.ext ?_ (Prod.ext ?_ ?_) <;> simp only <;> omega
        · cases e
      · cases e
theorem sumL_right (g : Ct → Int × Int × Int) : ∀ (zs : List Ct) (s x : Int × Int × Int), Rt s.1 s.2.1 s.2.2 → sumL s (zs.map g) = some x → Rt x.1 x.2.1 x.2.2
  | [], s, x, k, h => by
    injection h with h
    subst h
    exact k
  | c :: r, s, x, k, h => by
    rw [List.map_cons] at h
    cases e : addV s (g c) with
    | none => rw [sumL_no e] at h; cases h
    | some y =>
      rw [sumL_on e] at h
      refine sumL_right g r y x ?_ h
      unfold addV both onl at e
      split at e
      · split at e
        · rename_i q
          injection e with e
          subst e
          exact q
        · cases e
      · cases e
theorem sums_some {zs : List Ct} (h : sumsB zs = true) :
    sumL (0, 0, 0) (zs.map Ct.rq) = some (sm Ct.rc zs, sm Ct.rm zs, sm Ct.rh zs) ∧ sumL (0, 0, 0) (zs.map Ct.li) = some (sm Ct.lc zs, sm Ct.lm zs, sm Ct.lh zs) ∧
    Rt (sm Ct.rc zs) (sm Ct.rm zs) (sm Ct.rh zs) ∧ Rt (sm Ct.lc zs) (sm Ct.lm zs) (sm Ct.lh zs) := by
  unfold sumsB at h
  rw [Bool.and_eq_true] at h
  obtain ⟨x, hx⟩ := Option.isSome_iff_exists.1 h.1
  obtain ⟨y, hy⟩ := Option.isSome_iff_exists.1 h.2
  have ex := sumL_all Ct.rq zs _ _ hx
  have ey := sumL_all Ct.li zs _ _ hy
  have rx := sumL_right Ct.rq zs _ _ (by simp only; omega) hx
  have ry := sumL_right Ct.li zs _ _ (by simp only; omega) hy
  have e1 : x = (sm Ct.rc zs, sm Ct.rm zs, sm Ct.rh zs) := by
    rw [ex]
    simp only [Int.zero_add]
    rfl
  have e2 : y = (sm Ct.lc zs, sm Ct.lm zs, sm Ct.lh zs) := by
    rw [ey]
    simp only [Int.zero_add]
    rfl
  subst e1 e2
  exact ⟨hx, hy, rx, ry⟩
/-- What is asked of a right container's numbers. -/
theorem ok_parts {c : Ct} (h : c.ok = true) : Rt c.rc c.rm c.rh ∧ Rt c.lc c.lm c.lh ∧ Cts c.rc c.rm c.rh c.lc c.lm c.lh := by
  unfold Ct.ok ctB at h
  rw [Bool.and_eq_true, Bool.and_eq_true, Bool.and_eq_true] at h
  exact ⟨of_decide_eq_true h.1.1.2, of_decide_eq_true h.1.2, of_decide_eq_true h.2⟩

theorem wrap_small {x : Int} (h : 0 ≤ x) (h1 : x ≤ 9223372036854775807) : RowKit.wrap64 x = x := by
  unfold RowKit.wrap64
  omega
theorem tog_stay : ∀ l : List Int, l.foldl togV 4611686018427387904 = 4611686018427387904
  | [] => rfl
  | x :: r => by
    rw [List.foldl_cons, show togV 4611686018427387904 x = 4611686018427387904 from if_pos (Or.inl rfl)]
    exact tog_stay r
theorem tog_unl : ∀ (l : List Int) (a : Int), (4611686018427387904 : Int) ∈ l → l.foldl togV a = 4611686018427387904
  | x :: r, a, h => by
    rw [List.foldl_cons]
    by_cases e : x = 4611686018427387904
    · subst e
      rw [show togV a 4611686018427387904 = 4611686018427387904 from if_pos (Or.inr rfl)]
      exact tog_stay r
    · exact tog_unl r _ (by
        rcases List.mem_cons.1 h with h | h
        · exact absurd h.symm e
        · exact h)
theorem tog_sum (f : Ct → Int) : ∀ (zs : List Ct) (a : Int), (∀ c ∈ zs, 0 ≤ f c ∧ f c ≤ 1125899906842624) → 0 ≤ a → a + 1125899906842624 * zs.length ≤ 1152921504606846976 → (zs.map f).foldl togV a = a + sm f zs
  | [], a, _, _, _ => by simp [sm]
  | c :: r, a, h, h0, h1 => by
    have hc := h c (by simp)
    rw [List.length_cons] at h1
    rw [List.map_cons, List.foldl_cons, show togV a (f c) = a + f c by
      unfold togV
      rw [if_neg (by omega), wrap_small (by omega) (by omega)]]
    rw [tog_sum f r _ (fun x hx => h x (by simp [hx])) (by omega) (by omega), sm]
    omega
theorem lim_no {zs : List Ct} {f : Ct → Int} (h : zs.any (fun c => f c == 0) = false) : zs.map (fun c => limV (f c)) = zs.map f := by
  refine List.map_congr_left fun c hc => ?_
  have := List.any_eq_false.1 h c hc
  unfold limV
  rw [if_neg (by simpa using this)]
theorem tog_lim (f : Ct → Int) (zs : List Ct) (h : ∀ c ∈ zs, 0 ≤ f c ∧ f c ≤ 1125899906842624) (hl : zs.length ≤ 6) : (zs.map fun c => limV (f c)).foldl togV 0 = unl f zs := by
  unfold unl
  cases e : zs.any (fun c => f c == 0) with
  | true =>
    rw [if_pos rfl]
    refine tog_unl _ _ ?_
    obtain ⟨c, hc, k⟩ := List.any_eq_true.1 e
    exact List.mem_map.2 ⟨c, hc, by unfold limV; rw [if_pos (by simpa using k)]⟩
  | false =>
    rw [if_neg Bool.false_ne_true, lim_no e, tog_sum f zs 0 h (by omega) (by omega)]
    omega
/-- The number of file i of a right container. -/
def kn (i : Nat) (c : Ct) : Int := if i = 0 then limV c.lc else if i = 1 then wgt c.rc else if i = 2 then c.rm else if i = 3 then limV c.lm else c.lh
/-- What is gathered of file i behind so many containers. -/
structure Tog (zs : List Ct) (T : Nat → Nat → Int) : Prop where
  zero : ∀ i, T i 0 = 0
  next : ∀ (i j : Nat) (c : Ct), zs[j]? = some c → T i (j + 1) = togV (T i j) (kn i c)
  all : ∀ i, T i zs.length = (zs.map (kn i)).foldl togV 0
theorem tog_ex (zs : List Ct) : ∃ T, Tog zs T :=
  ⟨fun i j => ((zs.take j).map (kn i)).foldl togV 0, fun _ => rfl, fun i j c h => by simp only [List.take_add_one, h, List.map_append, List.foldl_append]; rfl, fun i => by simp only [List.take_length]⟩
/-- The knobs of a right pod. -/
abbrev podV (zs : List Ct) : Value := .agg #[.int .i64 (unl Ct.lc zs), .int .i64 (wgt (sm Ct.rc zs)), .int .i64 (sm Ct.rm zs), .int .i64 (unl Ct.lm zs), .int .i64 (sm Ct.lh zs)]
theorem tog_all {zs : List Ct} {T : Nat → Nat → Int} {pn : ByteArray} {pr po : Int} (h : Tog zs T) (k : podB pn pr po zs = true) :
    T 0 zs.length = unl Ct.lc zs ∧ T 2 zs.length = sm Ct.rm zs ∧ T 3 zs.length = unl Ct.lm zs ∧ T 4 zs.length = sm Ct.lh zs := by
  obtain ⟨-, hl, hc, -⟩ := pod_parts k
  have each : ∀ c ∈ zs, Rt c.rc c.rm c.rh ∧ Rt c.lc c.lm c.lh ∧ Cts c.rc c.rm c.rh c.lc c.lm c.lh := fun c m => by
    obtain ⟨i, hi⟩ := List.getElem?_of_mem m
    exact ok_parts (csB_iff.1 hc i c hi).1
  refine ⟨?_, ?_, ?_, ?_⟩
  · rw [h.all 0]
    exact tog_lim Ct.lc zs (fun c m => by have := (each c m).2.1; unfold Rt at this; omega) hl.2
  · rw [h.all 2, show zs.map (kn 2) = zs.map Ct.rm from rfl, tog_sum Ct.rm zs 0 (fun c m => by have := (each c m).1; unfold Rt at this; omega) (by omega) (by omega)]
    omega
  · rw [h.all 3]
    exact tog_lim Ct.lm zs (fun c m => by have := (each c m).2.1; unfold Rt at this; omega) hl.2
  · rw [h.all 4, show zs.map (kn 4) = zs.map Ct.lh from rfl, tog_sum Ct.lh zs 0 (fun c m => by have := (each c m).2.1; unfold Rt at this; omega) (by omega) (by omega)]
    omega

end Go.Proofs.YtaeejemknmjglaaDoor.Sp
