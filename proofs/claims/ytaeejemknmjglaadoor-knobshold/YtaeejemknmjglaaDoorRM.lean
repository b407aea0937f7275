/-
  The statement KnobsHold as a contract at this program. Conditions: the containers read as a list; the names' lengths fit the machine; the tables of the program lie as its text lays them.
-/
import Derived.Test.YtaeejemknmjglaaDoorRH
import Derived.Test.YtaeejemknmjglaaDoorPY
import Derived.Test.YtaeejemknmjglaaDoorQC
namespace Go.Proofs.YtaeejemknmjglaaDoor.Sp
open Go.RowKit

theorem lim_most {n : Int} (h : 0 ≤ n) (k : n ≤ 1125899906842624) : 0 ≤ limV n ∧ limV n ≤ 4611686018427387904 := by
  unfold limV
  split <;> omega
theorem sm_nonneg (f : Ct → Int) : ∀ zs : List Ct, (∀ c ∈ zs, 0 ≤ f c) → 0 ≤ sm f zs
  | [], _ => by simp [sm]
  | c :: r, h => by
    have := h c (by simp)
    have := sm_nonneg f r (fun x hx => h x (by simp [hx]))
    rw [sm]
    omega
theorem sm_each (f : Ct → Int) : ∀ zs : List Ct, (∀ c ∈ zs, 0 ≤ f c) → ∀ c ∈ zs, f c ≤ sm f zs
  | c :: r, h, d, hd => by
    have h0 := h c (by simp)
    have h1 := sm_nonneg f r (fun x hx => h x (by simp [hx]))
    rw [sm]
    rcases List.mem_cons.1 hd with rfl | hd
    · omega
    · have := sm_each f r (fun x hx => h x (by simp [hx])) d hd
      omega
theorem sm_le (f g : Ct → Int) : ∀ zs : List Ct, (∀ c ∈ zs, f c ≤ g c) → sm f zs ≤ sm g zs
  | [], _ => by simp [sm]
  | c :: r, h => by
    have := h c (by simp)
    have := sm_le f g r (fun x hx => h x (by simp [hx]))
    rw [sm, sm]
    omega
theorem sm_app (f : Ct → Int) : ∀ (zs ys : List Ct), sm f (zs ++ ys) = sm f zs + sm f ys
  | [], ys => by simp [sm]
  | c :: r, ys => by
    rw [List.cons_append, sm, sm, sm_app f r ys]
    omega
theorem rt_parts {a b c : Int} (h : Rt a b c) : 0 ≤ a ∧ a ≤ 1125899906842624 ∧ 0 ≤ b ∧ b ≤ 1125899906842624 ∧ 0 ≤ c ∧ c ≤ 1125899906842624 := by
  unfold Rt at h
  omega
/-- A right pod's containers, each of them. -/
theorem each_ok {zs : List Ct} (h : csB zs = true) : ∀ c ∈ zs, Rt c.rc c.rm c.rh ∧ Rt c.lc c.lm c.lh ∧ Cts c.rc c.rm c.rh c.lc c.lm c.lh := fun c m => by
  obtain ⟨i, hi⟩ := List.getElem?_of_mem m
  exact ok_parts (csB_iff.1 h i c hi).1
theorem fit_lim {n : Int} (h : 0 ≤ n) (k : n ≤ 1125899906842624) : fitN 0 9007199254740992 true (limV n) = true := by
  unfold limV
  split
  · exact fit_u
  · exact fit_in h (by omega) (by omega)
/-- The knobs of a right container are right. -/
theorem ct_right {rc rm rh lc lm lh : Int} (h : Rt rc rm rh ∧ Rt lc lm lh ∧ Cts rc rm rh lc lm lh) : rightK (limV lc) (wgt rc) rm (limV lm) lh = true := by
  obtain ⟨a, b, c⟩ := h
  have a' := rt_parts a
  have b' := rt_parts b
  have w := wgt_bounds rc
  unfold rightK
  rw [show fitF 0 (limV lc) = true from fit_lim (by omega) (by omega), show fitF 1 (wgt rc) = true from fit_in w.1 w.2 (by omega), show fitF 2 rm = true from fit_in (by omega) (by omega) (by omega), show fitF 3 (limV lm) = true from fit_lim (by omega) (by omega), show fitF 4 lh = true from fit_in (by omega) (by omega) (by omega)]
  have : rm ≤ limV lm := by
    unfold Cts at c
    unfold limV
    split <;> omega
  simp [this]
theorem unl_cases (f : Ct → Int) (zs : List Ct) : unl f zs = 4611686018427387904 ∨ (unl f zs = sm f zs ∧ ∀ c ∈ zs, f c ≠ 0) := by
  unfold unl
  cases e : zs.any (fun c => f c == 0) with
  | true => exact Or.inl (if_pos rfl)
  | false =>
    refine Or.inr ⟨if_neg Bool.false_ne_true, fun c hc => ?_⟩
    have := List.any_eq_false.1 e c hc
    simpa using this
theorem unl_each {f : Ct → Int} {zs : List Ct} (h : ∀ c ∈ zs, 0 ≤ f c ∧ f c ≤ 1125899906842624) : ∀ c ∈ zs, limV (f c) ≤ unl f zs := fun c hc => by
  have a := h c hc
  rcases unl_cases f zs with e | ⟨e, k⟩
  · rw [e]; exact (lim_most a.1 a.2).2
  · rw [e, limV, if_neg (k c hc)]
    exact sm_each f zs (fun x hx => (h x hx).1) c hc
/-- What holds of a right pod's knobs, and of each of its containers' ones. -/
structure Holds (zs : List Ct) (P : Nat → Int) : Prop where
  right : rightK (P 0) (P 1) (P 2) (P 3) (P 4) = true
  each : ∀ c ∈ zs, rightK (limV c.lc) (wgt c.rc) c.rm (limV c.lm) c.lh = true ∧ limV c.lc ≤ P 0 ∧ c.rm ≤ P 2 ∧ limV c.lm ≤ P 3 ∧ c.lh ≤ P 4 ∧ 0 ≤ limV c.lc ∧ limV c.lc ≤ 4611686018427387904
def podF (zs : List Ct) (i : Nat) : Int := if i = 0 then unl Ct.lc zs else if i = 1 then wgt (sm Ct.rc zs) else if i = 2 then sm Ct.rm zs else if i = 3 then unl Ct.lm zs else sm Ct.lh zs
theorem pod_holds {zs : List Ct} {pn : ByteArray} {pr po : Int} (h : podB pn pr po zs = true) : Holds zs (podF zs) := by
  obtain ⟨-, hl, hc, hs⟩ := pod_parts h
  obtain ⟨-, -, r1, r2⟩ := sums_some hs
  have r1' := rt_parts r1
  have r2' := rt_parts r2
  have each := each_ok hc
  have elc : ∀ c ∈ zs, 0 ≤ c.lc ∧ c.lc ≤ 1125899906842624 := fun c m => by have := rt_parts (each c m).2.1; omega
  have elm : ∀ c ∈ zs, 0 ≤ c.lm ∧ c.lm ≤ 1125899906842624 := fun c m => by have := rt_parts (each c m).2.1; omega
  have elh : ∀ c ∈ zs, 0 ≤ c.lh := fun c m => by have := rt_parts (each c m).2.1; omega
  have erm : ∀ c ∈ zs, 0 ≤ c.rm := fun c m => by have := rt_parts (each c m).1; omega
  constructor
  · show rightK (unl Ct.lc zs) (wgt (sm Ct.rc zs)) (sm Ct.rm zs) (unl Ct.lm zs) (sm Ct.lh zs) = true
    have w := wgt_bounds (sm Ct.rc zs)
    have f0 : fitF 0 (unl Ct.lc zs) = true := by
      rcases unl_cases Ct.lc zs with e | ⟨e, -⟩
      · rw [e]; exact fit_u (lo := 0) (hi := 9007199254740992)
      · rw [e]; exact fit_in (lo := 0) (hi := 9007199254740992) (by omega) (by omega) (by omega)
    have f3 : fitF 3 (unl Ct.lm zs) = true := by
      rcases unl_cases Ct.lm zs with e | ⟨e, -⟩
      · rw [e]; exact fit_u (lo := 0) (hi := 9007199254740992)
      · rw [e]; exact fit_in (lo := 0) (hi := 9007199254740992) (by omega) (by omega) (by omega)
    have le : sm Ct.rm zs ≤ unl Ct.lm zs := by
      rcases unl_cases Ct.lm zs with e | ⟨e, k⟩
      · rw [e]; omega
      · rw [e]
        refine sm_le Ct.rm Ct.lm zs (fun c m => ?_)
        have a := (each c m).2.2
        have b := k c m
        unfold Cts at a
        omega
    unfold rightK
    rw [f0, show fitF 1 (wgt (sm Ct.rc zs)) = true from fit_in w.1 w.2 (by omega), show fitF 2 (sm Ct.rm zs) = true from fit_in (by omega) (by omega) (by omega), f3, show fitF 4 (sm Ct.lh zs) = true from fit_in (by omega) (by omega) (by omega)]
    simp [le]
  · intro c m
    have a := rt_parts (each c m).2.1
    have b := lim_most (n := c.lc) (by omega) (by omega)
    exact ⟨ct_right (each c m), unl_each elc c m, sm_each Ct.rm zs erm c m, unl_each elm c m, sm_each Ct.lh zs elh c m, b.1, b.2⟩
/-- What is summed of the containers' first numbers, behind so many. -/
structure Summed (zs : List Ct) (p0 : Int) (S : Nat → Int) : Prop where
  zero : S 0 = 0
  next : ∀ (j : Nat) (c : Ct), zs[j]? = some c → p0 ≠ 4611686018427387904 → S (j + 1) = S j + limV c.lc
  low : ∀ j, j ≤ zs.length → p0 ≠ 4611686018427387904 → 0 ≤ S j ∧ S j < 4611686018427387904
  all : p0 ≠ 4611686018427387904 → S zs.length = p0
theorem summed_ex {zs : List Ct} {pn : ByteArray} {pr po : Int} (h : podB pn pr po zs = true) : ∃ S, Summed zs (unl Ct.lc zs) S := by
  obtain ⟨-, hl, hc, hs⟩ := pod_parts h
  obtain ⟨-, -, -, r2⟩ := sums_some hs
  have r2' := rt_parts r2
  have each := each_ok hc
  have elc : ∀ c ∈ zs, 0 ≤ c.lc := fun c m => by have := rt_parts (each c m).2.1; omega
  refine ⟨fun j => sm Ct.lc (zs.take j), rfl, fun j c hj hp => ?_, fun j hj hp => ?_, fun hp => ?_⟩
  · rcases unl_cases Ct.lc zs with e | ⟨-, k⟩
    · exact absurd e hp
    · simp only [List.take_add_one, hj]
      rw [sm_app]
      have := k c (List.mem_of_getElem? hj)
      rw [limV, if_neg this]
      simp [sm]
  · have a := sm_nonneg Ct.lc (zs.take j) (fun c m => elc c (List.mem_of_mem_take m))
    have b := sm_nonneg Ct.lc (zs.drop j) (fun c m => elc c (List.mem_of_mem_drop m))
    have c := sm_app Ct.lc (zs.take j) (zs.drop j)
    rw [List.take_append_drop] at c
    omega
  · rcases unl_cases Ct.lc zs with e | ⟨e, -⟩
    · exact absurd e hp
    · simp only [List.take_length]
      exact e.symm

theorem held_on {t x p s s' : Int} (h : 0 ≤ t ∧ t ≤ 9223372036854775807 ∧ (p ≠ 4611686018427387904 → t = s)) (k : 0 ≤ x ∧ x ≤ 4611686018427387904) (l : t < 4611686018427387904) (n : p ≠ 4611686018427387904 → s' = s + x) :
    Hid (0 ≤ RowKit.wrap64 (t + min x 4611686018427387904) ∧ RowKit.wrap64 (t + min x 4611686018427387904) ≤ 9223372036854775807 ∧ (p ≠ 4611686018427387904 → RowKit.wrap64 (t + min x 4611686018427387904) = s')) := by
  unfold Hid
  rw [show min x 4611686018427387904 = x by omega, wrap_small (by omega) (by omega)]
  exact ⟨by omega, by omega, fun e => by have := h.2.2 e; have := n e; omega⟩

set_option maxHeartbeats 4000000 in
set_option maxRecDepth 100000 in
theorem knobsHold_any {v : Value} {zs : List Ct} (pn : ByteArray) (pr po : Int) (hm : pn.size ≤ maxLen) (w : World) (hL : LaidK w) (h : RdC w v zs) :
    Calls Tryd.prog 5 #[.agg #[.string pn, .int .i64 pr, .int .i64 po, v]] w fun e w' => e = .returned (.bool true) ∧ Below w.heap.size w w' := by
  have HL : Hid (LaidK w) := hL
  have HZ : Hid (RdC w v zs) := h
  have HM : Hid (pn.size ≤ maxLen) := hm
  clear hL h hm
  obtain ⟨a, cap, rfl, h1, h2, h3⟩ := id HZ.out
  have H3 : Hid (∀ (j : Nat) (c : Ct), zs[j]? = some c → c.n.size ≤ maxLen ∧ ∃ b off : Nat, a = some ⟨b, off, none⟩ ∧ Ten w b (off + j * 10) c) := h3
  clear h3
  have zl : zs.length ≤ maxLen := by omega
  unfold maxLen at zl
  go_enter Tryd.func5, Tryd.ntmps5
  go_wp2_with (fail)
  refine (firstK_is _ (HL.out.alloc _)).mono ?_
  rintro e w1 ⟨rfl, hw1⟩
  have HBw1 : Below w.heap.size w w1 := Below.trans (by go_grown) (hw1.mono (by first | omega | (simp; done) | (simp; omega)))
  have p_p : Cs w1 (w.heap.size) [.string pn, .int .i64 pr, .int .i64 po, .slice a zs.length cap] := Cs.later hw1 (by repeat (first | assumption | (refine Cs.new _ _ _ _ ?_; simp; done) | refine Cs.alloc ?_ _ | refine Cs.drew ?_ | (refine Cs.beside ?_ _ _ (by omega))))
  have q_p := p_p
  have p0 : w1.cell? ⟨w.heap.size, 0, none⟩ = some (.string pn) := p_p.1 0 _ rfl
  have p1 : w1.cell? ⟨w.heap.size, 1, none⟩ = some (.int .i64 pr) := p_p.1 1 _ rfl
  have p2 : w1.cell? ⟨w.heap.size, 2, none⟩ = some (.int .i64 po) := p_p.1 2 _ rfl
  have p3 : w1.cell? ⟨w.heap.size, 3, none⟩ = some (.slice a zs.length cap) := p_p.1 3 _ rfl
  have pz : w.heap.size < w1.heap.size := p_p.2.2
  clear p_p
  have hsw1 := hw1.size
  (try simp at hsw1)
  clear hw1
  go_wp2_with (fail)
  refine (great_is pn pr po _ (HZ.out.later HBw1)).mono ?_
  rintro e w2 ⟨G, rfl, -, hw2⟩
  have HB2 : Below w.heap.size w w2 := HBw1.trans (hw2.mono HBw1.size)
  have p_2 := Cs.later hw2 q_p
  clear q_p p0 p1 p2 p3 pz hw2 HBw1 hsw1
  by_cases g2 : 2000 < G
  · go_wp2
    go_ret
    exact ⟨rfl, HB2⟩
  have p0 := p_2.1 0 _ rfl
  have p1 := p_2.1 1 _ rfl
  have p2 := p_2.1 2 _ rfl
  have p3 := p_2.1 3 _ rfl
  have pz := p_2.2.2
  obtain ⟨g, hg⟩ : ∃ g, g = podB pn pr po zs := ⟨_, rfl⟩
  have HG : Hid (g = podB pn pr po zs) := hg
  obtain ⟨P, HP⟩ : ∃ P : Nat → Int, (if podB pn pr po zs = true then podV zs else k0V) = .agg #[.int .i64 (P 0), .int .i64 (P 1), .int .i64 (P 2), .int .i64 (P 3), .int .i64 (P 4)] ∧ (podB pn pr po zs = true → P = podF zs) ∧ (podB pn pr po zs = false → P = fun _ => 0) := by
    by_cases k : podB pn pr po zs = true
    · exact ⟨podF zs, by rw [if_pos k]; rfl, fun _ => rfl, fun e => by rw [k] at e; cases e⟩
    · exact ⟨fun _ => 0, by rw [if_neg k], fun e => absurd e k, fun _ => rfl⟩
  have CP : Hid (∀ w, LaidK w → RdC w (.slice a zs.length cap) zs → Calls Tryd.prog 12 #[.agg #[.string pn, .int .i64 pr, .int .i64 po, .slice a zs.length cap]] w fun e w' => e = .returned (.agg #[.int .i64 (P 0), .int .i64 (P 1), .int .i64 (P 2), .int .i64 (P 3), .int .i64 (P 4)]) ∧ Below w.heap.size w w') := fun w h1 h2 => by rw [← HP.1]; exact podK_is pn pr po HM.out w h1.1 h2
  have P1 : Hid (g = true → P = podF zs) := fun e => HP.2.1 (HG.out.symm.trans e)
  have P0 : Hid (g = false → P = fun _ => 0) := fun e => HP.2.2 (HG.out.symm.trans e)
  have CR : Hid (∀ w, RdC w (.slice a zs.length cap) zs → Calls Tryd.prog 25 #[.agg #[.string pn, .int .i64 pr, .int .i64 po, .slice a zs.length cap]] w fun e w' => e = .returned (.bool g) ∧ Below w.heap.size w w') := fun w h2 => by rw [HG.out]; exact refPod_is pn pr po HM.out w h2
  clear hg HP HM
  go_wp2_with (fail)
  refine (CP.out _ (HL.out.later HB2) (HZ.out.later HB2)).mono ?_
  rintro e w3 ⟨rfl, hw3⟩
  have HB3 : Below w.heap.size w w3 := HB2.trans (hw3.mono HB2.size)
  have p_3 := Cs.later hw3 p_2
  clear p0 p1 p2 p3 pz p_2 hw3 CP HB2 g2
  have p0 := p_3.1 0 _ rfl
  have p1 := p_3.1 1 _ rfl
  have p2 := p_3.1 2 _ rfl
  have p3 := p_3.1 3 _ rfl
  have pz := p_3.2.2
  have k_p := p_3.alloc (.cells #[.int .i64 (P 0), .int .i64 (P 1), .int .i64 (P 2), .int .i64 (P 3), .int .i64 (P 4)] 33)
  have k_k : Cs (w3.alloc (.cells #[.int .i64 (P 0), .int .i64 (P 1), .int .i64 (P 2), .int .i64 (P 3), .int .i64 (P 4)] 33)) w3.heap.size [.int .i64 (P 0), .int .i64 (P 1), .int .i64 (P 2), .int .i64 (P 3), .int .i64 (P 4)] := Cs.new _ _ _ _ rfl
  have hs3 := HB3.size
  go_wp2_with (fail)
  refine (CR.out _ (HZ.out.later (HB3.alloc hs3 _))).mono ?_
  rintro e w4 ⟨rfl, hw4⟩
  have HB4 : Below w.heap.size w w4 := Below.trans (show Below w.heap.size w _ by go_grown) (hw4.mono (by simp; omega))
  have p_4 := Cs.later hw4 k_p
  have k_4 := Cs.later hw4 k_k
  obtain ⟨nk, hnk⟩ : ∃ n, n = w3.heap.size := ⟨_, rfl⟩
  rw [← hnk] at k_4 ⊢
  clear p0 p1 p2 p3 pz p_3 k_p k_k hw4 CR HB3 hs3 hnk
  cases g with
  | false =>
    obtain rfl : P = fun _ => 0 := P0.out rfl
    have k0 := k_4.1 0 _ rfl
    have k1 := k_4.1 1 _ rfl
    have k2 := k_4.1 2 _ rfl
    have k3 := k_4.1 3 _ rfl
    have k4 := k_4.1 4 _ rfl
    have kz := k_4.2.2
    clear P1 P0 HG
    go_wp2
    go_ret
    exact ⟨rfl, HB4⟩
  | true =>
  have HH : Hid (Holds zs P) := by rw [P1.out rfl]; exact pod_holds HG.out.symm
  obtain ⟨S, hS⟩ := summed_ex HG.out.symm
  have HS : Hid (Summed zs (P 0) S) := by rw [P1.out rfl]; exact hS
  have HC : Hid (∀ (i : Nat) (c : Ct), zs[i]? = some c → ctB c.n c.rc c.rm c.rh c.lc c.lm c.lh = true) := fun i c hc => (csB_iff.1 (pod_parts HG.out.symm).2.2.1 i c hc).1
  clear hS P1 P0 HG
  have p3 := p_4.1 3 _ rfl
  have pz := p_4.2.2
  go_wp2
  clear p3 pz p_4
  go_loopw [4, 24] (fun s f wr => ∃ (j : Nat) (t : Int), s = .int .i64 t ∧ f = .int .i64 j ∧ j ≤ zs.length ∧ Hid (0 ≤ t ∧ t ≤ 9223372036854775807 ∧ (P 0 ≠ 4611686018427387904 → t = S j)) ∧ Cs wr nk [.int .i64 (P 0), .int .i64 (P 1), .int .i64 (P 2), .int .i64 (P 3), .int .i64 (P 4)] ∧ Below w.heap.size w wr) (fun _ f _ => zs.length - (intOf f).toNat)
  case atStart => exact ⟨0, 0, rfl, rfl, by omega, ⟨by omega, by omega, fun _ => HS.out.zero.symm⟩, k_4, HB4⟩
  case round =>
    clear k_4 HB4
    obtain ⟨j, t, rfl, rfl, jl, HT, q_k, HB⟩ := hrel
    have hs := HB.size
    by_cases cj : j < zs.length
    · obtain ⟨⟨m, rc, rm, rh, lc, lm, lh, x, y, z⟩, hdj⟩ : ∃ d, zs[j]? = some d := ⟨zs[j], List.getElem?_eq_getElem cj⟩
      obtain ⟨hmm, b, off, rfl, T10⟩ := H3.out j _ hdj
      have EE := HH.out.each _ (List.mem_of_getElem? hdj)
      have C : Hid (∀ w, LaidS w → Calls Tryd.prog 10 #[.agg #[.string m, .int .i64 rc, .int .i64 rm, .int .i64 rh, .int .i64 lc, .int .i64 lm, .int .i64 lh, .bool x, .bool y, .bool z]] w fun e w' => e = .returned (kctV rc rm lc lm lh) ∧ Below w.heap.size w w') := fun w h => by
        have := containerK_is m rc rm rh lc lm lh x y z hmm w h
        rw [HC.out j _ hdj, if_pos rfl] at this
        exact this
      have NX : Hid (P 0 ≠ 4611686018427387904 → S (j + 1) = S j + limV lc) := HS.out.next j _ hdj
      have LO : Hid (P 0 ≠ 4611686018427387904 → 0 ≤ S j ∧ S j < 4611686018427387904) := HS.out.low j (by omega)
      obtain ⟨c0, c1, c2, c3, c4, c5, c6, c7, c8, c9⟩ := T10.later HB
      simp only at c0 c1 c2 c3 c4 c5 c6 c7 c8 c9 EE
      have j0 : (0 : Int) ≤ (j : Int) := by omega
      have j1 : (j : Int) < (zs.length : Int) := by omega
      clear T10 hdj hmm
      go_wp2_with (fail)
      refine (C.out _ ((HL.out.later HB).alloc _).1).mono ?_
      rintro e w5 ⟨rfl, hw5⟩
      have HB5 : Below w.heap.size w w5 := Below.trans (show Below w.heap.size w _ by go_grown) (hw5.mono (by simp; omega))
      have k_5 := Cs.later hw5 (q_k.alloc (.cells #[.string m, .int .i64 rc, .int .i64 rm, .int .i64 rh, .int .i64 lc, .int .i64 lm, .int .i64 lh, .bool x, .bool y, .bool z] 26))
      clear c0 c1 c2 c3 c4 c5 c6 c7 c8 c9 C q_k hw5 HB hs
      have hs := HB5.size
      obtain ⟨x0, ex0⟩ : ∃ x, x = limV lc := ⟨_, rfl⟩
      obtain ⟨x1, ex1⟩ : ∃ x, x = wgt rc := ⟨_, rfl⟩
      obtain ⟨x3, ex3⟩ : ∃ x, x = limV lm := ⟨_, rfl⟩
      obtain ⟨E1, E2, E3, E4, E5, E6, E7⟩ := EE
      have CR : Hid (∀ w, LaidK w → Calls Tryd.prog 21 #[.agg #[.int .i64 x0, .int .i64 x1, .int .i64 rm, .int .i64 x3, .int .i64 lh]] w fun e w' => e = .returned (.bool true) ∧ Below w.heap.size w w') := fun w h => by
        have := right_is x0 x1 rm x3 lh w h
        rw [ex0, ex1, ex3, E1] at this
        rw [ex0, ex1, ex3]
        exact this
      rw [show kctV rc rm lc lm lh = .agg #[.int .i64 x0, .int .i64 x1, .int .i64 rm, .int .i64 x3, .int .i64 lh] by rw [ex0, ex1, ex3]]
      rw [← ex0] at E2 E6 E7 NX
      rw [← ex3] at E4
      clear E1 ex0 ex1 ex3
      have n0 : ¬ P 0 < x0 := by omega
      have n2 : ¬ P 2 < rm := by omega
      have n3 : ¬ P 3 < x3 := by omega
      have n4 : ¬ P 4 < lh := by omega
      have HT2 : Hid (0 ≤ x0 ∧ x0 ≤ 4611686018427387904) := ⟨E6, E7⟩
      clear E2 E3 E4 E5 E6 E7
      have k_6 := k_5.alloc (.cells #[.int .i64 x0, .int .i64 x1, .int .i64 rm, .int .i64 x3, .int .i64 lh] 33)
      have x_6 : Cs (w5.alloc (.cells #[.int .i64 x0, .int .i64 x1, .int .i64 rm, .int .i64 x3, .int .i64 lh] 33)) w5.heap.size [.int .i64 x0, .int .i64 x1, .int .i64 rm, .int .i64 x3, .int .i64 lh] := Cs.new _ _ _ _ rfl
      go_wp2_with (fail)
      refine (CR.out _ ((HL.out.later HB5).alloc _)).mono ?_
      rintro e w6 ⟨rfl, hw6⟩
      have HB6 : Below w.heap.size w w6 := Below.trans (show Below w.heap.size w _ by go_grown) (hw6.mono (by simp; omega))
      have k_7 := Cs.later hw6 k_6
      have x_7 := Cs.later hw6 x_6
      clear CR k_5 k_6 x_6 hw6 hs HB5
      have y0 := x_7.1 0 _ rfl
      have y2 := x_7.1 2 _ rfl
      have y3 := x_7.1 3 _ rfl
      have y4 := x_7.1 4 _ rfl
      have yz := x_7.2.2
      have k0 := k_7.1 0 _ rfl
      have k2 := k_7.1 2 _ rfl
      have k3 := k_7.1 3 _ rfl
      have k4 := k_7.1 4 _ rfl
      have kz := k_7.2.2
      clear x_7
      by_cases ts : t < 4611686018427387904
      · go_wp2
        go_roundw
        case rel => exact ⟨j + 1, _, rfl, by go_num, by omega, held_on HT.out HT2.out ts NX.out, k_7, HB6⟩
        case measure => simp [intOf]; omega
      · go_wp2
        go_roundw
        case rel => exact ⟨j + 1, t, rfl, by go_num, by omega, ⟨HT.out.1, HT.out.2.1, fun e => by have := LO.out e; have := HT.out.2.2 e; omega⟩, k_7, HB6⟩
        case measure => simp [intOf]; omega
    · obtain rfl : j = zs.length := by omega
      have TL : Hid (min t 4611686018427387904 ≤ P 0) := by
        unfold Hid
        by_cases e : P 0 = 4611686018427387904
        · omega
        · have := HS.out.all e
          have := HT.out.2.2 e
          omega
      have CR : Hid (∀ w, LaidK w → Calls Tryd.prog 21 #[.agg #[.int .i64 (P 0), .int .i64 (P 1), .int .i64 (P 2), .int .i64 (P 3), .int .i64 (P 4)]] w fun e w' => e = .returned (.bool true) ∧ Below w.heap.size w w') := fun w h => by
        have := right_is (P 0) (P 1) (P 2) (P 3) (P 4) w h
        rw [HH.out.right] at this
        exact this
      have k0 := q_k.1 0 _ rfl
      have k1 := q_k.1 1 _ rfl
      have k2 := q_k.1 2 _ rfl
      have k3 := q_k.1 3 _ rfl
      have k4 := q_k.1 4 _ rfl
      have kz := q_k.2.2
      clear HH HS HC HT
      go_wp2_with (fail)
      refine (CR.out _ (HL.out.later HB)).mono ?_
      rintro e w5 ⟨rfl, hw5⟩
      have HB5 : Below w.heap.size w w5 := HB.trans (hw5.mono HB.size)
      have k_5 := Cs.later hw5 q_k
      clear k0 k1 k2 k3 k4 kz CR HB hs q_k hw5
      have k0 := k_5.1 0 _ rfl
      have kz := k_5.2.2
      have tl : min t 4611686018427387904 ≤ P 0 := TL.out
      go_wp2
      go_ret
      exact ⟨rfl, HB5⟩

end Go.Proofs.YtaeejemknmjglaaDoor.Sp
