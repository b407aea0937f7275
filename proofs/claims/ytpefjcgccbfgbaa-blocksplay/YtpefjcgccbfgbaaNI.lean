/-
  A table's Put at this program. Conditions: the table is one, nobody holds more than there is; the owner's texts are within the reach.
-/
import Derived.Test.YtpefjcgccbfgbaaNH
import Derived.Deep.RegionHeld3
import Derived.Deep.RegionWith
import Derived.Deep.CutRange
import Derived.Deep.DeepCutAuto
import Derived.Deep.CutBlock
namespace Go.Proofs.Ytpefjcgccbfgbaa.Bk
open Go.RowKit

/-- A row among rows that are in order. -/
def insW (x : Rw) : List Rw → List Rw
  | [] => [x]
  | r :: l => if bef x.p x.c x.k r.p r.c r.k = true then x :: r :: l else r :: insW x l
theorem insW_perm (x : Rw) : ∀ l : List Rw, (insW x l).Perm (x :: l)
  | [] => List.Perm.refl _
  | r :: l => by
    unfold insW
    split
    · exact List.Perm.refl _
    · exact ((insW_perm x l).cons r).trans (List.Perm.swap x r l)
def zeroB (s : Nat → Int) : Bool := eqP s nought
theorem zeroB_iff {s : Nat → Int} : zeroB s = true ↔ ∀ i, i < 8 → s i = 0 := by
  unfold zeroB eqP nought
  simp only [Bool.and_eq_true, beq_iff_eq]
  constructor
  · rintro ⟨h0, h1, h2, h3, h4, h5, h6, h7⟩ i hi
    rcases (show i = 0 ∨ i = 1 ∨ i = 2 ∨ i = 3 ∨ i = 4 ∨ i = 5 ∨ i = 6 ∨ i = 7 by omega) with rfl | rfl | rfl | rfl | rfl | rfl | rfl | rfl <;> assumption
  · intro h
    exact ⟨h 0 (by omega), h 1 (by omega), h 2 (by omega), h 3 (by omega), h 4 (by omega), h 5 (by omega), h 6 (by omega), h 7 (by omega)⟩
/-- Is there room, at this node? -/
def roomAt (zs : List Zn) (ls : List Rw) (p c : ByteArray) (k : Int) (s : Nat → Int) (i : Nat) : Bool := decide (s i ≤ freV zs ls k i + hld p c k ls i)
def argB (zs : List Zn) (p c : ByteArray) (k : Int) (s : Nat → Int) : Bool := okO p c k && okS zs.length s
/-- What Put answers, and the rows behind it. -/
def putE (zs : List Zn) (ls : List Rw) (p c : ByteArray) (k : Int) (s : Nat → Int) : Int := if argB zs p c k s = true then (if all8f (roomAt zs ls p c k s) 0 = true then 0 else 20) else 2
def putR (ls : List Rw) (p c : ByteArray) (k : Int) (s : Nat → Int) : List Rw := if zeroB s = true then wth p c k ls else insW ⟨p, c, k, s⟩ (wth p c k ls)
def putL (zs : List Zn) (ls : List Rw) (p c : ByteArray) (k : Int) (s : Nat → Int) : List Rw := if putE zs ls p c k s = 0 then putR ls p c k s else ls
theorem hld_cases (p c : ByteArray) (k : Int) : ∀ ls : List Rw, hld p c k ls = nought ∨ ∃ r ∈ ls, hld p c k ls = r.s
  | [] => .inl rfl
  | r :: l => by
    rw [hld]
    split
    · exact .inr ⟨r, by simp, rfl⟩
    · rcases hld_cases p c k l with h | ⟨q, hq, h⟩
      · exact .inl h
      · exact .inr ⟨q, List.mem_cons_of_mem r hq, h⟩
theorem Sound.one {zs : List Zn} {ls : List Rw} (h : Sound zs ls) (hf : ∀ z ∈ zs, Fit z) {r : Rw} (hr : r ∈ ls) {i : Nat} (hi : i < 8) : 0 ≤ r.s i ∧ r.s i ≤ 1073741824 := by
  have h1 := h.nn r hr i hi
  have h2 := h.le i r.k hi
  have h3 := roomV_bd hf (i : Int) r.k
  obtain ⟨ms, hp⟩ := pick_one hr
  have h4 := sumK_nn (i := i) (k := r.k) (l := ms) fun q hq => h.nn q (hp.mem_iff.2 (List.mem_cons_of_mem r hq)) i hi
  rw [sumK_perm hp, sumK, if_pos rfl] at h2
  omega
theorem Sound.hld {zs : List Zn} {ls : List Rw} (h : Sound zs ls) (hf : ∀ z ∈ zs, Fit z) (p c : ByteArray) (k : Int) {i : Nat} (hi : i < 8) : 0 ≤ Bk.hld p c k ls i ∧ Bk.hld p c k ls i ≤ 1073741824 := by
  rcases hld_cases p c k ls with e | ⟨r, hr, e⟩
  · rw [e]; unfold nought; omega
  · rw [e]; exact h.one hf hr hi
theorem Sound.fre {zs : List Zn} {ls : List Rw} (h : Sound zs ls) (hf : ∀ z ∈ zs, Fit z) (k : Int) {i : Nat} (hi : i < 8) : 0 ≤ freV zs ls k i ∧ freV zs ls k i ≤ 1073741824 := by
  have h1 := h.le i k hi
  have h2 := roomV_bd hf (i : Int) k
  have h3 := sumK_nn (i := i) (k := k) (l := ls) fun q hq => h.nn q hq i hi
  unfold freV
  omega
theorem grown_trans {A B C : World} {row : Option Nat} (h : A.grownBy B row) (k : B.grownBy C row) : A.grownBy C row := h.andThen k fun _ e => .inr e
theorem own_set8 (W : World) (b : Nat) (s : Nat → Int) : W.grownBy (((((((((W).setCell ⟨b, 0, none⟩ (.int .i64 (s 0))).setCell ⟨b, 1, none⟩ (.int .i64 (s 1))).setCell ⟨b, 2, none⟩ (.int .i64 (s 2))).setCell ⟨b, 3, none⟩ (.int .i64 (s 3))).setCell ⟨b, 4, none⟩ (.int .i64 (s 4))).setCell ⟨b, 5, none⟩ (.int .i64 (s 5))).setCell ⟨b, 6, none⟩ (.int .i64 (s 6))).setCell ⟨b, 7, none⟩ (.int .i64 (s 7))) (some b) :=
  grown_trans (grown_trans (grown_trans (grown_trans (grown_trans (grown_trans (grown_trans (own_set W b 0 _) (own_set _ b 1 _)) (own_set _ b 2 _)) (own_set _ b 3 _)) (own_set _ b 4 _)) (own_set _ b 5 _)) (own_set _ b 6 _)) (own_set _ b 7 _)
theorem below_put8 {n : Nat} {w W : World} {b : Nat} (h : Below n w W) (e : n ≤ b) (s : Nat → Int) : Below n w (((((((((W).setCell ⟨b, 0, none⟩ (.int .i64 (s 0))).setCell ⟨b, 1, none⟩ (.int .i64 (s 1))).setCell ⟨b, 2, none⟩ (.int .i64 (s 2))).setCell ⟨b, 3, none⟩ (.int .i64 (s 3))).setCell ⟨b, 4, none⟩ (.int .i64 (s 4))).setCell ⟨b, 5, none⟩ (.int .i64 (s 5))).setCell ⟨b, 6, none⟩ (.int .i64 (s 6))).setCell ⟨b, 7, none⟩ (.int .i64 (s 7))) :=
  (((((((h.setCell (p := ⟨b, 0, none⟩) e _).setCell (p := ⟨b, 1, none⟩) e _).setCell (p := ⟨b, 2, none⟩) e _).setCell (p := ⟨b, 3, none⟩) e _).setCell (p := ⟨b, 4, none⟩) e _).setCell (p := ⟨b, 5, none⟩) e _).setCell (p := ⟨b, 6, none⟩) e _).setCell (p := ⟨b, 7, none⟩) e _
theorem cs_put8 {W : World} {b : Nat} {t : Nat → Int} (h : Cs W b (spL t)) (s : Nat → Int) : Cs (((((((((W).setCell ⟨b, 0, none⟩ (.int .i64 (s 0))).setCell ⟨b, 1, none⟩ (.int .i64 (s 1))).setCell ⟨b, 2, none⟩ (.int .i64 (s 2))).setCell ⟨b, 3, none⟩ (.int .i64 (s 3))).setCell ⟨b, 4, none⟩ (.int .i64 (s 4))).setCell ⟨b, 5, none⟩ (.int .i64 (s 5))).setCell ⟨b, 6, none⟩ (.int .i64 (s 6))).setCell ⟨b, 7, none⟩ (.int .i64 (s 7))) b (spL s) :=
  (((((((h.set 0 _ (by show 0 < 8; omega)).set 1 _ (by show 1 < 8; omega)).set 2 _ (by show 2 < 8; omega)).set 3 _ (by show 3 < 8; omega)).set 4 _ (by show 4 < 8; omega)).set 5 _ (by show 5 < 8; omega)).set 6 _ (by show 6 < 8; omega)).set 7 _ (by show 7 < 8; omega)
theorem cs_beside8 {W : World} {b c : Nat} {l : List Value} (h : Cs W c l) (e : c ≠ b) (s : Nat → Int) : Cs (((((((((W).setCell ⟨b, 0, none⟩ (.int .i64 (s 0))).setCell ⟨b, 1, none⟩ (.int .i64 (s 1))).setCell ⟨b, 2, none⟩ (.int .i64 (s 2))).setCell ⟨b, 3, none⟩ (.int .i64 (s 3))).setCell ⟨b, 4, none⟩ (.int .i64 (s 4))).setCell ⟨b, 5, none⟩ (.int .i64 (s 5))).setCell ⟨b, 6, none⟩ (.int .i64 (s 6))).setCell ⟨b, 7, none⟩ (.int .i64 (s 7))) c l := h.grown (own_set8 W b s) fun x => e (by cases x; rfl)

set_option maxHeartbeats 4000000 in
set_option maxRecDepth 100000 in
theorem put_is {b m : Nat} {zs : List Zn} {ls : List Rw} (p c : ByteArray) (k : Int) (s : Nat → Int) (w : World) (h : Tb w b m zs ls) (hS : Sound zs ls) (hg : GdK p c k) (hn : ls.length < maxLen) :
    Calls Try.prog 16 #[tbV b, ownV p c k, spV s] w fun e w' => e = .returned (.int .i64 (putE zs ls p c k s)) ∧ Tb w' b m zs (putL zs ls p c k s) ∧ w.grownBy w' (some m) := by
  obtain ⟨E, hE⟩ : ∃ E, E = putE zs ls p c k s := ⟨_, rfl⟩
  obtain ⟨ms, hms⟩ : ∃ ms, ms = putL zs ls p c k s := ⟨_, rfl⟩
  rw [← hE, ← hms]
  have HM : Hid (ms = if E = 0 then putR ls p c k s else ls) := by rw [hms, hE]; rfl
  obtain ⟨A, hA⟩ : ∃ A, A = okO p c k := ⟨_, rfl⟩
  obtain ⟨B, hB⟩ : ∃ B, B = okS zs.length s := ⟨_, rfl⟩
  obtain ⟨F, hF⟩ : ∃ F, F = freV zs ls k := ⟨_, rfl⟩
  obtain ⟨H, hH⟩ : ∃ H, H = hld p c k ls := ⟨_, rfl⟩
  obtain ⟨Z, hZ⟩ : ∃ Z, Z = zeroB s := ⟨_, rfl⟩
  have HE : Hid (E = if (A && B) = true then (if all8f (fun i => decide (s i ≤ F i + H i)) 0 = true then 0 else 20) else 2) := by rw [hE, hA, hB, hF, hH]; rfl
  have HZ : Hid (putR ls p c k s = if Z = true then wth p c k ls else insW ⟨p, c, k, s⟩ (wth p c k ls)) := by rw [hZ]; rfl
  have BD : Hid (∀ i, i < 8 → (0 ≤ F i ∧ F i ≤ 1073741824) ∧ 0 ≤ H i ∧ H i ≤ 1073741824) := fun i hi => by rw [hF, hH]; exact ⟨hS.fre (fits_all h.fit) k hi, hS.hld (fits_all h.fit) p c k hi⟩
  have C1 : Hid (∀ w1, Calls Try.prog 32 #[ownV p c k] w1 fun e w' => e = .returned (.bool A) ∧ Below w1.heap.size w1 w') := fun w1 => by rw [hA]; exact rightOwner_is p c k hg.1.1 hg.1.2 w1
  have C2 : Hid (∀ w1, Tb w1 b m zs ls → Calls Try.prog 33 #[tbV b, spV s] w1 fun e w' => e = .returned (.bool B) ∧ Below w1.heap.size w1 w') := fun w1 h1 => by rw [hB]; exact rightSpread_is s w1 h1
  have C3 : Hid (∀ w1, Tb w1 b m zs ls → Calls Try.prog 18 #[tbV b, .int .i64 k] w1 fun e w' => e = .returned (spV F) ∧ Below w1.heap.size w1 w') := fun w1 h1 => by rw [hF]; exact frees_is k w1 h1 hS
  have LK : Hid (∀ w1, MapW w1 m ls → Sem.run Try.prog (Instr.lookup tMap (.map (some m)) (ownV p c k) false) w1 = .ok (spV H) w1) := fun w1 h1 => by rw [hH]; exact h1.look hg
  have ZE : Hid (∀ w1 : World, Sem.run Try.prog (Op.equalIn 10000 47 (spV s) (spV nought)) w1 = .ok Z w1) := fun w1 => by rw [hZ]; exact sp_eq 9998 s nought w1
  have HT : Hid (Tb w b m zs ls) := h
  have HG : Hid (GdK p c k) := hg
  have HN : Hid (ls.length < maxLen) := hn
  clear h hS hg hE hms hA hB hF hH hZ hn
  go_enter Try.func16, Try.ntmps16
  go_wp2_with (fail)
  refine (C1.out _).mono ?_
  rintro e w1 ⟨rfl, hw1⟩
  have q1 : Cs w1 w.heap.size [.string p, .string c, .int .i64 k] := Cs.later hw1 (Cs.alloc (Cs.new _ _ _ _ rfl) _)
  have q2 : Cs w1 (w.heap.size + 1) (spL s) := Cs.later hw1 (Cs.new _ _ _ _ (by simp))
  have HB1 : Below w.heap.size w w1 := Below.trans (by go_grown) (hw1.mono (by simp; omega))
  obtain ⟨ps, hps⟩ : ∃ ps, ps = w.heap.size + 1 := ⟨_, rfl⟩
  have HP : Hid (w.heap.size < ps) := by show w.heap.size < ps; omega
  rw [← hps] at q2 ⊢
  clear hps hw1 C1
  cases A with
  | false =>
    obtain rfl : E = 2 := by rw [HE.out]; rfl
    obtain rfl : ms = ls := by rw [HM.out]; rfl
    clear HE HM HZ BD C2 C3 LK ZE
    go_wp2
    go_ret
    exact ⟨rfl, Tb.later HB1 HT.out, (below_grown HB1).but _⟩
  | true =>
    have T1 := Tb.later HB1 HT.out
    have sb0 := q2.1 0 _ rfl
    have sb1 := q2.1 1 _ rfl
    have sb2 := q2.1 2 _ rfl
    have sb3 := q2.1 3 _ rfl
    have sb4 := q2.1 4 _ rfl
    have sb5 := q2.1 5 _ rfl
    have sb6 := q2.1 6 _ rfl
    have sb7 := q2.1 7 _ rfl
    go_wp2_with (fail)
    refine (C2.out _ T1).mono ?_
    rintro e w2 ⟨rfl, hw2⟩
    have p1 := Cs.later hw2 q1
    have p2 := Cs.later hw2 q2
    have HB2 := HB1.trans (hw2.mono HB1.size)
    have T2 := Tb.later hw2 T1
    clear hw2 q1 q2 T1 HB1 C2 sb0 sb1 sb2 sb3 sb4 sb5 sb6 sb7
    cases B with
    | false =>
      obtain rfl : E = 2 := by rw [HE.out]; rfl
      obtain rfl : ms = ls := by rw [HM.out]; rfl
      clear HE HM HZ BD C3 LK ZE
      go_wp2
      go_ret
      exact ⟨rfl, T2, (below_grown HB2).but _⟩
    | true =>
      have HE' : Hid (E = if all8f (fun i => decide (s i ≤ F i + H i)) 0 = true then 0 else 20) := by unfold Hid; rw [HE.out]; rfl
      clear HE
      go_upto_region 5 with (fail)
      go_cut [7, 8] (fun v7 v8 wc => ∃ p7 p8 : Nat, v7 = .pointer (some ⟨p7, 0, none⟩) ∧ v8 = .pointer (some ⟨p8, 0, none⟩) ∧ Cs wc p7 (spL F) ∧ Cs wc p8 (spL H) ∧ Below w2.heap.size w2 wc)
      case first =>
        clear HM HZ BD HE' ZE HG HN HT
        have BW : Hid (Below w2.heap.size w2 _) := Below.drew (Below.refl _ _)
        refine wp_region_noPanic ?_
        refine wp_region_held_drew (S := fun w' => Cs w' w.heap.size [.string p, .string c, .int .i64 k] ∧ w'.cell? ⟨b, 1, none⟩ = some (.map (some m)) ∧ Sem.run Try.prog (Instr.lookup tMap (.map (some m)) (ownV p c k) false) w' = .ok (spV H) w') (by kernel_rfl) ?_ (fun hHeld => ?_)
        · exact ⟨Cs.later BW.out p1, (Tb.later BW.out T2).held, LK.out _ (Tb.later BW.out T2).map⟩
        generalize World.drew _ = wd0 at *
        refine wpAnyH_take (i := 0) (v := ?_) rfl (by kernel_rfl) (by kernel_rfl) (by kernel_rfl) (fun _ _ _ h => h) (Or.inl ⟨by rfl, ?_⟩) (by assumption) ?_
        rotate_left
        · (intro wS hSw; have o0 := hSw.1.1 0 _ rfl; have o1 := hSw.1.1 1 _ rfl; have o2 := hSw.1.1 2 _ rfl; have cb := hSw.2.1; have lk := hSw.2.2; go_simp; try with_reducible rfl)
        change wpAnyH _ _ _ _ _ _ _ (Act.put _ (some 22) _) _
        simp only [Act.put, List.setIfInBounds_toArray, List.set_cons_zero, List.set_cons_succ]
        refine wpAnyH_take (i := 1) (v := ?_) rfl (by kernel_rfl) (by kernel_rfl) (by kernel_rfl) (fun _ _ _ h => h) (Or.inl ⟨by rfl, ?_⟩) (by assumption) ?_
        rotate_left
        · (intro wS hSw; have o0 := hSw.1.1 0 _ rfl; have o1 := hSw.1.1 1 _ rfl; have o2 := hSw.1.1 2 _ rfl; have cb := hSw.2.1; have lk := hSw.2.2; go_simp; try with_reducible rfl)
        change wpAnyH _ _ _ _ _ _ _ (Act.put _ (some 23) _) _
        simp only [Act.put, List.setIfInBounds_toArray, List.set_cons_zero, List.set_cons_succ]
        refine wpAnyH_take (i := 2) (v := ?_) rfl (by kernel_rfl) (by kernel_rfl) (by kernel_rfl) (fun _ _ _ h => h) (Or.inl ⟨by rfl, ?_⟩) (by assumption) ?_
        rotate_left
        · (intro wS hSw; have o0 := hSw.1.1 0 _ rfl; have o1 := hSw.1.1 1 _ rfl; have o2 := hSw.1.1 2 _ rfl; have cb := hSw.2.1; have lk := hSw.2.2; go_simp; try with_reducible rfl)
        change wpAnyH _ _ _ _ _ _ _ (Act.put _ (some 24) _) _
        simp only [Act.put, List.setIfInBounds_toArray, List.set_cons_zero, List.set_cons_succ]
        refine wpAnyH_take (i := 4) (v := ?_) rfl (by kernel_rfl) (by kernel_rfl) (by kernel_rfl) (fun _ _ _ h => h) (Or.inl ⟨by rfl, ?_⟩) (by assumption) ?_
        rotate_left
        · (intro wS hSw; have o0 := hSw.1.1 0 _ rfl; have o1 := hSw.1.1 1 _ rfl; have o2 := hSw.1.1 2 _ rfl; have cb := hSw.2.1; have lk := hSw.2.2; go_simp; try with_reducible rfl)
        change wpAnyH _ _ _ _ _ _ _ (Act.put _ (some 26) _) _
        simp only [Act.put, List.setIfInBounds_toArray, List.set_cons_zero, List.set_cons_succ]
        refine wpAnyH_take (i := 5) (v := ?_) rfl (by kernel_rfl) (by kernel_rfl) (by kernel_rfl) (fun _ _ _ h => h) (Or.inl ⟨by rfl, ?_⟩) (by assumption) ?_
        rotate_left
        · (intro wS hSw; have o0 := hSw.1.1 0 _ rfl; have o1 := hSw.1.1 1 _ rfl; have o2 := hSw.1.1 2 _ rfl; have cb := hSw.2.1; have lk := hSw.2.2; go_simp; try with_reducible rfl)
        change wpAnyH _ _ _ _ _ _ _ (Act.put _ (some 27) _) _
        simp only [Act.put, List.setIfInBounds_toArray, List.set_cons_zero, List.set_cons_succ]
        refine wpAnyH_take (i := 6) (v := ?_) rfl (by kernel_rfl) (by kernel_rfl) (by kernel_rfl) (fun _ _ _ h => h) (Or.inl ⟨by rfl, ?_⟩) (by assumption) ?_
        rotate_left
        · (intro wS hSw; have o0 := hSw.1.1 0 _ rfl; have o1 := hSw.1.1 1 _ rfl; have o2 := hSw.1.1 2 _ rfl; have cb := hSw.2.1; have lk := hSw.2.2; go_simp; try with_reducible rfl)
        change wpAnyH _ _ _ _ _ _ _ (Act.put _ (some 28) _) _
        simp only [Act.put, List.setIfInBounds_toArray, List.set_cons_zero, List.set_cons_succ]
        refine wpAnyH_take (i := 7) (v := ?_) rfl (by kernel_rfl) (by kernel_rfl) (by kernel_rfl) (fun _ _ _ h => h) (Or.inl ⟨by rfl, ?_⟩) (by assumption) ?_
        rotate_left
        · (intro wS hSw; have o0 := hSw.1.1 0 _ rfl; have o1 := hSw.1.1 1 _ rfl; have o2 := hSw.1.1 2 _ rfl; have cb := hSw.2.1; have lk := hSw.2.2; go_simp; try with_reducible rfl)
        change wpAnyH _ _ _ _ _ _ _ (Act.put _ (some 29) _) _
        simp only [Act.put, List.setIfInBounds_toArray, List.set_cons_zero, List.set_cons_succ]
        refine wpAnyH_take (i := 8) (v := ?_) rfl (by kernel_rfl) (by kernel_rfl) (by kernel_rfl) (fun _ _ _ h => h) (Or.inl ⟨by rfl, ?_⟩) (by assumption) ?_
        rotate_left
        · (intro wS hSw; have o0 := hSw.1.1 0 _ rfl; have o1 := hSw.1.1 1 _ rfl; have o2 := hSw.1.1 2 _ rfl; have cb := hSw.2.1; have lk := hSw.2.2; go_simp; try with_reducible rfl)
        change wpAnyH _ _ _ _ _ _ _ (Act.put _ (some 30) _) _
        simp only [Act.put, List.setIfInBounds_toArray, List.set_cons_zero, List.set_cons_succ]
        refine wpAnyH_take (i := 9) (v := ?_) rfl (by kernel_rfl) (by kernel_rfl) (by kernel_rfl) (fun _ _ _ h => h) (Or.inl ⟨by rfl, ?_⟩) (by assumption) ?_
        rotate_left
        · (intro wS hSw; have o0 := hSw.1.1 0 _ rfl; have o1 := hSw.1.1 1 _ rfl; have o2 := hSw.1.1 2 _ rfl; have cb := hSw.2.1; have lk := hSw.2.2; go_simp; try with_reducible rfl)
        change wpAnyH _ _ _ _ _ _ _ (Act.put _ (some 31) _) _
        simp only [Act.put, List.setIfInBounds_toArray, List.set_cons_zero, List.set_cons_succ]
        refine wpAnyH_ready (rs := [3, 10, 11]) (by kernel_rfl) (by simp) ?_
        refine AllReadyH.cons rfl (fun K hK => ?_) (AllReadyH.cons rfl (fun K hK => ?_) (AllReadyH.cons rfl (fun K hK => ?_) AllReadyH.nil))
        ·
          go_simp
          refine (C3.out _ (Tb.later BW.out T2)).mono ?_
          rintro e v1 ⟨rfl, hv1⟩
          have BW' : Hid (Below w2.heap.size w2 v1) := BW.out.trans (hv1.mono BW.out.size)
          clear hv1 BW
          have BW := BW'
          clear BW'
          (try go_wp2_with (fail))
          refine hK.out _ _ ?_ (fun hHeld => ?_)
          · exact ⟨Cs.later BW.out p1, (Tb.later BW.out T2).held, LK.out _ (Tb.later BW.out T2).map⟩
          clear hK K
          refine wpAnyH_ready (rs := [10, 11]) (by kernel_rfl) (by simp) ?_
          refine AllReadyH.cons rfl (fun K hK => ?_) (AllReadyH.cons rfl (fun K hK => ?_) AllReadyH.nil)
          ·
            go_simp
            obtain ⟨p7, hp7⟩ : ∃ p7, p7 = v1.heap.size := ⟨_, rfl⟩
            have BW' : Hid (Below w2.heap.size w2 (v1.alloc (.cells #[.int .i64 0, .int .i64 0, .int .i64 0, .int .i64 0, .int .i64 0, .int .i64 0, .int .i64 0, .int .i64 0] 47))) := BW.out.alloc BW.out.size _
            have N7' : Hid (Cs (v1.alloc (.cells #[.int .i64 0, .int .i64 0, .int .i64 0, .int .i64 0, .int .i64 0, .int .i64 0, .int .i64 0, .int .i64 0] 47)) p7 (spL nought) ∧ w2.heap.size ≤ p7) := by rw [hp7]; exact ⟨Cs.new _ _ _ _ rfl, BW.out.size⟩
            clear BW
            have BW := BW'
            clear BW'
            have N7 := N7'
            clear N7'
            refine hK.out _ _ ?_ (fun hHeld => ?_)
            · exact ⟨Cs.later BW.out p1, (Tb.later BW.out T2).held, LK.out _ (Tb.later BW.out T2).map⟩
            clear hK K
            rw [← hp7]
            clear hp7
            generalize v1.alloc (.cells #[.int .i64 0, .int .i64 0, .int .i64 0, .int .i64 0, .int .i64 0, .int .i64 0, .int .i64 0, .int .i64 0] 47) = wA2 at *
            refine wpAnyH_ready (rs := [11]) (by kernel_rfl) (by simp) ?_
            refine AllReadyH.cons rfl (fun K hK => ?_) AllReadyH.nil
            go_simp
            obtain ⟨p8, hp8⟩ : ∃ p8, p8 = wA2.heap.size := ⟨_, rfl⟩
            have BW' : Hid (Below w2.heap.size w2 (wA2.alloc (.cells #[.int .i64 0, .int .i64 0, .int .i64 0, .int .i64 0, .int .i64 0, .int .i64 0, .int .i64 0, .int .i64 0] 47))) := BW.out.alloc BW.out.size _
            have N7' : Hid (Cs (wA2.alloc (.cells #[.int .i64 0, .int .i64 0, .int .i64 0, .int .i64 0, .int .i64 0, .int .i64 0, .int .i64 0, .int .i64 0] 47)) p7 (spL nought) ∧ w2.heap.size ≤ p7) := ⟨N7.out.1.alloc _, N7.out.2⟩
            have N8' : Hid (Cs (wA2.alloc (.cells #[.int .i64 0, .int .i64 0, .int .i64 0, .int .i64 0, .int .i64 0, .int .i64 0, .int .i64 0, .int .i64 0] 47)) p8 (spL nought) ∧ w2.heap.size ≤ p8) := by rw [hp8]; exact ⟨Cs.new _ _ _ _ rfl, BW.out.size⟩
            have DD' : Hid (p7 ≠ p8) := by rw [hp8]; exact fun e => by have := N7.out.1.2.2; omega
            clear BW N7
            have BW := BW'
            clear BW'
            have N7 := N7'
            clear N7'
            have N8 := N8'
            clear N8'
            have DD := DD'
            clear DD'
            refine hK.out _ _ ?_ (fun hHeld => ?_)
            · exact ⟨Cs.later BW.out p1, (Tb.later BW.out T2).held, LK.out _ (Tb.later BW.out T2).map⟩
            clear hK K
            rw [← hp8]
            clear hp8
            generalize wA2.alloc (.cells #[.int .i64 0, .int .i64 0, .int .i64 0, .int .i64 0, .int .i64 0, .int .i64 0, .int .i64 0, .int .i64 0] 47) = wA3 at *
            refine wpAnyH_ready (rs := [12]) (by kernel_rfl) (by simp) ?_
            refine AllReadyH.cons rfl (fun K hK => ?_) AllReadyH.nil
            have c0 := N7.out.1.1 0 _ rfl
            have c1 := N7.out.1.1 1 _ rfl
            have c2 := N7.out.1.1 2 _ rfl
            have c3 := N7.out.1.1 3 _ rfl
            have c4 := N7.out.1.1 4 _ rfl
            have c5 := N7.out.1.1 5 _ rfl
            have c6 := N7.out.1.1 6 _ rfl
            have c7 := N7.out.1.1 7 _ rfl
            have f0 := N7.out.1.2.1 0 (by show 0 < 8; omega)
            have f1 := N7.out.1.2.1 1 (by show 1 < 8; omega)
            have f2 := N7.out.1.2.1 2 (by show 2 < 8; omega)
            have f3 := N7.out.1.2.1 3 (by show 3 < 8; omega)
            have f4 := N7.out.1.2.1 4 (by show 4 < 8; omega)
            have f5 := N7.out.1.2.1 5 (by show 5 < 8; omega)
            have f6 := N7.out.1.2.1 6 (by show 6 < 8; omega)
            have f7 := N7.out.1.2.1 7 (by show 7 < 8; omega)
            have BW' : Hid (Below w2.heap.size w2 ((((((((wA3.setCell ⟨p7, 0, none⟩ (.int .i64 (F 0))).setCell ⟨p7, 1, none⟩ (.int .i64 (F 1))).setCell ⟨p7, 2, none⟩ (.int .i64 (F 2))).setCell ⟨p7, 3, none⟩ (.int .i64 (F 3))).setCell ⟨p7, 4, none⟩ (.int .i64 (F 4))).setCell ⟨p7, 5, none⟩ (.int .i64 (F 5))).setCell ⟨p7, 6, none⟩ (.int .i64 (F 6))).setCell ⟨p7, 7, none⟩ (.int .i64 (F 7)))) := below_put8 BW.out N7.out.2 F
            have N7' : Hid (Cs ((((((((wA3.setCell ⟨p7, 0, none⟩ (.int .i64 (F 0))).setCell ⟨p7, 1, none⟩ (.int .i64 (F 1))).setCell ⟨p7, 2, none⟩ (.int .i64 (F 2))).setCell ⟨p7, 3, none⟩ (.int .i64 (F 3))).setCell ⟨p7, 4, none⟩ (.int .i64 (F 4))).setCell ⟨p7, 5, none⟩ (.int .i64 (F 5))).setCell ⟨p7, 6, none⟩ (.int .i64 (F 6))).setCell ⟨p7, 7, none⟩ (.int .i64 (F 7))) p7 (spL F) ∧ w2.heap.size ≤ p7) := ⟨cs_put8 N7.out.1 F, N7.out.2⟩
            have N8' : Hid (Cs ((((((((wA3.setCell ⟨p7, 0, none⟩ (.int .i64 (F 0))).setCell ⟨p7, 1, none⟩ (.int .i64 (F 1))).setCell ⟨p7, 2, none⟩ (.int .i64 (F 2))).setCell ⟨p7, 3, none⟩ (.int .i64 (F 3))).setCell ⟨p7, 4, none⟩ (.int .i64 (F 4))).setCell ⟨p7, 5, none⟩ (.int .i64 (F 5))).setCell ⟨p7, 6, none⟩ (.int .i64 (F 6))).setCell ⟨p7, 7, none⟩ (.int .i64 (F 7))) p8 (spL nought) ∧ w2.heap.size ≤ p8) := ⟨cs_beside8 N8.out.1 DD.out.symm F, N8.out.2⟩
            clear N7 N8 BW
            have BW := BW'
            have N7 := N7'
            have N8 := N8'
            clear BW' N7' N8'
            go_wp2_with (fail)
            refine hK.out _ _ ?_ (fun hHeld => ?_)
            · exact ⟨Cs.later BW.out p1, (Tb.later BW.out T2).held, LK.out _ (Tb.later BW.out T2).map⟩
            clear hK K c0 f0 c1 f1 c2 f2 c3 f3 c4 f4 c5 f5 c6 f6 c7 f7
            generalize ((((((((wA3.setCell ⟨p7, 0, none⟩ (.int .i64 (F 0))).setCell ⟨p7, 1, none⟩ (.int .i64 (F 1))).setCell ⟨p7, 2, none⟩ (.int .i64 (F 2))).setCell ⟨p7, 3, none⟩ (.int .i64 (F 3))).setCell ⟨p7, 4, none⟩ (.int .i64 (F 4))).setCell ⟨p7, 5, none⟩ (.int .i64 (F 5))).setCell ⟨p7, 6, none⟩ (.int .i64 (F 6))).setCell ⟨p7, 7, none⟩ (.int .i64 (F 7))) = wS7 at *
            refine wpAnyH_ready (rs := [13]) (by kernel_rfl) (by simp) ?_
            refine AllReadyH.cons rfl (fun K hK => ?_) AllReadyH.nil
            have c0 := N8.out.1.1 0 _ rfl
            have c1 := N8.out.1.1 1 _ rfl
            have c2 := N8.out.1.1 2 _ rfl
            have c3 := N8.out.1.1 3 _ rfl
            have c4 := N8.out.1.1 4 _ rfl
            have c5 := N8.out.1.1 5 _ rfl
            have c6 := N8.out.1.1 6 _ rfl
            have c7 := N8.out.1.1 7 _ rfl
            have f0 := N8.out.1.2.1 0 (by show 0 < 8; omega)
            have f1 := N8.out.1.2.1 1 (by show 1 < 8; omega)
            have f2 := N8.out.1.2.1 2 (by show 2 < 8; omega)
            have f3 := N8.out.1.2.1 3 (by show 3 < 8; omega)
            have f4 := N8.out.1.2.1 4 (by show 4 < 8; omega)
            have f5 := N8.out.1.2.1 5 (by show 5 < 8; omega)
            have f6 := N8.out.1.2.1 6 (by show 6 < 8; omega)
            have f7 := N8.out.1.2.1 7 (by show 7 < 8; omega)
            have BW' : Hid (Below w2.heap.size w2 ((((((((wS7.setCell ⟨p8, 0, none⟩ (.int .i64 (H 0))).setCell ⟨p8, 1, none⟩ (.int .i64 (H 1))).setCell ⟨p8, 2, none⟩ (.int .i64 (H 2))).setCell ⟨p8, 3, none⟩ (.int .i64 (H 3))).setCell ⟨p8, 4, none⟩ (.int .i64 (H 4))).setCell ⟨p8, 5, none⟩ (.int .i64 (H 5))).setCell ⟨p8, 6, none⟩ (.int .i64 (H 6))).setCell ⟨p8, 7, none⟩ (.int .i64 (H 7)))) := below_put8 BW.out N8.out.2 H
            have N8' : Hid (Cs ((((((((wS7.setCell ⟨p8, 0, none⟩ (.int .i64 (H 0))).setCell ⟨p8, 1, none⟩ (.int .i64 (H 1))).setCell ⟨p8, 2, none⟩ (.int .i64 (H 2))).setCell ⟨p8, 3, none⟩ (.int .i64 (H 3))).setCell ⟨p8, 4, none⟩ (.int .i64 (H 4))).setCell ⟨p8, 5, none⟩ (.int .i64 (H 5))).setCell ⟨p8, 6, none⟩ (.int .i64 (H 6))).setCell ⟨p8, 7, none⟩ (.int .i64 (H 7))) p8 (spL H) ∧ w2.heap.size ≤ p8) := ⟨cs_put8 N8.out.1 H, N8.out.2⟩
            have N7' : Hid (Cs ((((((((wS7.setCell ⟨p8, 0, none⟩ (.int .i64 (H 0))).setCell ⟨p8, 1, none⟩ (.int .i64 (H 1))).setCell ⟨p8, 2, none⟩ (.int .i64 (H 2))).setCell ⟨p8, 3, none⟩ (.int .i64 (H 3))).setCell ⟨p8, 4, none⟩ (.int .i64 (H 4))).setCell ⟨p8, 5, none⟩ (.int .i64 (H 5))).setCell ⟨p8, 6, none⟩ (.int .i64 (H 6))).setCell ⟨p8, 7, none⟩ (.int .i64 (H 7))) p7 (spL F) ∧ w2.heap.size ≤ p7) := ⟨cs_beside8 N7.out.1 DD.out H, N7.out.2⟩
            clear N7 N8 BW
            have BW := BW'
            have N7 := N7'
            have N8 := N8'
            clear BW' N7' N8'
            go_wp2_with (fail)
            refine hK.out _ _ ?_ (fun hHeld => ?_)
            · exact ⟨Cs.later BW.out p1, (Tb.later BW.out T2).held, LK.out _ (Tb.later BW.out T2).map⟩
            clear hK K c0 f0 c1 f1 c2 f2 c3 f3 c4 f4 c5 f5 c6 f6 c7 f7
            generalize ((((((((wS7.setCell ⟨p8, 0, none⟩ (.int .i64 (H 0))).setCell ⟨p8, 1, none⟩ (.int .i64 (H 1))).setCell ⟨p8, 2, none⟩ (.int .i64 (H 2))).setCell ⟨p8, 3, none⟩ (.int .i64 (H 3))).setCell ⟨p8, 4, none⟩ (.int .i64 (H 4))).setCell ⟨p8, 5, none⟩ (.int .i64 (H 5))).setCell ⟨p8, 6, none⟩ (.int .i64 (H 6))).setCell ⟨p8, 7, none⟩ (.int .i64 (H 7))) = wS8 at *
            refine wpAnyH_done (by kernel_rfl) ?_ _
            refine NoPanic.normal ?_
            go_wp2_with (fail)
            go_meet
            case rel => exact ⟨p7, p8, rfl, rfl, N7.out.1, N8.out.1, BW.out⟩
          ·
            go_simp
            obtain ⟨p8, hp8⟩ : ∃ p8, p8 = v1.heap.size := ⟨_, rfl⟩
            have BW' : Hid (Below w2.heap.size w2 (v1.alloc (.cells #[.int .i64 0, .int .i64 0, .int .i64 0, .int .i64 0, .int .i64 0, .int .i64 0, .int .i64 0, .int .i64 0] 47))) := BW.out.alloc BW.out.size _
            have N8' : Hid (Cs (v1.alloc (.cells #[.int .i64 0, .int .i64 0, .int .i64 0, .int .i64 0, .int .i64 0, .int .i64 0, .int .i64 0, .int .i64 0] 47)) p8 (spL nought) ∧ w2.heap.size ≤ p8) := by rw [hp8]; exact ⟨Cs.new _ _ _ _ rfl, BW.out.size⟩
            clear BW
            have BW := BW'
            clear BW'
            have N8 := N8'
            clear N8'
            refine hK.out _ _ ?_ (fun hHeld => ?_)
            · exact ⟨Cs.later BW.out p1, (Tb.later BW.out T2).held, LK.out _ (Tb.later BW.out T2).map⟩
            clear hK K
            rw [← hp8]
            clear hp8
            generalize v1.alloc (.cells #[.int .i64 0, .int .i64 0, .int .i64 0, .int .i64 0, .int .i64 0, .int .i64 0, .int .i64 0, .int .i64 0] 47) = wA6 at *
            refine wpAnyH_ready (rs := [10]) (by kernel_rfl) (by simp) ?_
            refine AllReadyH.cons rfl (fun K hK => ?_) AllReadyH.nil
            go_simp
            obtain ⟨p7, hp7⟩ : ∃ p7, p7 = wA6.heap.size := ⟨_, rfl⟩
            have BW' : Hid (Below w2.heap.size w2 (wA6.alloc (.cells #[.int .i64 0, .int .i64 0, .int .i64 0, .int .i64 0, .int .i64 0, .int .i64 0, .int .i64 0, .int .i64 0] 47))) := BW.out.alloc BW.out.size _
            have N8' : Hid (Cs (wA6.alloc (.cells #[.int .i64 0, .int .i64 0, .int .i64 0, .int .i64 0, .int .i64 0, .int .i64 0, .int .i64 0, .int .i64 0] 47)) p8 (spL nought) ∧ w2.heap.size ≤ p8) := ⟨N8.out.1.alloc _, N8.out.2⟩
            have N7' : Hid (Cs (wA6.alloc (.cells #[.int .i64 0, .int .i64 0, .int .i64 0, .int .i64 0, .int .i64 0, .int .i64 0, .int .i64 0, .int .i64 0] 47)) p7 (spL nought) ∧ w2.heap.size ≤ p7) := by rw [hp7]; exact ⟨Cs.new _ _ _ _ rfl, BW.out.size⟩
            have DD' : Hid (p7 ≠ p8) := by rw [hp7]; exact fun e => by have := N8.out.1.2.2; omega
            clear BW N8
            have BW := BW'
            clear BW'
            have N8 := N8'
            clear N8'
            have N7 := N7'
            clear N7'
            have DD := DD'
            clear DD'
            refine hK.out _ _ ?_ (fun hHeld => ?_)
            · exact ⟨Cs.later BW.out p1, (Tb.later BW.out T2).held, LK.out _ (Tb.later BW.out T2).map⟩
            clear hK K
            rw [← hp7]
            clear hp7
            generalize wA6.alloc (.cells #[.int .i64 0, .int .i64 0, .int .i64 0, .int .i64 0, .int .i64 0, .int .i64 0, .int .i64 0, .int .i64 0] 47) = wA7 at *
            refine wpAnyH_ready (rs := [12]) (by kernel_rfl) (by simp) ?_
            refine AllReadyH.cons rfl (fun K hK => ?_) AllReadyH.nil
            have c0 := N7.out.1.1 0 _ rfl
            have c1 := N7.out.1.1 1 _ rfl
            have c2 := N7.out.1.1 2 _ rfl
            have c3 := N7.out.1.1 3 _ rfl
            have c4 := N7.out.1.1 4 _ rfl
            have c5 := N7.out.1.1 5 _ rfl
            have c6 := N7.out.1.1 6 _ rfl
            have c7 := N7.out.1.1 7 _ rfl
            have f0 := N7.out.1.2.1 0 (by show 0 < 8; omega)
            have f1 := N7.out.1.2.1 1 (by show 1 < 8; omega)
            have f2 := N7.out.1.2.1 2 (by show 2 < 8; omega)
            have f3 := N7.out.1.2.1 3 (by show 3 < 8; omega)
            have f4 := N7.out.1.2.1 4 (by show 4 < 8; omega)
            have f5 := N7.out.1.2.1 5 (by show 5 < 8; omega)
            have f6 := N7.out.1.2.1 6 (by show 6 < 8; omega)
            have f7 := N7.out.1.2.1 7 (by show 7 < 8; omega)
            have BW' : Hid (Below w2.heap.size w2 ((((((((wA7.setCell ⟨p7, 0, none⟩ (.int .i64 (F 0))).setCell ⟨p7, 1, none⟩ (.int .i64 (F 1))).setCell ⟨p7, 2, none⟩ (.int .i64 (F 2))).setCell ⟨p7, 3, none⟩ (.int .i64 (F 3))).setCell ⟨p7, 4, none⟩ (.int .i64 (F 4))).setCell ⟨p7, 5, none⟩ (.int .i64 (F 5))).setCell ⟨p7, 6, none⟩ (.int .i64 (F 6))).setCell ⟨p7, 7, none⟩ (.int .i64 (F 7)))) := below_put8 BW.out N7.out.2 F
            have N7' : Hid (Cs ((((((((wA7.setCell ⟨p7, 0, none⟩ (.int .i64 (F 0))).setCell ⟨p7, 1, none⟩ (.int .i64 (F 1))).setCell ⟨p7, 2, none⟩ (.int .i64 (F 2))).setCell ⟨p7, 3, none⟩ (.int .i64 (F 3))).setCell ⟨p7, 4, none⟩ (.int .i64 (F 4))).setCell ⟨p7, 5, none⟩ (.int .i64 (F 5))).setCell ⟨p7, 6, none⟩ (.int .i64 (F 6))).setCell ⟨p7, 7, none⟩ (.int .i64 (F 7))) p7 (spL F) ∧ w2.heap.size ≤ p7) := ⟨cs_put8 N7.out.1 F, N7.out.2⟩
            have N8' : Hid (Cs ((((((((wA7.setCell ⟨p7, 0, none⟩ (.int .i64 (F 0))).setCell ⟨p7, 1, none⟩ (.int .i64 (F 1))).setCell ⟨p7, 2, none⟩ (.int .i64 (F 2))).setCell ⟨p7, 3, none⟩ (.int .i64 (F 3))).setCell ⟨p7, 4, none⟩ (.int .i64 (F 4))).setCell ⟨p7, 5, none⟩ (.int .i64 (F 5))).setCell ⟨p7, 6, none⟩ (.int .i64 (F 6))).setCell ⟨p7, 7, none⟩ (.int .i64 (F 7))) p8 (spL nought) ∧ w2.heap.size ≤ p8) := ⟨cs_beside8 N8.out.1 DD.out.symm F, N8.out.2⟩
            clear N7 N8 BW
            have BW := BW'
            have N7 := N7'
            have N8 := N8'
            clear BW' N7' N8'
            go_wp2_with (fail)
            refine hK.out _ _ ?_ (fun hHeld => ?_)
            · exact ⟨Cs.later BW.out p1, (Tb.later BW.out T2).held, LK.out _ (Tb.later BW.out T2).map⟩
            clear hK K c0 f0 c1 f1 c2 f2 c3 f3 c4 f4 c5 f5 c6 f6 c7 f7
            generalize ((((((((wA7.setCell ⟨p7, 0, none⟩ (.int .i64 (F 0))).setCell ⟨p7, 1, none⟩ (.int .i64 (F 1))).setCell ⟨p7, 2, none⟩ (.int .i64 (F 2))).setCell ⟨p7, 3, none⟩ (.int .i64 (F 3))).setCell ⟨p7, 4, none⟩ (.int .i64 (F 4))).setCell ⟨p7, 5, none⟩ (.int .i64 (F 5))).setCell ⟨p7, 6, none⟩ (.int .i64 (F 6))).setCell ⟨p7, 7, none⟩ (.int .i64 (F 7))) = wS7 at *
            refine wpAnyH_ready (rs := [13]) (by kernel_rfl) (by simp) ?_
            refine AllReadyH.cons rfl (fun K hK => ?_) AllReadyH.nil
            have c0 := N8.out.1.1 0 _ rfl
            have c1 := N8.out.1.1 1 _ rfl
            have c2 := N8.out.1.1 2 _ rfl
            have c3 := N8.out.1.1 3 _ rfl
            have c4 := N8.out.1.1 4 _ rfl
            have c5 := N8.out.1.1 5 _ rfl
            have c6 := N8.out.1.1 6 _ rfl
            have c7 := N8.out.1.1 7 _ rfl
            have f0 := N8.out.1.2.1 0 (by show 0 < 8; omega)
            have f1 := N8.out.1.2.1 1 (by show 1 < 8; omega)
            have f2 := N8.out.1.2.1 2 (by show 2 < 8; omega)
            have f3 := N8.out.1.2.1 3 (by show 3 < 8; omega)
            have f4 := N8.out.1.2.1 4 (by show 4 < 8; omega)
            have f5 := N8.out.1.2.1 5 (by show 5 < 8; omega)
            have f6 := N8.out.1.2.1 6 (by show 6 < 8; omega)
            have f7 := N8.out.1.2.1 7 (by show 7 < 8; omega)
            have BW' : Hid (Below w2.heap.size w2 ((((((((wS7.setCell ⟨p8, 0, none⟩ (.int .i64 (H 0))).setCell ⟨p8, 1, none⟩ (.int .i64 (H 1))).setCell ⟨p8, 2, none⟩ (.int .i64 (H 2))).setCell ⟨p8, 3, none⟩ (.int .i64 (H 3))).setCell ⟨p8, 4, none⟩ (.int .i64 (H 4))).setCell ⟨p8, 5, none⟩ (.int .i64 (H 5))).setCell ⟨p8, 6, none⟩ (.int .i64 (H 6))).setCell ⟨p8, 7, none⟩ (.int .i64 (H 7)))) := below_put8 BW.out N8.out.2 H
            have N8' : Hid (Cs ((((((((wS7.setCell ⟨p8, 0, none⟩ (.int .i64 (H 0))).setCell ⟨p8, 1, none⟩ (.int .i64 (H 1))).setCell ⟨p8, 2, none⟩ (.int .i64 (H 2))).setCell ⟨p8, 3, none⟩ (.int .i64 (H 3))).setCell ⟨p8, 4, none⟩ (.int .i64 (H 4))).setCell ⟨p8, 5, none⟩ (.int .i64 (H 5))).setCell ⟨p8, 6, none⟩ (.int .i64 (H 6))).setCell ⟨p8, 7, none⟩ (.int .i64 (H 7))) p8 (spL H) ∧ w2.heap.size ≤ p8) := ⟨cs_put8 N8.out.1 H, N8.out.2⟩
            have N7' : Hid (Cs ((((((((wS7.setCell ⟨p8, 0, none⟩ (.int .i64 (H 0))).setCell ⟨p8, 1, none⟩ (.int .i64 (H 1))).setCell ⟨p8, 2, none⟩ (.int .i64 (H 2))).setCell ⟨p8, 3, none⟩ (.int .i64 (H 3))).setCell ⟨p8, 4, none⟩ (.int .i64 (H 4))).setCell ⟨p8, 5, none⟩ (.int .i64 (H 5))).setCell ⟨p8, 6, none⟩ (.int .i64 (H 6))).setCell ⟨p8, 7, none⟩ (.int .i64 (H 7))) p7 (spL F) ∧ w2.heap.size ≤ p7) := ⟨cs_beside8 N7.out.1 DD.out H, N7.out.2⟩
            clear N7 N8 BW
            have BW := BW'
            have N7 := N7'
            have N8 := N8'
            clear BW' N7' N8'
            go_wp2_with (fail)
            refine hK.out _ _ ?_ (fun hHeld => ?_)
            · exact ⟨Cs.later BW.out p1, (Tb.later BW.out T2).held, LK.out _ (Tb.later BW.out T2).map⟩
            clear hK K c0 f0 c1 f1 c2 f2 c3 f3 c4 f4 c5 f5 c6 f6 c7 f7
            generalize ((((((((wS7.setCell ⟨p8, 0, none⟩ (.int .i64 (H 0))).setCell ⟨p8, 1, none⟩ (.int .i64 (H 1))).setCell ⟨p8, 2, none⟩ (.int .i64 (H 2))).setCell ⟨p8, 3, none⟩ (.int .i64 (H 3))).setCell ⟨p8, 4, none⟩ (.int .i64 (H 4))).setCell ⟨p8, 5, none⟩ (.int .i64 (H 5))).setCell ⟨p8, 6, none⟩ (.int .i64 (H 6))).setCell ⟨p8, 7, none⟩ (.int .i64 (H 7))) = wS8 at *
            refine wpAnyH_done (by kernel_rfl) ?_ _
            refine NoPanic.normal ?_
            go_wp2_with (fail)
            go_meet
            case rel => exact ⟨p7, p8, rfl, rfl, N7.out.1, N8.out.1, BW.out⟩
        ·
          go_simp
          obtain ⟨p7, hp7⟩ : ∃ p7, p7 = wd0.heap.size := ⟨_, rfl⟩
          have BW' : Hid (Below w2.heap.size w2 (wd0.alloc (.cells #[.int .i64 0, .int .i64 0, .int .i64 0, .int .i64 0, .int .i64 0, .int .i64 0, .int .i64 0, .int .i64 0] 47))) := BW.out.alloc BW.out.size _
          have N7' : Hid (Cs (wd0.alloc (.cells #[.int .i64 0, .int .i64 0, .int .i64 0, .int .i64 0, .int .i64 0, .int .i64 0, .int .i64 0, .int .i64 0] 47)) p7 (spL nought) ∧ w2.heap.size ≤ p7) := by rw [hp7]; exact ⟨Cs.new _ _ _ _ rfl, BW.out.size⟩
          clear BW
          have BW := BW'
          clear BW'
          have N7 := N7'
          clear N7'
          refine hK.out _ _ ?_ (fun hHeld => ?_)
          · exact ⟨Cs.later BW.out p1, (Tb.later BW.out T2).held, LK.out _ (Tb.later BW.out T2).map⟩
          clear hK K
          rw [← hp7]
          clear hp7
          generalize wd0.alloc (.cells #[.int .i64 0, .int .i64 0, .int .i64 0, .int .i64 0, .int .i64 0, .int .i64 0, .int .i64 0, .int .i64 0] 47) = wA10 at *
          refine wpAnyH_ready (rs := [3, 11]) (by kernel_rfl) (by simp) ?_
          refine AllReadyH.cons rfl (fun K hK => ?_) (AllReadyH.cons rfl (fun K hK => ?_) AllReadyH.nil)
          ·
            go_simp
            refine (C3.out _ (Tb.later BW.out T2)).mono ?_
            rintro e v11 ⟨rfl, hv11⟩
            have BW' : Hid (Below w2.heap.size w2 v11) := BW.out.trans (hv11.mono BW.out.size)
            have N7' : Hid (Cs v11 p7 (spL nought) ∧ w2.heap.size ≤ p7) := ⟨Cs.later hv11 N7.out.1, N7.out.2⟩
            clear hv11 BW N7
            have BW := BW'
            clear BW'
            have N7 := N7'
            clear N7'
            (try go_wp2_with (fail))
            refine hK.out _ _ ?_ (fun hHeld => ?_)
            · exact ⟨Cs.later BW.out p1, (Tb.later BW.out T2).held, LK.out _ (Tb.later BW.out T2).map⟩
            clear hK K
            refine wpAnyH_ready (rs := [11]) (by kernel_rfl) (by simp) ?_
            refine AllReadyH.cons rfl (fun K hK => ?_) AllReadyH.nil
            go_simp
            obtain ⟨p8, hp8⟩ : ∃ p8, p8 = v11.heap.size := ⟨_, rfl⟩
            have BW' : Hid (Below w2.heap.size w2 (v11.alloc (.cells #[.int .i64 0, .int .i64 0, .int .i64 0, .int .i64 0, .int .i64 0, .int .i64 0, .int .i64 0, .int .i64 0] 47))) := BW.out.alloc BW.out.size _
            have N7' : Hid (Cs (v11.alloc (.cells #[.int .i64 0, .int .i64 0, .int .i64 0, .int .i64 0, .int .i64 0, .int .i64 0, .int .i64 0, .int .i64 0] 47)) p7 (spL nought) ∧ w2.heap.size ≤ p7) := ⟨N7.out.1.alloc _, N7.out.2⟩
            have N8' : Hid (Cs (v11.alloc (.cells #[.int .i64 0, .int .i64 0, .int .i64 0, .int .i64 0, .int .i64 0, .int .i64 0, .int .i64 0, .int .i64 0] 47)) p8 (spL nought) ∧ w2.heap.size ≤ p8) := by rw [hp8]; exact ⟨Cs.new _ _ _ _ rfl, BW.out.size⟩
            have DD' : Hid (p7 ≠ p8) := by rw [hp8]; exact fun e => by have := N7.out.1.2.2; omega
            clear BW N7
            have BW := BW'
            clear BW'
            have N7 := N7'
            clear N7'
            have N8 := N8'
            clear N8'
            have DD := DD'
            clear DD'
            refine hK.out _ _ ?_ (fun hHeld => ?_)
            · exact ⟨Cs.later BW.out p1, (Tb.later BW.out T2).held, LK.out _ (Tb.later BW.out T2).map⟩
            clear hK K
            rw [← hp8]
            clear hp8
            generalize v11.alloc (.cells #[.int .i64 0, .int .i64 0, .int .i64 0, .int .i64 0, .int .i64 0, .int .i64 0, .int .i64 0, .int .i64 0] 47) = wA12 at *
            refine wpAnyH_ready (rs := [12]) (by kernel_rfl) (by simp) ?_
            refine AllReadyH.cons rfl (fun K hK => ?_) AllReadyH.nil
            have c0 := N7.out.1.1 0 _ rfl
            have c1 := N7.out.1.1 1 _ rfl
            have c2 := N7.out.1.1 2 _ rfl
            have c3 := N7.out.1.1 3 _ rfl
            have c4 := N7.out.1.1 4 _ rfl
            have c5 := N7.out.1.1 5 _ rfl
            have c6 := N7.out.1.1 6 _ rfl
            have c7 := N7.out.1.1 7 _ rfl
            have f0 := N7.out.1.2.1 0 (by show 0 < 8; omega)
            have f1 := N7.out.1.2.1 1 (by show 1 < 8; omega)
            have f2 := N7.out.1.2.1 2 (by show 2 < 8; omega)
            have f3 := N7.out.1.2.1 3 (by show 3 < 8; omega)
            have f4 := N7.out.1.2.1 4 (by show 4 < 8; omega)
            have f5 := N7.out.1.2.1 5 (by show 5 < 8; omega)
            have f6 := N7.out.1.2.1 6 (by show 6 < 8; omega)
            have f7 := N7.out.1.2.1 7 (by show 7 < 8; omega)
            have BW' : Hid (Below w2.heap.size w2 ((((((((wA12.setCell ⟨p7, 0, none⟩ (.int .i64 (F 0))).setCell ⟨p7, 1, none⟩ (.int .i64 (F 1))).setCell ⟨p7, 2, none⟩ (.int .i64 (F 2))).setCell ⟨p7, 3, none⟩ (.int .i64 (F 3))).setCell ⟨p7, 4, none⟩ (.int .i64 (F 4))).setCell ⟨p7, 5, none⟩ (.int .i64 (F 5))).setCell ⟨p7, 6, none⟩ (.int .i64 (F 6))).setCell ⟨p7, 7, none⟩ (.int .i64 (F 7)))) := below_put8 BW.out N7.out.2 F
            have N7' : Hid (Cs ((((((((wA12.setCell ⟨p7, 0, none⟩ (.int .i64 (F 0))).setCell ⟨p7, 1, none⟩ (.int .i64 (F 1))).setCell ⟨p7, 2, none⟩ (.int .i64 (F 2))).setCell ⟨p7, 3, none⟩ (.int .i64 (F 3))).setCell ⟨p7, 4, none⟩ (.int .i64 (F 4))).setCell ⟨p7, 5, none⟩ (.int .i64 (F 5))).setCell ⟨p7, 6, none⟩ (.int .i64 (F 6))).setCell ⟨p7, 7, none⟩ (.int .i64 (F 7))) p7 (spL F) ∧ w2.heap.size ≤ p7) := ⟨cs_put8 N7.out.1 F, N7.out.2⟩
            have N8' : Hid (Cs ((((((((wA12.setCell ⟨p7, 0, none⟩ (.int .i64 (F 0))).setCell ⟨p7, 1, none⟩ (.int .i64 (F 1))).setCell ⟨p7, 2, none⟩ (.int .i64 (F 2))).setCell ⟨p7, 3, none⟩ (.int .i64 (F 3))).setCell ⟨p7, 4, none⟩ (.int .i64 (F 4))).setCell ⟨p7, 5, none⟩ (.int .i64 (F 5))).setCell ⟨p7, 6, none⟩ (.int .i64 (F 6))).setCell ⟨p7, 7, none⟩ (.int .i64 (F 7))) p8 (spL nought) ∧ w2.heap.size ≤ p8) := ⟨cs_beside8 N8.out.1 DD.out.symm F, N8.out.2⟩
            clear N7 N8 BW
            have BW := BW'
            have N7 := N7'
            have N8 := N8'
            clear BW' N7' N8'
            go_wp2_with (fail)
            refine hK.out _ _ ?_ (fun hHeld => ?_)
            · exact ⟨Cs.later BW.out p1, (Tb.later BW.out T2).held, LK.out _ (Tb.later BW.out T2).map⟩
            clear hK K c0 f0 c1 f1 c2 f2 c3 f3 c4 f4 c5 f5 c6 f6 c7 f7
            generalize ((((((((wA12.setCell ⟨p7, 0, none⟩ (.int .i64 (F 0))).setCell ⟨p7, 1, none⟩ (.int .i64 (F 1))).setCell ⟨p7, 2, none⟩ (.int .i64 (F 2))).setCell ⟨p7, 3, none⟩ (.int .i64 (F 3))).setCell ⟨p7, 4, none⟩ (.int .i64 (F 4))).setCell ⟨p7, 5, none⟩ (.int .i64 (F 5))).setCell ⟨p7, 6, none⟩ (.int .i64 (F 6))).setCell ⟨p7, 7, none⟩ (.int .i64 (F 7))) = wS7 at *
            refine wpAnyH_ready (rs := [13]) (by kernel_rfl) (by simp) ?_
            refine AllReadyH.cons rfl (fun K hK => ?_) AllReadyH.nil
            have c0 := N8.out.1.1 0 _ rfl
            have c1 := N8.out.1.1 1 _ rfl
            have c2 := N8.out.1.1 2 _ rfl
            have c3 := N8.out.1.1 3 _ rfl
            have c4 := N8.out.1.1 4 _ rfl
            have c5 := N8.out.1.1 5 _ rfl
            have c6 := N8.out.1.1 6 _ rfl
            have c7 := N8.out.1.1 7 _ rfl
            have f0 := N8.out.1.2.1 0 (by show 0 < 8; omega)
            have f1 := N8.out.1.2.1 1 (by show 1 < 8; omega)
            have f2 := N8.out.1.2.1 2 (by show 2 < 8; omega)
            have f3 := N8.out.1.2.1 3 (by show 3 < 8; omega)
            have f4 := N8.out.1.2.1 4 (by show 4 < 8; omega)
            have f5 := N8.out.1.2.1 5 (by show 5 < 8; omega)
            have f6 := N8.out.1.2.1 6 (by show 6 < 8; omega)
            have f7 := N8.out.1.2.1 7 (by show 7 < 8; omega)
            have BW' : Hid (Below w2.heap.size w2 ((((((((wS7.setCell ⟨p8, 0, none⟩ (.int .i64 (H 0))).setCell ⟨p8, 1, none⟩ (.int .i64 (H 1))).setCell ⟨p8, 2, none⟩ (.int .i64 (H 2))).setCell ⟨p8, 3, none⟩ (.int .i64 (H 3))).setCell ⟨p8, 4, none⟩ (.int .i64 (H 4))).setCell ⟨p8, 5, none⟩ (.int .i64 (H 5))).setCell ⟨p8, 6, none⟩ (.int .i64 (H 6))).setCell ⟨p8, 7, none⟩ (.int .i64 (H 7)))) := below_put8 BW.out N8.out.2 H
            have N8' : Hid (Cs ((((((((wS7.setCell ⟨p8, 0, none⟩ (.int .i64 (H 0))).setCell ⟨p8, 1, none⟩ (.int .i64 (H 1))).setCell ⟨p8, 2, none⟩ (.int .i64 (H 2))).setCell ⟨p8, 3, none⟩ (.int .i64 (H 3))).setCell ⟨p8, 4, none⟩ (.int .i64 (H 4))).setCell ⟨p8, 5, none⟩ (.int .i64 (H 5))).setCell ⟨p8, 6, none⟩ (.int .i64 (H 6))).setCell ⟨p8, 7, none⟩ (.int .i64 (H 7))) p8 (spL H) ∧ w2.heap.size ≤ p8) := ⟨cs_put8 N8.out.1 H, N8.out.2⟩
            have N7' : Hid (Cs ((((((((wS7.setCell ⟨p8, 0, none⟩ (.int .i64 (H 0))).setCell ⟨p8, 1, none⟩ (.int .i64 (H 1))).setCell ⟨p8, 2, none⟩ (.int .i64 (H 2))).setCell ⟨p8, 3, none⟩ (.int .i64 (H 3))).setCell ⟨p8, 4, none⟩ (.int .i64 (H 4))).setCell ⟨p8, 5, none⟩ (.int .i64 (H 5))).setCell ⟨p8, 6, none⟩ (.int .i64 (H 6))).setCell ⟨p8, 7, none⟩ (.int .i64 (H 7))) p7 (spL F) ∧ w2.heap.size ≤ p7) := ⟨cs_beside8 N7.out.1 DD.out H, N7.out.2⟩
            clear N7 N8 BW
            have BW := BW'
            have N7 := N7'
            have N8 := N8'
            clear BW' N7' N8'
            go_wp2_with (fail)
            refine hK.out _ _ ?_ (fun hHeld => ?_)
            · exact ⟨Cs.later BW.out p1, (Tb.later BW.out T2).held, LK.out _ (Tb.later BW.out T2).map⟩
            clear hK K c0 f0 c1 f1 c2 f2 c3 f3 c4 f4 c5 f5 c6 f6 c7 f7
            generalize ((((((((wS7.setCell ⟨p8, 0, none⟩ (.int .i64 (H 0))).setCell ⟨p8, 1, none⟩ (.int .i64 (H 1))).setCell ⟨p8, 2, none⟩ (.int .i64 (H 2))).setCell ⟨p8, 3, none⟩ (.int .i64 (H 3))).setCell ⟨p8, 4, none⟩ (.int .i64 (H 4))).setCell ⟨p8, 5, none⟩ (.int .i64 (H 5))).setCell ⟨p8, 6, none⟩ (.int .i64 (H 6))).setCell ⟨p8, 7, none⟩ (.int .i64 (H 7))) = wS8 at *
            refine wpAnyH_done (by kernel_rfl) ?_ _
            refine NoPanic.normal ?_
            go_wp2_with (fail)
            go_meet
            case rel => exact ⟨p7, p8, rfl, rfl, N7.out.1, N8.out.1, BW.out⟩
          ·
            go_simp
            obtain ⟨p8, hp8⟩ : ∃ p8, p8 = wA10.heap.size := ⟨_, rfl⟩
            have BW' : Hid (Below w2.heap.size w2 (wA10.alloc (.cells #[.int .i64 0, .int .i64 0, .int .i64 0, .int .i64 0, .int .i64 0, .int .i64 0, .int .i64 0, .int .i64 0] 47))) := BW.out.alloc BW.out.size _
            have N7' : Hid (Cs (wA10.alloc (.cells #[.int .i64 0, .int .i64 0, .int .i64 0, .int .i64 0, .int .i64 0, .int .i64 0, .int .i64 0, .int .i64 0] 47)) p7 (spL nought) ∧ w2.heap.size ≤ p7) := ⟨N7.out.1.alloc _, N7.out.2⟩
            have N8' : Hid (Cs (wA10.alloc (.cells #[.int .i64 0, .int .i64 0, .int .i64 0, .int .i64 0, .int .i64 0, .int .i64 0, .int .i64 0, .int .i64 0] 47)) p8 (spL nought) ∧ w2.heap.size ≤ p8) := by rw [hp8]; exact ⟨Cs.new _ _ _ _ rfl, BW.out.size⟩
            have DD' : Hid (p7 ≠ p8) := by rw [hp8]; exact fun e => by have := N7.out.1.2.2; omega
            clear BW N7
            have BW := BW'
            clear BW'
            have N7 := N7'
            clear N7'
            have N8 := N8'
            clear N8'
            have DD := DD'
            clear DD'
            refine hK.out _ _ ?_ (fun hHeld => ?_)
            · exact ⟨Cs.later BW.out p1, (Tb.later BW.out T2).held, LK.out _ (Tb.later BW.out T2).map⟩
            clear hK K
            rw [← hp8]
            clear hp8
            generalize wA10.alloc (.cells #[.int .i64 0, .int .i64 0, .int .i64 0, .int .i64 0, .int .i64 0, .int .i64 0, .int .i64 0, .int .i64 0] 47) = wA15 at *
            refine wpAnyH_ready (rs := [3]) (by kernel_rfl) (by simp) ?_
            refine AllReadyH.cons rfl (fun K hK => ?_) AllReadyH.nil
            go_simp
            refine (C3.out _ (Tb.later BW.out T2)).mono ?_
            rintro e v16 ⟨rfl, hv16⟩
            have BW' : Hid (Below w2.heap.size w2 v16) := BW.out.trans (hv16.mono BW.out.size)
            have N7' : Hid (Cs v16 p7 (spL nought) ∧ w2.heap.size ≤ p7) := ⟨Cs.later hv16 N7.out.1, N7.out.2⟩
            have N8' : Hid (Cs v16 p8 (spL nought) ∧ w2.heap.size ≤ p8) := ⟨Cs.later hv16 N8.out.1, N8.out.2⟩
            have DD' : Hid (p7 ≠ p8) := DD.out
            clear hv16 BW N7 N8 DD
            have BW := BW'
            clear BW'
            have N7 := N7'
            clear N7'
            have N8 := N8'
            clear N8'
            have DD := DD'
            clear DD'
            (try go_wp2_with (fail))
            refine hK.out _ _ ?_ (fun hHeld => ?_)
            · exact ⟨Cs.later BW.out p1, (Tb.later BW.out T2).held, LK.out _ (Tb.later BW.out T2).map⟩
            clear hK K
            refine wpAnyH_ready (rs := [12]) (by kernel_rfl) (by simp) ?_
            refine AllReadyH.cons rfl (fun K hK => ?_) AllReadyH.nil
            have c0 := N7.out.1.1 0 _ rfl
            have c1 := N7.out.1.1 1 _ rfl
            have c2 := N7.out.1.1 2 _ rfl
            have c3 := N7.out.1.1 3 _ rfl
            have c4 := N7.out.1.1 4 _ rfl
            have c5 := N7.out.1.1 5 _ rfl
            have c6 := N7.out.1.1 6 _ rfl
            have c7 := N7.out.1.1 7 _ rfl
            have f0 := N7.out.1.2.1 0 (by show 0 < 8; omega)
            have f1 := N7.out.1.2.1 1 (by show 1 < 8; omega)
            have f2 := N7.out.1.2.1 2 (by show 2 < 8; omega)
            have f3 := N7.out.1.2.1 3 (by show 3 < 8; omega)
            have f4 := N7.out.1.2.1 4 (by show 4 < 8; omega)
            have f5 := N7.out.1.2.1 5 (by show 5 < 8; omega)
            have f6 := N7.out.1.2.1 6 (by show 6 < 8; omega)
            have f7 := N7.out.1.2.1 7 (by show 7 < 8; omega)
            have BW' : Hid (Below w2.heap.size w2 ((((((((v16.setCell ⟨p7, 0, none⟩ (.int .i64 (F 0))).setCell ⟨p7, 1, none⟩ (.int .i64 (F 1))).setCell ⟨p7, 2, none⟩ (.int .i64 (F 2))).setCell ⟨p7, 3, none⟩ (.int .i64 (F 3))).setCell ⟨p7, 4, none⟩ (.int .i64 (F 4))).setCell ⟨p7, 5, none⟩ (.int .i64 (F 5))).setCell ⟨p7, 6, none⟩ (.int .i64 (F 6))).setCell ⟨p7, 7, none⟩ (.int .i64 (F 7)))) := below_put8 BW.out N7.out.2 F
            have N7' : Hid (Cs ((((((((v16.setCell ⟨p7, 0, none⟩ (.int .i64 (F 0))).setCell ⟨p7, 1, none⟩ (.int .i64 (F 1))).setCell ⟨p7, 2, none⟩ (.int .i64 (F 2))).setCell ⟨p7, 3, none⟩ (.int .i64 (F 3))).setCell ⟨p7, 4, none⟩ (.int .i64 (F 4))).setCell ⟨p7, 5, none⟩ (.int .i64 (F 5))).setCell ⟨p7, 6, none⟩ (.int .i64 (F 6))).setCell ⟨p7, 7, none⟩ (.int .i64 (F 7))) p7 (spL F) ∧ w2.heap.size ≤ p7) := ⟨cs_put8 N7.out.1 F, N7.out.2⟩
            have N8' : Hid (Cs ((((((((v16.setCell ⟨p7, 0, none⟩ (.int .i64 (F 0))).setCell ⟨p7, 1, none⟩ (.int .i64 (F 1))).setCell ⟨p7, 2, none⟩ (.int .i64 (F 2))).setCell ⟨p7, 3, none⟩ (.int .i64 (F 3))).setCell ⟨p7, 4, none⟩ (.int .i64 (F 4))).setCell ⟨p7, 5, none⟩ (.int .i64 (F 5))).setCell ⟨p7, 6, none⟩ (.int .i64 (F 6))).setCell ⟨p7, 7, none⟩ (.int .i64 (F 7))) p8 (spL nought) ∧ w2.heap.size ≤ p8) := ⟨cs_beside8 N8.out.1 DD.out.symm F, N8.out.2⟩
            clear N7 N8 BW
            have BW := BW'
            have N7 := N7'
            have N8 := N8'
            clear BW' N7' N8'
            go_wp2_with (fail)
            refine hK.out _ _ ?_ (fun hHeld => ?_)
            · exact ⟨Cs.later BW.out p1, (Tb.later BW.out T2).held, LK.out _ (Tb.later BW.out T2).map⟩
            clear hK K c0 f0 c1 f1 c2 f2 c3 f3 c4 f4 c5 f5 c6 f6 c7 f7
            generalize ((((((((v16.setCell ⟨p7, 0, none⟩ (.int .i64 (F 0))).setCell ⟨p7, 1, none⟩ (.int .i64 (F 1))).setCell ⟨p7, 2, none⟩ (.int .i64 (F 2))).setCell ⟨p7, 3, none⟩ (.int .i64 (F 3))).setCell ⟨p7, 4, none⟩ (.int .i64 (F 4))).setCell ⟨p7, 5, none⟩ (.int .i64 (F 5))).setCell ⟨p7, 6, none⟩ (.int .i64 (F 6))).setCell ⟨p7, 7, none⟩ (.int .i64 (F 7))) = wS7 at *
            refine wpAnyH_ready (rs := [13]) (by kernel_rfl) (by simp) ?_
            refine AllReadyH.cons rfl (fun K hK => ?_) AllReadyH.nil
            have c0 := N8.out.1.1 0 _ rfl
            have c1 := N8.out.1.1 1 _ rfl
            have c2 := N8.out.1.1 2 _ rfl
            have c3 := N8.out.1.1 3 _ rfl
            have c4 := N8.out.1.1 4 _ rfl
            have c5 := N8.out.1.1 5 _ rfl
            have c6 := N8.out.1.1 6 _ rfl
            have c7 := N8.out.1.1 7 _ rfl
            have f0 := N8.out.1.2.1 0 (by show 0 < 8; omega)
            have f1 := N8.out.1.2.1 1 (by show 1 < 8; omega)
            have f2 := N8.out.1.2.1 2 (by show 2 < 8; omega)
            have f3 := N8.out.1.2.1 3 (by show 3 < 8; omega)
            have f4 := N8.out.1.2.1 4 (by show 4 < 8; omega)
            have f5 := N8.out.1.2.1 5 (by show 5 < 8; omega)
            have f6 := N8.out.1.2.1 6 (by show 6 < 8; omega)
            have f7 := N8.out.1.2.1 7 (by show 7 < 8; omega)
            have BW' : Hid (Below w2.heap.size w2 ((((((((wS7.setCell ⟨p8, 0, none⟩ (.int .i64 (H 0))).setCell ⟨p8, 1, none⟩ (.int .i64 (H 1))).setCell ⟨p8, 2, none⟩ (.int .i64 (H 2))).setCell ⟨p8, 3, none⟩ (.int .i64 (H 3))).setCell ⟨p8, 4, none⟩ (.int .i64 (H 4))).setCell ⟨p8, 5, none⟩ (.int .i64 (H 5))).setCell ⟨p8, 6, none⟩ (.int .i64 (H 6))).setCell ⟨p8, 7, none⟩ (.int .i64 (H 7)))) := below_put8 BW.out N8.out.2 H
            have N8' : Hid (Cs ((((((((wS7.setCell ⟨p8, 0, none⟩ (.int .i64 (H 0))).setCell ⟨p8, 1, none⟩ (.int .i64 (H 1))).setCell ⟨p8, 2, none⟩ (.int .i64 (H 2))).setCell ⟨p8, 3, none⟩ (.int .i64 (H 3))).setCell ⟨p8, 4, none⟩ (.int .i64 (H 4))).setCell ⟨p8, 5, none⟩ (.int .i64 (H 5))).setCell ⟨p8, 6, none⟩ (.int .i64 (H 6))).setCell ⟨p8, 7, none⟩ (.int .i64 (H 7))) p8 (spL H) ∧ w2.heap.size ≤ p8) := ⟨cs_put8 N8.out.1 H, N8.out.2⟩
            have N7' : Hid (Cs ((((((((wS7.setCell ⟨p8, 0, none⟩ (.int .i64 (H 0))).setCell ⟨p8, 1, none⟩ (.int .i64 (H 1))).setCell ⟨p8, 2, none⟩ (.int .i64 (H 2))).setCell ⟨p8, 3, none⟩ (.int .i64 (H 3))).setCell ⟨p8, 4, none⟩ (.int .i64 (H 4))).setCell ⟨p8, 5, none⟩ (.int .i64 (H 5))).setCell ⟨p8, 6, none⟩ (.int .i64 (H 6))).setCell ⟨p8, 7, none⟩ (.int .i64 (H 7))) p7 (spL F) ∧ w2.heap.size ≤ p7) := ⟨cs_beside8 N7.out.1 DD.out H, N7.out.2⟩
            clear N7 N8 BW
            have BW := BW'
            have N7 := N7'
            have N8 := N8'
            clear BW' N7' N8'
            go_wp2_with (fail)
            refine hK.out _ _ ?_ (fun hHeld => ?_)
            · exact ⟨Cs.later BW.out p1, (Tb.later BW.out T2).held, LK.out _ (Tb.later BW.out T2).map⟩
            clear hK K c0 f0 c1 f1 c2 f2 c3 f3 c4 f4 c5 f5 c6 f6 c7 f7
            generalize ((((((((wS7.setCell ⟨p8, 0, none⟩ (.int .i64 (H 0))).setCell ⟨p8, 1, none⟩ (.int .i64 (H 1))).setCell ⟨p8, 2, none⟩ (.int .i64 (H 2))).setCell ⟨p8, 3, none⟩ (.int .i64 (H 3))).setCell ⟨p8, 4, none⟩ (.int .i64 (H 4))).setCell ⟨p8, 5, none⟩ (.int .i64 (H 5))).setCell ⟨p8, 6, none⟩ (.int .i64 (H 6))).setCell ⟨p8, 7, none⟩ (.int .i64 (H 7))) = wS8 at *
            refine wpAnyH_done (by kernel_rfl) ?_ _
            refine NoPanic.normal ?_
            go_wp2_with (fail)
            go_meet
            case rel => exact ⟨p7, p8, rfl, rfl, N7.out.1, N8.out.1, BW.out⟩
        ·
          go_simp
          obtain ⟨p8, hp8⟩ : ∃ p8, p8 = wd0.heap.size := ⟨_, rfl⟩
          have BW' : Hid (Below w2.heap.size w2 (wd0.alloc (.cells #[.int .i64 0, .int .i64 0, .int .i64 0, .int .i64 0, .int .i64 0, .int .i64 0, .int .i64 0, .int .i64 0] 47))) := BW.out.alloc BW.out.size _
          have N8' : Hid (Cs (wd0.alloc (.cells #[.int .i64 0, .int .i64 0, .int .i64 0, .int .i64 0, .int .i64 0, .int .i64 0, .int .i64 0, .int .i64 0] 47)) p8 (spL nought) ∧ w2.heap.size ≤ p8) := by rw [hp8]; exact ⟨Cs.new _ _ _ _ rfl, BW.out.size⟩
          clear BW
          have BW := BW'
          clear BW'
          have N8 := N8'
          clear N8'
          refine hK.out _ _ ?_ (fun hHeld => ?_)
          · exact ⟨Cs.later BW.out p1, (Tb.later BW.out T2).held, LK.out _ (Tb.later BW.out T2).map⟩
          clear hK K
          rw [← hp8]
          clear hp8
          generalize wd0.alloc (.cells #[.int .i64 0, .int .i64 0, .int .i64 0, .int .i64 0, .int .i64 0, .int .i64 0, .int .i64 0, .int .i64 0] 47) = wA19 at *
          refine wpAnyH_ready (rs := [3, 10]) (by kernel_rfl) (by simp) ?_
          refine AllReadyH.cons rfl (fun K hK => ?_) (AllReadyH.cons rfl (fun K hK => ?_) AllReadyH.nil)
          ·
            go_simp
            refine (C3.out _ (Tb.later BW.out T2)).mono ?_
            rintro e v20 ⟨rfl, hv20⟩
            have BW' : Hid (Below w2.heap.size w2 v20) := BW.out.trans (hv20.mono BW.out.size)
            have N8' : Hid (Cs v20 p8 (spL nought) ∧ w2.heap.size ≤ p8) := ⟨Cs.later hv20 N8.out.1, N8.out.2⟩
            clear hv20 BW N8
            have BW := BW'
            clear BW'
            have N8 := N8'
            clear N8'
            (try go_wp2_with (fail))
            refine hK.out _ _ ?_ (fun hHeld => ?_)
            · exact ⟨Cs.later BW.out p1, (Tb.later BW.out T2).held, LK.out _ (Tb.later BW.out T2).map⟩
            clear hK K
            refine wpAnyH_ready (rs := [10]) (by kernel_rfl) (by simp) ?_
            refine AllReadyH.cons rfl (fun K hK => ?_) AllReadyH.nil
            go_simp
            obtain ⟨p7, hp7⟩ : ∃ p7, p7 = v20.heap.size := ⟨_, rfl⟩
            have BW' : Hid (Below w2.heap.size w2 (v20.alloc (.cells #[.int .i64 0, .int .i64 0, .int .i64 0, .int .i64 0, .int .i64 0, .int .i64 0, .int .i64 0, .int .i64 0] 47))) := BW.out.alloc BW.out.size _
            have N8' : Hid (Cs (v20.alloc (.cells #[.int .i64 0, .int .i64 0, .int .i64 0, .int .i64 0, .int .i64 0, .int .i64 0, .int .i64 0, .int .i64 0] 47)) p8 (spL nought) ∧ w2.heap.size ≤ p8) := ⟨N8.out.1.alloc _, N8.out.2⟩
            have N7' : Hid (Cs (v20.alloc (.cells #[.int .i64 0, .int .i64 0, .int .i64 0, .int .i64 0, .int .i64 0, .int .i64 0, .int .i64 0, .int .i64 0] 47)) p7 (spL nought) ∧ w2.heap.size ≤ p7) := by rw [hp7]; exact ⟨Cs.new _ _ _ _ rfl, BW.out.size⟩
            have DD' : Hid (p7 ≠ p8) := by rw [hp7]; exact fun e => by have := N8.out.1.2.2; omega
            clear BW N8
            have BW := BW'
            clear BW'
            have N8 := N8'
            clear N8'
            have N7 := N7'
            clear N7'
            have DD := DD'
            clear DD'
            refine hK.out _ _ ?_ (fun hHeld => ?_)
            · exact ⟨Cs.later BW.out p1, (Tb.later BW.out T2).held, LK.out _ (Tb.later BW.out T2).map⟩
            clear hK K
            rw [← hp7]
            clear hp7
            generalize v20.alloc (.cells #[.int .i64 0, .int .i64 0, .int .i64 0, .int .i64 0, .int .i64 0, .int .i64 0, .int .i64 0, .int .i64 0] 47) = wA21 at *
            refine wpAnyH_ready (rs := [12]) (by kernel_rfl) (by simp) ?_
            refine AllReadyH.cons rfl (fun K hK => ?_) AllReadyH.nil
            have c0 := N7.out.1.1 0 _ rfl
            have c1 := N7.out.1.1 1 _ rfl
            have c2 := N7.out.1.1 2 _ rfl
            have c3 := N7.out.1.1 3 _ rfl
            have c4 := N7.out.1.1 4 _ rfl
            have c5 := N7.out.1.1 5 _ rfl
            have c6 := N7.out.1.1 6 _ rfl
            have c7 := N7.out.1.1 7 _ rfl
            have f0 := N7.out.1.2.1 0 (by show 0 < 8; omega)
            have f1 := N7.out.1.2.1 1 (by show 1 < 8; omega)
            have f2 := N7.out.1.2.1 2 (by show 2 < 8; omega)
            have f3 := N7.out.1.2.1 3 (by show 3 < 8; omega)
            have f4 := N7.out.1.2.1 4 (by show 4 < 8; omega)
            have f5 := N7.out.1.2.1 5 (by show 5 < 8; omega)
            have f6 := N7.out.1.2.1 6 (by show 6 < 8; omega)
            have f7 := N7.out.1.2.1 7 (by show 7 < 8; omega)
            have BW' : Hid (Below w2.heap.size w2 ((((((((wA21.setCell ⟨p7, 0, none⟩ (.int .i64 (F 0))).setCell ⟨p7, 1, none⟩ (.int .i64 (F 1))).setCell ⟨p7, 2, none⟩ (.int .i64 (F 2))).setCell ⟨p7, 3, none⟩ (.int .i64 (F 3))).setCell ⟨p7, 4, none⟩ (.int .i64 (F 4))).setCell ⟨p7, 5, none⟩ (.int .i64 (F 5))).setCell ⟨p7, 6, none⟩ (.int .i64 (F 6))).setCell ⟨p7, 7, none⟩ (.int .i64 (F 7)))) := below_put8 BW.out N7.out.2 F
            have N7' : Hid (Cs ((((((((wA21.setCell ⟨p7, 0, none⟩ (.int .i64 (F 0))).setCell ⟨p7, 1, none⟩ (.int .i64 (F 1))).setCell ⟨p7, 2, none⟩ (.int .i64 (F 2))).setCell ⟨p7, 3, none⟩ (.int .i64 (F 3))).setCell ⟨p7, 4, none⟩ (.int .i64 (F 4))).setCell ⟨p7, 5, none⟩ (.int .i64 (F 5))).setCell ⟨p7, 6, none⟩ (.int .i64 (F 6))).setCell ⟨p7, 7, none⟩ (.int .i64 (F 7))) p7 (spL F) ∧ w2.heap.size ≤ p7) := ⟨cs_put8 N7.out.1 F, N7.out.2⟩
            have N8' : Hid (Cs ((((((((wA21.setCell ⟨p7, 0, none⟩ (.int .i64 (F 0))).setCell ⟨p7, 1, none⟩ (.int .i64 (F 1))).setCell ⟨p7, 2, none⟩ (.int .i64 (F 2))).setCell ⟨p7, 3, none⟩ (.int .i64 (F 3))).setCell ⟨p7, 4, none⟩ (.int .i64 (F 4))).setCell ⟨p7, 5, none⟩ (.int .i64 (F 5))).setCell ⟨p7, 6, none⟩ (.int .i64 (F 6))).setCell ⟨p7, 7, none⟩ (.int .i64 (F 7))) p8 (spL nought) ∧ w2.heap.size ≤ p8) := ⟨cs_beside8 N8.out.1 DD.out.symm F, N8.out.2⟩
            clear N7 N8 BW
            have BW := BW'
            have N7 := N7'
            have N8 := N8'
            clear BW' N7' N8'
            go_wp2_with (fail)
            refine hK.out _ _ ?_ (fun hHeld => ?_)
            · exact ⟨Cs.later BW.out p1, (Tb.later BW.out T2).held, LK.out _ (Tb.later BW.out T2).map⟩
            clear hK K c0 f0 c1 f1 c2 f2 c3 f3 c4 f4 c5 f5 c6 f6 c7 f7
            generalize ((((((((wA21.setCell ⟨p7, 0, none⟩ (.int .i64 (F 0))).setCell ⟨p7, 1, none⟩ (.int .i64 (F 1))).setCell ⟨p7, 2, none⟩ (.int .i64 (F 2))).setCell ⟨p7, 3, none⟩ (.int .i64 (F 3))).setCell ⟨p7, 4, none⟩ (.int .i64 (F 4))).setCell ⟨p7, 5, none⟩ (.int .i64 (F 5))).setCell ⟨p7, 6, none⟩ (.int .i64 (F 6))).setCell ⟨p7, 7, none⟩ (.int .i64 (F 7))) = wS7 at *
            refine wpAnyH_ready (rs := [13]) (by kernel_rfl) (by simp) ?_
            refine AllReadyH.cons rfl (fun K hK => ?_) AllReadyH.nil
            have c0 := N8.out.1.1 0 _ rfl
            have c1 := N8.out.1.1 1 _ rfl
            have c2 := N8.out.1.1 2 _ rfl
            have c3 := N8.out.1.1 3 _ rfl
            have c4 := N8.out.1.1 4 _ rfl
            have c5 := N8.out.1.1 5 _ rfl
            have c6 := N8.out.1.1 6 _ rfl
            have c7 := N8.out.1.1 7 _ rfl
            have f0 := N8.out.1.2.1 0 (by show 0 < 8; omega)
            have f1 := N8.out.1.2.1 1 (by show 1 < 8; omega)
            have f2 := N8.out.1.2.1 2 (by show 2 < 8; omega)
            have f3 := N8.out.1.2.1 3 (by show 3 < 8; omega)
            have f4 := N8.out.1.2.1 4 (by show 4 < 8; omega)
            have f5 := N8.out.1.2.1 5 (by show 5 < 8; omega)
            have f6 := N8.out.1.2.1 6 (by show 6 < 8; omega)
            have f7 := N8.out.1.2.1 7 (by show 7 < 8; omega)
            have BW' : Hid (Below w2.heap.size w2 ((((((((wS7.setCell ⟨p8, 0, none⟩ (.int .i64 (H 0))).setCell ⟨p8, 1, none⟩ (.int .i64 (H 1))).setCell ⟨p8, 2, none⟩ (.int .i64 (H 2))).setCell ⟨p8, 3, none⟩ (.int .i64 (H 3))).setCell ⟨p8, 4, none⟩ (.int .i64 (H 4))).setCell ⟨p8, 5, none⟩ (.int .i64 (H 5))).setCell ⟨p8, 6, none⟩ (.int .i64 (H 6))).setCell ⟨p8, 7, none⟩ (.int .i64 (H 7)))) := below_put8 BW.out N8.out.2 H
            have N8' : Hid (Cs ((((((((wS7.setCell ⟨p8, 0, none⟩ (.int .i64 (H 0))).setCell ⟨p8, 1, none⟩ (.int .i64 (H 1))).setCell ⟨p8, 2, none⟩ (.int .i64 (H 2))).setCell ⟨p8, 3, none⟩ (.int .i64 (H 3))).setCell ⟨p8, 4, none⟩ (.int .i64 (H 4))).setCell ⟨p8, 5, none⟩ (.int .i64 (H 5))).setCell ⟨p8, 6, none⟩ (.int .i64 (H 6))).setCell ⟨p8, 7, none⟩ (.int .i64 (H 7))) p8 (spL H) ∧ w2.heap.size ≤ p8) := ⟨cs_put8 N8.out.1 H, N8.out.2⟩
            have N7' : Hid (Cs ((((((((wS7.setCell ⟨p8, 0, none⟩ (.int .i64 (H 0))).setCell ⟨p8, 1, none⟩ (.int .i64 (H 1))).setCell ⟨p8, 2, none⟩ (.int .i64 (H 2))).setCell ⟨p8, 3, none⟩ (.int .i64 (H 3))).setCell ⟨p8, 4, none⟩ (.int .i64 (H 4))).setCell ⟨p8, 5, none⟩ (.int .i64 (H 5))).setCell ⟨p8, 6, none⟩ (.int .i64 (H 6))).setCell ⟨p8, 7, none⟩ (.int .i64 (H 7))) p7 (spL F) ∧ w2.heap.size ≤ p7) := ⟨cs_beside8 N7.out.1 DD.out H, N7.out.2⟩
            clear N7 N8 BW
            have BW := BW'
            have N7 := N7'
            have N8 := N8'
            clear BW' N7' N8'
            go_wp2_with (fail)
            refine hK.out _ _ ?_ (fun hHeld => ?_)
            · exact ⟨Cs.later BW.out p1, (Tb.later BW.out T2).held, LK.out _ (Tb.later BW.out T2).map⟩
            clear hK K c0 f0 c1 f1 c2 f2 c3 f3 c4 f4 c5 f5 c6 f6 c7 f7
            generalize ((((((((wS7.setCell ⟨p8, 0, none⟩ (.int .i64 (H 0))).setCell ⟨p8, 1, none⟩ (.int .i64 (H 1))).setCell ⟨p8, 2, none⟩ (.int .i64 (H 2))).setCell ⟨p8, 3, none⟩ (.int .i64 (H 3))).setCell ⟨p8, 4, none⟩ (.int .i64 (H 4))).setCell ⟨p8, 5, none⟩ (.int .i64 (H 5))).setCell ⟨p8, 6, none⟩ (.int .i64 (H 6))).setCell ⟨p8, 7, none⟩ (.int .i64 (H 7))) = wS8 at *
            refine wpAnyH_done (by kernel_rfl) ?_ _
            refine NoPanic.normal ?_
            go_wp2_with (fail)
            go_meet
            case rel => exact ⟨p7, p8, rfl, rfl, N7.out.1, N8.out.1, BW.out⟩
          ·
            go_simp
            obtain ⟨p7, hp7⟩ : ∃ p7, p7 = wA19.heap.size := ⟨_, rfl⟩
            have BW' : Hid (Below w2.heap.size w2 (wA19.alloc (.cells #[.int .i64 0, .int .i64 0, .int .i64 0, .int .i64 0, .int .i64 0, .int .i64 0, .int .i64 0, .int .i64 0] 47))) := BW.out.alloc BW.out.size _
            have N8' : Hid (Cs (wA19.alloc (.cells #[.int .i64 0, .int .i64 0, .int .i64 0, .int .i64 0, .int .i64 0, .int .i64 0, .int .i64 0, .int .i64 0] 47)) p8 (spL nought) ∧ w2.heap.size ≤ p8) := ⟨N8.out.1.alloc _, N8.out.2⟩
            have N7' : Hid (Cs (wA19.alloc (.cells #[.int .i64 0, .int .i64 0, .int .i64 0, .int .i64 0, .int .i64 0, .int .i64 0, .int .i64 0, .int .i64 0] 47)) p7 (spL nought) ∧ w2.heap.size ≤ p7) := by rw [hp7]; exact ⟨Cs.new _ _ _ _ rfl, BW.out.size⟩
            have DD' : Hid (p7 ≠ p8) := by rw [hp7]; exact fun e => by have := N8.out.1.2.2; omega
            clear BW N8
            have BW := BW'
            clear BW'
            have N8 := N8'
            clear N8'
            have N7 := N7'
            clear N7'
            have DD := DD'
            clear DD'
            refine hK.out _ _ ?_ (fun hHeld => ?_)
            · exact ⟨Cs.later BW.out p1, (Tb.later BW.out T2).held, LK.out _ (Tb.later BW.out T2).map⟩
            clear hK K
            rw [← hp7]
            clear hp7
            generalize wA19.alloc (.cells #[.int .i64 0, .int .i64 0, .int .i64 0, .int .i64 0, .int .i64 0, .int .i64 0, .int .i64 0, .int .i64 0] 47) = wA24 at *
            refine wpAnyH_ready (rs := [3]) (by kernel_rfl) (by simp) ?_
            refine AllReadyH.cons rfl (fun K hK => ?_) AllReadyH.nil
            go_simp
            refine (C3.out _ (Tb.later BW.out T2)).mono ?_
            rintro e v25 ⟨rfl, hv25⟩
            have BW' : Hid (Below w2.heap.size w2 v25) := BW.out.trans (hv25.mono BW.out.size)
            have N8' : Hid (Cs v25 p8 (spL nought) ∧ w2.heap.size ≤ p8) := ⟨Cs.later hv25 N8.out.1, N8.out.2⟩
            have N7' : Hid (Cs v25 p7 (spL nought) ∧ w2.heap.size ≤ p7) := ⟨Cs.later hv25 N7.out.1, N7.out.2⟩
            have DD' : Hid (p7 ≠ p8) := DD.out
            clear hv25 BW N8 N7 DD
            have BW := BW'
            clear BW'
            have N8 := N8'
            clear N8'
            have N7 := N7'
            clear N7'
            have DD := DD'
            clear DD'
            (try go_wp2_with (fail))
            refine hK.out _ _ ?_ (fun hHeld => ?_)
            · exact ⟨Cs.later BW.out p1, (Tb.later BW.out T2).held, LK.out _ (Tb.later BW.out T2).map⟩
            clear hK K
            refine wpAnyH_ready (rs := [12]) (by kernel_rfl) (by simp) ?_
            refine AllReadyH.cons rfl (fun K hK => ?_) AllReadyH.nil
            have c0 := N7.out.1.1 0 _ rfl
            have c1 := N7.out.1.1 1 _ rfl
            have c2 := N7.out.1.1 2 _ rfl
            have c3 := N7.out.1.1 3 _ rfl
            have c4 := N7.out.1.1 4 _ rfl
            have c5 := N7.out.1.1 5 _ rfl
            have c6 := N7.out.1.1 6 _ rfl
            have c7 := N7.out.1.1 7 _ rfl
            have f0 := N7.out.1.2.1 0 (by show 0 < 8; omega)
            have f1 := N7.out.1.2.1 1 (by show 1 < 8; omega)
            have f2 := N7.out.1.2.1 2 (by show 2 < 8; omega)
            have f3 := N7.out.1.2.1 3 (by show 3 < 8; omega)
            have f4 := N7.out.1.2.1 4 (by show 4 < 8; omega)
            have f5 := N7.out.1.2.1 5 (by show 5 < 8; omega)
            have f6 := N7.out.1.2.1 6 (by show 6 < 8; omega)
            have f7 := N7.out.1.2.1 7 (by show 7 < 8; omega)
            have BW' : Hid (Below w2.heap.size w2 ((((((((v25.setCell ⟨p7, 0, none⟩ (.int .i64 (F 0))).setCell ⟨p7, 1, none⟩ (.int .i64 (F 1))).setCell ⟨p7, 2, none⟩ (.int .i64 (F 2))).setCell ⟨p7, 3, none⟩ (.int .i64 (F 3))).setCell ⟨p7, 4, none⟩ (.int .i64 (F 4))).setCell ⟨p7, 5, none⟩ (.int .i64 (F 5))).setCell ⟨p7, 6, none⟩ (.int .i64 (F 6))).setCell ⟨p7, 7, none⟩ (.int .i64 (F 7)))) := below_put8 BW.out N7.out.2 F
            have N7' : Hid (Cs ((((((((v25.setCell ⟨p7, 0, none⟩ (.int .i64 (F 0))).setCell ⟨p7, 1, none⟩ (.int .i64 (F 1))).setCell ⟨p7, 2, none⟩ (.int .i64 (F 2))).setCell ⟨p7, 3, none⟩ (.int .i64 (F 3))).setCell ⟨p7, 4, none⟩ (.int .i64 (F 4))).setCell ⟨p7, 5, none⟩ (.int .i64 (F 5))).setCell ⟨p7, 6, none⟩ (.int .i64 (F 6))).setCell ⟨p7, 7, none⟩ (.int .i64 (F 7))) p7 (spL F) ∧ w2.heap.size ≤ p7) := ⟨cs_put8 N7.out.1 F, N7.out.2⟩
            have N8' : Hid (Cs ((((((((v25.setCell ⟨p7, 0, none⟩ (.int .i64 (F 0))).setCell ⟨p7, 1, none⟩ (.int .i64 (F 1))).setCell ⟨p7, 2, none⟩ (.int .i64 (F 2))).setCell ⟨p7, 3, none⟩ (.int .i64 (F 3))).setCell ⟨p7, 4, none⟩ (.int .i64 (F 4))).setCell ⟨p7, 5, none⟩ (.int .i64 (F 5))).setCell ⟨p7, 6, none⟩ (.int .i64 (F 6))).setCell ⟨p7, 7, none⟩ (.int .i64 (F 7))) p8 (spL nought) ∧ w2.heap.size ≤ p8) := ⟨cs_beside8 N8.out.1 DD.out.symm F, N8.out.2⟩
            clear N7 N8 BW
            have BW := BW'
            have N7 := N7'
            have N8 := N8'
            clear BW' N7' N8'
            go_wp2_with (fail)
            refine hK.out _ _ ?_ (fun hHeld => ?_)
            · exact ⟨Cs.later BW.out p1, (Tb.later BW.out T2).held, LK.out _ (Tb.later BW.out T2).map⟩
            clear hK K c0 f0 c1 f1 c2 f2 c3 f3 c4 f4 c5 f5 c6 f6 c7 f7
            generalize ((((((((v25.setCell ⟨p7, 0, none⟩ (.int .i64 (F 0))).setCell ⟨p7, 1, none⟩ (.int .i64 (F 1))).setCell ⟨p7, 2, none⟩ (.int .i64 (F 2))).setCell ⟨p7, 3, none⟩ (.int .i64 (F 3))).setCell ⟨p7, 4, none⟩ (.int .i64 (F 4))).setCell ⟨p7, 5, none⟩ (.int .i64 (F 5))).setCell ⟨p7, 6, none⟩ (.int .i64 (F 6))).setCell ⟨p7, 7, none⟩ (.int .i64 (F 7))) = wS7 at *
            refine wpAnyH_ready (rs := [13]) (by kernel_rfl) (by simp) ?_
            refine AllReadyH.cons rfl (fun K hK => ?_) AllReadyH.nil
            have c0 := N8.out.1.1 0 _ rfl
            have c1 := N8.out.1.1 1 _ rfl
            have c2 := N8.out.1.1 2 _ rfl
            have c3 := N8.out.1.1 3 _ rfl
            have c4 := N8.out.1.1 4 _ rfl
            have c5 := N8.out.1.1 5 _ rfl
            have c6 := N8.out.1.1 6 _ rfl
            have c7 := N8.out.1.1 7 _ rfl
            have f0 := N8.out.1.2.1 0 (by show 0 < 8; omega)
            have f1 := N8.out.1.2.1 1 (by show 1 < 8; omega)
            have f2 := N8.out.1.2.1 2 (by show 2 < 8; omega)
            have f3 := N8.out.1.2.1 3 (by show 3 < 8; omega)
            have f4 := N8.out.1.2.1 4 (by show 4 < 8; omega)
            have f5 := N8.out.1.2.1 5 (by show 5 < 8; omega)
            have f6 := N8.out.1.2.1 6 (by show 6 < 8; omega)
            have f7 := N8.out.1.2.1 7 (by show 7 < 8; omega)
            have BW' : Hid (Below w2.heap.size w2 ((((((((wS7.setCell ⟨p8, 0, none⟩ (.int .i64 (H 0))).setCell ⟨p8, 1, none⟩ (.int .i64 (H 1))).setCell ⟨p8, 2, none⟩ (.int .i64 (H 2))).setCell ⟨p8, 3, none⟩ (.int .i64 (H 3))).setCell ⟨p8, 4, none⟩ (.int .i64 (H 4))).setCell ⟨p8, 5, none⟩ (.int .i64 (H 5))).setCell ⟨p8, 6, none⟩ (.int .i64 (H 6))).setCell ⟨p8, 7, none⟩ (.int .i64 (H 7)))) := below_put8 BW.out N8.out.2 H
            have N8' : Hid (Cs ((((((((wS7.setCell ⟨p8, 0, none⟩ (.int .i64 (H 0))).setCell ⟨p8, 1, none⟩ (.int .i64 (H 1))).setCell ⟨p8, 2, none⟩ (.int .i64 (H 2))).setCell ⟨p8, 3, none⟩ (.int .i64 (H 3))).setCell ⟨p8, 4, none⟩ (.int .i64 (H 4))).setCell ⟨p8, 5, none⟩ (.int .i64 (H 5))).setCell ⟨p8, 6, none⟩ (.int .i64 (H 6))).setCell ⟨p8, 7, none⟩ (.int .i64 (H 7))) p8 (spL H) ∧ w2.heap.size ≤ p8) := ⟨cs_put8 N8.out.1 H, N8.out.2⟩
            have N7' : Hid (Cs ((((((((wS7.setCell ⟨p8, 0, none⟩ (.int .i64 (H 0))).setCell ⟨p8, 1, none⟩ (.int .i64 (H 1))).setCell ⟨p8, 2, none⟩ (.int .i64 (H 2))).setCell ⟨p8, 3, none⟩ (.int .i64 (H 3))).setCell ⟨p8, 4, none⟩ (.int .i64 (H 4))).setCell ⟨p8, 5, none⟩ (.int .i64 (H 5))).setCell ⟨p8, 6, none⟩ (.int .i64 (H 6))).setCell ⟨p8, 7, none⟩ (.int .i64 (H 7))) p7 (spL F) ∧ w2.heap.size ≤ p7) := ⟨cs_beside8 N7.out.1 DD.out H, N7.out.2⟩
            clear N7 N8 BW
            have BW := BW'
            have N7 := N7'
            have N8 := N8'
            clear BW' N7' N8'
            go_wp2_with (fail)
            refine hK.out _ _ ?_ (fun hHeld => ?_)
            · exact ⟨Cs.later BW.out p1, (Tb.later BW.out T2).held, LK.out _ (Tb.later BW.out T2).map⟩
            clear hK K c0 f0 c1 f1 c2 f2 c3 f3 c4 f4 c5 f5 c6 f6 c7 f7
            generalize ((((((((wS7.setCell ⟨p8, 0, none⟩ (.int .i64 (H 0))).setCell ⟨p8, 1, none⟩ (.int .i64 (H 1))).setCell ⟨p8, 2, none⟩ (.int .i64 (H 2))).setCell ⟨p8, 3, none⟩ (.int .i64 (H 3))).setCell ⟨p8, 4, none⟩ (.int .i64 (H 4))).setCell ⟨p8, 5, none⟩ (.int .i64 (H 5))).setCell ⟨p8, 6, none⟩ (.int .i64 (H 6))).setCell ⟨p8, 7, none⟩ (.int .i64 (H 7))) = wS8 at *
            refine wpAnyH_done (by kernel_rfl) ?_ _
            refine NoPanic.normal ?_
            go_wp2_with (fail)
            go_meet
            case rel => exact ⟨p7, p8, rfl, rfl, N7.out.1, N8.out.1, BW.out⟩
      case rest =>
        obtain ⟨p7, p8, rfl, rfl, q7, q8, BW⟩ := hcut
        have T3 : Hid (Tb wc b m zs ls) := Tb.later BW T2
        have Q1 : Hid (Cs wc w.heap.size [.string p, .string c, .int .i64 k]) := Cs.later BW p1
        have Q2 : Hid (Cs wc ps (spL s)) := Cs.later BW p2
        have HB3 : Hid (Below w.heap.size w wc) := HB2.trans (BW.mono HB2.size)
        obtain ⟨G, hG⟩ : ∃ G, G = all8f (fun i => decide (s i ≤ F i + H i)) 0 := ⟨_, rfl⟩
        have HF : Hid (all8f (fun i => decide (s i ≤ F i + H i)) 0 = G) := hG.symm
        have HE2 : Hid (E = if G = true then 0 else 20) := by rw [hG]; exact HE'.out
        clear BW T2 p1 p2 HB2 C3 LK hG HE' HT
        have sb0 := Q2.out.1 0 _ rfl
        have sb1 := Q2.out.1 1 _ rfl
        have sb2 := Q2.out.1 2 _ rfl
        have sb3 := Q2.out.1 3 _ rfl
        have sb4 := Q2.out.1 4 _ rfl
        have sb5 := Q2.out.1 5 _ rfl
        have sb6 := Q2.out.1 6 _ rfl
        have sb7 := Q2.out.1 7 _ rfl
        go_wp2
        go_loopw [33] (fun f wr => ∃ j : Nat, f = .int .i64 j ∧ j ≤ 8 ∧ Hid (all8f (fun i => decide (s i ≤ F i + H i)) j = G) ∧ Below wc.heap.size wc wr) (fun f _ => 8 - (intOf f).toNat)
        case atStart => exact ⟨0, rfl, by omega, HF, Below.refl _ _⟩
        case round =>
          clear HF sb0 sb1 sb2 sb3 sb4 sb5 sb6 sb7
          obtain ⟨j, rfl, jl, HO, BW⟩ := hrel
          by_cases cj : j < 8
          · have E1 := HO.out
            rw [all8f_at _ cj] at E1
            have j0 : (0 : Int) ≤ (j : Int) := by omega
            have j1 : (j : Int) < 8 := by omega
            have x1 := ix8 s cj
            have c7 := (Cs.later BW q7).1 _ _ (spL_at F cj)
            have c8 := (Cs.later BW q8).1 _ _ (spL_at H cj)
            obtain ⟨⟨b1, b2⟩, b3, b4⟩ := BD.out j cj
            have BWn : ∀ n, Below wc.heap.size wc (wr.drewN n) := fun n => below_drewN BW n
            clear BD HO BW
            by_cases g : s j ≤ F j + H j
            · have X : Hid (all8f (fun i => decide (s i ≤ F i + H i)) (j + 1) = G) := by rw [decide_eq_true g, Bool.true_and] at E1; exact E1
              have g1 : decide (F j + H j < s j) = false := decide_eq_false (by omega)
              have g2 : ¬ F j + H j < s j := by omega
              clear E1
              go_wp2_with (fail)
              go_quiet (fail)
              have BX := BWn nq
              clear BWn
              go_wp2
              go_roundw
              case rel => exact ⟨j + 1, by go_num, by omega, X, BX⟩
              case measure => simp [intOf]; omega
            · obtain rfl : G = false := by rw [decide_eq_false g, Bool.false_and] at E1; exact E1.symm
              obtain rfl : E = 20 := by rw [HE2.out]; rfl
              obtain rfl : ms = ls := by rw [HM.out]; rfl
              have g2 : F j + H j < s j := by omega
              clear E1 HE2 HM HZ ZE
              go_wp2_with (fail)
              go_quiet (fail)
              have BX := BWn nq
              clear BWn
              go_wp2
              go_ret
              exact ⟨rfl, Tb.later BX T3.out, (below_grown (HB3.out.trans (BX.mono HB3.out.size))).but _⟩
          · obtain rfl : j = 8 := by omega
            rw [show ((8 : Nat) : Int) = 8 from rfl]
            obtain rfl : G = true := HO.out.symm
            obtain rfl : E = 0 := by rw [HE2.out]; rfl
            have HM' : Hid (ms = putR ls p c k s) := by unfold Hid; rw [HM.out]; rfl
            have T4 : Hid (Tb wr b m zs ls) := Tb.later BW T3.out
            have Q4 : Hid (Cs wr w.heap.size [.string p, .string c, .int .i64 k]) := Cs.later BW Q1.out
            have Q5 : Hid (Cs wr ps (spL s)) := Cs.later BW Q2.out
            have HB4 : Hid (Below w.heap.size w wr) := HB3.out.trans (BW.mono HB3.out.size)
            have sm : ∀ w1 : World, Sem.run Try.prog (Op.equalIn 10000 47 (spV s) (.agg #[.int .i64 0, .int .i64 0, .int .i64 0, .int .i64 0, .int .i64 0, .int .i64 0, .int .i64 0, .int .i64 0])) w1 = .ok Z w1 := ZE.out
            clear HM HE2 HO BW T3 Q1 Q2 HB3 ZE BD
            have sb0 := Q5.out.1 0 _ rfl
            have sb1 := Q5.out.1 1 _ rfl
            have sb2 := Q5.out.1 2 _ rfl
            have sb3 := Q5.out.1 3 _ rfl
            have sb4 := Q5.out.1 4 _ rfl
            have sb5 := Q5.out.1 5 _ rfl
            have sb6 := Q5.out.1 6 _ rfl
            have sb7 := Q5.out.1 7 _ rfl
            cases Z with
            | true =>
              have HX : Hid (ms = wth p c k ls) := by unfold Hid; rw [HM'.out, HZ.out]; rfl
              clear HM' HZ
              go_upto_region 13 with (fail)
              have FF : Hid (Below wr.heap.size wr _) := Below.drew (Below.refl _ _)
              refine wp_region_noPanic ?_
              refine wp_region_held_drew (S := fun w' => Cs w' w.heap.size [.string p, .string c, .int .i64 k] ∧ w'.cell? ⟨b, 1, none⟩ = some (.map (some m)) ∧ Cs w' ps (spL s)) (by kernel_rfl) ?_ (fun hHeld => ?_)
              · exact ⟨Cs.later FF.out Q4.out, (Tb.later FF.out T4.out).held, Cs.later FF.out Q5.out⟩
              generalize World.drew _ = wd0 at *
              refine wpAnyH_take (i := 0) (v := ?_) rfl (by kernel_rfl) (by kernel_rfl) (by kernel_rfl) (fun _ _ _ h => h) (Or.inl ⟨by rfl, ?_⟩) (by assumption) ?_
              rotate_left
              · (intro wS hSw; have o0 := hSw.1.1 0 _ rfl; have o1 := hSw.1.1 1 _ rfl; have o2 := hSw.1.1 2 _ rfl; have cb := hSw.2.1; have s0 := hSw.2.2.1 0 _ rfl; have s1 := hSw.2.2.1 1 _ rfl; have s2 := hSw.2.2.1 2 _ rfl; have s3 := hSw.2.2.1 3 _ rfl; have s4 := hSw.2.2.1 4 _ rfl; have s5 := hSw.2.2.1 5 _ rfl; have s6 := hSw.2.2.1 6 _ rfl; have s7 := hSw.2.2.1 7 _ rfl; go_simp; try with_reducible rfl)
              change wpAnyH _ _ _ _ _ _ _ (Act.put _ (some 50) _) _
              simp only [Act.put, List.setIfInBounds_toArray, List.set_cons_zero, List.set_cons_succ]
              refine wpAnyH_take (i := 1) (v := ?_) rfl (by kernel_rfl) (by kernel_rfl) (by kernel_rfl) (fun _ _ _ h => h) (Or.inl ⟨by rfl, ?_⟩) (by assumption) ?_
              rotate_left
              · (intro wS hSw; have o0 := hSw.1.1 0 _ rfl; have o1 := hSw.1.1 1 _ rfl; have o2 := hSw.1.1 2 _ rfl; have cb := hSw.2.1; have s0 := hSw.2.2.1 0 _ rfl; have s1 := hSw.2.2.1 1 _ rfl; have s2 := hSw.2.2.1 2 _ rfl; have s3 := hSw.2.2.1 3 _ rfl; have s4 := hSw.2.2.1 4 _ rfl; have s5 := hSw.2.2.1 5 _ rfl; have s6 := hSw.2.2.1 6 _ rfl; have s7 := hSw.2.2.1 7 _ rfl; go_simp; try with_reducible rfl)
              change wpAnyH _ _ _ _ _ _ _ (Act.put _ (some 51) _) _
              simp only [Act.put, List.setIfInBounds_toArray, List.set_cons_zero, List.set_cons_succ]
              refine wpAnyH_take (i := 2) (v := ?_) rfl (by kernel_rfl) (by kernel_rfl) (by kernel_rfl) (fun _ _ _ h => h) (Or.inl ⟨by rfl, ?_⟩) (by assumption) ?_
              rotate_left
              · (intro wS hSw; have o0 := hSw.1.1 0 _ rfl; have o1 := hSw.1.1 1 _ rfl; have o2 := hSw.1.1 2 _ rfl; have cb := hSw.2.1; have s0 := hSw.2.2.1 0 _ rfl; have s1 := hSw.2.2.1 1 _ rfl; have s2 := hSw.2.2.1 2 _ rfl; have s3 := hSw.2.2.1 3 _ rfl; have s4 := hSw.2.2.1 4 _ rfl; have s5 := hSw.2.2.1 5 _ rfl; have s6 := hSw.2.2.1 6 _ rfl; have s7 := hSw.2.2.1 7 _ rfl; go_simp; try with_reducible rfl)
              change wpAnyH _ _ _ _ _ _ _ (Act.put _ (some 52) _) _
              simp only [Act.put, List.setIfInBounds_toArray, List.set_cons_zero, List.set_cons_succ]
              refine wpAnyH_take (i := 3) (v := ?_) rfl (by kernel_rfl) (by kernel_rfl) (by kernel_rfl) (fun _ _ _ h => h) (Or.inl ⟨by rfl, ?_⟩) (by assumption) ?_
              rotate_left
              · (intro wS hSw; have o0 := hSw.1.1 0 _ rfl; have o1 := hSw.1.1 1 _ rfl; have o2 := hSw.1.1 2 _ rfl; have cb := hSw.2.1; have s0 := hSw.2.2.1 0 _ rfl; have s1 := hSw.2.2.1 1 _ rfl; have s2 := hSw.2.2.1 2 _ rfl; have s3 := hSw.2.2.1 3 _ rfl; have s4 := hSw.2.2.1 4 _ rfl; have s5 := hSw.2.2.1 5 _ rfl; have s6 := hSw.2.2.1 6 _ rfl; have s7 := hSw.2.2.1 7 _ rfl; go_simp; try with_reducible rfl)
              change wpAnyH _ _ _ _ _ _ _ (Act.put _ (some 53) _) _
              simp only [Act.put, List.setIfInBounds_toArray, List.set_cons_zero, List.set_cons_succ]
              refine wpAnyH_take (i := 4) (v := ?_) rfl (by kernel_rfl) (by kernel_rfl) (by kernel_rfl) (fun _ _ _ h => h) (Or.inl ⟨by rfl, ?_⟩) (by assumption) ?_
              rotate_left
              · (intro wS hSw; have o0 := hSw.1.1 0 _ rfl; have o1 := hSw.1.1 1 _ rfl; have o2 := hSw.1.1 2 _ rfl; have cb := hSw.2.1; have s0 := hSw.2.2.1 0 _ rfl; have s1 := hSw.2.2.1 1 _ rfl; have s2 := hSw.2.2.1 2 _ rfl; have s3 := hSw.2.2.1 3 _ rfl; have s4 := hSw.2.2.1 4 _ rfl; have s5 := hSw.2.2.1 5 _ rfl; have s6 := hSw.2.2.1 6 _ rfl; have s7 := hSw.2.2.1 7 _ rfl; go_simp; try with_reducible rfl)
              change wpAnyH _ _ _ _ _ _ _ (Act.put _ (some 54) _) _
              simp only [Act.put, List.setIfInBounds_toArray, List.set_cons_zero, List.set_cons_succ]
              refine wpAnyH_ready (rs := [5]) (by kernel_rfl) (by simp) ?_
              refine AllReadyH.cons rfl (fun K hK => ?_) AllReadyH.nil
              obtain ⟨w9, hrun, M9, T9⟩ := (Tb.later FF.out T4.out).map.drop HG.out 0
              have A := Tb.later FF.out T4.out
              have TT : Hid (Tb w9 b m zs (wth p c k ls)) := A.turned T9.grown M9
              have GG : Hid (w.grownBy w9 (some m)) := grown_trans ((below_grown (HB4.out.trans (FF.out.mono HB4.out.size))).but _) T9.grown
              have K1 := (Cs.later FF.out Q4.out).grown T9.grown (fun e => A.map.ne ((Cs.later FF.out Q4.out).1 0 _ rfl) (by cases e; rfl))
              have K2 := (Cs.later FF.out Q5.out).grown T9.grown (fun e => A.map.ne ((Cs.later FF.out Q5.out).1 0 _ rfl) (by cases e; rfl))
              clear A M9 T9
              go_wp2_with (fail)
              refine hK.out _ _ ?_ (fun hHeld => ?_)
              · exact ⟨K1, TT.out.held, K2⟩
              clear hK K K1 K2 hrun
              refine wpAnyH_done (by kernel_rfl) ?_ _
              refine NoPanic.normal ?_
              go_wp2
              go_ret
              exact ⟨rfl, by rw [HX.out]; exact TT.out, GG.out⟩
            | false =>
              have HX : Hid (ms = insW ⟨p, c, k, s⟩ (wth p c k ls)) := by unfold Hid; rw [HM'.out, HZ.out]; rfl
              clear HM' HZ
              go_upto_region 15 with (fail)
              have FF : Hid (Below wr.heap.size wr _) := Below.drew (Below.refl _ _)
              refine wp_region_noPanic ?_
              refine wp_region_held_drew (S := fun w' => Cs w' w.heap.size [.string p, .string c, .int .i64 k] ∧ w'.cell? ⟨b, 1, none⟩ = some (.map (some m)) ∧ Cs w' ps (spL s)) (by kernel_rfl) ?_ (fun hHeld => ?_)
              · exact ⟨Cs.later FF.out Q4.out, (Tb.later FF.out T4.out).held, Cs.later FF.out Q5.out⟩
              generalize World.drew _ = wd0 at *
              refine wpAnyH_take (i := 0) (v := ?_) rfl (by kernel_rfl) (by kernel_rfl) (by kernel_rfl) (fun _ _ _ h => h) (Or.inl ⟨by rfl, ?_⟩) (by assumption) ?_
              rotate_left
              · (intro wS hSw; have o0 := hSw.1.1 0 _ rfl; have o1 := hSw.1.1 1 _ rfl; have o2 := hSw.1.1 2 _ rfl; have cb := hSw.2.1; have s0 := hSw.2.2.1 0 _ rfl; have s1 := hSw.2.2.1 1 _ rfl; have s2 := hSw.2.2.1 2 _ rfl; have s3 := hSw.2.2.1 3 _ rfl; have s4 := hSw.2.2.1 4 _ rfl; have s5 := hSw.2.2.1 5 _ rfl; have s6 := hSw.2.2.1 6 _ rfl; have s7 := hSw.2.2.1 7 _ rfl; go_simp; try with_reducible rfl)
              change wpAnyH _ _ _ _ _ _ _ (Act.put _ (some 55) _) _
              simp only [Act.put, List.setIfInBounds_toArray, List.set_cons_zero, List.set_cons_succ]
              refine wpAnyH_take (i := 1) (v := ?_) rfl (by kernel_rfl) (by kernel_rfl) (by kernel_rfl) (fun _ _ _ h => h) (Or.inl ⟨by rfl, ?_⟩) (by assumption) ?_
              rotate_left
              · (intro wS hSw; have o0 := hSw.1.1 0 _ rfl; have o1 := hSw.1.1 1 _ rfl; have o2 := hSw.1.1 2 _ rfl; have cb := hSw.2.1; have s0 := hSw.2.2.1 0 _ rfl; have s1 := hSw.2.2.1 1 _ rfl; have s2 := hSw.2.2.1 2 _ rfl; have s3 := hSw.2.2.1 3 _ rfl; have s4 := hSw.2.2.1 4 _ rfl; have s5 := hSw.2.2.1 5 _ rfl; have s6 := hSw.2.2.1 6 _ rfl; have s7 := hSw.2.2.1 7 _ rfl; go_simp; try with_reducible rfl)
              change wpAnyH _ _ _ _ _ _ _ (Act.put _ (some 56) _) _
              simp only [Act.put, List.setIfInBounds_toArray, List.set_cons_zero, List.set_cons_succ]
              refine wpAnyH_take (i := 2) (v := ?_) rfl (by kernel_rfl) (by kernel_rfl) (by kernel_rfl) (fun _ _ _ h => h) (Or.inl ⟨by rfl, ?_⟩) (by assumption) ?_
              rotate_left
              · (intro wS hSw; have o0 := hSw.1.1 0 _ rfl; have o1 := hSw.1.1 1 _ rfl; have o2 := hSw.1.1 2 _ rfl; have cb := hSw.2.1; have s0 := hSw.2.2.1 0 _ rfl; have s1 := hSw.2.2.1 1 _ rfl; have s2 := hSw.2.2.1 2 _ rfl; have s3 := hSw.2.2.1 3 _ rfl; have s4 := hSw.2.2.1 4 _ rfl; have s5 := hSw.2.2.1 5 _ rfl; have s6 := hSw.2.2.1 6 _ rfl; have s7 := hSw.2.2.1 7 _ rfl; go_simp; try with_reducible rfl)
              change wpAnyH _ _ _ _ _ _ _ (Act.put _ (some 57) _) _
              simp only [Act.put, List.setIfInBounds_toArray, List.set_cons_zero, List.set_cons_succ]
              refine wpAnyH_take (i := 3) (v := ?_) rfl (by kernel_rfl) (by kernel_rfl) (by kernel_rfl) (fun _ _ _ h => h) (Or.inl ⟨by rfl, ?_⟩) (by assumption) ?_
              rotate_left
              · (intro wS hSw; have o0 := hSw.1.1 0 _ rfl; have o1 := hSw.1.1 1 _ rfl; have o2 := hSw.1.1 2 _ rfl; have cb := hSw.2.1; have s0 := hSw.2.2.1 0 _ rfl; have s1 := hSw.2.2.1 1 _ rfl; have s2 := hSw.2.2.1 2 _ rfl; have s3 := hSw.2.2.1 3 _ rfl; have s4 := hSw.2.2.1 4 _ rfl; have s5 := hSw.2.2.1 5 _ rfl; have s6 := hSw.2.2.1 6 _ rfl; have s7 := hSw.2.2.1 7 _ rfl; go_simp; try with_reducible rfl)
              change wpAnyH _ _ _ _ _ _ _ (Act.put _ (some 58) _) _
              simp only [Act.put, List.setIfInBounds_toArray, List.set_cons_zero, List.set_cons_succ]
              refine wpAnyH_take (i := 4) (v := ?_) rfl (by kernel_rfl) (by kernel_rfl) (by kernel_rfl) (fun _ _ _ h => h) (Or.inl ⟨by rfl, ?_⟩) (by assumption) ?_
              rotate_left
              · (intro wS hSw; have o0 := hSw.1.1 0 _ rfl; have o1 := hSw.1.1 1 _ rfl; have o2 := hSw.1.1 2 _ rfl; have cb := hSw.2.1; have s0 := hSw.2.2.1 0 _ rfl; have s1 := hSw.2.2.1 1 _ rfl; have s2 := hSw.2.2.1 2 _ rfl; have s3 := hSw.2.2.1 3 _ rfl; have s4 := hSw.2.2.1 4 _ rfl; have s5 := hSw.2.2.1 5 _ rfl; have s6 := hSw.2.2.1 6 _ rfl; have s7 := hSw.2.2.1 7 _ rfl; go_simp; try with_reducible rfl)
              change wpAnyH _ _ _ _ _ _ _ (Act.put _ (some 59) _) _
              simp only [Act.put, List.setIfInBounds_toArray, List.set_cons_zero, List.set_cons_succ]
              refine wpAnyH_take (i := 5) (v := ?_) rfl (by kernel_rfl) (by kernel_rfl) (by kernel_rfl) (fun _ _ _ h => h) (Or.inl ⟨by rfl, ?_⟩) (by assumption) ?_
              rotate_left
              · (intro wS hSw; have o0 := hSw.1.1 0 _ rfl; have o1 := hSw.1.1 1 _ rfl; have o2 := hSw.1.1 2 _ rfl; have cb := hSw.2.1; have s0 := hSw.2.2.1 0 _ rfl; have s1 := hSw.2.2.1 1 _ rfl; have s2 := hSw.2.2.1 2 _ rfl; have s3 := hSw.2.2.1 3 _ rfl; have s4 := hSw.2.2.1 4 _ rfl; have s5 := hSw.2.2.1 5 _ rfl; have s6 := hSw.2.2.1 6 _ rfl; have s7 := hSw.2.2.1 7 _ rfl; go_simp; try with_reducible rfl)
              change wpAnyH _ _ _ _ _ _ _ (Act.put _ (some 60) _) _
              simp only [Act.put, List.setIfInBounds_toArray, List.set_cons_zero, List.set_cons_succ]
              refine wpAnyH_ready (rs := [6]) (by kernel_rfl) (by simp) ?_
              refine AllReadyH.cons rfl (fun K hK => ?_) AllReadyH.nil
              obtain ⟨w9, hrun, M9', T9⟩ := (Tb.later FF.out T4.out).map.store (r := ⟨p, c, k, s⟩) HG.out HN.out; have M9 := M9'.perm (insW_perm ⟨p, c, k, s⟩ (wth p c k ls)).symm; clear M9'
              have A := Tb.later FF.out T4.out
              have TT : Hid (Tb w9 b m zs (insW ⟨p, c, k, s⟩ (wth p c k ls))) := A.turned T9.grown M9
              have GG : Hid (w.grownBy w9 (some m)) := grown_trans ((below_grown (HB4.out.trans (FF.out.mono HB4.out.size))).but _) T9.grown
              have K1 := (Cs.later FF.out Q4.out).grown T9.grown (fun e => A.map.ne ((Cs.later FF.out Q4.out).1 0 _ rfl) (by cases e; rfl))
              have K2 := (Cs.later FF.out Q5.out).grown T9.grown (fun e => A.map.ne ((Cs.later FF.out Q5.out).1 0 _ rfl) (by cases e; rfl))
              clear A M9 T9
              go_wp2_with (fail)
              refine hK.out _ _ ?_ (fun hHeld => ?_)
              · exact ⟨K1, TT.out.held, K2⟩
              clear hK K K1 K2 hrun
              refine wpAnyH_done (by kernel_rfl) ?_ _
              refine NoPanic.normal ?_
              go_wp2
              go_ret
              exact ⟨rfl, by rw [HX.out]; exact TT.out, GG.out⟩

end Go.Proofs.Ytpefjcgccbfgbaa.Bk
