/-
  Lists of numbers that are read: the mask of nodes (mask.Of), and whether two lists are the same (the law's own), at this program. Conditions: the slices read as those lists.
-/
import Derived.Test.YtcendnbeiifobaaDoorMA
import Derived.BigQuiet
namespace Go.Proofs.YtcendnbeiifobaaDoor.Mk
open Go.RowKit

theorem below_drewN {B : Nat} {w w1 : World} (h : Below B w w1) (n : Nat) : Below B w (w1.drewN n) :=
  h.trans ⟨rfl, rfl, rfl, Nat.le_refl _, fun _ _ => rfl⟩
/-- A slice reads as a row of numbers. -/
def RdI (W : World) (v : Value) (zs : List Int) : Prop := ∃ (a : Option Addr) (cap : Nat), v = .slice a zs.length cap ∧ zs.length ≤ cap ∧ cap ≤ maxLen ∧
  ∀ (j : Nat) (d : Int), zs[j]? = some d → ∃ b off : Nat, a = some ⟨b, off, none⟩ ∧ W.cell? ⟨b, off + j, none⟩ = some (.int .i64 d)
theorem RdI.later {W w1 : World} {v : Value} {zs : List Int} (h : RdI W v zs) (hb : Below W.heap.size W w1) : RdI w1 v zs := by
  obtain ⟨a, cap, e, h1, h2, h3⟩ := h
  refine ⟨a, cap, e, h1, h2, fun j d hj => ?_⟩
  obtain ⟨b, off, e1, e2⟩ := h3 j d hj
  exact ⟨b, off, e1, cell_later hb e2⟩
theorem RdI.under {W w1 : World} {B : Nat} {v : Value} {zs : List Int} (h : RdI W v zs) (hb : Below B W w1) (hB : W.heap.size ≤ B) : RdI w1 v zs := h.later (hb.mono hB)
/-- Its first ones. -/
theorem RdI.take {W : World} {a : Option Addr} {len cap : Nat} {zs : List Int} (h : RdI W (.slice a len cap) zs) {k : Nat} (hk : k ≤ len) : RdI W (.slice a k cap) (zs.take k) := by
  obtain ⟨a', cap', e, h1, h2, h3⟩ := h
  injection e with e1 e2 e3
  subst e1 e3
  refine ⟨a, cap, by rw [List.length_take, Nat.min_eq_left (by omega)], by rw [List.length_take]; omega, h2, fun j d hj => h3 j d ?_⟩
  rw [List.getElem?_take] at hj
  split at hj
  · exact hj
  · cases hj
/-- A row of one's own reads as its numbers. -/
theorem own_read {W : World} {base n : Nat} {T : TypeId} {v : Value} {zs : List Int} (h : W.ownsRow base T 1 v n (zs.map (Value.int .i64))) : RdI W v zs := by
  have hc := fun g hg => World.ownsRow.cells (g := g) h hg
  obtain ⟨hl, ⟨rfl, e⟩ | ⟨g, cap, cur, rfl, -, hb, h1, h2, -⟩⟩ := h
  · rw [List.length_map] at hl
    have : zs.length = 0 := by omega
    exact ⟨none, 0, by rw [this], by omega, by unfold maxLen; omega, fun j d hj => by have := (List.getElem?_eq_some_iff.1 hj).1; omega⟩
  · rw [List.length_map] at hl
    refine ⟨some ⟨g, 0, none⟩, cap, by rw [hl, Nat.mul_one], by omega, h2, fun j d hj => ⟨g, 0, rfl, ?_⟩⟩
    have := hc g rfl j (.int .i64 d) (by rw [List.getElem?_map, hj]; rfl)
    rw [Addr.add_lit] at this
    exact this

/-- The mask of so many nodes. -/
def ofL (zs : List Int) : Nat := zs.foldl withB 0
theorem foldl_lt : ∀ (zs : List Int) (b : Nat), b < 256 → zs.foldl withB b < 256
  | [], _, h => h
  | z :: zs, _, h => foldl_lt zs _ (withB_lt h z)

set_option maxHeartbeats 1000000 in
set_option maxRecDepth 100000 in
theorem of_is {v : Value} {zs : List Int} (w : World) (h : RdI w v zs) :
    Calls Tryd.prog 24 #[v] w fun e w' => e = .returned (.int .i64 (ofL zs)) ∧ w' = w := by
  obtain ⟨R, hR⟩ : ∃ R, R = ofL zs := ⟨_, rfl⟩
  have HR : Hid ((zs.drop 0).foldl withB 0 = R) := by unfold Hid; rw [hR]; rfl
  rw [← hR]
  clear hR
  obtain ⟨a, cap, rfl, h1, h2, h3⟩ := h
  have H3 : Hid (∀ (j : Nat) (d : Int), zs[j]? = some d → ∃ b off : Nat, a = some ⟨b, off, none⟩ ∧ w.cell? ⟨b, off + j, none⟩ = some (.int .i64 d)) := h3
  clear h3
  have zl : zs.length ≤ maxLen := by omega
  unfold maxLen at zl
  go_enter Tryd.func24, Tryd.ntmps24
  go_wp2
  go_loopw [3, 8] (fun p f wr => ∃ (j s : Nat), f = .int .i64 j ∧ j ≤ zs.length ∧ p = .int .i64 s ∧ Hid (s < 256) ∧ Hid ((zs.drop j).foldl withB s = R) ∧ wr = w) (fun _ f _ => zs.length - (intOf f).toNat)
  case atStart => exact ⟨0, 0, rfl, by omega, rfl, by unfold Hid; omega, HR, rfl⟩
  case round =>
    obtain ⟨j, s, rfl, jl, rfl, HS, HO, rfl⟩ := hrel
    by_cases cj : j < zs.length
    · obtain ⟨d, hdj⟩ : ∃ d, zs[j]? = some d := ⟨zs[j], List.getElem?_eq_getElem cj⟩
      obtain ⟨b, off, rfl, cell⟩ := H3.out j d hdj
      have E := HO.out
      rw [List.drop_eq_getElem_cons cj, show zs[j] = d from (List.getElem?_eq_some_iff.1 hdj).2, List.foldl_cons] at E
      obtain ⟨t, ht⟩ : ∃ t, t = withB s d := ⟨_, rfl⟩
      have HT : Hid (t < 256) := by unfold Hid; rw [ht]; exact withB_lt HS.out d
      have C : ∀ w, Calls Tryd.prog 12 #[.int .i64 s, .int .i64 d] w fun e w' => e = .returned (.int .i64 t) ∧ w' = w := fun w => by
        have := with_is s d w
        rw [low_of HS.out, ← ht] at this
        exact this
      rw [← ht] at E
      have HE : Hid ((zs.drop (j + 1)).foldl withB t = R) := E
      have j0 : (0 : Int) ≤ (j : Int) := by omega
      have j1 : (j : Int) < (zs.length : Int) := by omega
      clear E HO hdj ht HS
      go_wp2_with (fail)
      refine (C _).mono ?_
      rintro e w' ⟨rfl, rfl⟩
      clear C
      go_wp2
      go_roundw
      case rel => exact ⟨j + 1, t, by go_num, by omega, rfl, HT, HE, trivial⟩
      case measure => simp [intOf]; omega
    · obtain rfl : j = zs.length := by omega
      have E := HO.out
      rw [List.drop_length, List.foldl_nil] at E
      subst E
      clear HO
      go_wp2
      go_ret
      exact ⟨rfl, rfl⟩

theorem list_ne {xs ys : List Int} {j : Nat} {c d : Int} (hx : xs[j]? = some c) (hy : ys[j]? = some d) (h : c ≠ d) : decide (xs = ys) = false := by
  refine decide_eq_false fun e => h ?_
  rw [e, hy] at hx
  injection hx with hx
  exact hx.symm

set_option maxHeartbeats 1000000 in
set_option maxRecDepth 100000 in
theorem same_is {u v : Value} {xs ys : List Int} (w : World) (h : RdI w u xs) (k : RdI w v ys) :
    Calls Tryd.prog 19 #[u, v] w fun e w' => e = .returned (.bool (decide (xs = ys))) ∧ Below w.heap.size w w' := by
  obtain ⟨R, hR⟩ : ∃ R, R = decide (xs = ys) := ⟨_, rfl⟩
  have Y : Hid (R = decide (xs = ys)) := hR
  rw [← hR]
  clear hR
  obtain ⟨a, cap, rfl, h1, h2, h3⟩ := h
  obtain ⟨a1, cap1, rfl, k1, k2, k3⟩ := k
  have H3 : Hid (∀ (j : Nat) (d : Int), xs[j]? = some d → ∃ b off : Nat, a = some ⟨b, off, none⟩ ∧ w.cell? ⟨b, off + j, none⟩ = some (.int .i64 d)) := h3
  have K3 : Hid (∀ (j : Nat) (d : Int), ys[j]? = some d → ∃ b off : Nat, a1 = some ⟨b, off, none⟩ ∧ w.cell? ⟨b, off + j, none⟩ = some (.int .i64 d)) := k3
  clear h3 k3
  have zl : xs.length ≤ maxLen := by omega
  have yl : ys.length ≤ maxLen := by omega
  unfold maxLen at zl yl
  by_cases ll : xs.length = ys.length
  case neg =>
    have lt : ((xs.length : Int) != (ys.length : Int)) = true := by simp; omega
    have X : Hid (R = false) := by unfold Hid; rw [Y.out]; exact decide_eq_false fun e => ll (by rw [e])
    clear ll
    go_enter Tryd.func19, Tryd.ntmps19
    go_wp2
    go_ret
    exact ⟨by rw [X.out]; rfl, by go_grown⟩
  have LL : Hid (xs.length = ys.length) := ll
  have lt : ((xs.length : Int) != (ys.length : Int)) = false := by simp; omega
  clear ll
  go_enter Tryd.func19, Tryd.ntmps19
  go_wp2
  go_loopw [13] (fun f wr => ∃ j : Nat, f = .int .i64 j ∧ j ≤ xs.length ∧ Hid (∀ i, i < j → xs[i]? = ys[i]?) ∧ Below w.heap.size w wr) (fun f _ => xs.length - (intOf f).toNat)
  case atStart => exact ⟨0, rfl, by omega, fun i hi => absurd hi (by omega), by go_grown⟩
  case round =>
    obtain ⟨j, rfl, jl, HJ, HB⟩ := hrel
    by_cases cj : j < xs.length
    · have cy : j < ys.length := by have := LL.out; omega
      obtain ⟨c, hdj⟩ : ∃ d, xs[j]? = some d := ⟨xs[j], List.getElem?_eq_getElem cj⟩
      obtain ⟨b, off, rfl, T⟩ := H3.out j _ hdj
      obtain ⟨d, hej⟩ : ∃ d, ys[j]? = some d := ⟨ys[j], List.getElem?_eq_getElem cy⟩
      obtain ⟨b1, off1, rfl, U⟩ := K3.out j _ hej
      have c0 := cell_later HB T
      have d0 := cell_later HB U
      have j0 : (0 : Int) ≤ (j : Int) := by omega
      have j1 : (j : Int) < (xs.length : Int) := by omega
      have j2 : (j : Int) < (ys.length : Int) := by omega
      by_cases e : c = d
      · subst e
        have HJ' : Hid (∀ i, i < j + 1 → xs[i]? = ys[i]?) := fun i hi => by
          by_cases e : i = j
          · subst e
            rw [hdj, hej]
          · exact HJ.out i (by omega)
        clear T U hdj hej HJ
        go_wp2_with (fail)
        go_quiet (fail)
        go_wp2
        go_roundw
        case rel => exact ⟨j + 1, by go_num, by omega, HJ', below_drewN HB _⟩
        case measure => simp [intOf]; omega
      · have X : Hid (R = false) := by unfold Hid; rw [Y.out, list_ne hdj hej e]
        have e1 : (c != d) = true := by simp [e]
        clear T U hdj hej HJ
        go_wp2_with (fail)
        go_quiet (fail)
        go_wp2
        go_ret
        exact ⟨by rw [X.out]; rfl, below_drewN HB _⟩
    · have X : Hid (R = true) := by
        unfold Hid
        rw [Y.out]
        refine decide_eq_true (List.ext_getElem? fun i => ?_)
        by_cases hi : i < j
        · exact HJ.out i hi
        · have := LL.out
          rw [List.getElem?_eq_none (by omega), List.getElem?_eq_none (by omega)]
      clear HJ
      go_wp2
      go_ret
      exact ⟨by rw [X.out]; rfl, by go_grown⟩

end Go.Proofs.YtcendnbeiifobaaDoor.Mk
