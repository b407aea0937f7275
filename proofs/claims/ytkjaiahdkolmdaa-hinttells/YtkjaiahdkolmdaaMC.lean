/-
  The two iterators of package mask (over the nodes of a mask, over the masks of the first nodes) at this program: what comes, in order, for every body that keeps the iterator's own variable. Conditions: none on the arguments.
-/
import Derived.RangeFuncNested
import Derived.RangeFuncBound
import Derived.RangeFuncCalls
import Derived.RangeFuncLeaves
import Derived.Shelf.Abstract
import Derived.Shelf.RegionOpen
import Derived.WalkKit
import Derived.OwnWalkIn
import Derived.TacticsInMore
import Derived.LoopNIn
import Derived.LoopIn
import Derived.Test.YtkjaiahdkolmdaaMB
namespace Go.Proofs.Ytkjaiahdkolmdaa.Mk
open Go.RowKit Go.Shelf

attribute [local go_sem] Oper.semAt_some

def all8 : List (Fin 8) := [0, 1, 2, 3, 4, 5, 6, 7]
/-- The nodes of a mask among the first ones. -/
def ndT (b k : Nat) : List (Fin 8) := (all8.take k).filter fun i => b.testBit i.1
theorem ndT_all (b : Nat) : ndT b 8 = nd b := rfl
theorem ndT_zero (b : Nat) : ndT b 0 = [] := rfl
theorem all8_at : ∀ k : Fin 8, all8[k.1]? = some k := by decide
theorem ndT_succ (b : Nat) {k : Nat} (hk : k < 8) : ndT b (k + 1) = if b.testBit k then ndT b k ++ [⟨k, hk⟩] else ndT b k := by
  unfold ndT
  rw [List.take_add_one, all8_at ⟨k, hk⟩, List.filter_append]
  cases e : b.testBit k <;> simp [e]
theorem ndT_len (b k : Nat) : (ndT b k).length ≤ k := by
  unfold ndT
  have := List.length_filter_le (fun i : Fin 8 => b.testBit i.1) (all8.take k)
  rw [List.length_take] at this
  omega
theorem ndT_pre (b k : Nat) : ndT b k <+: nd b := (List.take_prefix k all8).filter _
/-- One block lies as it lay. -/
def Keep1 (B : Nat) (A C : World) : Prop := C.heap[B]? = A.heap[B]?
theorem Keep1.refl (B : Nat) (A : World) : Keep1 B A A := rfl
theorem Keep1.trans {B : Nat} {A C D : World} (h : Keep1 B A C) (k : Keep1 B C D) : Keep1 B A D := Eq.trans k h
theorem Keep1.cell {B : Nat} {A C : World} (h : Keep1 B A C) (i : Nat) : C.cell? ⟨B, i, none⟩ = A.cell? ⟨B, i, none⟩ := by simp only [World.cell?, show C.heap[B]? = A.heap[B]? from h]
theorem keep1_b {B : Nat} {w : World} (hB : B < w.heap.size) (W : World) (l : Nat) (o o' : Obj) (hl : w.heap.size ≤ l) (_ : W.heap[l]? = some o) (_ : o.isCells = false) (_ : o.isWalk = false) : Keep1 B W (W.putObj l o') := World.putObj_heap_other (by omega)
theorem has_at (b : Nat) {k : Nat} (hk : k < 8) : hasB b (k : Int) = b.testBit k := by
  unfold hasB
  rw [decide_eq_true (by omega)]
  rfl

set_option maxHeartbeats 1000000 in
theorem nodes_is (m : Int) (w : World) :
    Calls Try.prog 22 #[.int .i64 m] w fun e w' => e = .returned (.func (.func 31) #[] #[.pointer (some ⟨w.heap.size, 0, none⟩)]) ∧ w' = w.alloc (.cells #[.int .i64 m] 3) := by
  go_enter Try.func22, Try.ntmps22
  go_wp2
  go_ret
  exact ⟨rfl, rfl⟩

set_option maxRecDepth 100000 in
set_option maxHeartbeats 2000000 in
theorem nodes1_in (n : Nat) (hn : 1 ≤ n) (l Bn : Nat) (m : Int) (J Jx : List (Fin 8) → World → Prop)
    (hY : ∀ pre x W, J pre W → pre.length < 8 → YieldAt Fence.wide (n - 1) Try.prog l #[.int .i64 (x.1 : Int)] W fun e W' =>
      (e = .returned (.bool true) ∧ J (pre ++ [x]) W' ∧ Keep1 Bn W W') ∨ (e = .returned (.bool false) ∧ Jx (pre ++ [x]) W'))
    (W : World) (hc : W.cell? ⟨Bn, 0, none⟩ = some (.int .i64 m)) (h0 : J [] W) :
    CallsIn Fence.wide n Try.prog 31 #[.func (.yield l) #[] #[], .pointer (some ⟨Bn, 0, none⟩)] W fun e W' => (∃ v, e = .returned v) ∧
      ((∃ ys, ys = nd (low m) ∧ J ys W') ∨ (∃ pre, pre <+: nd (low m) ∧ Jx pre W')) := by
  obtain ⟨b, hbm⟩ : ∃ b, b = low m := ⟨_, rfl⟩
  have CH : Hid (∀ (k : Nat) (w : World), Calls Try.prog 32 #[.int .i64 m, .int .i64 k] w fun e w' => e = .returned (.bool (hasB b k)) ∧ w' = w) := fun k w => by rw [hbm]; exact has_is m k w
  rw [← hbm]
  clear hbm
  refine callsIn_of_wp Try.func31 rfl trivial ?_ rfl
  simp only [Try.ntmps31, List.size_toArray, List.length_cons, List.length_nil, Nat.reduceAdd, Nat.reduceSub, Array.replicate_succ, Array.replicate_zero, List.push_toArray, List.append_toArray, List.nil_append, List.cons_append]
  gi_wp2
  gi_loopw [4] (fun i wr => ∃ k : Nat, k ≤ 8 ∧ i = .int .i64 k ∧ J (ndT b k) wr ∧ Keep1 Bn W wr)
    (fun i _ => 8 - (intOf i).toNat)
  case atStart => exact ⟨0, Nat.zero_le _, rfl, h0, Keep1.refl _ _⟩
  case round =>
    obtain ⟨k, hk, rfl, hJs, hnx⟩ := hrel
    have hcx : wr.cell? ⟨Bn, 0, none⟩ = some (.int .i64 m) := (hnx.cell 0).trans hc
    by_cases hlt : k < 8
    · have k1 : (k : Int) < 8 := by omega
      have C := CH.out k
      rw [has_at b hlt] at C
      have S := ndT_succ b hlt
      cases e : b.testBit k with
      | true =>
        rw [e] at C S
        have HS : Hid (ndT b (k + 1) = ndT b k ++ [⟨k, hlt⟩]) := S
        obtain ⟨fn, tmps, assign, body, hy, hR⟩ := hY _ ⟨k, hlt⟩ wr hJs (by have := ndT_len b k; omega)
        dsimp only at hy
        clear S e
        gi_wp2_with (fail)
        refine ⟨trivial, (callsIn_wide.2 (C _)).mono ?_⟩
        rintro e w' ⟨rfl, rfl⟩
        clear C
        gi_wp2
        refine hR.mono ?_
        rintro e W3 (⟨rfl, hJ3, hk3⟩ | ⟨rfl, hJx3⟩)
        · have hJ4 : J (ndT b (k + 1)) W3 := by rw [HS.out]; exact hJ3
          gi_wp2
          go_roundw
          case rel => exact ⟨k + 1, by omega, by simp, hJ4, hnx.trans hk3⟩
          case measure => simp [intOf]; omega
        · have hJ4 : Jx (ndT b (k + 1)) W3 := by rw [HS.out]; exact hJx3
          gi_wp2
          refine bodyPost_ret (results_none rfl _ _ _) rfl ?_
          exact ⟨⟨_, rfl⟩, .inr ⟨_, ndT_pre b (k + 1), hJ4⟩⟩
      | false =>
        rw [e] at C S
        have hJ4 : J (ndT b (k + 1)) wr := by rw [S]; exact hJs
        clear S e
        gi_wp2_with (fail)
        refine ⟨trivial, (callsIn_wide.2 (C _)).mono ?_⟩
        rintro e w' ⟨rfl, rfl⟩
        clear C
        gi_wp2
        refine ⟨fun _ h => (by cases h), ?_⟩
        gi_wp2
        go_roundw
        case rel => exact ⟨k + 1, by omega, by simp, hJ4, hnx⟩
        case measure => simp [intOf]; omega
    · obtain rfl : k = 8 := by omega
      gi_wp2
      go_end0
      exact ⟨⟨_, rfl⟩, .inl ⟨_, ndT_all b, hJs⟩⟩

/-- Over the nodes of a mask: all of them, rising; or the first ones, where a round has said 'no more'. -/
theorem nodes_stops (n : Nat) (hn : 1 ≤ n) (Bn : Nat) (m : Int) (w : World) (hBn : Bn < w.heap.size) (hc : w.cell? ⟨Bn, 0, none⟩ = some (.int .i64 m)) :
    SeqStopsK Fence.wide n Try.prog 31 #[.pointer (some ⟨Bn, 0, none⟩)] (fun x : Fin 8 => #[Value.int .i64 (x.1 : Int)]) (Keep1 Bn) (fun ys => ys = nd (low m)) (fun pre => pre <+: nd (low m)) 8 w := fun l J Jx W hW _ _ hY h0 =>
  nodes1_in n hn l Bn m J Jx hY W ((hW.cell (p := ⟨Bn, 0, none⟩) hBn).trans hc) h0

/-- The masks of so many nodes below a number. -/
def rowM (c M : Nat) : List Nat := (List.range M).filter fun m => decide (1 ≤ m) && cnt m == c
theorem rowM_succ (c M : Nat) : rowM c (M + 1) = if (decide (1 ≤ M) && cnt M == c) = true then rowM c M ++ [M] else rowM c M := by
  unfold rowM
  rw [List.range_succ, List.filter_append]
  cases e : (decide (1 ≤ M) && cnt M == c) <;> simp [e]
theorem rowM_pre (c : Nat) {M N : Nat} (h : M ≤ N) : rowM c M <+: rowM c N := by
  have : List.range M <+: List.range N := by
    obtain ⟨d, rfl⟩ := Nat.exists_eq_add_of_le h
    rw [List.range_add]
    exact List.prefix_append _ _
  exact this.filter _
/-- The masks that come ahead of a number among those of c + 1 nodes. -/
def preM (k c M : Nat) : List Nat := ((List.range c).flatMap fun i => rowM (i + 1) (2 ^ k)) ++ rowM (c + 1) M
def fullM (k : Nat) : List Nat := preM k k 0
theorem preM_end (k c : Nat) : preM k c (2 ^ k) = preM k (c + 1) 0 := by
  unfold preM
  rw [List.range_succ, List.flatMap_append]
  simp [rowM]
theorem preM_one (k c : Nat) : preM k c 1 = preM k c 0 := by
  unfold preM rowM
  rfl
theorem preM_yes (k c : Nat) {M : Nat} (h1 : 1 ≤ M) (h2 : cnt M = c + 1) : preM k c (M + 1) = preM k c M ++ [M] := by
  unfold preM
  rw [rowM_succ, if_pos (by simp [h1, h2]), List.append_assoc]
theorem preM_no (k c : Nat) {M : Nat} (h2 : cnt M ≠ c + 1) : preM k c (M + 1) = preM k c M := by
  unfold preM
  rw [rowM_succ, if_neg (by simp [h2])]
theorem preM_pre {k c M : Nat} (hc : c < k) (hM : M ≤ 2 ^ k) : preM k c M <+: fullM k := by
  have h1 : preM k c M <+: preM k (c + 1) 0 := by
    rw [← preM_end]
    exact (List.prefix_append_right_inj _).2 (rowM_pre (c + 1) hM)
  refine h1.trans ?_
  obtain ⟨d, e⟩ := Nat.exists_eq_add_of_le (show c + 1 ≤ k by omega)
  unfold fullM preM
  rw [show rowM (k + 1) 0 = [] from rfl, show rowM (c + 1 + 1) 0 = [] from rfl, List.append_nil, List.append_nil]
  generalize 2 ^ k = T
  rw [show List.range k = List.range (c + 1) ++ (List.range d).map (c + 1 + ·) by rw [e, List.range_add], List.flatMap_append]
  exact List.prefix_append _ _
theorem fullM_len : ∀ k : Fin 9, (fullM k.1).length = 2 ^ k.1 - 1 := by decide +kernel

/-- How many nodes are meant. -/
def held (n : Int) : Nat := (min (max n 0) 8).toNat
theorem held_le (n : Int) : held n ≤ 8 := by unfold held; omega
theorem held_int (n : Int) : min (max n 0) 8 = (held n : Int) := by unfold held; omega

set_option maxHeartbeats 1000000 in
theorem masks_is (n : Int) (w : World) :
    Calls Try.prog 35 #[.int .i64 n] w fun e w' => e = .returned (.func (.func 39) #[] #[.pointer (some ⟨w.heap.size, 0, none⟩)]) ∧ w' = w.alloc (.cells #[.int .i64 (held n : Int)] 3) := by
  have HH : Hid (min (max n 0) 8 = (held n : Int)) := held_int n
  go_enter Try.func35, Try.ntmps35
  go_wp2
  go_ret
  exact ⟨rfl, by rw [← HH.out]⟩

set_option maxRecDepth 100000 in
set_option maxHeartbeats 2000000 in
theorem masks1_in (n : Nat) (hn : 1 ≤ n) (l Bn : Nat) (k : Nat) (hk8 : k ≤ 8) (J Jx : List Nat → World → Prop)
    (hY : ∀ pre (x : Nat) W, J pre W → pre.length < 256 → YieldAt Fence.wide (n - 1) Try.prog l #[.int .i64 (x : Int)] W fun e W' =>
      (e = .returned (.bool true) ∧ J (pre ++ [x]) W' ∧ Keep1 Bn W W') ∨ (e = .returned (.bool false) ∧ Jx (pre ++ [x]) W'))
    (W : World) (hc : W.cell? ⟨Bn, 0, none⟩ = some (.int .i64 k)) (h0 : J [] W) :
    CallsIn Fence.wide n Try.prog 39 #[.func (.yield l) #[] #[], .pointer (some ⟨Bn, 0, none⟩)] W fun e W' => (∃ v, e = .returned v) ∧
      ((∃ ys, ys = fullM k ∧ J ys W') ∨ (∃ pre, pre <+: fullM k ∧ Jx pre W')) := by
  have FL : (fullM k).length ≤ 255 := by
    rw [fullM_len ⟨k, by omega⟩]
    have := Nat.pow_le_pow_right (show 0 < 2 by omega) hk8
    show 2 ^ k - 1 ≤ 255
    omega
  have SH : Hid (wrap64 ((2 : Int) ^ k) = ((2 ^ k : Nat) : Int)) := by
    have := Nat.pow_le_pow_right (show 0 < 2 by omega) hk8
    show wrap64 ((2 : Int) ^ k) = ((2 ^ k : Nat) : Int)
    rw [show ((2 : Int) ^ k) = ((2 ^ k : Nat) : Int) by simp]
    generalize 2 ^ k = T at *
    unfold wrap64
    omega
  have P8 : 2 ^ k ≤ 256 := Nat.pow_le_pow_right (show 0 < 2 by omega) hk8
  have CC : Hid (∀ (m : Nat) (w : World), m < 256 → Calls Try.prog 40 #[.int .i64 m] w fun e w' => e = .returned (.int .i64 (cnt m)) ∧ w' = w) := fun m w h => by
    have := count_is m w
    rwa [low_of h] at this
  refine callsIn_of_wp Try.func39 rfl trivial ?_ rfl
  simp only [Try.ntmps39, List.size_toArray, List.length_cons, List.length_nil, Nat.reduceAdd, Nat.reduceSub, Array.replicate_succ, Array.replicate_zero, List.push_toArray, List.append_toArray, List.nil_append, List.cons_append]
  gi_wp2
  gi_loopw [3] (fun i wr => ∃ q c : Nat, q = c + 1 ∧ c ≤ k ∧ i = .int .i64 q ∧ J (preM k c 0) wr ∧ Keep1 Bn W wr)
    (fun i _ => k + 1 - (intOf i).toNat)
  case atStart => exact ⟨1, 0, rfl, Nat.zero_le _, rfl, h0, Keep1.refl _ _⟩
  case round =>
    obtain ⟨q, c, hq, hk, rfl, hJs, hnx⟩ := hrel
    have HQ : Hid (q = c + 1) := hq
    have hcx : wr.cell? ⟨Bn, 0, none⟩ = some (.int .i64 k) := (hnx.cell 0).trans hc
    by_cases hlt : c < k
    · have k1 : (q : Int) ≤ (k : Int) := by omega
      have kd : decide ((q : Int) ≤ (k : Int)) = true := decide_eq_true k1
      clear hq
      gi_wp2
      gi_loopw [4] (fun i wr => ∃ m : Nat, 1 ≤ m ∧ m ≤ 2 ^ k ∧ i = .int .i64 m ∧ J (preM k c m) wr ∧ Keep1 Bn W wr)
        (fun i _ => 256 - (intOf i).toNat)
      case atStart => exact ⟨1, Nat.le_refl _, Nat.one_le_two_pow, rfl, by rw [preM_one]; exact hJs, hnx⟩
      case round =>
        clear hJs hnx hcx
        obtain ⟨m, m1, m2, rfl, hJs, hnx⟩ := hrel
        have hcx : wr.cell? ⟨Bn, 0, none⟩ = some (.int .i64 k) := (hnx.cell 0).trans hc
        by_cases mlt : m < 2 ^ k
        · have lt1 : (m : Int) < wrap64 (2 ^ k) := by rw [SH.out]; omega
          have C := fun w => CC.out m w (by omega)
          have PL : (preM k c m).length < 256 := by have := (preM_pre hlt m2).length_le; omega
          have PP : Hid (preM k c (m + 1) <+: fullM k) := preM_pre hlt (by omega)
          have m3 : m + 1 ≤ 2 ^ k := by omega
          by_cases e : cnt m = q
          · have HS : Hid (preM k c (m + 1) = preM k c m ++ [m]) := preM_yes k c m1 (by rw [e]; exact HQ.out)
            rw [e] at C
            obtain ⟨fn, tmps, assign, body, hy, hR⟩ := hY _ m wr hJs PL
            clear e PL
            gi_wp2_with (fail)
            refine ⟨trivial, (callsIn_wide.2 (C _)).mono ?_⟩
            rintro e w' ⟨rfl, rfl⟩
            clear C
            gi_wp2
            refine hR.mono ?_
            rintro e W3 (⟨rfl, hJ3, hk3⟩ | ⟨rfl, hJx3⟩)
            · have hJ4 : J (preM k c (m + 1)) W3 := by rw [HS.out]; exact hJ3
              gi_wp2
              go_roundw
              case rel => exact ⟨m + 1, by omega, m3, by simp, hJ4, hnx.trans hk3⟩
              case measure => simp [intOf]; omega
            · have hJ4 : Jx (preM k c (m + 1)) W3 := by rw [HS.out]; exact hJx3
              gi_wp2
              refine bodyPost_ret (results_none rfl _ _ _) rfl ?_
              exact ⟨⟨_, rfl⟩, .inr ⟨_, PP.out, hJ4⟩⟩
          · have hJ4 : J (preM k c (m + 1)) wr := by rw [preM_no k c (by rw [← HQ.out]; exact e)]; exact hJs
            have e0 : ((cnt m : Int) == (q : Int)) = false := by simp; omega
            have e1 : ¬ (cnt m : Int) = (q : Int) := by omega
            clear e PL PP
            gi_wp2_with (fail)
            refine ⟨trivial, (callsIn_wide.2 (C _)).mono ?_⟩
            rintro e w' ⟨rfl, rfl⟩
            clear C
            gi_wp2
            refine ⟨fun _ h => (by cases h), ?_⟩
            gi_wp2
            go_roundw
            case rel => exact ⟨m + 1, by omega, m3, by simp, hJ4, hnx⟩
            case measure => simp [intOf]; omega
        · obtain rfl : m = 2 ^ k := by omega
          have lt1 : ¬ ((2 ^ k : Nat) : Int) < wrap64 (2 ^ k) := by rw [SH.out]; omega
          have hJ4 : J (preM k (c + 1) 0) wr := by rw [← preM_end]; exact hJs
          clear m1 m2
          gi_wp2
          go_roundw
          case rel => exact ⟨q + 1, c + 1, by rw [HQ.out], by omega, by simp, hJ4, hnx⟩
          case measure => simp [intOf]; omega
    · obtain rfl : c = k := by omega
      have k1 : ¬ (q : Int) ≤ (c : Int) := by omega
      gi_wp2
      go_end0
      exact ⟨⟨_, rfl⟩, .inl hJs⟩

/-- Over the masks of the first nodes: all of them, in order; or the first ones, where a round has said 'no more'. -/
theorem masks_stops (n : Nat) (hn : 1 ≤ n) (Bn k : Nat) (hk8 : k ≤ 8) (w : World) (hBn : Bn < w.heap.size) (hc : w.cell? ⟨Bn, 0, none⟩ = some (.int .i64 k)) :
    SeqStopsK Fence.wide n Try.prog 39 #[.pointer (some ⟨Bn, 0, none⟩)] (fun x : Nat => #[Value.int .i64 (x : Int)]) (Keep1 Bn) (fun ys => ys = fullM k) (fun pre => pre <+: fullM k) 256 w := fun l J Jx W hW _ _ hY h0 =>
  masks1_in n hn l Bn k hk8 J Jx hY W ((hW.cell (p := ⟨Bn, 0, none⟩) hBn).trans hc) h0

end Go.Proofs.Ytkjaiahdkolmdaa.Mk
