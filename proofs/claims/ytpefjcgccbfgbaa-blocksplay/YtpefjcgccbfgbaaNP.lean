/-
  The iterator over a table's rows (All) at this program: all of them, in order, or the first ones, where a round has said 'no more'. Conditions: the table is one, its rows are in order, at most 2^40.
-/
import Derived.Test.YtpefjcgccbfgbaaNO
import Derived.RangeFuncNested
import Derived.RangeFuncBound
import Derived.RangeFuncCalls
import Derived.RangeFuncLeaves
import Derived.Shelf.Abstract
import Derived.Shelf.RegionOpen
import Derived.WalkKit
import Derived.OwnWalkIn
import Derived.TacticsInMore
import Derived.LoopNIn
import Derived.LoopIn
namespace Go.Proofs.Ytpefjcgccbfgbaa.Bk
open Go.RowKit Go.Shelf

attribute [local go_sem] Oper.semAt_some

/-- The rows lie in this block, if there are any. -/
def InB (v : Value) (g : Nat) (ls : List Rw) : Prop := ls ≠ [] → ∃ off cap, v = .slice (some ⟨g, off, none⟩) ls.length cap
/-- What All hands back: the iterator over these rows; its variable's block, the rows' block. -/
def AllPost (w : World) (ls : List Rw) (e : Ending) (w' : World) : Prop := ∃ Bn g v, e = .returned (.func (.func 41) #[] #[.pointer (some ⟨Bn, 0, none⟩)]) ∧ w'.cell? ⟨Bn, 0, none⟩ = some v ∧ RdW w' v ls ∧ InB v g ls ∧ (w.heap.size ≤ g ∧ g < w'.heap.size) ∧ (w.heap.size ≤ Bn ∧ Bn < w'.heap.size) ∧ Below w.heap.size w w'
set_option maxHeartbeats 1000000 in
theorem all_is {b m : Nat} {zs : List Zn} {ls : List Rw} (w : World) (h : Tb w b m zs ls) (hs : ls.Pairwise fun r q => befR r q = true) (hn : ls.length ≤ 1099511627776) :
    Calls Try.prog 31 #[tbV b] w fun e w' => AllPost w ls e w' := by
  have C1 := rows_is w h hs hn
  clear h hs
  go_enter Try.func31, Try.ntmps31
  go_wp2_with (fail)
  refine C1.mono ?_
  rintro e w1 ⟨g, cap, rfl, rd, hg, hb⟩
  clear C1
  go_wp2
  go_ret
  have q1 : Cs (w1.alloc (.cells #[.slice (some ⟨g, 0, none⟩) ls.length cap] 87)) w1.heap.size [.slice (some ⟨g, 0, none⟩) ls.length cap] := Cs.new _ _ _ _ rfl
  have rd1 := RdW.alloc rd (.cells #[.slice (some ⟨g, 0, none⟩) ls.length cap] 87)
  by_cases e : ls = []
  · exact ⟨w1.heap.size, w1.heap.size, _, rfl, q1.1 0 _ rfl, rd1, fun h => absurd e h, ⟨hb.size, q1.2.2⟩, ⟨hb.size, q1.2.2⟩, hb.alloc hb.size _⟩
  · refine ⟨w1.heap.size, g, _, rfl, q1.1 0 _ rfl, rd1, fun _ => ⟨0, cap, rfl⟩, ⟨hg, ?_⟩, ⟨hb.size, q1.2.2⟩, hb.alloc hb.size _⟩
    obtain ⟨a, c, e1, -, -, h3⟩ := rd1
    obtain ⟨r, hr⟩ := List.exists_mem_of_ne_nil ls e
    obtain ⟨j, hj⟩ := List.getElem?_of_mem hr
    obtain ⟨-, b', off, e2, T⟩ := h3 j r hj
    cases e1
    cases e2
    have := World.block_lt_of_cell? _ _ T.1
    simpa using this
set_option maxHeartbeats 1000000 in
theorem all_nil (w : World) : Calls Try.prog 31 #[.pointer none] w fun e w' => AllPost w [] e w' := by
  go_enter Try.func31, Try.ntmps31
  go_wp2_with (fail)
  refine (rows_nil w).mono ?_
  rintro e w1 ⟨rfl, hb⟩
  go_wp2
  go_ret
  have q1 : Cs (w1.alloc (.cells #[.slice none 0 0] 87)) w1.heap.size [.slice none 0 0] := Cs.new _ _ _ _ rfl
  exact ⟨w1.heap.size, w1.heap.size, _, rfl, q1.1 0 _ rfl, ⟨none, 0, rfl, by simp, by unfold maxLen; omega, fun j r hj => by simp at hj⟩, fun h => absurd rfl h, ⟨hb.size, q1.2.2⟩, ⟨hb.size, q1.2.2⟩, hb.alloc hb.size _⟩

/-- One block lies as it lay. -/
def Keep1 (B : Nat) (A C : World) : Prop := C.heap[B]? = A.heap[B]?
theorem Keep1.refl (B : Nat) (A : World) : Keep1 B A A := rfl
theorem Keep1.trans {B : Nat} {A C D : World} (h : Keep1 B A C) (k : Keep1 B C D) : Keep1 B A D := Eq.trans k h
theorem keep1_b {B : Nat} {w : World} (hB : B < w.heap.size) (W : World) (l : Nat) (o o' : Obj) (hl : w.heap.size ≤ l) (_ : W.heap[l]? = some o) (_ : o.isCells = false) (_ : o.isWalk = false) : Keep1 B W (W.putObj l o') := World.putObj_heap_other (by omega)
theorem keep1_alloc {B : Nat} {W : World} (hB : B < W.heap.size) (o : Obj) : Keep1 B W (W.alloc o) := Below.heap_alloc W o B hB

theorem keep1_lt {B : Nat} {A C : World} (h : Keep1 B A C) (hB : B < A.heap.size) : B < C.heap.size := by
  have : C.heap[B]? = some A.heap[B] := (show C.heap[B]? = A.heap[B]? from h).trans (Array.getElem?_eq_getElem hB)
  exact (Array.getElem?_eq_some_iff.1 this).1

set_option maxRecDepth 100000 in
set_option maxHeartbeats 2000000 in
theorem all1_in (n : Nat) (hn : 1 ≤ n) (l Bn g : Nat) (v : Value) (ls : List Rw) (J Jx : List Rw → World → Prop) (W : World) (hJ : AbidesFrom W.heap.size J)
    (hY : ∀ pre (x : Rw) W, J pre W → pre.length < ls.length + 1 → YieldAt Fence.wide (n - 1) Try.prog l #[ownV x.p x.c x.k, spV x.s] W fun e W' =>
      (e = .returned (.bool true) ∧ J (pre ++ [x]) W' ∧ Keep1 g W W') ∨ (e = .returned (.bool false) ∧ Jx (pre ++ [x]) W'))
    (hc : W.cell? ⟨Bn, 0, none⟩ = some v) (hR : RdW W v ls) (hI : InB v g ls) (hg : g < W.heap.size) (h0 : J [] W) :
    CallsIn Fence.wide n Try.prog 41 #[.func (.yield l) #[] #[], .pointer (some ⟨Bn, 0, none⟩)] W fun e W' => (∃ v, e = .returned v) ∧
      ((∃ ys, ys = ls ∧ J ys W') ∨ (∃ pre, pre <+: ls ∧ Jx pre W')) := by
  obtain ⟨a, cap, rfl, h1, h2, h3⟩ := hR
  have H3 : Hid (∀ (j : Nat) (r : Rw), ls[j]? = some r → ∃ off : Nat, a = some ⟨g, off, none⟩ ∧ El W g (off + j * 11) r) := fun j r hj => by
    obtain ⟨off, cap', e⟩ := hI (fun e => by rw [e] at hj; simp at hj)
    obtain ⟨-, b', off', e', T⟩ := h3 j r hj
    rw [e'] at e
    simp at e
    obtain ⟨⟨rfl, rfl⟩, -⟩ := e
    exact ⟨_, e', T⟩
  have HJ : Hid (∀ pre W1 o, J pre W1 → J pre (W1.alloc o)) := fun pre W1 o hj => hJ pre W1 _ none hj (World.grownBy_alloc W1 o none) (fun r e => by cases e)
  have zl : ls.length ≤ maxLen := by omega
  unfold maxLen at zl
  clear h3 hI hJ
  refine callsIn_of_wp Try.func41 rfl trivial ?_ rfl
  simp only [Try.ntmps41, List.size_toArray, List.length_cons, List.length_nil, Nat.reduceAdd, Nat.reduceSub, Array.replicate_succ, Array.replicate_zero, List.push_toArray, List.append_toArray, List.nil_append, List.cons_append]
  gi_wp2
  gi_loopw [7] (fun i wr => ∃ j : Nat, j ≤ ls.length ∧ i = .int .i64 j ∧ J (ls.take j) wr ∧ Keep1 g W wr ∧ g < wr.heap.size)
    (fun i _ => ls.length - (intOf i).toNat)
  case atStart => exact ⟨0, Nat.zero_le _, rfl, h0, Keep1.refl _ _, hg⟩
  case round =>
    clear h0 hg hc
    obtain ⟨j, jl, rfl, hJs, hk, hg⟩ := hrel
    by_cases cj : j < ls.length
    · obtain ⟨r, hr⟩ : ∃ r, ls[j]? = some r := ⟨ls[j], List.getElem?_eq_getElem cj⟩
      obtain ⟨off, rfl, T⟩ := H3.out j r hr
      obtain ⟨t0, t1, t2, t3, t4, t5, t6, t7, t8, t9, t10⟩ := T.same hk
      have HS : Hid (ls.take (j + 1) = ls.take j ++ [r]) := by unfold Hid; rw [List.take_add_one, hr]; rfl
      have HPre : Hid (ls.take (j + 1) <+: ls) := List.take_prefix _ _
      have j0 : (0 : Int) ≤ (j : Int) := by omega
      have j1 : (j : Int) < (ls.length : Int) := by omega
      have hJ2 := HJ.out _ _ (.cells #[.string r.p, .string r.c, .int .i64 r.k, .int .i64 (r.s 0), .int .i64 (r.s 1), .int .i64 (r.s 2), .int .i64 (r.s 3), .int .i64 (r.s 4), .int .i64 (r.s 5), .int .i64 (r.s 6), .int .i64 (r.s 7)] 91) hJs
      have hk2 : Keep1 g W (wr.alloc (.cells #[.string r.p, .string r.c, .int .i64 r.k, .int .i64 (r.s 0), .int .i64 (r.s 1), .int .i64 (r.s 2), .int .i64 (r.s 3), .int .i64 (r.s 4), .int .i64 (r.s 5), .int .i64 (r.s 6), .int .i64 (r.s 7)] 91)) := hk.trans (keep1_alloc hg _)
      have hg2 : g < (wr.alloc (.cells #[.string r.p, .string r.c, .int .i64 r.k, .int .i64 (r.s 0), .int .i64 (r.s 1), .int .i64 (r.s 2), .int .i64 (r.s 3), .int .i64 (r.s 4), .int .i64 (r.s 5), .int .i64 (r.s 6), .int .i64 (r.s 7)] 91)).heap.size := by rw [World.size_alloc]; omega
      obtain ⟨fn, tmps, assign, body, hy, hR⟩ := hY _ r _ hJ2 (by rw [List.length_take]; omega)
      have q1 : Cs (wr.alloc (.cells #[.string r.p, .string r.c, .int .i64 r.k, .int .i64 (r.s 0), .int .i64 (r.s 1), .int .i64 (r.s 2), .int .i64 (r.s 3), .int .i64 (r.s 4), .int .i64 (r.s 5), .int .i64 (r.s 6), .int .i64 (r.s 7)] 91)) wr.heap.size (rowL r) := Cs.new _ _ _ _ rfl
      clear T hr hJs hJ2 hk hY HJ H3
      gi_wp2
      refine hR.mono ?_
      rintro e W3 (⟨rfl, hJ3, hk3⟩ | ⟨rfl, hJx3⟩)
      · have hJ4 : J (ls.take (j + 1)) W3 := by rw [HS.out]; exact hJ3
        have hg3 := keep1_lt hk3 hg2
        have hk4 := hk2.trans hk3
        clear hR q1 hy hg2 hk2 hk3 hJ3
        gi_wp2
        go_roundw
        case rel => exact ⟨j + 1, by omega, by simp, hJ4, hk4, hg3⟩
        case measure => simp [intOf]; omega
      · have hJ4 : Jx (ls.take (j + 1)) W3 := by rw [HS.out]; exact hJx3
        clear hR q1 hy hg2 hk2
        gi_wp2
        refine bodyPost_ret (results_none rfl _ _ _) rfl ?_
        exact ⟨⟨_, rfl⟩, .inr ⟨_, HPre.out, hJ4⟩⟩
    · obtain rfl : j = ls.length := by omega
      rw [List.take_length] at hJs
      gi_wp2
      go_end0
      exact ⟨⟨_, rfl⟩, .inl ⟨_, rfl, hJs⟩⟩

abbrev encR (x : Rw) : Array Value := #[ownV x.p x.c x.k, spV x.s]
/-- Over a table's rows: all of them, in order; or the first ones, where a round has said 'no more'. -/
theorem all_stops (n : Nat) (hn : 1 ≤ n) (Bn g : Nat) (v : Value) (ls : List Rw) (w : World) (hBn : Bn < w.heap.size) (hc : w.cell? ⟨Bn, 0, none⟩ = some v) (hR : RdW w v ls) (hI : InB v g ls) (hg : g < w.heap.size) :
    SeqStopsK Fence.wide n Try.prog 41 #[.pointer (some ⟨Bn, 0, none⟩)] encR (Keep1 g) (fun ys => ys = ls) (fun pre => pre <+: ls) (ls.length + 1) w := fun l J Jx W hW hJ _ hY h0 =>
  all1_in n hn l Bn g v ls J Jx W hJ hY ((hW.cell (p := ⟨Bn, 0, none⟩) hBn).trans hc) (hR.later hW) hI (Nat.lt_of_lt_of_le hg hW.size) h0

end Go.Proofs.Ytpefjcgccbfgbaa.Bk
