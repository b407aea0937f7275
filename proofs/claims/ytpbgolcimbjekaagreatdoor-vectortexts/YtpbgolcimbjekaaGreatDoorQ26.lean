/-
  Contracts of the document's own answers for layer 1 at this program: Power; and a number's digits in a block. Conditions: n from 0 to 300.
  Contracts of the document's own answers for layer 1 at this program: By. Conditions: a number below 2^128, by one from 1 to 2^128.
  Numbers of twenty digits compared as a whole, at this program. Conditions: the numbers are not below 0 and have at most twenty digits.
-/
import Derived.Test.YtpbgolcimbjekaaGreatDoorQ25
import Derived.ChangeKeysEq
namespace Go.Proofs.YtpbgolcimbjekaaGreatDoor
open Go.RowKit

/-- A number's digits lie in a block, and may be written. -/
def Num (W : World) (b : Nat) (V : Int) : Prop := W.rangeAt b 0 (dl (wd V)) ∧ W.there b 0 20 ∧ b < W.heap.size
section
variable {W w1 : World} {b : Nat} {V : Int}
theorem Num.later (h : Num W b V) (hb : Below W.heap.size W w1) : Num w1 b V :=
  ⟨range_later h.1 hb h.2.2, there_later h.2.1 hb h.2.2, Nat.lt_of_lt_of_le h.2.2 hb.size⟩
theorem Num.alloc (h : Num W b V) (o : Obj) : Num (W.alloc o) b V := h.later ((Below.refl _ _).alloc (Nat.le_refl _) o)
theorem Num.drew (h : Num W b V) : Num W.drew b V := ⟨(World.rangeAt_drew _ _ _ _).2 h.1, (World.there_drew _ _ _ _).2 h.2.1, h.2.2⟩
theorem Num.put (h : Num W b V) (U : Int) : Num (W.setCells b 0 (dl (wd U))) b U :=
  ⟨World.rangeAt_setCells_same _ _ _ _ (by rw [dl_len]; exact h.2.1), World.there_setCells h.2.1 _ _ _, by rw [size_cells]; exact h.2.2⟩
theorem Num.beside (h : Num W b V) (b' : Nat) (vs : List Value) (hne : b ≠ b') : Num (W.setCells b' 0 vs) b V :=
  ⟨World.rangeAt_setCells_apart h.1 _ _ _ (Or.inl hne), World.there_setCells h.2.1 _ _ _, by rw [size_cells]; exact h.2.2⟩
theorem Num.of_tab {F : Nat → Int} (h : Tab W b F) (e : ∀ j, j < 20 → F j = wd V j) (hz : b < W.heap.size) : Num W b V := ⟨(h.congr e).range, h.there, hz⟩
theorem Num.zeros (W : World) (t : TypeId) (b : Nat) (hb : b = W.heap.size) : Num (W.alloc (.cells (Array.replicate 20 (.int .u64 0)) t)) b 0 :=
  Num.of_tab (Tab.zeros W t b hb) (fun j _ => by simp [wd]) (by simp [hb])
theorem Num.new (W : World) (V : Int) (t : TypeId) (b : Nat) (hb : b = W.heap.size) : Num (W.alloc (.cells (dl (wd V)).toArray t)) b V :=
  Num.of_tab (Tab.new_at W (wd V) t b hb) (fun j _ => rfl) (by simp [hb])
end
section
variable {ops : Array Oper} {rest : List Oper} {op : Oper} {a : Act} {w : World} {Q : Exit → Act → World → Prop} {b : Nat} {V : Int}
theorem num_load (h : Num w b V) (hgd : op.guard = none) (x : Operand) (ho : op.op = .load 63 x) (hx : a.eval x = .pointer (some ⟨b, 0, none⟩))
    (hk : wpList Tryz.prog ops Q rest (a.put op.dst (dv V)) w) : wpList Tryz.prog ops Q (op :: rest) a w :=
  wpList_load_mid hgd _ x ho b 0 hx (dl (wd V)) _ h.1 Tryz.underlying63 rfl (by rw [dl_len]; exact dig_info) hk
theorem num_wp_load {K : Act → World → Prop} (h : Num w b V) (x : Operand) (ho : op.op = .load 63 x) (d : Option Nat) (hd : op.dst = d) (hx : a.eval x = .pointer (some ⟨b, 0, none⟩))
    (hk : K (a.put d (dv V)) w) : op.wp Tryz.prog a w K Q := by
  subst hd
  exact wp_load_mid _ x ho b 0 hx (dl (wd V)) _ h.1 Tryz.underlying63 rfl (by rw [dl_len]; exact dig_info) hk
theorem num_wp_store {K : Act → World → Prop} (h : Num w b V) (x y : Operand) (ho : op.op = .store 63 x y) (hd : op.dst = none) (hx : a.eval x = .pointer (some ⟨b, 0, none⟩))
    (U : Int) (hy : a.eval y = dv U) (hk : K a (w.setCells b 0 (dl (wd U)))) : op.wp Tryz.prog a w K Q :=
  wp_store_mid _ x y ho b 0 (dl (wd U)).toArray hx hy (by rw [dl_size]; exact h.2.1) (by rw [dl_size]; exact dig_info) (dl_one _) (by rw [hd, List.toList_toArray]; exact hk)
theorem num_store (h : Num w b V) (hgd : op.guard = none) (x y : Operand) (ho : op.op = .store 63 x y) (hd : op.dst = none) (hx : a.eval x = .pointer (some ⟨b, 0, none⟩))
    (U : Int) (hy : a.eval y = dv U) (hk : wpList Tryz.prog ops Q rest a (w.setCells b 0 (dl (wd U)))) : wpList Tryz.prog ops Q (op :: rest) a w :=
  wpList_store_mid hgd _ x y ho b 0 (dl (wd U)).toArray hx hy (by rw [dl_size]; exact h.2.1) (by rw [dl_size]; exact dig_info) (dl_one _) (by rw [hd, List.toList_toArray]; exact hk)
end

/-- A function's own variables, one behind the other, hold these numbers; nothing older has turned. -/
def St (w : World) (rs : List Int) (W : World) : Prop := (∀ j V, rs[j]? = some V → Num W (w.heap.size + j) V) ∧ w.heap.size ≤ W.heap.size ∧ Below w.heap.size w W
section
variable {w W w1 : World} {rs : List Int}
theorem St.later (h : St w rs W) (hb : Below W.heap.size W w1) : St w rs w1 := ⟨fun j V e => (h.1 j V e).later hb, Nat.le_trans h.2.1 hb.size, h.2.2.trans (hb.mono h.2.1)⟩
theorem St.alloc (h : St w rs W) (o : Obj) : St w rs (W.alloc o) := h.later ((Below.refl _ _).alloc (Nat.le_refl _) o)
theorem St.drew (h : St w rs W) : St w rs W.drew := ⟨fun j V e => (h.1 j V e).drew, h.2.1, h.2.2.drew⟩
theorem St.get (h : St w rs W) (j : Nat) (V : Int) (e : rs[j]? = some V) : Num W (w.heap.size + j) V := h.1 j V e
theorem St.put (h : St w rs W) (j : Nat) (U : Int) (hj : j < rs.length) : St w (rs.set j U) (W.setCells (w.heap.size + j) 0 (dl (wd U))) := by
  refine ⟨fun i V e => ?_, by rw [size_cells]; exact h.2.1, below_cells _ (by omega) _ 0 h.2.2⟩
  rw [List.getElem?_set] at e
  by_cases c : j = i
  · subst c
    rw [if_pos rfl, if_pos hj] at e
    obtain rfl := Option.some.inj e
    exact (h.1 j rs[j] (List.getElem?_eq_getElem hj)).put _
  · rw [if_neg c] at e
    exact (h.1 i V e).beside _ _ (by omega)
theorem St.beside (h : St w rs W) (b : Nat) (vs : List Value) (hb : w.heap.size + rs.length ≤ b) : St w rs (W.setCells b 0 vs) := by
  refine ⟨fun i V e => ?_, by rw [size_cells]; exact h.2.1, below_cells _ (by omega) _ 0 h.2.2⟩
  have hi := (List.getElem?_eq_some_iff.1 e).1
  exact (h.1 i V e).beside _ _ (by omega)
theorem St.none (w : World) : St w [] w := ⟨fun j V e => (by simp at e), Nat.le_refl _, Below.refl _ _⟩
theorem St.with (h : St w rs W) (V : Int) (o : Obj) (hz : W.heap.size = w.heap.size + rs.length) (k : Num (W.alloc o) W.heap.size V) : St w (rs ++ [V]) (W.alloc o) := by
  refine ⟨fun i U e => ?_, (h.alloc o).2.1, (h.alloc o).2.2⟩
  by_cases c : i < rs.length
  · rw [List.getElem?_append_left c] at e; exact (h.alloc o).1 i U e
  · have hi := (List.getElem?_eq_some_iff.1 e).1
    simp at hi
    obtain rfl : i = rs.length := by omega
    simp at e
    subst e
    rw [← hz]; exact k
theorem St.zero (h : St w rs W) (hz : W.heap.size = w.heap.size + rs.length) (t : TypeId) : St w (rs ++ [0]) (W.alloc (.cells (Array.replicate 20 (.int .u64 0)) t)) := h.with 0 _ hz (Num.zeros W t _ rfl)
theorem St.box (h : St w rs W) (hz : W.heap.size = w.heap.size + rs.length) (V : Int) (t : TypeId) : St w (rs ++ [V]) (W.alloc (.cells (dl (wd V)).toArray t)) := h.with V _ hz (Num.new W V t _ rfl)
end
theorem one_dv : (.agg #[.int .u64 1, .int .u64 0, .int .u64 0, .int .u64 0, .int .u64 0, .int .u64 0, .int .u64 0, .int .u64 0, .int .u64 0, .int .u64 0, .int .u64 0, .int .u64 0, .int .u64 0, .int .u64 0, .int .u64 0, .int .u64 0, .int .u64 0, .int .u64 0, .int .u64 0, .int .u64 0] : Value) = dv 1 := by
  have : dl (wd 1) = [.int .u64 1, .int .u64 0, .int .u64 0, .int .u64 0, .int .u64 0, .int .u64 0, .int .u64 0, .int .u64 0, .int .u64 0, .int .u64 0, .int .u64 0, .int .u64 0, .int .u64 0, .int .u64 0, .int .u64 0, .int .u64 0, .int .u64 0, .int .u64 0, .int .u64 0, .int .u64 0] := rfl
  unfold dv
  rw [this]
theorem two_pow_below (k m : Nat) (hk : k < 16 * m) : (2 : Int) ^ k < 65536 ^ m := by
  have h1 := Nat.pow_lt_pow_right (a := 2) (by omega) hk
  rw [Nat.pow_mul] at h1
  have e : (65536 : Int) ^ m = (((2 ^ 16) ^ m : Nat) : Int) := by rw [Int.natCast_pow]; rfl
  rw [e, show (2 : Int) ^ k = ((2 ^ k : Nat) : Int) by simp]
  exact Int.ofNat_lt.2 h1
theorem two_pow_lt (k : Nat) (hk : k < 320) : (2 : Int) ^ k < 65536 ^ 20 := two_pow_below k 20 (by omega)
theorem two_pow_pos (k : Nat) : 0 < (2 : Int) ^ k := Int.pow_pos (by omega)
theorem two_pow_twice (k : Nat) : (2 : Int) ^ k + 2 ^ k = 2 ^ (k + 1) := by rw [Int.pow_succ]; omega

set_option maxHeartbeats 4000000 in
set_option maxRecDepth 100000 in
theorem power_dv (n : Nat) (w : World) (hn : n ≤ 300) :
    Calls Tryz.prog 47 #[.int .i64 n] w fun x w' => x = .returned (dv (2 ^ n)) ∧ Below w.heap.size w w' := by
  go_enter Tryz.func47, Tryz.ntmps47
  go_upto_region 1 with (fail)
  refine wp_region_lit ?_
  refine wpList_one fun K' hK' => ?_
  rw [if_pos (by rfl)]
  go_simp
  rw [one_dv]
  refine hK'.out _ _ ?_
  clear hK' K'
  refine wpList_one fun K' hK' => ?_
  rw [if_pos (by rfl)]
  go_simp
  refine hK'.out _ _ ?_
  clear hK' K'
  have F1 : Hid (St w [0, 0] _) := ((St.none w).zero rfl 63).zero (by simp) 63
  refine num_store (F1.out.get 1 0 rfl) rfl _ _ rfl rfl rfl 1 rfl ?_
  have F2 : Hid (St w [0, 1] _) := F1.out.put 1 1 (by simp)
  go_wp2_with (fail)
  go_loopw [4] (fun s4 wr => ∃ k : Nat, k ≤ n ∧ s4 = .int .i64 k ∧ Hid (St w [0, 2 ^ k] wr)) (fun s4 _ => n - (intOf s4).toNat)
  case atStart => exact ⟨0, by omega, rfl, F2⟩
  case round =>
    clear F1 F2
    obtain ⟨k, hk, rfl, F⟩ := hrel
    by_cases hlt : k < n
    · have m0 : (0 : Int) ≤ (k : Int) := by omega
      have m1 : (k : Int) < n := by omega
      have m2 : (k : Int) ≤ 300 := by omega
      go_upto_region 5 with (fail)
      refine wp_region_lit ?_
      refine num_load (F.out.get 1 _ rfl) rfl _ rfl rfl ?_
      simp only [Act.put, List.setIfInBounds_toArray, List.set_cons_zero, List.set_cons_succ]
      refine num_load (F.out.get 1 _ rfl) rfl _ rfl rfl ?_
      simp only [Act.put, List.setIfInBounds_toArray, List.set_cons_zero, List.set_cons_succ]
      refine wpList_one fun K' hK' => ?_
      rw [if_pos (by rfl)]
      go_simp
      have p0 := two_pow_pos k
      refine (plus_dv (2 ^ k) (2 ^ k) _ (by omega) (by omega) (by rw [two_pow_twice]; exact two_pow_lt _ (by omega))).mono ?_
      rintro e w2 ⟨rfl, hw2⟩
      rw [two_pow_twice]
      clear p0
      (try go_wp2_with (fail))
      refine hK'.out _ _ ?_
      clear hK' K'
      have F3 := F.out.later hw2
      refine num_store (F3.get 1 _ rfl) rfl _ _ rfl rfl rfl (2 ^ (k + 1)) rfl ?_
      have F4 : Hid (St w [0, 2 ^ (k + 1)] _) := F3.put 1 (2 ^ (k + 1)) (by simp)
      go_wp2_with (fail)
      go_roundw
      case rel => exact ⟨k + 1, by omega, by go_num, F4⟩
      case measure => simp [intOf]; omega
    · obtain rfl : k = n := by omega
      go_upto_region 6 with (fail)
      refine wp_region_lit ?_
      refine num_load (F.out.get 1 _ rfl) rfl _ rfl rfl ?_
      simp only [Act.put, List.setIfInBounds_toArray, List.set_cons_zero, List.set_cons_succ]
      refine num_store (F.out.get 0 _ rfl) rfl _ _ rfl rfl rfl (2 ^ k) rfl ?_
      have F5 : Hid (St w [2 ^ k, 2 ^ k] _) := F.out.put 0 (2 ^ k) (by simp)
      rw [Nat.add_zero] at F5 ⊢
      generalize World.setCells wr w.heap.size 0 (dl (wd (2 ^ k))) = W' at F5 ⊢
      clear F
      go_wp2_with (fail)
      refine bodyPost_ret (v := dv (2 ^ k)) ?_ rfl ⟨rfl, F5.out.2.2⟩
      have hl := run_loadVar_mid W' w.heap.size 0 63 (dl (wd (2 ^ k))) _ (F5.out.get 0 _ rfl).1 Tryz.underlying63 rfl (by rw [dl_len]; exact dig_info)
      simp [results, Tryz.results47, asAddr, hl, dv]
end Go.Proofs.YtpbgolcimbjekaaGreatDoor

namespace Go.Proofs.YtpbgolcimbjekaaGreatDoor
open Go.RowKit

theorem mul_pow_lt (U : Int) (k : Nat) (u0 : 0 < U) (u1 : U ≤ 340282366920938463463374607431768211456) (hk : k ≤ 130) : 0 < U * 2 ^ k ∧ U * 2 ^ k < 65536 ^ 20 := by
  have p := two_pow_pos k
  refine ⟨Int.mul_pos u0 p, ?_⟩
  have a : (2 : Int) ^ k < 65536 ^ 9 := two_pow_below k 9 (by omega)
  have b : U * 2 ^ k ≤ 340282366920938463463374607431768211456 * 65536 ^ 9 := Int.mul_le_mul u1 (by omega) (by omega) (by omega)
  refine Int.lt_of_le_of_lt b (by decide)
theorem mul_twice (U : Int) (k : Nat) : U * 2 ^ k + U * 2 ^ k = U * 2 ^ (k + 1) := by rw [← Int.mul_add, two_pow_twice]
theorem rest_small {U V Q D : Int} (u0 : 0 < U) (h : 0 ≤ D ∧ 0 ≤ Q ∧ Q * U + D = V) (v1 : V < 340282366920938463463374607431768211456) : D < 65536 ^ 20 := by
  have : 0 ≤ Q * U := Int.mul_nonneg h.2.1 (by omega)
  have e := pow20
  omega
theorem step_on {U V Q D P : Int} (k : Nat) (h : 0 ≤ D ∧ 0 ≤ Q ∧ Q * U + D = V) (hP : P = U * 2 ^ k) (hl : ¬ D < P) : 0 ≤ D - P ∧ 0 ≤ Q + 2 ^ k ∧ (Q + 2 ^ k) * U + (D - P) = V := by
  have p := two_pow_pos k
  refine ⟨by omega, by omega, ?_⟩
  rw [Int.add_mul, Int.mul_comm (2 ^ k) U, ← hP]
  omega
theorem step_lt {U D : Int} (k : Nat) (h : D < U * 2 ^ (k + 1)) : D - U * 2 ^ k < U * 2 ^ k := by
  have := mul_twice U k
  omega
theorem quo_small {U V Q : Int} (D : Int) (u0 : 0 < U) (d0 : 0 ≤ D) (e : Q * U + D = V) (v1 : V < 340282366920938463463374607431768211456) : Q < 340282366920938463463374607431768211456 := by
  refine Int.lt_of_not_ge fun h => ?_
  have : Q * 1 ≤ Q * U := Int.mul_le_mul_of_nonneg_left (by omega) (by omega)
  omega

set_option maxHeartbeats 8000000 in
set_option maxRecDepth 100000 in
theorem by_dv (V U : Int) (w : World) (v0 : 0 ≤ V) (v1 : V < 340282366920938463463374607431768211456) (u0 : 0 < U) (u1 : U ≤ 340282366920938463463374607431768211456) :
    Calls Tryz.prog 33 #[dv V, dv U] w fun x w' => x = .returned (.tuple #[dv (V / U), dv (V % U)]) ∧ Below w.heap.size w w' := by
  change Calls Tryz.prog 33 #[.agg (dl (wd V)).toArray, .agg (dl (wd U)).toArray] w _
  go_enter Tryz.func33, Tryz.ntmps33
  go_wp2_with (fail)
  have F0 : Hid (St w [V, U, 0, 0, 0] _) := (((((St.none w).box rfl V 63).box (by simp) U 63).zero (by simp) 63).zero (by simp) 63).zero (by simp) 63
  have H0 : Hid (V < U * 2 ^ 129) := by
    have : (1 : Int) * 2 ^ 129 ≤ U * 2 ^ 129 := Int.mul_le_mul_of_nonneg_right (by omega) (by decide)
    have e : (340282366920938463463374607431768211456 : Int) ≤ 1 * 2 ^ 129 := by decide
    exact Int.lt_of_lt_of_le v1 (Int.le_trans e this)
  go_loopw [7] (fun s7 wr => ∃ (D Q : Int), Hid (0 ≤ D ∧ 0 ≤ Q ∧ Q * U + D = V) ∧ Hid (St w [D, U, 0, 0, Q] wr) ∧
      ((∃ n : Nat, n ≤ 128 ∧ s7 = .int .i64 n ∧ Hid (D < U * 2 ^ (n + 1))) ∨ (s7 = .int .i64 (-1) ∧ Hid (D < U)))) (fun s7 _ => (intOf s7 + 1).toNat)
  case atStart => exact ⟨V, 0, ⟨v0, by omega, by omega⟩, F0, Or.inl ⟨128, by omega, rfl, H0⟩⟩
  case round =>
    clear F0 H0
    obtain ⟨D, Q, HE, F, ⟨n, hn, rfl, HD⟩ | ⟨rfl, HD⟩⟩ := hrel
    · have m0 : (0 : Int) ≤ (n : Int) := by omega
      have m1 : (n : Int) ≤ 128 := by omega
      go_upto_region 5 with (fail)
      refine wp_region_lit ?_
      refine num_load (F.out.get 1 _ rfl) rfl _ rfl rfl ?_
      simp only [Act.put, List.setIfInBounds_toArray, List.set_cons_zero, List.set_cons_succ]
      refine wpList_one fun K' hK' => ?_
      rw [if_pos (by rfl)]
      go_simp
      refine hK'.out _ _ ?_
      clear hK' K'
      have z := (F.out.get 4 _ rfl).2.2
      refine num_store (Num.zeros wr 63 _ rfl) rfl _ _ rfl rfl rfl U rfl ?_
      have G : Hid (Num _ wr.heap.size U) := (Num.zeros wr 63 _ rfl).put U
      have F1 : Hid (St w [D, U, 0, 0, Q] _) := (F.out.alloc (.cells (Array.replicate 20 (.int .u64 0)) 63)).beside wr.heap.size (dl (wd U)) (by simp only [List.length_cons, List.length_nil]; omega)
      go_wp2_with (fail)
      have hp : Hid (w.heap.size + 5 ≤ wr.heap.size) := z
      clear z F
      generalize wr.heap.size = p at *
      go_loopw [9] (fun s9 wq => ∃ k : Nat, k ≤ n ∧ s9 = .int .i64 k ∧ Hid (Num wq p (U * 2 ^ k)) ∧ Hid (St w [D, U, 0, 0, Q] wq)) (fun s9 _ => n - (intOf s9).toNat)
      case atStart => exact ⟨0, by omega, rfl, by rw [Int.pow_zero, Int.mul_one]; exact G, F1⟩
      case round =>
        clear G F1
        obtain ⟨k, hk, rfl, G, F⟩ := hrel
        by_cases hlt : k < n
        · have k0 : (0 : Int) ≤ (k : Int) := by omega
          have k1 : (k : Int) < n := by omega
          go_upto_region 9 with (fail)
          refine wp_region_lit ?_
          refine num_load G.out rfl _ rfl rfl ?_
          simp only [Act.put, List.setIfInBounds_toArray, List.set_cons_zero, List.set_cons_succ]
          refine num_load G.out rfl _ rfl rfl ?_
          simp only [Act.put, List.setIfInBounds_toArray, List.set_cons_zero, List.set_cons_succ]
          refine wpList_one fun K' hK' => ?_
          rw [if_pos (by rfl)]
          go_simp
          refine (plus_dv (U * 2 ^ k) (U * 2 ^ k) _ (by have := mul_pow_lt U k u0 u1 (by omega); omega) (by have := mul_pow_lt U k u0 u1 (by omega); omega) (by rw [mul_twice]; exact (mul_pow_lt U (k + 1) u0 u1 (by omega)).2)).mono ?_
          rintro e w2 ⟨rfl, hw2⟩
          rw [mul_twice]
          (try go_wp2_with (fail))
          refine hK'.out _ _ ?_
          clear hK' K'
          refine num_store (G.out.later hw2) rfl _ _ rfl rfl rfl (U * 2 ^ (k + 1)) rfl ?_
          have G2 : Hid (Num _ p (U * 2 ^ (k + 1))) := (G.out.later hw2).put (U * 2 ^ (k + 1))
          have F2 : Hid (St w [D, U, 0, 0, Q] _) := (F.out.later hw2).beside p (dl (wd (U * 2 ^ (k + 1)))) hp.out
          go_wp2_with (fail)
          go_roundw
          case rel => exact ⟨k + 1, by omega, by go_num, G2, F2⟩
          case measure => simp [intOf]; omega
        · obtain rfl : k = n := by omega
          go_upto_region 10 with (fail)
          refine wp_region_lit ?_
          refine num_load (F.out.get 0 _ rfl) rfl _ rfl rfl ?_
          simp only [Act.put, List.setIfInBounds_toArray, List.set_cons_zero, List.set_cons_succ]
          refine num_load G.out rfl _ rfl rfl ?_
          simp only [Act.put, List.setIfInBounds_toArray, List.set_cons_zero, List.set_cons_succ]
          go_wp2_with (fail)
          refine (less_dv D (U * 2 ^ k) _ HE.out.1 (rest_small u0 HE.out v1) (by have := mul_pow_lt U k u0 u1 (by omega); omega) (mul_pow_lt U k u0 u1 (by omega)).2).mono ?_
          rintro e w3 ⟨rfl, hw3⟩
          have F3 : Hid (St w [D, U, 0, 0, Q] w3) := F.out.later hw3
          have G3 : Hid (Num w3 p (U * 2 ^ k)) := G.out.later hw3
          clear F G hw3
          by_cases hl : D < U * 2 ^ k
          · rw [decide_eq_true hl]
            go_wp2_with (fail)
            go_roundw
            case rel =>
              refine ⟨D, Q, HE, F3, ?_⟩
              rcases k with _ | k
              · exact Or.inr ⟨by simp, by rw [Int.pow_zero, Int.mul_one] at hl; exact hl⟩
              · exact Or.inl ⟨k, by omega, by go_num, hl⟩
            case measure => simp [intOf]
          · rw [decide_eq_false hl]
            go_upto_region 11 with (fail)
            refine wp_region_lit ?_
            refine num_load (F3.out.get 0 _ rfl) rfl _ rfl rfl ?_
            simp only [Act.put, List.setIfInBounds_toArray, List.set_cons_zero, List.set_cons_succ]
            refine num_load G3.out rfl _ rfl rfl ?_
            simp only [Act.put, List.setIfInBounds_toArray, List.set_cons_zero, List.set_cons_succ]
            refine wpList_one fun K' hK' => ?_
            rw [if_pos (by rfl)]
            go_simp
            refine (minus_dv D (U * 2 ^ k) _ (by have := mul_pow_lt U k u0 u1 (by omega); omega) (by omega) (rest_small u0 HE.out v1)).mono ?_
            rintro e w4 ⟨rfl, hw4⟩
            (try go_wp2_with (fail))
            refine hK'.out _ _ ?_
            clear hK' K'
            have H2 : Hid (0 ≤ D - U * 2 ^ k ∧ 0 ≤ Q + 2 ^ k ∧ (Q + 2 ^ k) * U + (D - U * 2 ^ k) = V) := step_on k HE.out rfl (by omega)
            have H3 : Hid (D - U * 2 ^ k < U * 2 ^ k) := step_lt k HD.out
            have H4 : Hid (0 ≤ Q ∧ Q + 2 ^ k < 65536 ^ 20) := ⟨HE.out.2.1, by have := quo_small _ u0 H2.out.1 H2.out.2.2 v1; have := pow20; omega⟩
            refine num_store ((F3.out.later hw4).get 0 _ rfl) rfl _ _ rfl rfl rfl (D - U * 2 ^ k) rfl ?_
            have F4 : Hid (St w [D - U * 2 ^ k, U, 0, 0, Q] _) := (F3.out.later hw4).put 0 (D - U * 2 ^ k) (by simp)
            rw [Nat.add_zero] at F4 ⊢
            generalize D - U * 2 ^ k = D2 at F4 H2 H3 ⊢
            generalize World.setCells w4 w.heap.size 0 (dl (wd D2)) = w5 at F4 ⊢
            clear HE HD F3 G3 hw4 hl
            go_upto_region 12 with (fail)
            refine wp_region_noPanic ?_
            refine wp_region_held_drew (S := fun _ => True) (by kernel_rfl) trivial (fun hHeld => ?_)
            refine wpAnyH_named ?_
            intro A hA
            clear hHeld
            refine wpAnyH_inv (I := fun L a W => ∃ (c0 c1 c2 c3 c4 : Bool) (s30 s31 s32 s33 : Value), L = #[c0, c1, c2, c3, c4] ∧ a = ((((A.put (some 30) s30).put (some 31) s31).put (some 32) s32).put (some 33) s33) ∧ Hid (c4 = true → c0 = true) ∧ Hid (c0 = true → s30 = dv Q) ∧ Hid (c1 = true → s31 = .int .i64 k) ∧ Hid (c2 = true → s32 = dv (2 ^ k)) ∧ Hid (c3 = true → s33 = dv (Q + 2 ^ k)) ∧ Hid (St w [D2, U, 0, 0, bif c4 then Q + 2 ^ k else Q] W)) ?hS ?hz (by kernel_rfl) ?hsteps ?hend _ _ _ _ (by decide) ?h0
            case hS => intros; trivial
            case hz => rintro L a W ⟨c0, c1, c2, c3, c4, s30, s31, s32, s33, rfl, -⟩; rfl
            case h0 => exact ⟨false, false, false, false, false, A.eval (.tmp 30), A.eval (.tmp 31), A.eval (.tmp 32), A.eval (.tmp 33), rfl, by simp only [put_self], fun h => Bool.noConfusion h, fun h => Bool.noConfusion h, fun h => Bool.noConfusion h, fun h => Bool.noConfusion h, fun h => Bool.noConfusion h, F4.out.drew⟩
            case hend =>
              rintro L a W ⟨c0, c1, c2, c3, c4, s30, s31, s32, s33, rfl, rfl, i4, k0, k1, k2, k3, F⟩ hall
              obtain rfl : c0 = true := hall 0
              obtain rfl : c1 = true := hall 1
              obtain rfl : c2 = true := hall 2
              obtain rfl : c3 = true := hall 3
              obtain rfl : c4 = true := hall 4
              have F5 : Hid (St w [D2, U, 0, 0, Q + 2 ^ k] W) := F
              clear F F4 i4 k0 k1 k2 k3
              refine NoPanic.normal ?_
              subst hA
              simp only [Act.put, List.setIfInBounds_toArray, List.set_cons_zero, List.set_cons_succ]
              go_wp2_with (fail)
              go_roundw
              case rel =>
                refine ⟨D2, Q + 2 ^ k, H2, F5, ?_⟩
                rcases k with _ | k
                · exact Or.inr ⟨by simp, by have := H3.out; rw [Int.pow_zero, Int.mul_one] at this; exact this⟩
                · exact Or.inl ⟨k, by omega, by go_num, H3⟩
              case measure => simp [intOf]
            case hsteps =>
              clear F4
              refine StepsI.cons (i := 0) rfl ?_ ?_
              · rintro L a W ⟨c0, c1, c2, c3, c4, s30, s31, s32, s33, rfl, rfl, i4, k0, k1, k2, k3, F⟩ h0 hd KK hK
                obtain rfl : c0 = false := h0
                obtain rfl : c4 = false := by
                  cases c4
                  · rfl
                  · exact absurd (i4.out rfl) (by decide)
                subst hA
                simp only [Act.put, List.setIfInBounds_toArray, List.set_cons_zero, List.set_cons_succ]
                clear hd
                rw [if_pos (by rfl)]
                refine num_wp_load (F.out.get 4 Q rfl) _ rfl (some 30) rfl rfl ?_
                exact hK.out _ _ ⟨true, c1, c2, c3, false, dv Q, s31, s32, s33, rfl, by simp only [Act.put, List.setIfInBounds_toArray, List.set_cons_zero, List.set_cons_succ], fun _ => rfl, fun _ => rfl, k1.out, k2.out, k3.out, F⟩
              refine StepsI.cons (i := 1) rfl ?_ ?_
              · rintro L a W ⟨c0, c1, c2, c3, c4, s30, s31, s32, s33, rfl, rfl, i4, k0, k1, k2, k3, F⟩ h0 hd KK hK
                obtain rfl : c1 = false := h0
                subst hA
                simp only [Act.put, List.setIfInBounds_toArray, List.set_cons_zero, List.set_cons_succ]
                clear hd
                go_simp
                exact hK.out _ _ ⟨c0, true, c2, c3, c4, s30, .int .i64 k, s32, s33, rfl, by simp only [Act.put, List.setIfInBounds_toArray, List.set_cons_zero, List.set_cons_succ], i4.out, k0.out, fun _ => rfl, k2.out, k3.out, F⟩
              refine StepsI.cons (i := 2) rfl ?_ ?_
              · rintro L a W ⟨c0, c1, c2, c3, c4, s30, s31, s32, s33, rfl, rfl, i4, k0, k1, k2, k3, F⟩ h0 hd KK hK
                obtain rfl : c2 = false := h0
                obtain rfl : c1 = true := hd ⟨1, .data⟩ (by simp) rfl
                have e1 := k1.out rfl
                subst e1
                subst hA
                simp only [Act.put, List.setIfInBounds_toArray, List.set_cons_zero, List.set_cons_succ]
                clear hd
                go_simp
                refine (power_dv k _ (by omega)).mono ?_
                rintro e w2 ⟨rfl, hw2⟩
                (try go_wp2_with (fail))
                exact hK.out _ _ ⟨c0, true, true, c3, c4, s30, .int .i64 k, dv (2 ^ k), s33, rfl, by simp only [Act.put, List.setIfInBounds_toArray, List.set_cons_zero, List.set_cons_succ], i4.out, k0.out, fun _ => rfl, fun _ => rfl, k3.out, F.out.later hw2⟩
              refine StepsI.cons (i := 3) rfl ?_ ?_
              · rintro L a W ⟨c0, c1, c2, c3, c4, s30, s31, s32, s33, rfl, rfl, i4, k0, k1, k2, k3, F⟩ h0 hd KK hK
                obtain rfl : c3 = false := h0
                obtain rfl : c0 = true := hd ⟨0, .data⟩ (by simp) rfl
                obtain rfl : c2 = true := hd ⟨2, .data⟩ (by simp) rfl
                have e0 := k0.out rfl
                subst e0
                have e2 := k2.out rfl
                subst e2
                subst hA
                simp only [Act.put, List.setIfInBounds_toArray, List.set_cons_zero, List.set_cons_succ]
                clear hd
                go_simp
                refine (plus_dv Q (2 ^ k) _ H4.out.1 (by have := two_pow_pos k; omega) H4.out.2).mono ?_
                rintro e w2 ⟨rfl, hw2⟩
                (try go_wp2_with (fail))
                exact hK.out _ _ ⟨true, c1, true, true, c4, dv Q, s31, dv (2 ^ k), dv (Q + 2 ^ k), rfl, by simp only [Act.put, List.setIfInBounds_toArray, List.set_cons_zero, List.set_cons_succ], fun _ => rfl, fun _ => rfl, k1.out, fun _ => rfl, fun _ => rfl, F.out.later hw2⟩
              refine StepsI.cons (i := 4) rfl ?_ ?_
              · rintro L a W ⟨c0, c1, c2, c3, c4, s30, s31, s32, s33, rfl, rfl, i4, k0, k1, k2, k3, F⟩ h0 hd KK hK
                obtain rfl : c4 = false := h0
                obtain rfl : c3 = true := hd ⟨3, .data⟩ (by simp) rfl
                obtain rfl : c0 = true := hd ⟨0, .phase⟩ (by simp) rfl
                have e3 := k3.out rfl
                subst hA
                simp only [Act.put, List.setIfInBounds_toArray, List.set_cons_zero, List.set_cons_succ]
                clear hd
                rw [if_pos (by rfl)]
                refine num_wp_store (F.out.get 4 _ rfl) _ _ rfl rfl rfl (Q + 2 ^ k) e3 ?_
                exact hK.out _ _ ⟨true, c1, c2, true, true, s30, s31, s32, s33, rfl, by simp only [Act.put, List.setIfInBounds_toArray, List.set_cons_zero, List.set_cons_succ], fun _ => rfl, k0.out, k1.out, k2.out, k3.out, F.out.put 4 (Q + 2 ^ k) (by simp)⟩
              exact StepsI.nil
    · have HV : Hid (Q = V / U ∧ D = V % U) := by
        obtain ⟨d0, q0, e⟩ := HE.out
        have d1 := HD.out
        subst e
        have e1 : (Q * U + D) / U = Q := by rw [Int.add_comm, Int.add_mul_ediv_right _ _ (by omega), Int.ediv_eq_zero_of_lt d0 d1, Int.zero_add]
        have e2 : (Q * U + D) % U = D := by rw [Int.add_comm, Int.add_mul_emod_self_right, Int.emod_eq_of_lt d0 d1]
        exact ⟨e1.symm, e2.symm⟩
      go_upto_region 13 with (fail)
      refine wp_region_noPanic ?_
      refine wp_region_held_drew (S := fun _ => True) (by kernel_rfl) trivial (fun hHeld => ?_)
      refine wpAnyH_named ?_
      intro A hA
      clear hHeld
      refine wpAnyH_inv (I := fun L a W => ∃ (c0 c1 c2 c3 : Bool) (s34 s35 : Value), L = #[c0, c1, c2, c3] ∧ a = ((A.put (some 34) s34).put (some 35) s35) ∧ Hid (c0 = true → s34 = dv Q) ∧ Hid (c1 = true → s35 = dv D) ∧ Hid (St w [D, U, bif c2 then Q else 0, bif c3 then D else 0, Q] W)) ?hS ?hz (by kernel_rfl) ?hsteps ?hend _ _ _ _ (by decide) ?h0
      case hS => intros; trivial
      case hz => rintro L a W ⟨c0, c1, c2, c3, s34, s35, rfl, -⟩; rfl
      case h0 => exact ⟨false, false, false, false, A.eval (.tmp 34), A.eval (.tmp 35), rfl, by simp only [put_self], fun h => Bool.noConfusion h, fun h => Bool.noConfusion h, F.out.drew⟩
      case hend =>
        rintro L a W ⟨c0, c1, c2, c3, s34, s35, rfl, rfl, k0, k1, F'⟩ hall
        obtain rfl : c0 = true := hall 0
        obtain rfl : c1 = true := hall 1
        obtain rfl : c2 = true := hall 2
        obtain rfl : c3 = true := hall 3
        have F5 : Hid (St w [D, U, Q, D, Q] W) := F'
        clear F F'
        refine NoPanic.normal ?_
        subst hA
        simp only [Act.put, List.setIfInBounds_toArray, List.set_cons_zero, List.set_cons_succ]
        go_wp2_with (fail)
        refine bodyPost_ret (v := .tuple #[dv Q, dv D]) ?_ rfl ⟨by rw [HV.out.1, HV.out.2], F5.out.2.2⟩
        have hl := run_loadVar_mid W (w.heap.size + 2) 0 63 (dl (wd Q)) _ (F5.out.get 2 _ rfl).1 Tryz.underlying63 rfl (by rw [dl_len]; exact dig_info)
        have hm := run_loadVar_mid W (w.heap.size + 3) 0 63 (dl (wd D)) _ (F5.out.get 3 _ rfl).1 Tryz.underlying63 rfl (by rw [dl_len]; exact dig_info)
        simp [results, Tryz.results33, asAddr, hl, hm, dv]
      case hsteps =>
        clear F
        refine StepsI.cons (i := 0) rfl ?_ ?_
        · rintro L a W ⟨c0, c1, c2, c3, s34, s35, rfl, rfl, k0, k1, F'⟩ h0 hd KK hK
          obtain rfl : c0 = false := h0
          subst hA
          simp only [Act.put, List.setIfInBounds_toArray, List.set_cons_zero, List.set_cons_succ]
          clear hd
          rw [if_pos (by rfl)]
          refine num_wp_load (F'.out.get 4 _ rfl) _ rfl (some 34) rfl rfl ?_
          exact hK.out _ _ ⟨true, c1, c2, c3, dv Q, s35, rfl, by simp only [Act.put, List.setIfInBounds_toArray, List.set_cons_zero, List.set_cons_succ], fun _ => rfl, k1.out, F'⟩
        refine StepsI.cons (i := 1) rfl ?_ ?_
        · rintro L a W ⟨c0, c1, c2, c3, s34, s35, rfl, rfl, k0, k1, F'⟩ h0 hd KK hK
          obtain rfl : c1 = false := h0
          subst hA
          simp only [Act.put, List.setIfInBounds_toArray, List.set_cons_zero, List.set_cons_succ]
          clear hd
          rw [if_pos (by rfl)]
          refine num_wp_load (F'.out.get 0 _ rfl) _ rfl (some 35) rfl rfl ?_
          exact hK.out _ _ ⟨c0, true, c2, c3, s34, dv D, rfl, by simp only [Act.put, List.setIfInBounds_toArray, List.set_cons_zero, List.set_cons_succ], k0.out, fun _ => rfl, F'⟩
        refine StepsI.cons (i := 2) rfl ?_ ?_
        · rintro L a W ⟨c0, c1, c2, c3, s34, s35, rfl, rfl, k0, k1, F'⟩ h0 hd KK hK
          obtain rfl : c2 = false := h0
          obtain rfl : c0 = true := hd ⟨0, .data⟩ (by simp) rfl
          have e0 := k0.out rfl
          subst hA
          simp only [Act.put, List.setIfInBounds_toArray, List.set_cons_zero, List.set_cons_succ]
          clear hd
          rw [if_pos (by rfl)]
          refine num_wp_store (F'.out.get 2 _ rfl) _ _ rfl rfl rfl Q e0 ?_
          exact hK.out _ _ ⟨true, c1, true, c3, s34, s35, rfl, by simp only [Act.put, List.setIfInBounds_toArray, List.set_cons_zero, List.set_cons_succ], k0.out, k1.out, F'.out.put 2 Q (by simp)⟩
        refine StepsI.cons (i := 3) rfl ?_ ?_
        · rintro L a W ⟨c0, c1, c2, c3, s34, s35, rfl, rfl, k0, k1, F'⟩ h0 hd KK hK
          obtain rfl : c3 = false := h0
          obtain rfl : c1 = true := hd ⟨1, .data⟩ (by simp) rfl
          have e1 := k1.out rfl
          subst hA
          simp only [Act.put, List.setIfInBounds_toArray, List.set_cons_zero, List.set_cons_succ]
          clear hd
          rw [if_pos (by rfl)]
          refine num_wp_store (F'.out.get 3 _ rfl) _ _ rfl rfl rfl D e1 ?_
          exact hK.out _ _ ⟨c0, true, c2, true, s34, s35, rfl, by simp only [Act.put, List.setIfInBounds_toArray, List.set_cons_zero, List.set_cons_succ], k0.out, k1.out, F'.out.put 3 D (by simp)⟩
        exact StepsI.nil
end Go.Proofs.YtpbgolcimbjekaaGreatDoor

namespace Go.Proofs.YtpbgolcimbjekaaGreatDoor
open Go.RowKit

theorem Num.tab {W : World} {b : Nat} {V : Int} (h : Num W b V) : Tab W b (wd V) := fun j hj => by
  have r := h.1 j (.int .u64 (wd V j)) (by simp [dl, hj])
  have t := (h.2.1 j hj).2
  rw [Nat.zero_add] at r t
  exact ⟨r, t⟩
theorem wpList_to' {P : Program} {ops : Array Oper} {rest : List Oper} {a : Act} {Q : Exit → Act → World → Prop} {Pr : World → Prop} {W : World} (h : Pr W) (k : ∀ W, Pr W → wpList P ops Q rest a W) : wpList P ops Q rest a W := k W h
theorem zero_dv : (.agg #[.int .u64 0, .int .u64 0, .int .u64 0, .int .u64 0, .int .u64 0, .int .u64 0, .int .u64 0, .int .u64 0, .int .u64 0, .int .u64 0, .int .u64 0, .int .u64 0, .int .u64 0, .int .u64 0, .int .u64 0, .int .u64 0, .int .u64 0, .int .u64 0, .int .u64 0, .int .u64 0] : Value) = dv 0 := by
  have : dl (wd 0) = [.int .u64 0, .int .u64 0, .int .u64 0, .int .u64 0, .int .u64 0, .int .u64 0, .int .u64 0, .int .u64 0, .int .u64 0, .int .u64 0, .int .u64 0, .int .u64 0, .int .u64 0, .int .u64 0, .int .u64 0, .int .u64 0, .int .u64 0, .int .u64 0, .int .u64 0, .int .u64 0] := rfl
  unfold dv
  rw [this]
theorem dv_lit (V : Int) : dv V = .agg #[.int .u64 (wd V 0), .int .u64 (wd V 1), .int .u64 (wd V 2), .int .u64 (wd V 3), .int .u64 (wd V 4), .int .u64 (wd V 5), .int .u64 (wd V 6), .int .u64 (wd V 7), .int .u64 (wd V 8), .int .u64 (wd V 9), .int .u64 (wd V 10), .int .u64 (wd V 11), .int .u64 (wd V 12), .int .u64 (wd V 13), .int .u64 (wd V 14), .int .u64 (wd V 15), .int .u64 (wd V 16), .int .u64 (wd V 17), .int .u64 (wd V 18), .int .u64 (wd V 19)] := rfl
theorem run_eqDigs (F G : Nat → Int) (d : Nat) (w : World) : ∀ is : List Nat, (∀ i ∈ is, i < 20) →
    (Op.eqItems (d + 1) 40 1 (dl F).toArray (dl G).toArray is).run Tryz.prog w = .ok (is.all fun i => F i == G i) w := by
  intro is
  induction is with
  | nil => intro _; simp [Op.eqItems]
  | cons i is ih =>
    intro h
    have hi := h i (by simp)
    have ih := ih (fun j hj => h j (by simp [hj]))
    have p1 := run_part_plain (P := Tryz.prog) w (e := 40) (by kernel_rfl) (dl_get F i hi)
    have p2 := run_part_plain (P := Tryz.prog) w (e := 40) (by kernel_rfl) (dl_get G i hi)
    have p3 := run_equalIn_int (P := Tryz.prog) w d 40 .u64 .u64 (F i) (G i) Tryz.underlying40
    simp only [Op.eqItems, Nat.mul_one, Sem.run_bind, p1, p2, p3, Result.andThen_ok]
    cases e : F i == G i
    · simp [e]
    · simp [e, ih]
theorem run_equal_dl (F G : Nat → Int) (d : Nat) (w : World) :
    (Op.equalIn (d + 2) 63 (.agg (dl F).toArray) (.agg (dl G).toArray)).run Tryz.prog w = .ok ((List.range 20).all fun i => F i == G i) w := by
  rw [run_equalIn_array (P := Tryz.prog) w (d + 1) (dl F).toArray (dl G).toArray Tryz.underlying63 (i := (Tryz.prog.info? 40).get!) (by kernel_rfl)]
  rw [show Tryz.prog.cellsOf 40 = 1 by kernel_rfl]
  exact run_eqDigs F G d w (List.range 20) (fun i hi => List.mem_range.1 hi)
theorem all_dv (V U : Int) (v0 : 0 ≤ V) (v1 : V < 65536 ^ 20) (u0 : 0 ≤ U) (u1 : U < 65536 ^ 20) : ((List.range 20).all fun i => wd V i == wd U i) = decide (V = U) := by
  by_cases h : V = U
  · subst h; simp
  · rw [decide_eq_false h]
    cases e : (List.range 20).all fun i => wd V i == wd U i with
    | false => rfl
    | true =>
      refine absurd ?_ h
      have : sv (wd V) 20 = sv (wd U) 20 := sv_congr _ _ 20 (fun j hj => by simpa using (List.all_eq_true.1 e) j (List.mem_range.2 hj))
      rwa [sv_wd20 V v0 v1, sv_wd20 U u0 u1] at this
theorem run_equal_dv (V U : Int) (w : World) (v0 : 0 ≤ V) (v1 : V < 65536 ^ 20) (u0 : 0 ≤ U) (u1 : U < 65536 ^ 20) :
    (Op.equalIn 10000 63 (.agg (dl (wd V)).toArray) (.agg (dl (wd U)).toArray)).run Tryz.prog w = .ok (decide (V = U)) w := by
  rw [← all_dv V U v0 v1 u0 u1]
  exact run_equal_dl _ _ 9998 w

end Go.Proofs.YtpbgolcimbjekaaGreatDoor
