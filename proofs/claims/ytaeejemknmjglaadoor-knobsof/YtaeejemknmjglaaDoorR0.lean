/-
  Contracts of the document's own answers for layer 1 at this program: Power; and a number's digits in a block. Conditions: n from 0 to 300.
-/
import Derived.Test.YtaeejemknmjglaaDoorX0
namespace Go.Proofs.YtaeejemknmjglaaDoor
open Go.RowKit

/-- A number's digits lie in a block, and may be written. -/
def Num (W : World) (b : Nat) (V : Int) : Prop := W.rangeAt b 0 (dl (wd V)) ∧ W.there b 0 20 ∧ b < W.heap.size
section
variable {W w1 : World} {b : Nat} {V : Int}
theorem Num.later (h : Num W b V) (hb : Below W.heap.size W w1) : Num w1 b V :=
  ⟨range_later h.1 hb h.2.2, there_later h.2.1 hb h.2.2, Nat.lt_of_lt_of_le h.2.2 hb.size⟩
theorem Num.alloc (h : Num W b V) (o : Obj) : Num (W.alloc o) b V := h.later ((Below.refl _ _).alloc (Nat.le_refl _) o)
theorem Num.drew (h : Num W b V) : Num W.drew b V := ⟨(World.rangeAt_drew _ _ _ _).2 h.1, (World.there_drew _ _ _ _).2 h.2.1, h.2.2⟩
theorem Num.put (h : Num W b V) (U : Int) : Num (W.setCells b 0 (dl (wd U))) b U :=
  ⟨World.rangeAt_setCells_same _ _ _ _ (by rw [dl_len]; exact h.2.1), World.there_setCells h.2.1 _ _ _, by rw [size_cells]; exact h.2.2⟩
theorem Num.beside (h : Num W b V) (b' : Nat) (vs : List Value) (hne : b ≠ b') : Num (W.setCells b' 0 vs) b V :=
  ⟨World.rangeAt_setCells_apart h.1 _ _ _ (Or.inl hne), World.there_setCells h.2.1 _ _ _, by rw [size_cells]; exact h.2.2⟩
theorem Num.of_tab {F : Nat → Int} (h : Tab W b F) (e : ∀ j, j < 20 → F j = wd V j) (hz : b < W.heap.size) : Num W b V := ⟨(h.congr e).range, h.there, hz⟩
theorem Num.zeros (W : World) (t : TypeId) (b : Nat) (hb : b = W.heap.size) : Num (W.alloc (.cells (Array.replicate 20 (.int .u64 0)) t)) b 0 :=
  Num.of_tab (Tab.zeros W t b hb) (fun j _ => by simp [wd]) (by simp [hb])
theorem Num.new (W : World) (V : Int) (t : TypeId) (b : Nat) (hb : b = W.heap.size) : Num (W.alloc (.cells (dl (wd V)).toArray t)) b V :=
  Num.of_tab (Tab.new_at W (wd V) t b hb) (fun j _ => rfl) (by simp [hb])
end
section
variable {ops : Array Oper} {rest : List Oper} {op : Oper} {a : Act} {w : World} {Q : Exit → Act → World → Prop} {b : Nat} {V : Int}
theorem num_load (h : Num w b V) (hgd : op.guard = none) (x : Operand) (ho : op.op = .load 88 x) (hx : a.eval x = .pointer (some ⟨b, 0, none⟩))
    (hk : wpList Tryd.prog ops Q rest (a.put op.dst (dv V)) w) : wpList Tryd.prog ops Q (op :: rest) a w :=
  wpList_load_mid hgd _ x ho b 0 hx (dl (wd V)) _ h.1 Tryd.underlying88 rfl (by rw [dl_len]; exact dig_info) hk
theorem num_wp_load {K : Act → World → Prop} (h : Num w b V) (x : Operand) (ho : op.op = .load 88 x) (d : Option Nat) (hd : op.dst = d) (hx : a.eval x = .pointer (some ⟨b, 0, none⟩))
    (hk : K (a.put d (dv V)) w) : op.wp Tryd.prog a w K Q := by
  subst hd
  exact wp_load_mid _ x ho b 0 hx (dl (wd V)) _ h.1 Tryd.underlying88 rfl (by rw [dl_len]; exact dig_info) hk
theorem num_wp_store {K : Act → World → Prop} (h : Num w b V) (x y : Operand) (ho : op.op = .store 88 x y) (hd : op.dst = none) (hx : a.eval x = .pointer (some ⟨b, 0, none⟩))
    (U : Int) (hy : a.eval y = dv U) (hk : K a (w.setCells b 0 (dl (wd U)))) : op.wp Tryd.prog a w K Q :=
  wp_store_mid _ x y ho b 0 (dl (wd U)).toArray hx hy (by rw [dl_size]; exact h.2.1) (by rw [dl_size]; exact dig_info) (dl_one _) (by rw [hd, List.toList_toArray]; exact hk)
theorem num_store (h : Num w b V) (hgd : op.guard = none) (x y : Operand) (ho : op.op = .store 88 x y) (hd : op.dst = none) (hx : a.eval x = .pointer (some ⟨b, 0, none⟩))
    (U : Int) (hy : a.eval y = dv U) (hk : wpList Tryd.prog ops Q rest a (w.setCells b 0 (dl (wd U)))) : wpList Tryd.prog ops Q (op :: rest) a w :=
  wpList_store_mid hgd _ x y ho b 0 (dl (wd U)).toArray hx hy (by rw [dl_size]; exact h.2.1) (by rw [dl_size]; exact dig_info) (dl_one _) (by rw [hd, List.toList_toArray]; exact hk)
end

/-- A function's own variables, one behind the other, hold these numbers; nothing older has turned. -/
def St (w : World) (rs : List Int) (W : World) : Prop := (∀ j V, rs[j]? = some V → Num W (w.heap.size + j) V) ∧ w.heap.size ≤ W.heap.size ∧ Below w.heap.size w W
section
variable {w W w1 : World} {rs : List Int}
theorem St.later (h : St w rs W) (hb : Below W.heap.size W w1) : St w rs w1 := ⟨fun j V e => (h.1 j V e).later hb, Nat.le_trans h.2.1 hb.size, h.2.2.trans (hb.mono h.2.1)⟩
theorem St.alloc (h : St w rs W) (o : Obj) : St w rs (W.alloc o) := h.later ((Below.refl _ _).alloc (Nat.le_refl _) o)
theorem St.drew (h : St w rs W) : St w rs W.drew := ⟨fun j V e => (h.1 j V e).drew, h.2.1, h.2.2.drew⟩
theorem St.get (h : St w rs W) (j : Nat) (V : Int) (e : rs[j]? = some V) : Num W (w.heap.size + j) V := h.1 j V e
theorem St.put (h : St w rs W) (j : Nat) (U : Int) (hj : j < rs.length) : St w (rs.set j U) (W.setCells (w.heap.size + j) 0 (dl (wd U))) := by
  refine ⟨fun i V e => ?_, by rw [size_cells]; exact h.2.1, below_cells _ (by omega) _ 0 h.2.2⟩
  rw [List.getElem?_set] at e
  by_cases c : j = i
  · subst c
    rw [if_pos rfl, if_pos hj] at e
    obtain rfl := Option.some.inj e
    exact (h.1 j rs[j] (List.getElem?_eq_getElem hj)).put _
  · rw [if_neg c] at e
    exact (h.1 i V e).beside _ _ (by omega)
theorem St.beside (h : St w rs W) (b : Nat) (vs : List Value) (hb : w.heap.size + rs.length ≤ b) : St w rs (W.setCells b 0 vs) := by
  refine ⟨fun i V e => ?_, by rw [size_cells]; exact h.2.1, below_cells _ (by omega) _ 0 h.2.2⟩
  have hi := (List.getElem?_eq_some_iff.1 e).1
  exact (h.1 i V e).beside _ _ (by omega)
theorem St.none (w : World) : St w [] w := ⟨fun j V e => (by simp at e), Nat.le_refl _, Below.refl _ _⟩
theorem St.with (h : St w rs W) (V : Int) (o : Obj) (hz : W.heap.size = w.heap.size + rs.length) (k : Num (W.alloc o) W.heap.size V) : St w (rs ++ [V]) (W.alloc o) := by
  refine ⟨fun i U e => ?_, (h.alloc o).2.1, (h.alloc o).2.2⟩
  by_cases c : i < rs.length
  · rw [List.getElem?_append_left c] at e; exact (h.alloc o).1 i U e
  · have hi := (List.getElem?_eq_some_iff.1 e).1
    simp at hi
    obtain rfl : i = rs.length := by omega
    simp at e
    subst e
    rw [← hz]; exact k
theorem St.zero (h : St w rs W) (hz : W.heap.size = w.heap.size + rs.length) (t : TypeId) : St w (rs ++ [0]) (W.alloc (.cells (Array.replicate 20 (.int .u64 0)) t)) := h.with 0 _ hz (Num.zeros W t _ rfl)
theorem St.box (h : St w rs W) (hz : W.heap.size = w.heap.size + rs.length) (V : Int) (t : TypeId) : St w (rs ++ [V]) (W.alloc (.cells (dl (wd V)).toArray t)) := h.with V _ hz (Num.new W V t _ rfl)
end
theorem one_dv : (.agg #[.int .u64 1, .int .u64 0, .int .u64 0, .int .u64 0, .int .u64 0, .int .u64 0, .int .u64 0, .int .u64 0, .int .u64 0, .int .u64 0, .int .u64 0, .int .u64 0, .int .u64 0, .int .u64 0, .int .u64 0, .int .u64 0, .int .u64 0, .int .u64 0, .int .u64 0, .int .u64 0] : Value) = dv 1 := by
  have : dl (wd 1) = [.int .u64 1, .int .u64 0, .int .u64 0, .int .u64 0, .int .u64 0, .int .u64 0, .int .u64 0, .int .u64 0, .int .u64 0, .int .u64 0, .int .u64 0, .int .u64 0, .int .u64 0, .int .u64 0, .int .u64 0, .int .u64 0, .int .u64 0, .int .u64 0, .int .u64 0, .int .u64 0] := rfl
  unfold dv
  rw [this]
theorem two_pow_below (k m : Nat) (hk : k < 16 * m) : (2 : Int) ^ k < 65536 ^ m := by
  have h1 := Nat.pow_lt_pow_right (a := 2) (by omega) hk
  rw [Nat.pow_mul] at h1
  have e : (65536 : Int) ^ m = (((2 ^ 16) ^ m : Nat) : Int) := by rw [Int.natCast_pow]; rfl
  rw [e, show (2 : Int) ^ k = ((2 ^ k : Nat) : Int) by simp]
  exact Int.ofNat_lt.2 h1
theorem two_pow_lt (k : Nat) (hk : k < 320) : (2 : Int) ^ k < 65536 ^ 20 := two_pow_below k 20 (by omega)
theorem two_pow_pos (k : Nat) : 0 < (2 : Int) ^ k := Int.pow_pos (by omega)
theorem two_pow_twice (k : Nat) : (2 : Int) ^ k + 2 ^ k = 2 ^ (k + 1) := by rw [Int.pow_succ]; omega

end Go.Proofs.YtaeejemknmjglaaDoor
