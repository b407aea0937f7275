/-
  Contracts of By, Left, Right over the numbers themselves, for the walk of WideBy; a variable of two words that is written later. Conditions: all words lie below 2^64.
  The contract of the document's own Parse at this program. Condition: the text's length is a machine word.
-/
import Derived.Test.YtpbgolcimbjekaaGreatDoorQ26
import Derived.Test.YtpbgolcimbjekaaGreatDoorQ32
import Derived.Test.YtpbgolcimbjekaaGreatDoorQ27
namespace Go.Proofs.YtpbgolcimbjekaaGreatDoor
open Go.RowKit

theorem words_can {h l V : Int} (m : Wok h l) (e : h * 18446744073709551616 + l = V) : h = wh V ∧ l = wl V := by
  have := fits_can (b := true) m (Or.inl ⟨rfl, e⟩)
  exact ⟨this.1, this.2.1⟩
theorem words_low (V : Int) (h0 : 0 ≤ V) (h1 : V < 18446744073709551616) : wh V = 0 ∧ wl V = V := by
  have := words_can (h := 0) (l := V) (V := V) ⟨by omega, by omega, h0, h1⟩ (by omega)
  exact ⟨this.1.symm, this.2.symm⟩
theorem by_wv (ah al u : Int) (w : World) (a0 : 0 ≤ al) (a1 : al < 18446744073709551616) (a2 : 0 ≤ ah) (a3 : ah < 18446744073709551616) (u0 : 0 ≤ u) (u1 : u < 18446744073709551616) (qh ql r : Int) (b : Bool)
    (hq : qh = if u = 0 then 0 else wh ((ah * 18446744073709551616 + al) / u)) (hl : ql = if u = 0 then 0 else wl ((ah * 18446744073709551616 + al) / u)) (hr : r = if u = 0 then 0 else (ah * 18446744073709551616 + al) % u) (hb : b = !decide (u = 0)) :
    Calls Tryz.prog 66 #[.agg #[.int .u64 ah, .int .u64 al], .int .u64 u] w fun e w' => e = .returned (.tuple #[.agg #[.int .u64 qh, .int .u64 ql], .int .u64 r, .bool b]) ∧ Below w.heap.size w w' := by
  by_cases h : u = 0
  · subst h
    rw [if_pos rfl] at hq hl hr
    subst hq hl hr hb
    exact by_zero ah al w
  · rw [if_neg h] at hq hl hr
    refine (by_any ah al u w a0 a1 a2 a3 (by omega) u1).mono ?_
    rintro e w' ⟨x, y, z, rfl, m, f, g, hb'⟩
    obtain ⟨rfl, rfl⟩ := words_can m f
    subst g hq hl hr hb
    exact ⟨by simp [h], hb'⟩

theorem left_wv (ah al n : Int) (w : World) (a0 : 0 ≤ al) (a1 : al < 18446744073709551616) (a2 : 0 ≤ ah) (a3 : ah < 18446744073709551616) (n1 : n ≤ 9223372036854775807) (x y : Int) (b : Bool)
    (hx : x = if n < 0 then 0 else wh ((ah * 18446744073709551616 + al) * 2 ^ n.toNat)) (hy : y = if n < 0 then 0 else wl ((ah * 18446744073709551616 + al) * 2 ^ n.toNat)) (hb : b = if n < 0 then false else wt ((ah * 18446744073709551616 + al) * 2 ^ n.toNat)) :
    Calls Tryz.prog 77 #[.agg #[.int .u64 ah, .int .u64 al], .int .i64 n] w fun e w' => e = .returned (.tuple #[.agg #[.int .u64 x, .int .u64 y], .bool b]) ∧ Below w.heap.size w w' := by
  by_cases h : n < 0
  · rw [if_pos h] at hx hy hb
    subst hx hy hb
    exact left_neg ah al n w h
  · rw [if_neg h] at hx hy hb
    refine (left_any ah al n w a0 a1 a2 a3 (by omega) n1).mono ?_
    rintro e w' ⟨x', y', b', rfl, m, f, hb'⟩
    obtain ⟨rfl, rfl, rfl⟩ := fits_can m f
    subst hx hy hb
    exact ⟨rfl, hb'⟩
theorem pow128 : (2 : Int) ^ 128 = 340282366920938463463374607431768211456 := by decide
theorem two_pow_mono {a b : Nat} (h : a ≤ b) : (2 : Int) ^ a ≤ 2 ^ b := by
  have := Nat.pow_le_pow_right (n := 2) (by omega) h
  have e : ∀ k : Nat, (2 : Int) ^ k = ((2 ^ k : Nat) : Int) := fun k => by simp
  rw [e, e]
  exact Int.ofNat_le.2 this
theorem shift_cut (A n : Int) (A0 : 0 ≤ A) (A1 : A < 340282366920938463463374607431768211456) (n0 : 0 ≤ n) : A / 2 ^ n.toNat = A / 2 ^ (max 0 (min n 128)).toNat := by
  by_cases h : n ≤ 128
  · rw [show max 0 (min n 128) = n by omega]
  · rw [show (max 0 (min n 128)).toNat = 128 by omega]
    have := two_pow_mono (a := 128) (b := n.toNat) (by omega)
    rw [pow128] at this ⊢
    rw [Int.ediv_eq_zero_of_lt A0 (by omega), Int.ediv_eq_zero_of_lt A0 A1]

theorem prod_wide (V u : Int) (v0 : 0 ≤ V) (v1 : V < 340282366920938463463374607431768211456) (u0 : 0 < u) (u1 : u < 340282366920938463463374607431768211456) : 0 ≤ V * u ∧ V * u < 65536 ^ 20 := by
  refine ⟨Int.mul_nonneg v0 (by omega), ?_⟩
  have : V * u ≤ 340282366920938463463374607431768211455 * 340282366920938463463374607431768211455 := Int.mul_le_mul (by omega) (by omega) (by omega) (by omega)
  have e := pow20
  omega
theorem left_out (ah al n : Int) (a0 : 0 ≤ al) (a2 : 0 ≤ ah) (hn : ¬ (0 ≤ n ∧ n < 128)) :
    (if n < 0 then 0 else wh ((ah * 18446744073709551616 + al) * 2 ^ n.toNat)) = 0 ∧ (if n < 0 then 0 else wl ((ah * 18446744073709551616 + al) * 2 ^ n.toNat)) = 0 ∧
      (if n < 0 then false else wt ((ah * 18446744073709551616 + al) * 2 ^ n.toNat)) = (decide (ah = 0 ∧ al = 0) && decide (0 ≤ n)) := by
  by_cases h : n < 0
  · rw [if_pos h, if_pos h, if_pos h]
    refine ⟨rfl, rfl, ?_⟩
    rw [decide_eq_false (p := 0 ≤ n) (by omega), Bool.and_false]
  · rw [if_neg h, if_neg h, if_neg h, decide_eq_true (p := 0 ≤ n) (by omega), Bool.and_true]
    by_cases z : ah = 0 ∧ al = 0
    · rw [decide_eq_true z, z.1, z.2]
      simp [wh, wl, wt]
    · have p : 1 ≤ ah * 18446744073709551616 + al := by omega
      have q := two_pow_mono (a := 128) (b := n.toNat) (by omega)
      rw [pow128] at q
      have : 1 * 340282366920938463463374607431768211456 ≤ (ah * 18446744073709551616 + al) * 2 ^ n.toNat := Int.mul_le_mul p q (by omega) (by omega)
      rw [decide_eq_false z]
      unfold wh wl wt
      have g : ¬ (ah * 18446744073709551616 + al) * 2 ^ n.toNat < 340282366920938463463374607431768211456 := by omega
      rw [if_neg g, if_neg g, decide_eq_false g]
      exact ⟨rfl, rfl, rfl⟩
theorem Kn.digits {w W : World} {ps : List (Nat × Int × Int)} {rs : List (Nat × Int)} (K : Kn w ps rs W) (V : Int) (t : TypeId) :
    Kn w ps ((W.heap.size, V) :: rs) ((W.alloc (.cells (Array.replicate 20 (.int .u64 0)) t)).setCells W.heap.size 0 (dl (wd V))) := by
  have n := (Num.zeros W t _ rfl).put V
  exact (K.later (below_cells W.heap.size (Nat.le_refl _) _ 0 ((Below.refl _ _).alloc (Nat.le_refl _) _))).range ⟨n.1, n.2.2⟩
theorem Kn.part {w W : World} {ps ps' : List (Nat × Int × Int)} {rs rs' : List (Nat × Int)} (K : Kn w ps rs W) (h1 : ∀ x ∈ ps', x ∈ ps) (h2 : ∀ x ∈ rs', x ∈ rs) : Kn w ps' rs' W :=
  ⟨fun x hx => K.1 x (h1 x hx), fun x hx => K.2.1 x (h2 x hx), K.2.2⟩
theorem Kn.one {w W : World} {p : Nat} {a b : Int} (k : Pair W p a b) (hz : w.heap.size ≤ W.heap.size) (hb : Below w.heap.size w W) : Kn w [(p, a, b)] [] W :=
  Kn.pair ⟨fun x hx => (by cases hx), fun x hx => (by cases hx), hz, hb⟩ k
theorem wpList_to {P : Program} {ops : Array Oper} {rest : List Oper} {a : Act} {Q : Exit → Act → World → Prop} {Pr : World → Prop} {W : World} (h : Pr W) (k : ∀ W, Pr W → wpList P ops Q rest a W) : wpList P ops Q rest a W := k W h
theorem wp_to {P : Program} {c : Code} {a : Act} {Q : Exit → Act → World → Prop} {Pr : World → Prop} {W : World} (h : Pr W) (k : ∀ W, Pr W → Code.wp P c Q a W) : Code.wp P c Q a W := k W h

/-- A variable of two words that may be written, beside what is known. -/
def PV (w : World) (ps : List (Nat × Int × Int)) (rs : List (Nat × Int)) (p : Nat) (x y : Int) (W : World) : Prop :=
  Kn w ps rs W ∧ Pair W p x y ∧ W.there p 0 2 ∧ (∀ q ∈ ps, q.1 ≠ p) ∧ (∀ q ∈ rs, q.1 ≠ p) ∧ w.heap.size ≤ p
section
variable {w W w1 : World} {ps : List (Nat × Int × Int)} {rs : List (Nat × Int)} {p : Nat} {x y : Int}
theorem PV.later (h : PV w ps rs p x y W) (hb : Below W.heap.size W w1) : PV w ps rs p x y w1 :=
  ⟨h.1.later hb, h.2.1.later hb, there_later h.2.2.1 hb h.2.1.2.2, h.2.2.2⟩
theorem PV.drew (h : PV w ps rs p x y W) : PV w ps rs p x y W.drew := ⟨h.1.drew, h.2.1, (World.there_drew _ _ _ _).2 h.2.2.1, h.2.2.2⟩
theorem PV.new (h : Kn w ps rs W) (x y : Int) (t : TypeId) : PV w ps rs W.heap.size x y (W.alloc (.cells #[.int .u64 x, .int .u64 y] t)) := by
  refine ⟨h.alloc _, ((h.new x y t).1 (W.heap.size, x, y) (by simp)), ?_, ?_, ?_, h.2.2.1⟩
  · intro j hj
    rcases (by omega : j = 0 ∨ j = 1) with rfl | rfl <;> simp [go_sem]
  · intro q hq; have := (h.1 q hq).2.2; omega
  · intro q hq; have := (h.2.1 q hq).2; omega
theorem PV.kn (h : PV w ps rs p x y W) : Kn w ((p, x, y) :: ps) rs W := h.1.pair h.2.1
theorem PV.store (h : PV w ps rs p x y W) (x' y' : Int) : PV w ps rs p x' y' (W.setCells p 0 [.int .u64 x', .int .u64 y']) := by
  obtain ⟨⟨k1, k2, k3, k4⟩, h2, h3, h4, h5, h6⟩ := h
  have r := World.rangeAt_setCells_same W p 0 [.int .u64 x', .int .u64 y'] h3
  refine ⟨⟨fun q hq => ?_, fun q hq => ⟨World.rangeAt_setCells_apart (k2 q hq).1 _ _ _ (Or.inl (h5 q hq)), by rw [size_cells]; exact (k2 q hq).2⟩, by rw [size_cells]; exact k3, below_cells _ h6 _ 0 k4⟩,
    pair_of r (by rw [size_cells]; exact h2.2.2), World.there_setCells h3 _ _ _, h4, h5, h6⟩
  obtain ⟨p0, p1, pz⟩ := k1 q hq
  exact ⟨cell_cells p _ p0 (h4 q hq), cell_cells p _ p1 (h4 q hq), by rw [size_cells]; exact pz⟩
end
theorem pv_wp_store {op : Oper} {a : Act} {Q : Exit → Act → World → Prop} {K : Act → World → Prop} {w W : World} {ps : List (Nat × Int × Int)} {rs : List (Nat × Int)} {p : Nat} {x y : Int} (h : PV w ps rs p x y W) (xo yo : Operand) (ho : op.op = .store 42 xo yo) (hd : op.dst = none) (hx : a.eval xo = .pointer (some ⟨p, 0, none⟩))
    (x' y' : Int) (hy : a.eval yo = .agg #[.int .u64 x', .int .u64 y']) (hk : K a (W.setCells p 0 [.int .u64 x', .int .u64 y'])) : op.wp Tryz.prog a W K Q :=
  wp_store_mid _ xo yo ho p 0 #[.int .u64 x', .int .u64 y'] hx hy h.2.2.1 wide_info (all_oneCell_toArray (two_each _ _)) (by rw [hd]; exact hk)
end Go.Proofs.YtpbgolcimbjekaaGreatDoor

namespace Go.Proofs.YtpbgolcimbjekaaGreatDoor
open Go.RowKit

theorem ten_dv : (.agg #[.int .u64 10, .int .u64 0, .int .u64 0, .int .u64 0, .int .u64 0, .int .u64 0, .int .u64 0, .int .u64 0, .int .u64 0, .int .u64 0, .int .u64 0, .int .u64 0, .int .u64 0, .int .u64 0, .int .u64 0, .int .u64 0, .int .u64 0, .int .u64 0, .int .u64 0, .int .u64 0] : Value) = dv 10 := by
  have : dl (wd 10) = [.int .u64 10, .int .u64 0, .int .u64 0, .int .u64 0, .int .u64 0, .int .u64 0, .int .u64 0, .int .u64 0, .int .u64 0, .int .u64 0, .int .u64 0, .int .u64 0, .int .u64 0, .int .u64 0, .int .u64 0, .int .u64 0, .int .u64 0, .int .u64 0, .int .u64 0, .int .u64 0] := rfl
  unfold dv
  rw [this]
theorem dig_dv (c : Int) (c0 : 0 ≤ c) (c1 : c < 65536) : (.agg #[.int .u64 c, .int .u64 0, .int .u64 0, .int .u64 0, .int .u64 0, .int .u64 0, .int .u64 0, .int .u64 0, .int .u64 0, .int .u64 0, .int .u64 0, .int .u64 0, .int .u64 0, .int .u64 0, .int .u64 0, .int .u64 0, .int .u64 0, .int .u64 0, .int .u64 0, .int .u64 0] : Value) = dv c := by
  have e0 : wd c 0 = c := by unfold wd; rw [Int.pow_zero, Int.ediv_one]; exact Int.emod_eq_of_lt c0 c1
  have e1 : ∀ i, wd c (i + 1) = 0 := by
    intro i
    unfold wd
    have p : (65536 : Int) ≤ 65536 ^ (i + 1) := by
      have := pow_pos16 i
      rw [Int.pow_succ]
      omega
    rw [Int.ediv_eq_zero_of_lt c0 (by omega)]
    rfl
  rw [dv_lit]
  rw [e0, e1, e1, e1, e1, e1, e1, e1, e1, e1, e1, e1, e1, e1, e1, e1, e1, e1, e1, e1]
/-- Two digits tell whether a number needs more than eight. -/
theorem over_eight (E : Int) (e0 : 0 ≤ E) (e1 : E < 340282366920938463463374607431768211456 * 4294967296) : (wd E 8 = 0 ∧ wd E 9 = 0) ↔ E < 340282366920938463463374607431768211456 := by
  unfold wd
  rw [show (65536 : Int) ^ 8 = 340282366920938463463374607431768211456 by decide, show (65536 : Int) ^ 9 = 340282366920938463463374607431768211456 * 65536 by decide]
  rw [← Int.ediv_ediv_of_nonneg (by omega)]
  have h1 : E / 340282366920938463463374607431768211456 < 4294967296 := Int.ediv_lt_of_lt_mul (by omega) (by omega)
  have h0 : 0 ≤ E / 340282366920938463463374607431768211456 := Int.ediv_nonneg e0 (by omega)
  omega

theorem not_long' (s : ByteArray) (k : Nat) (hlt : k < s.size) (D : Int) (fv : 340282366920938463463374607431768211456 ≤ D * 10 + ((s[k].toNat : Int) - 48))
    (hv : D = dval (s.data.toList.take k)) (ts : s.data.toList.take (k + 1) = s.data.toList.take k ++ [s[k]]) :
    ¬ (digs s.data.toList ∧ dval s.data.toList < 340282366920938463463374607431768211456) := by
  rintro ⟨hd, hv2⟩
  have e : dval (s.data.toList.take (k + 1)) = D * 10 + ((s[k].toNat : Int) - 48) := by rw [ts, dval_snoc, hv]
  have m := fold_mono (s.data.toList.drop (k + 1)) (dval (s.data.toList.take (k + 1))) (by omega) (fun c hc => hd c (List.mem_of_mem_drop hc))
  rw [← dval_append, List.take_append_drop] at m
  omega

theorem words_back (D : Int) (h1 : D < 340282366920938463463374607431768211456) : wh D * 18446744073709551616 + wl D = D := by
  unfold wh wl
  rw [if_pos h1, if_pos h1]
  omega
theorem fold_pow (l : List UInt8) : ∀ v : Int, 0 ≤ v → digs l → v * 10 ^ l.length ≤ l.foldl (fun v c => v * 10 + ((c.toNat : Int) - 48)) v := by
  induction l with
  | nil => intro v _ _; simp
  | cons c l ih =>
    intro v hv hd
    have hc := hd c (by simp)
    rw [List.foldl_cons, List.length_cons, Int.pow_succ]
    have h := ih (v * 10 + ((c.toNat : Int) - 48)) (by omega) (fun d h => hd d (by simp [h]))
    have p : (0 : Int) ≤ 10 ^ l.length := Int.pow_nonneg (by omega)
    have q : v * 10 * 10 ^ l.length ≤ (v * 10 + ((c.toNat : Int) - 48)) * 10 ^ l.length := Int.mul_le_mul_of_nonneg_right (by omega) p
    have e : v * (10 ^ l.length * 10) = v * 10 * 10 ^ l.length := by rw [Int.mul_comm (10 ^ l.length) 10, Int.mul_assoc]
    rw [e]
    exact Int.le_trans q h
theorem long_big (s : ByteArray) (hg : good s) (hl : 45 < s.size) (hv : dval s.data.toList < 340282366920938463463374607431768211456) : False := by
  obtain ⟨hd, -, hh⟩ := hg
  have hh := hh (by omega)
  have hn : s.data.toList.length = s.size := Array.length_toList
  generalize s.data.toList = l at *
  rcases l with _ | ⟨c, l⟩
  · simp at hn; omega
  · have hc := hd c (by simp)
    have h48 : ¬ c.toNat = 48 := fun e => hh (by simp [e])
    have f := fold_pow l ((c.toNat : Int) - 48) (by omega) (fun d h => hd d (by simp [h]))
    unfold dval at hv
    rw [List.foldl_cons, Int.zero_mul, Int.zero_add] at hv
    obtain ⟨m, hm⟩ : ∃ m, l.length = 45 + m := ⟨l.length - 45, by rw [List.length_cons] at hn; omega⟩
    rw [hm, Int.pow_add] at f
    have p : (1 : Int) ≤ 10 ^ m := by have : (0 : Int) < 10 ^ m := Int.pow_pos (by omega); omega
    have t : (1000000000000000000000000000000000000000000000 : Int) * 1 ≤ 10 ^ 45 * 10 ^ m := by rw [show (10 : Int) ^ 45 = 1000000000000000000000000000000000000000000000 by decide]; exact Int.mul_le_mul_of_nonneg_left p (by omega)
    have u : 1 * (10 ^ 45 * 10 ^ m) ≤ ((c.toNat : Int) - 48) * (10 ^ 45 * 10 ^ m) := Int.mul_le_mul_of_nonneg_right (by omega) (by omega)
    omega

/-- Two words and the digits behind them: a function's first two variables. -/
def Ps (w : World) (V x y : Int) (W : World) : Prop := PV w [] [] w.heap.size x y W ∧ Num W (w.heap.size + 1) V
section
variable {w W w1 : World} {V x y : Int}
theorem Ps.later (h : Ps w V x y W) (hb : Below W.heap.size W w1) : Ps w V x y w1 := ⟨h.1.later hb, h.2.later hb⟩
theorem Ps.drew (h : Ps w V x y W) : Ps w V x y W.drew := ⟨h.1.drew, h.2.drew⟩
theorem Ps.put (h : Ps w V x y W) (U : Int) : Ps w U x y (W.setCells (w.heap.size + 1) 0 (dl (wd U))) := by
  obtain ⟨⟨⟨k1, k2, k3, k4⟩, ⟨p0, p1, pz⟩, h3, h4, h5, h6⟩, n⟩ := h
  exact ⟨⟨⟨fun q hq => (by cases hq), fun q hq => (by cases hq), by rw [size_cells]; exact k3, below_cells _ (by omega) _ 0 k4⟩, ⟨cell_cells _ _ p0 (by omega), cell_cells _ _ p1 (by omega), by rw [size_cells]; exact pz⟩, World.there_setCells h3 _ _ _, h4, h5, h6⟩, n.put U⟩
theorem Ps.cells (h : Ps w V x y W) : W.cell? ⟨w.heap.size, 0, none⟩ = some (.int .u64 x) ∧ W.cell? ⟨w.heap.size, 1, none⟩ = some (.int .u64 y) ∧ W.frozen? ⟨w.heap.size, 0, none⟩ = false ∧ W.frozen? ⟨w.heap.size, 1, none⟩ = false ∧ w.heap.size < W.heap.size := by
  have t0 := (h.1.2.2.1 0 (by omega)).2
  have t1 := (h.1.2.2.1 1 (by omega)).2
  exact ⟨h.1.2.1.1, h.1.2.1.2.1, t0, t1, h.1.2.1.2.2⟩
theorem Ps.below (h : Ps w V x y W) : Below w.heap.size w W := h.1.1.2.2.2
theorem Ps.start (w : World) (t t' : TypeId) : Ps w 0 0 0 ((w.alloc (.cells #[.int .u64 0, .int .u64 0] t)).alloc (.cells (Array.replicate 20 (.int .u64 0)) t')) := by
  have k : Kn w [] [] w := ⟨fun q hq => (by cases hq), fun q hq => (by cases hq), Nat.le_refl _, Below.refl _ _⟩
  exact ⟨(PV.new k 0 0 t).later ((Below.refl _ _).alloc (Nat.le_refl _) _), Num.zeros _ t' _ (by simp)⟩
end

set_option maxHeartbeats 1000000 in
theorem rparse_empty (s : ByteArray) (w : World) (hz : s.size = 0) :
    Calls Tryz.prog 61 #[.string s] w fun e w' =>
      e = .returned (.tuple #[.agg #[.int .u64 0, .int .u64 0], .bool false]) ∧ Below w.heap.size w w' := by
  obtain rfl : s = ⟨#[]⟩ := by
    cases s with | mk d => simp [ByteArray.size] at hz; subst hz; rfl
  go_enter Tryz.func61, Tryz.ntmps61
  go_wp2
  go_returns
  exact ⟨rfl, by go_grown⟩
theorem not_empty (s : ByteArray) (hz : 0 < s.size) : s.toList.isEmpty = false := by
  have he1 : ¬ s.toList = [] := by
    rw [ByteArray.toList_eq]; intro h; have : s.data.toList.length = 0 := by rw [h]; rfl
    simp at this; simp [ByteArray.size, this] at hz
  simpa [List.isEmpty_iff] using he1

set_option maxHeartbeats 1000000 in
theorem rparse_long (s : ByteArray) (w : World) (hm : s.size ≤ maxLen) (hz : 45 < s.size) :
    Calls Tryz.prog 61 #[.string s] w fun e w' =>
      e = .returned (.tuple #[.agg #[.int .u64 0, .int .u64 0], .bool false]) ∧ Below w.heap.size w w' := by
  unfold maxLen at hm
  have he2 := not_empty s (by omega)
  go_enter Tryz.func61, Tryz.ntmps61
  go_wp2
  all_goals
    go_returns
    exact ⟨rfl, by go_grown⟩

set_option maxHeartbeats 1000000 in
theorem rparse_zero (s : ByteArray) (w : World) (hm : s.size ≤ 45) (hz : 1 < s.size) (h0 : s[0].toNat = 48) :
    Calls Tryz.prog 61 #[.string s] w fun e w' =>
      e = .returned (.tuple #[.agg #[.int .u64 0, .int .u64 0], .bool false]) ∧ Below w.heap.size w w' := by
  have he2 := not_empty s (by omega)
  go_enter Tryz.func61, Tryz.ntmps61
  go_wp2
  all_goals
    go_returns
    exact ⟨rfl, by go_grown⟩

set_option maxHeartbeats 8000000 in
set_option maxRecDepth 100000 in
theorem rparse_loop (s : ByteArray) (w : World) (hm : s.size ≤ 45) (hz : 0 < s.size) (h0 : 1 < s.size → ¬ s[0].toNat = 48) :
    Calls Tryz.prog 61 #[.string s] w fun e w' =>
      ∃ (h l : Int) (b : Bool), e = .returned (.tuple #[.agg #[.int .u64 h, .int .u64 l], .bool b]) ∧ Wok h l ∧
        ((b = true ∧ digs s.data.toList ∧ h * 18446744073709551616 + l = dval s.data.toList) ∨ (b = false ∧ h = 0 ∧ l = 0 ∧ ¬ (digs s.data.toList ∧ dval s.data.toList < 340282366920938463463374607431768211456))) ∧ Below w.heap.size w w' := by
  have he2 := not_empty s hz
  have hb0 : 1 < s.size → (((s[0].toNat : Nat) : Int) == 48) = false := by
    intro h; have := h0 h; simp only [beq_eq_false_iff_ne, ne_eq]; omega
  clear h0
  by_cases h2 : 1 < s.size
  all_goals
    try have h3 := hb0 h2
    clear hb0
    go_enter Tryz.func61, Tryz.ntmps61
    go_wp2_with (fail)
    go_loopw [5] (fun i wr => ∃ (k : Nat) (D : Int), k ≤ s.size ∧ i = .int .i64 k ∧ digs (s.data.toList.take k) ∧ Hid (0 ≤ D ∧ D < 340282366920938463463374607431768211456) ∧ Hid (D = dval (s.data.toList.take k)) ∧ Hid (Ps w D 0 0 wr)) (fun i _ => s.size - (intOf i).toNat)
    case atStart =>
      refine ⟨0, 0, Nat.zero_le _, rfl, ?_, ⟨by omega, by omega⟩, ?_, Ps.start w _ _⟩
      · intro c hc; simp at hc
      · unfold Hid; simp [dval]
    case round =>
      obtain ⟨k, D, hk, rfl, hdg, HD, HV, F⟩ := hrel
      by_cases hlt : k < s.size
      · have TS : Hid _ := take_snoc s k hlt
        have hmem : Hid (s[k] ∈ s.data.toList) := by unfold Hid; exact List.getElem_mem (l := s.data.toList) (n := k) (by simpa using hlt)
        have b8 : s[k].toNat < 256 := s[k].toNat_lt
        by_cases hd : 48 ≤ s[k].toNat ∧ s[k].toNat ≤ 57
        · obtain ⟨d0, d1⟩ := hd
          obtain ⟨c, hc⟩ : ∃ c : Int, c = (s[k].toNat : Int) - 48 := ⟨_, rfl⟩
          have EC : Hid (c = (s[k].toNat : Int) - 48) := hc
          have g0 : Hid (0 ≤ c) := by unfold Hid; omega
          have g1 : Hid (c < 65536) := by unfold Hid; omega
          clear hc
          go_upto_region 9 with (fail)
          refine wp_region_noPanic ?_
          refine wp_region_held_drew (S := fun _ => True) (by kernel_rfl) ?_ (fun hHeld => ?_)
          · exact trivial
          refine wpAnyH_take (i := 1) (v := ?_) rfl (by kernel_rfl) (by kernel_rfl) (by kernel_rfl) (fun _ _ _ h => h) (Or.inl ⟨by rfl, ?_⟩) (by assumption) ?_
          rotate_left
          · (intro wS hSw; (try dsimp only at hSw); go_simp; try with_reducible rfl)
          change wpAnyH _ _ _ _ _ _ _ (Act.put _ (some 42) _) _
          simp only [Act.put, List.setIfInBounds_toArray, List.set_cons_zero, List.set_cons_succ]
          refine wpAnyH_take (i := 3) (v := ?_) rfl (by kernel_rfl) (by kernel_rfl) (by kernel_rfl) (fun _ _ _ h => h) (Or.inl ⟨by rfl, ?_⟩) (by assumption) ?_
          rotate_left
          · (intro wS hSw; (try dsimp only at hSw); go_simp; try with_reducible rfl)
          change wpAnyH _ _ _ _ _ _ _ (Act.put _ (some 44) _) _
          simp only [Act.put, List.setIfInBounds_toArray, List.set_cons_zero, List.set_cons_succ]
          refine wpAnyH_take (i := 4) (v := ?_) rfl (by kernel_rfl) (by kernel_rfl) (by kernel_rfl) (fun _ _ _ h => h) (Or.inl ⟨by rfl, ?_⟩) (by assumption) ?_
          rotate_left
          · (intro wS hSw; (try dsimp only at hSw); go_simp; try with_reducible rfl)
          change wpAnyH _ _ _ _ _ _ _ (Act.put _ (some 45) _) _
          simp only [Act.put, List.setIfInBounds_toArray, List.set_cons_zero, List.set_cons_succ]
          refine wpAnyH_take (i := 5) (v := ?_) rfl (by kernel_rfl) (by kernel_rfl) (by kernel_rfl) (fun _ _ _ h => h) (Or.inl ⟨by rfl, ?_⟩) (by assumption) ?_
          rotate_left
          · (intro wS hSw; (try dsimp only at hSw); go_simp; try with_reducible rfl)
          change wpAnyH _ _ _ _ _ _ _ (Act.put _ (some 46) _) _
          simp only [Act.put, List.setIfInBounds_toArray, List.set_cons_zero, List.set_cons_succ]
          refine wpAnyH_take (i := 6) (v := ?_) rfl (by kernel_rfl) (by kernel_rfl) (by kernel_rfl) (fun _ _ _ h => h) (Or.inl ⟨by rfl, ?_⟩) (by assumption) ?_
          rotate_left
          · (intro wS hSw; (try dsimp only at hSw); go_simp; try with_reducible rfl)
          change wpAnyH _ _ _ _ _ _ _ (Act.put _ (some 47) _) _
          simp only [Act.put, List.setIfInBounds_toArray, List.set_cons_zero, List.set_cons_succ]
          refine wpAnyH_take (i := 7) (v := ?_) rfl (by kernel_rfl) (by kernel_rfl) (by kernel_rfl) (fun _ _ _ h => h) (Or.inl ⟨by rfl, ?_⟩) (by assumption) ?_
          rotate_left
          · (intro wS hSw; (try dsimp only at hSw); go_simp; try with_reducible rfl)
          change wpAnyH _ _ _ _ _ _ _ (Act.put _ (some 48) _) _
          simp only [Act.put, List.setIfInBounds_toArray, List.set_cons_zero, List.set_cons_succ]
          refine wpAnyH_take (i := 8) (v := ?_) rfl (by kernel_rfl) (by kernel_rfl) (by kernel_rfl) (fun _ _ _ h => h) (Or.inl ⟨by rfl, ?_⟩) (by assumption) ?_
          rotate_left
          · (intro wS hSw; (try dsimp only at hSw); go_simp; try with_reducible rfl)
          change wpAnyH _ _ _ _ _ _ _ (Act.put _ (some 49) _) _
          simp only [Act.put, List.setIfInBounds_toArray, List.set_cons_zero, List.set_cons_succ]
          rw [ten_dv, dig_wrap _ (by omega) (by omega), ← EC.out, dig_dv c g0.out g1.out]
          refine wpAnyH_named ?_
          intro A hA
          clear hHeld
          refine wpAnyH_inv (I := fun L a W => ∃ (c0 c2 c9 c10 : Bool) (s41 s43 s50 : Value), L = #[c0, true, c2, true, true, true, true, true, true, c9, c10] ∧ a = (((A.put (some 41) s41).put (some 43) s43).put (some 50) s50) ∧ Hid (Ps w (bif c10 then D * 10 + c else D) 0 0 W) ∧ Hid (c0 = true → s41 = dv D) ∧ Hid (c2 = true → s43 = dv (D * 10)) ∧ Hid (c9 = true → s50 = dv (D * 10 + c)) ∧ Hid (c10 = true → c0 = true)) ?hS ?hz (by kernel_rfl) ?hsteps ?hend _ _ _ _ (by decide) ?h0
          case hS => rintro L a W ⟨c0, c2, c9, c10, s41, s43, s50, -, -, K, -⟩; exact (fun h => h) (trivial)
          case hz => rintro L a W ⟨c0, c2, c9, c10, s41, s43, s50, rfl, -⟩; rfl
          case h0 => exact ⟨false, false, false, false, A.eval (.tmp 41), A.eval (.tmp 43), A.eval (.tmp 50), rfl, by simp only [put_self], F.out.drew, fun h => Bool.noConfusion h, fun h => Bool.noConfusion h, fun h => Bool.noConfusion h, fun h => Bool.noConfusion h⟩
          case hend =>
            rintro L a W ⟨c0, c2, c9, c10, s41, s43, s50, rfl, rfl, K, k0, k2, k9, o10_0⟩ hall
            obtain rfl : c0 = true := hall 0
            obtain rfl : c2 = true := hall 2
            obtain rfl : c9 = true := hall 9
            obtain rfl : c10 = true := hall 10
            obtain rfl := k0.out rfl
            obtain rfl := k2.out rfl
            obtain rfl := k9.out rfl
            clear k0 k2 k9 o10_0
            refine NoPanic.normal ?_
            subst hA
            simp only [Act.put, List.setIfInBounds_toArray, List.set_cons_zero, List.set_cons_succ]
            have F2 : Hid (Ps w (D * 10 + c) 0 0 W) := K
            clear K F
            obtain ⟨E, hE⟩ : ∃ E, E = D * 10 + c := ⟨_, rfl⟩
            have EE : Hid (E = D * 10 + c) := hE
            rw [← hE] at F2
            rw [← hE]
            clear hE
            have HE : Hid (0 ≤ E ∧ E < 340282366920938463463374607431768211456 * 4294967296) := by unfold Hid; rw [EE.out]; have := HD.out; have := g0.out; have := g1.out; omega
            have ov := over_eight E HE.out.1 HE.out.2
            have q8 := (F2.out.2.tab 8 (by omega)).1
            have q9 := (F2.out.2.tab 9 (by omega)).1
            have HB := F2.out.below
            obtain ⟨x0, x1, f0, f1, xz⟩ := F2.out.cells
            by_cases hv : E < 340282366920938463463374607431768211456
            · obtain ⟨e8, e9⟩ := ov.2 hv
              rw [e8] at q8
              rw [e9] at q9
              clear ov
              have hv' : Hid (0 ≤ E ∧ E < 340282366920938463463374607431768211456) := ⟨HE.out.1, hv⟩
              clear hv e8 e9
              go_wp2_with (fail)
              go_roundw
              case rel => exact ⟨k + 1, E, by omega, by go_num, by rw [TS.out]; exact digs_snoc hdg d0 d1, hv', by unfold Hid; rw [TS.out, dval_snoc, ← HV.out, ← EC.out]; exact EE.out, F2⟩
              case measure => simp [intOf]; omega
            · have NG : Hid (¬ (digs s.data.toList ∧ dval s.data.toList < 340282366920938463463374607431768211456)) := not_long' s k hlt D (by rw [← EC.out, ← EE.out]; omega) HV.out TS.out
              by_cases e8 : wd E 8 = 0
              · have e9 : ¬ wd E 9 = 0 := fun h => hv (ov.1 ⟨e8, h⟩)
                rw [e8] at q8
                have e9' : (wd E 9 == 0) = false := beq_eq_false_iff_ne.2 e9
                clear ov hv e8
                go_wp2
                refine bodyPost_ret (v := .tuple #[.agg #[.int .u64 0, .int .u64 0], .bool false]) (by simp [results, Tryz.results61, go_sem, x0, x1]) rfl ⟨_, _, _, rfl, ⟨by omega, by omega, by omega, by omega⟩, Or.inr ⟨rfl, rfl, rfl, NG.out⟩, by go_grown⟩
              · have e8' : (wd E 8 == 0) = false := beq_eq_false_iff_ne.2 e8
                clear ov hv
                go_wp2
                refine bodyPost_ret (v := .tuple #[.agg #[.int .u64 0, .int .u64 0], .bool false]) (by simp [results, Tryz.results61, go_sem, x0, x1]) rfl ⟨_, _, _, rfl, ⟨by omega, by omega, by omega, by omega⟩, Or.inr ⟨rfl, rfl, rfl, NG.out⟩, by go_grown⟩
          case hsteps =>
            clear F
            refine StepsI.cons (i := 0) rfl ?_ ?_
            · rintro L a W ⟨c0, c2, c9, c10, s41, s43, s50, rfl, rfl, K, k0, k2, k9, o10_0⟩ h0 hd KK hK
              obtain rfl : c0 = false := h0
              obtain rfl : c10 = false := by
                cases c10
                · rfl
                · exact absurd (o10_0.out rfl) (by decide)
              subst hA
              simp only [Act.put, List.setIfInBounds_toArray, List.set_cons_zero, List.set_cons_succ]
              clear hd
              rw [if_pos (by rfl)]
              refine num_wp_load (V := D) K.out.2 _ rfl (some 41) rfl rfl ?_
              exact hK.out _ _ ⟨true, c2, c9, false, dv D, s43, s50, rfl, by simp only [Act.put, List.setIfInBounds_toArray, List.set_cons_zero, List.set_cons_succ], K, fun _ => rfl, k2.out, k9.out, fun _ => rfl⟩
            refine StepsI.skip (i := 1) (by rintro L a W ⟨c0, c2, c9, c10, s41, s43, s50, rfl, -⟩; rfl) ?_
            refine StepsI.cons (i := 2) rfl ?_ ?_
            · rintro L a W ⟨c0, c2, c9, c10, s41, s43, s50, rfl, rfl, K, k0, k2, k9, o10_0⟩ h0 hd KK hK
              obtain rfl : c2 = false := h0
              obtain rfl : c0 = true := hd ⟨0, .data⟩ (by simp) rfl
              have e0 := k0.out rfl
              subst e0
              subst hA
              simp only [Act.put, List.setIfInBounds_toArray, List.set_cons_zero, List.set_cons_succ]
              clear hd
              go_simp
              refine (times_dv D 10 _ HD.out.1 HD.out.2 (by omega) (by omega)).mono ?_
              rintro e w2 ⟨rfl, hw2⟩
              (try go_wp2_with (fail))
              exact hK.out _ _ ⟨true, true, c9, c10, dv D, dv (D * 10), s50, rfl, by simp only [Act.put, List.setIfInBounds_toArray, List.set_cons_zero, List.set_cons_succ], K.out.later hw2, fun _ => rfl, fun _ => rfl, k9.out, fun _ => rfl⟩
            refine StepsI.skip (i := 3) (by rintro L a W ⟨c0, c2, c9, c10, s41, s43, s50, rfl, -⟩; rfl) ?_
            refine StepsI.skip (i := 4) (by rintro L a W ⟨c0, c2, c9, c10, s41, s43, s50, rfl, -⟩; rfl) ?_
            refine StepsI.skip (i := 5) (by rintro L a W ⟨c0, c2, c9, c10, s41, s43, s50, rfl, -⟩; rfl) ?_
            refine StepsI.skip (i := 6) (by rintro L a W ⟨c0, c2, c9, c10, s41, s43, s50, rfl, -⟩; rfl) ?_
            refine StepsI.skip (i := 7) (by rintro L a W ⟨c0, c2, c9, c10, s41, s43, s50, rfl, -⟩; rfl) ?_
            refine StepsI.skip (i := 8) (by rintro L a W ⟨c0, c2, c9, c10, s41, s43, s50, rfl, -⟩; rfl) ?_
            refine StepsI.cons (i := 9) rfl ?_ ?_
            · rintro L a W ⟨c0, c2, c9, c10, s41, s43, s50, rfl, rfl, K, k0, k2, k9, o10_0⟩ h0 hd KK hK
              obtain rfl : c9 = false := h0
              obtain rfl : c2 = true := hd ⟨2, .data⟩ (by simp) rfl
              have e2 := k2.out rfl
              subst e2
              subst hA
              simp only [Act.put, List.setIfInBounds_toArray, List.set_cons_zero, List.set_cons_succ]
              clear hd
              go_simp
              refine (plus_dv (D * 10) c _ (by have := HD.out; omega) g0.out (by have := HD.out; have := pow20; have := g1.out; omega)).mono ?_
              rintro e w2 ⟨rfl, hw2⟩
              (try go_wp2_with (fail))
              exact hK.out _ _ ⟨c0, true, true, c10, s41, dv (D * 10), dv (D * 10 + c), rfl, by simp only [Act.put, List.setIfInBounds_toArray, List.set_cons_zero, List.set_cons_succ], K.out.later hw2, k0.out, fun _ => rfl, fun _ => rfl, o10_0.out⟩
            refine StepsI.cons (i := 10) rfl ?_ ?_
            · rintro L a W ⟨c0, c2, c9, c10, s41, s43, s50, rfl, rfl, K, k0, k2, k9, o10_0⟩ h0 hd KK hK
              obtain rfl : c10 = false := h0
              obtain rfl : c9 = true := hd ⟨9, .data⟩ (by simp) rfl
              obtain rfl : c0 = true := hd ⟨0, .phase⟩ (by simp) rfl
              have e9 := k9.out rfl
              subst e9
              subst hA
              simp only [Act.put, List.setIfInBounds_toArray, List.set_cons_zero, List.set_cons_succ]
              clear hd
              rw [if_pos (by rfl)]
              refine num_wp_store K.out.2 _ _ rfl rfl rfl (D * 10 + c) rfl ?_
              exact hK.out _ _ ⟨true, c2, true, true, s41, s43, dv (D * 10 + c), rfl, by simp only [Act.put, List.setIfInBounds_toArray, List.set_cons_zero, List.set_cons_succ], K.out.put (D * 10 + c), k0.out, k2.out, fun _ => rfl, fun _ => rfl⟩
            exact StepsI.nil
        · have ND : Hid (¬ (48 ≤ s[k].toNat ∧ s[k].toNat ≤ 57)) := hd
          have HB := F.out.below
          obtain ⟨x0, x1, f0, f1, xz⟩ := F.out.cells
          have NG : Hid (¬ (digs s.data.toList ∧ dval s.data.toList < 340282366920938463463374607431768211456)) := fun hh => ND.out (hh.1 _ hmem.out)
          by_cases hlo : s[k].toNat < 48
          · clear hd
            go_wp2_with (fail)
            refine bodyPost_ret (v := .tuple #[.agg #[.int .u64 0, .int .u64 0], .bool false]) (by simp [results, Tryz.results61, go_sem, x0, x1]) rfl ⟨_, _, Or.inl ⟨rfl, ⟨by omega, by omega, by omega, by omega⟩, ⟨rfl, rfl, fun hd => Int.not_lt.1 (fun h => NG.out ⟨hd, h⟩)⟩, by go_grown⟩⟩
          · have hhi : 57 < s[k].toNat := by omega
            clear hd
            go_wp2_with (fail)
            refine bodyPost_ret (v := .tuple #[.agg #[.int .u64 0, .int .u64 0], .bool false]) (by simp [results, Tryz.results61, go_sem, x0, x1]) rfl ⟨_, _, _, rfl, ⟨by omega, by omega, by omega, by omega⟩, Or.inr ⟨rfl, rfl, rfl, NG.out⟩, by go_grown⟩
      · obtain rfl : k = s.size := by omega
        have TA : Hid (s.data.toList.take s.size = s.data.toList) := by unfold Hid; exact List.take_of_length_le (by rw [Array.length_toList]; exact Nat.le_refl _)
        rw [TA.out] at hdg HV
        go_upto_region 12 with (fail)
        refine wp_region_lit ?_
        refine num_load F.out.2 rfl _ rfl rfl ?_
        simp only [Act.put, List.setIfInBounds_toArray, List.set_cons_zero, List.set_cons_succ]
        go_wp2_with (fail)
        refine (wide_dv D _ HD.out.1 (by have := HD.out; have := pow20; omega)).mono ?_
        rintro e w2 ⟨rfl, hw2⟩
        have F2 := F.out.later hw2
        have HB := F2.below
        obtain ⟨x0, x1, f0, f1, xz⟩ := F2.cells
        clear hw2 F2
        go_wp2
        refine bodyPost_ret (v := .tuple #[.agg #[.int .u64 (wh D), .int .u64 (wl D)], .bool (wt D)]) (by simp [results, Tryz.results61, go_sem, x0, x1]) rfl ⟨_, _, _, rfl, wok_can D HD.out.1, Or.inl ⟨?_, hdg, ?_⟩, by go_grown⟩
        · unfold wt; exact decide_eq_true HD.out.2
        · rw [words_back D HD.out.2]; exact HV.out

/-- Parse: the number whose text it just is, and true; or 0, false. -/
theorem rparse_any (s : ByteArray) (w : World) (hm : s.size ≤ maxLen) :
    Calls Tryz.prog 61 #[.string s] w fun e w' =>
      ∃ (h l : Int) (b : Bool), e = .returned (.tuple #[.agg #[.int .u64 h, .int .u64 l], .bool b]) ∧ Wok h l ∧
        ((b = true ∧ good s ∧ h * 18446744073709551616 + l = dval s.data.toList) ∨ (b = false ∧ h = 0 ∧ l = 0 ∧ ¬ (good s ∧ dval s.data.toList < 340282366920938463463374607431768211456))) ∧ Below w.heap.size w w' := by
  by_cases hz : s.size = 0
  · refine (rparse_empty s w hz).mono ?_
    rintro e w' ⟨rfl, hb⟩
    exact ⟨_, _, _, rfl, ⟨by omega, by omega, by omega, by omega⟩, Or.inr ⟨rfl, rfl, rfl, fun hh => by have := hh.1.2.1; omega⟩, hb⟩
  · by_cases hl : 45 < s.size
    · refine (rparse_long s w hm hl).mono ?_
      rintro e w' ⟨rfl, hb⟩
      exact ⟨_, _, _, rfl, ⟨by omega, by omega, by omega, by omega⟩, Or.inr ⟨rfl, rfl, rfl, fun hh => long_big s hh.1 hl hh.2⟩, hb⟩
    · have hh : s.data.toList.head? = some s[0] := by
        have hl : s.data.toList.length = s.size := Array.length_toList
        rw [List.head?_eq_getElem?, List.getElem?_eq_getElem (by omega)]
        rfl
      by_cases h1 : 1 < s.size ∧ s[0].toNat = 48
      · refine (rparse_zero s w (by omega) h1.1 h1.2).mono ?_
        rintro e w' ⟨rfl, hb⟩
        refine ⟨_, _, _, rfl, ⟨by omega, by omega, by omega, by omega⟩, Or.inr ⟨rfl, rfl, rfl, fun hx => hx.1.2.2 h1.1 ?_⟩, hb⟩
        rw [hh, Option.map_some, h1.2]
      · have h2 : 1 < s.size → ¬ s[0].toNat = 48 := fun a b => h1 ⟨a, b⟩
        refine (rparse_loop s w (by omega) (by omega) h2).mono ?_
        rintro e w' ⟨h, l, b, rfl, m, f, hb⟩
        refine ⟨_, _, _, rfl, m, ?_, hb⟩
        rcases f with ⟨rfl, f1, f2⟩ | ⟨rfl, rfl, rfl, f⟩
        · refine Or.inl ⟨rfl, ⟨f1, by omega, fun a => ?_⟩, f2⟩
          rw [hh, Option.map_some]; intro hc; exact h2 a (by simpa using hc)
        · exact Or.inr ⟨rfl, rfl, rfl, fun hx => f ⟨hx.1.1, hx.2⟩⟩
end Go.Proofs.YtpbgolcimbjekaaGreatDoor
