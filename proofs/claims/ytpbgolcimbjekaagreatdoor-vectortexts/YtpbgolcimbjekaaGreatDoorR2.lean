/-
  Contracts of By, Left, Right over the numbers themselves, for the walk of WideBy; a variable of two words that is written later. Conditions: all words lie below 2^64.
-/
import Derived.Test.YtpbgolcimbjekaaGreatDoorR1
namespace Go.Proofs.YtpbgolcimbjekaaGreatDoor
open Go.RowKit

theorem words_can {h l V : Int} (m : Wok h l) (e : h * 18446744073709551616 + l = V) : h = wh V ∧ l = wl V := by
  have := fits_can (b := true) m (Or.inl ⟨rfl, e⟩)
  exact ⟨this.1, this.2.1⟩
theorem words_low (V : Int) (h0 : 0 ≤ V) (h1 : V < 18446744073709551616) : wh V = 0 ∧ wl V = V := by
  have := words_can (h := 0) (l := V) (V := V) ⟨by omega, by omega, h0, h1⟩ (by omega)
  exact ⟨this.1.symm, this.2.symm⟩
theorem by_wv (ah al u : Int) (w : World) (a0 : 0 ≤ al) (a1 : al < 18446744073709551616) (a2 : 0 ≤ ah) (a3 : ah < 18446744073709551616) (u0 : 0 ≤ u) (u1 : u < 18446744073709551616) (qh ql r : Int) (b : Bool)
    (hq : qh = if u = 0 then 0 else wh ((ah * 18446744073709551616 + al) / u)) (hl : ql = if u = 0 then 0 else wl ((ah * 18446744073709551616 + al) / u)) (hr : r = if u = 0 then 0 else (ah * 18446744073709551616 + al) % u) (hb : b = !decide (u = 0)) :
    Calls Tryz.prog 66 #[.agg #[.int .u64 ah, .int .u64 al], .int .u64 u] w fun e w' => e = .returned (.tuple #[.agg #[.int .u64 qh, .int .u64 ql], .int .u64 r, .bool b]) ∧ Below w.heap.size w w' := by
  by_cases h : u = 0
  · subst h
    rw [if_pos rfl] at hq hl hr
    subst hq hl hr hb
    exact by_zero ah al w
  · rw [if_neg h] at hq hl hr
    refine (by_any ah al u w a0 a1 a2 a3 (by omega) u1).mono ?_
    rintro e w' ⟨x, y, z, rfl, m, f, g, hb'⟩
    obtain ⟨rfl, rfl⟩ := words_can m f
    subst g hq hl hr hb
    exact ⟨by simp [h], hb'⟩

theorem left_wv (ah al n : Int) (w : World) (a0 : 0 ≤ al) (a1 : al < 18446744073709551616) (a2 : 0 ≤ ah) (a3 : ah < 18446744073709551616) (n1 : n ≤ 9223372036854775807) (x y : Int) (b : Bool)
    (hx : x = if n < 0 then 0 else wh ((ah * 18446744073709551616 + al) * 2 ^ n.toNat)) (hy : y = if n < 0 then 0 else wl ((ah * 18446744073709551616 + al) * 2 ^ n.toNat)) (hb : b = if n < 0 then false else wt ((ah * 18446744073709551616 + al) * 2 ^ n.toNat)) :
    Calls Tryz.prog 77 #[.agg #[.int .u64 ah, .int .u64 al], .int .i64 n] w fun e w' => e = .returned (.tuple #[.agg #[.int .u64 x, .int .u64 y], .bool b]) ∧ Below w.heap.size w w' := by
  by_cases h : n < 0
  · rw [if_pos h] at hx hy hb
    subst hx hy hb
    exact left_neg ah al n w h
  · rw [if_neg h] at hx hy hb
    refine (left_any ah al n w a0 a1 a2 a3 (by omega) n1).mono ?_
    rintro e w' ⟨x', y', b', rfl, m, f, hb'⟩
    obtain ⟨rfl, rfl, rfl⟩ := fits_can m f
    subst hx hy hb
    exact ⟨rfl, hb'⟩
theorem pow128 : (2 : Int) ^ 128 = 340282366920938463463374607431768211456 := by decide
theorem two_pow_mono {a b : Nat} (h : a ≤ b) : (2 : Int) ^ a ≤ 2 ^ b := by
  have := Nat.pow_le_pow_right (n := 2) (by omega) h
  have e : ∀ k : Nat, (2 : Int) ^ k = ((2 ^ k : Nat) : Int) := fun k => by simp
  rw [e, e]
  exact Int.ofNat_le.2 this
theorem shift_cut (A n : Int) (A0 : 0 ≤ A) (A1 : A < 340282366920938463463374607431768211456) (n0 : 0 ≤ n) : A / 2 ^ n.toNat = A / 2 ^ (max 0 (min n 128)).toNat := by
  by_cases h : n ≤ 128
  · rw [show max 0 (min n 128) = n by omega]
  · rw [show (max 0 (min n 128)).toNat = 128 by omega]
    have := two_pow_mono (a := 128) (b := n.toNat) (by omega)
    rw [pow128] at this ⊢
    rw [Int.ediv_eq_zero_of_lt A0 (by omega), Int.ediv_eq_zero_of_lt A0 A1]

theorem prod_wide (V u : Int) (v0 : 0 ≤ V) (v1 : V < 340282366920938463463374607431768211456) (u0 : 0 < u) (u1 : u < 340282366920938463463374607431768211456) : 0 ≤ V * u ∧ V * u < 65536 ^ 20 := by
  refine ⟨Int.mul_nonneg v0 (by omega), ?_⟩
  have : V * u ≤ 340282366920938463463374607431768211455 * 340282366920938463463374607431768211455 := Int.mul_le_mul (by omega) (by omega) (by omega) (by omega)
  have e := pow20
  omega
theorem left_out (ah al n : Int) (a0 : 0 ≤ al) (a2 : 0 ≤ ah) (hn : ¬ (0 ≤ n ∧ n < 128)) :
    (if n < 0 then 0 else wh ((ah * 18446744073709551616 + al) * 2 ^ n.toNat)) = 0 ∧ (if n < 0 then 0 else wl ((ah * 18446744073709551616 + al) * 2 ^ n.toNat)) = 0 ∧
      (if n < 0 then false else wt ((ah * 18446744073709551616 + al) * 2 ^ n.toNat)) = (decide (ah = 0 ∧ al = 0) && decide (0 ≤ n)) := by
  by_cases h : n < 0
  · rw [if_pos h, if_pos h, if_pos h]
    refine ⟨rfl, rfl, ?_⟩
    rw [decide_eq_false (p := 0 ≤ n) (by omega), Bool.and_false]
  · rw [if_neg h, if_neg h, if_neg h, decide_eq_true (p := 0 ≤ n) (by omega), Bool.and_true]
    by_cases z : ah = 0 ∧ al = 0
    · rw [decide_eq_true z, z.1, z.2]
      simp [wh, wl, wt]
    · have p : 1 ≤ ah * 18446744073709551616 + al := by omega
      have q := two_pow_mono (a := 128) (b := n.toNat) (by omega)
      rw [pow128] at q
      have : 1 * 340282366920938463463374607431768211456 ≤ (ah * 18446744073709551616 + al) * 2 ^ n.toNat := Int.mul_le_mul p q (by omega) (by omega)
      rw [decide_eq_false z]
      unfold wh wl wt
      have g : ¬ (ah * 18446744073709551616 + al) * 2 ^ n.toNat < 340282366920938463463374607431768211456 := by omega
      rw [if_neg g, if_neg g, decide_eq_false g]
      exact ⟨rfl, rfl, rfl⟩
theorem Kn.digits {w W : World} {ps : List (Nat × Int × Int)} {rs : List (Nat × Int)} (K : Kn w ps rs W) (V : Int) (t : TypeId) :
    Kn w ps ((W.heap.size, V) :: rs) ((W.alloc (.cells (Array.replicate 20 (.int .u64 0)) t)).setCells W.heap.size 0 (dl (wd V))) := by
  have n := (Num.zeros W t _ rfl).put V
  exact (K.later (below_cells W.heap.size (Nat.le_refl _) _ 0 ((Below.refl _ _).alloc (Nat.le_refl _) _))).range ⟨n.1, n.2.2⟩
theorem Kn.part {w W : World} {ps ps' : List (Nat × Int × Int)} {rs rs' : List (Nat × Int)} (K : Kn w ps rs W) (h1 : ∀ x ∈ ps', x ∈ ps) (h2 : ∀ x ∈ rs', x ∈ rs) : Kn w ps' rs' W :=
  ⟨fun x hx => K.1 x (h1 x hx), fun x hx => K.2.1 x (h2 x hx), K.2.2⟩
theorem Kn.one {w W : World} {p : Nat} {a b : Int} (k : Pair W p a b) (hz : w.heap.size ≤ W.heap.size) (hb : Below w.heap.size w W) : Kn w [(p, a, b)] [] W :=
  Kn.pair ⟨fun x hx => (by cases hx), fun x hx => (by cases hx), hz, hb⟩ k
theorem wpList_to {P : Program} {ops : Array Oper} {rest : List Oper} {a : Act} {Q : Exit → Act → World → Prop} {Pr : World → Prop} {W : World} (h : Pr W) (k : ∀ W, Pr W → wpList P ops Q rest a W) : wpList P ops Q rest a W := k W h
theorem wp_to {P : Program} {c : Code} {a : Act} {Q : Exit → Act → World → Prop} {Pr : World → Prop} {W : World} (h : Pr W) (k : ∀ W, Pr W → Code.wp P c Q a W) : Code.wp P c Q a W := k W h

/-- A variable of two words that may be written, beside what is known. -/
def PV (w : World) (ps : List (Nat × Int × Int)) (rs : List (Nat × Int)) (p : Nat) (x y : Int) (W : World) : Prop :=
  Kn w ps rs W ∧ Pair W p x y ∧ W.there p 0 2 ∧ (∀ q ∈ ps, q.1 ≠ p) ∧ (∀ q ∈ rs, q.1 ≠ p) ∧ w.heap.size ≤ p
section
variable {w W w1 : World} {ps : List (Nat × Int × Int)} {rs : List (Nat × Int)} {p : Nat} {x y : Int}
theorem PV.later (h : PV w ps rs p x y W) (hb : Below W.heap.size W w1) : PV w ps rs p x y w1 :=
  ⟨h.1.later hb, h.2.1.later hb, there_later h.2.2.1 hb h.2.1.2.2, h.2.2.2⟩
theorem PV.drew (h : PV w ps rs p x y W) : PV w ps rs p x y W.drew := ⟨h.1.drew, h.2.1, (World.there_drew _ _ _ _).2 h.2.2.1, h.2.2.2⟩
theorem PV.new (h : Kn w ps rs W) (x y : Int) (t : TypeId) : PV w ps rs W.heap.size x y (W.alloc (.cells #[.int .u64 x, .int .u64 y] t)) := by
  refine ⟨h.alloc _, ((h.new x y t).1 (W.heap.size, x, y) (by simp)), ?_, ?_, ?_, h.2.2.1⟩
  · intro j hj
    rcases (by omega : j = 0 ∨ j = 1) with rfl | rfl <;> simp [go_sem]
  · intro q hq; have := (h.1 q hq).2.2; omega
  · intro q hq; have := (h.2.1 q hq).2; omega
theorem PV.kn (h : PV w ps rs p x y W) : Kn w ((p, x, y) :: ps) rs W := h.1.pair h.2.1
theorem PV.store (h : PV w ps rs p x y W) (x' y' : Int) : PV w ps rs p x' y' (W.setCells p 0 [.int .u64 x', .int .u64 y']) := by
  obtain ⟨⟨k1, k2, k3, k4⟩, h2, h3, h4, h5, h6⟩ := h
  have r := World.rangeAt_setCells_same W p 0 [.int .u64 x', .int .u64 y'] h3
  refine ⟨⟨fun q hq => ?_, fun q hq => ⟨World.rangeAt_setCells_apart (k2 q hq).1 _ _ _ (Or.inl (h5 q hq)), by rw [size_cells]; exact (k2 q hq).2⟩, by rw [size_cells]; exact k3, below_cells _ h6 _ 0 k4⟩,
    pair_of r (by rw [size_cells]; exact h2.2.2), World.there_setCells h3 _ _ _, h4, h5, h6⟩
  obtain ⟨p0, p1, pz⟩ := k1 q hq
  exact ⟨cell_cells p _ p0 (h4 q hq), cell_cells p _ p1 (h4 q hq), by rw [size_cells]; exact pz⟩
end
theorem pv_wp_store {op : Oper} {a : Act} {Q : Exit → Act → World → Prop} {K : Act → World → Prop} {w W : World} {ps : List (Nat × Int × Int)} {rs : List (Nat × Int)} {p : Nat} {x y : Int} (h : PV w ps rs p x y W) (xo yo : Operand) (ho : op.op = .store 42 xo yo) (hd : op.dst = none) (hx : a.eval xo = .pointer (some ⟨p, 0, none⟩))
    (x' y' : Int) (hy : a.eval yo = .agg #[.int .u64 x', .int .u64 y']) (hk : K a (W.setCells p 0 [.int .u64 x', .int .u64 y'])) : op.wp Tryz.prog a W K Q :=
  wp_store_mid _ xo yo ho p 0 #[.int .u64 x', .int .u64 y'] hx hy h.2.2.1 wide_info (all_oneCell_toArray (two_each _ _)) (by rw [hd]; exact hk)
end Go.Proofs.YtpbgolcimbjekaaGreatDoor
