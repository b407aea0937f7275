/-
  Package wide's contracts over the number that two words are ('Is h l a'), at this program, and a number's digits as a list of letters. Conditions: as each names them.
  Contracts of package amount's functions on numbers, at this program: so many units or thousandths, whether it is an amount, rounding up. Conditions: as each names them.
  A region that draws its order, walked by one condition on what has come up, the frame and the world: one step for each operation, whatever the orders are. No condition on the program.
-/
import Derived.Test.YtpbgolcimbjekaaGreatDoorQ03
import Derived.Deep.RegionWith
import Derived.Deep.CutRange
import Derived.Deep.DeepCutAuto
import Derived.Deep.RegionHeld3
import Derived.Deep.MidRow
namespace Go.Proofs.YtpbgolcimbjekaaGreatDoor
open Go.RowKit

/-- Two words are the number a. -/
structure Is (h l : Int) (a : Nat) : Prop where
  h0 : 0 ≤ h
  h1 : h < 18446744073709551616
  l0 : 0 ≤ l
  l1 : l < 18446744073709551616
  eq : h * 18446744073709551616 + l = (a : Int)

theorem Is.lt {h l : Int} {a : Nat} (i : Is h l a) : a < 340282366920938463463374607431768211456 := by
  obtain ⟨h0, h1, l0, l1, e⟩ := i
  omega
theorem Is.zero : Is 0 0 0 := ⟨by omega, by omega, by omega, by omega, by omega⟩
theorem Is.small {u : Int} {a : Nat} (e : u = (a : Int)) (h : a < 18446744073709551616) : Is 0 u a := ⟨by omega, by omega, by omega, by omega, by omega⟩
theorem Is.det {h l h' l' : Int} {a : Nat} (i : Is h l a) (j : Is h' l' a) : h = h' ∧ l = l' := by
  obtain ⟨h0, h1, l0, l1, e⟩ := i
  obtain ⟨k0, k1, m0, m1, f⟩ := j
  omega
theorem Is.nought {h l : Int} {a : Nat} (i : Is h l a) : (h = 0 ∧ l = 0) ↔ a = 0 := by
  obtain ⟨h0, h1, l0, l1, e⟩ := i
  omega
theorem Is.of {h l : Int} {a : Nat} {V : Int} (k : Wok h l) (e : h * 18446744073709551616 + l = V) (f : V = (a : Int)) : Is h l a := by
  obtain ⟨h0, h1, l0, l1⟩ := k
  exact ⟨h0, h1, l0, l1, e.trans f⟩
theorem Is.words {h l : Int} {a : Nat} (i : Is h l a) : h = ((a / 18446744073709551616 : Nat) : Int) ∧ l = ((a % 18446744073709551616 : Nat) : Int) := by
  obtain ⟨h0, h1, l0, l1, e⟩ := i
  omega

/-- The number v and true, if it has two words; else nothing and false. -/
def FitsN (h l : Int) (b : Bool) (v : Nat) : Prop := (b = true ∧ Is h l v) ∨ (b = false ∧ h = 0 ∧ l = 0 ∧ 340282366920938463463374607431768211456 ≤ v)
theorem FitsN.of {h l : Int} {b : Bool} {V : Int} {v : Nat} (k : Wok h l) (f : Fits h l b V) (e : V = (v : Int)) : FitsN h l b v := by
  rcases f with ⟨rfl, f⟩ | ⟨rfl, rfl, rfl, f⟩
  · exact Or.inl ⟨rfl, Is.of k f e⟩
  · exact Or.inr ⟨rfl, rfl, rfl, by omega⟩
theorem FitsN.ok {h l : Int} {b : Bool} {v : Nat} (f : FitsN h l b v) (hv : v < 340282366920938463463374607431768211456) : b = true ∧ Is h l v := by
  rcases f with f | ⟨_, _, _, f⟩
  · exact f
  · omega

/-- Two words lie in a block, and may be written. -/
def Box (W : World) (b : Nat) (h l : Int) : Prop := W.cell? ⟨b, 0, none⟩ = some (.int .u64 h) ∧ W.cell? ⟨b, 1, none⟩ = some (.int .u64 l) ∧ W.frozen? ⟨b, 0, none⟩ = false ∧ W.frozen? ⟨b, 1, none⟩ = false ∧ b < W.heap.size
theorem Box.later {W w1 : World} {b : Nat} {h l : Int} (hb : Below W.heap.size W w1) (k : Box W b h l) : Box w1 b h l := by
  obtain ⟨c0, c1, f0, f1, z⟩ := k
  have := hb.size
  obtain ⟨_, hf⟩ := bcell hb
  exact ⟨cell_later hb c0, cell_later hb c1, (hf _ _ z).trans f0, (hf _ _ z).trans f1, by omega⟩

theorem Box.alloc {W : World} {b : Nat} {h l : Int} (k : Box W b h l) (o : Obj) : Box (W.alloc o) b h l := Box.later ((Below.refl _ _).alloc (Nat.le_refl _) o) k
theorem Box.drew {W : World} {b : Nat} {h l : Int} (k : Box W b h l) : Box W.drew b h l := k
theorem Box.new (W : World) (b : Nat) (h l : Int) (t : TypeId) (e : b = W.heap.size) : Box (W.alloc (.cells #[.int .u64 h, .int .u64 l] t)) b h l := by
  subst e
  exact ⟨by simp [go_sem], by simp [go_sem], by simp [go_sem], by simp [go_sem], by simp⟩
theorem Box.put {W : World} {b : Nat} {h l : Int} (k : Box W b h l) (x y : Int) : Box ((W.setCell ⟨b, 0, none⟩ (.int .u64 x)).setCell ⟨b, 1, none⟩ (.int .u64 y)) b x y := by
  obtain ⟨c0, c1, f0, f1, z⟩ := k
  exact ⟨by simp [go_sem, c0], by simp [go_sem, c1], by simp [go_sem, f0], by simp [go_sem, f1], by simp [z]⟩
theorem Box.beside {W : World} {b : Nat} {h l : Int} (k : Box W b h l) (b' o : Nat) (v : Value) (e : b ≠ b') : Box (W.setCell ⟨b', o, none⟩ v) b h l := by
  obtain ⟨c0, c1, f0, f1, z⟩ := k
  refine ⟨?_, ?_, by simp [go_sem, f0], by simp [go_sem, f1], by simp [z]⟩
  · rw [World.cell?_setCell_other _ _ _ _ (by intro hh; injection hh with h1 _ _; exact e h1.symm)]; exact c0
  · rw [World.cell?_setCell_other _ _ _ _ (by intro hh; injection hh with h1 _ _; exact e h1.symm)]; exact c1

theorem add_is {ah al bh bl : Int} {a b : Nat} (i : Is ah al a) (j : Is bh bl b) (w : World) :
    Calls Tryz.prog 94 #[.agg #[.int .u64 ah, .int .u64 al], .agg #[.int .u64 bh, .int .u64 bl]] w fun e w' =>
      ∃ (h l : Int) (o : Bool), e = .returned (.tuple #[.agg #[.int .u64 h, .int .u64 l], .bool o]) ∧ FitsN h l o (a + b) ∧ Below w.heap.size w w' := by
  refine (add_any ah al bh bl w i.l0 i.l1 i.h0 i.h1 j.l0 j.l1 j.h0 j.h1).mono ?_
  rintro e w' ⟨h, l, o, he, k, f, hw⟩
  exact ⟨h, l, o, he, FitsN.of k f (by rw [i.eq, j.eq]; omega), hw⟩

theorem times_is {ah al u : Int} {a v : Nat} (i : Is ah al a) (hu : u = (v : Int)) (v1 : v < 18446744073709551616) (w : World) :
    Calls Tryz.prog 83 #[.agg #[.int .u64 ah, .int .u64 al], .int .u64 u] w fun e w' =>
      ∃ (h l : Int) (o : Bool), e = .returned (.tuple #[.agg #[.int .u64 h, .int .u64 l], .bool o]) ∧ FitsN h l o (a * v) ∧ Below w.heap.size w w' := by
  subst hu
  refine (times_any ah al v w i.l0 i.l1 i.h0 i.h1 (by omega) (by omega)).mono ?_
  rintro e w' ⟨h, l, o, he, k, f, hw⟩
  exact ⟨h, l, o, he, FitsN.of k f (by rw [i.eq]; simp), hw⟩

theorem by_is {ah al u : Int} {a v : Nat} (i : Is ah al a) (hu : u = (v : Int)) (v0 : 0 < v) (v1 : v < 18446744073709551616) (w : World) :
    Calls Tryz.prog 66 #[.agg #[.int .u64 ah, .int .u64 al], .int .u64 u] w fun e w' =>
      ∃ (h l r : Int), e = .returned (.tuple #[.agg #[.int .u64 h, .int .u64 l], .int .u64 r, .bool true]) ∧ Is h l (a / v) ∧ r = ((a % v : Nat) : Int) ∧ Below w.heap.size w w' := by
  subst hu
  refine (by_any ah al v w i.l0 i.l1 i.h0 i.h1 (by omega) (by omega)).mono ?_
  rintro e w' ⟨h, l, r, he, k, q, m, hw⟩
  rw [i.eq] at q m
  exact ⟨h, l, r, he, Is.of k q (by simp), by rw [m]; simp, hw⟩

theorem left_is {ah al n : Int} {a k : Nat} (i : Is ah al a) (hn : n = (k : Int)) (k1 : k ≤ 9223372036854775807) (w : World) :
    Calls Tryz.prog 77 #[.agg #[.int .u64 ah, .int .u64 al], .int .i64 n] w fun e w' =>
      ∃ (h l : Int) (o : Bool), e = .returned (.tuple #[.agg #[.int .u64 h, .int .u64 l], .bool o]) ∧ FitsN h l o (a * 2 ^ k) ∧ Below w.heap.size w w' := by
  subst hn
  refine (left_any ah al k w i.l0 i.l1 i.h0 i.h1 (by omega) (by omega)).mono ?_
  rintro e w' ⟨h, l, o, he, q, f, hw⟩
  exact ⟨h, l, o, he, FitsN.of q f (by rw [i.eq]; simp), hw⟩

theorem compare_is {ah al bh bl : Int} {a b : Nat} (i : Is ah al a) (j : Is bh bl b) (w : World) :
    Calls Tryz.prog 81 #[.agg #[.int .u64 ah, .int .u64 al], .agg #[.int .u64 bh, .int .u64 bl]] w fun e w' =>
      e = .returned (.int .i64 (cmp a b)) ∧ Below w.heap.size w w' := by
  refine (compare_any ah al bh bl w i.l0 i.l1 j.l0 j.l1).mono ?_
  rintro e w' ⟨he, hw⟩
  rw [i.eq, j.eq] at he
  exact ⟨he, hw⟩

set_option maxHeartbeats 1000000 in
theorem uint_is {ah al : Int} {a : Nat} (i : Is ah al a) (w : World) :
    Calls Tryz.prog 95 #[.agg #[.int .u64 ah, .int .u64 al]] w fun e w' =>
      ∃ u : Int, e = .returned (.tuple #[.int .u64 u, .bool (decide (a < 18446744073709551616))]) ∧ u = (((if a < 18446744073709551616 then a else 0) : Nat) : Int) ∧ Below w.heap.size w w' := by
  obtain ⟨h0, h1, l0, l1, e⟩ := i
  by_cases h : ah = 0
  · subst h
    have c : a < 18446744073709551616 := by omega
    rw [decide_eq_true c, if_pos c]
    have E : Hid _ := e
    clear e c
    go_enter Tryz.func95, Tryz.ntmps95
    go_wp2
    go_returns
    exact ⟨_, rfl, by have := E.out; omega, by go_grown⟩
  · have c : ¬ a < 18446744073709551616 := by omega
    rw [decide_eq_false c, if_neg c]
    clear e c
    go_enter Tryz.func95, Tryz.ntmps95
    go_wp2
    go_returns
    exact ⟨_, rfl, rfl, by go_grown⟩

/-- A number's digits, the greatest first, without a nought ahead of others: at most k of them. -/
def decF : Nat → Nat → List UInt8
  | 0, _ => []
  | k + 1, a => if a < 10 then [UInt8.ofNat (48 + a)] else decF k (a / 10) ++ [UInt8.ofNat (48 + a % 10)]
def dec (a : Nat) : List UInt8 := decF 39 a

theorem decF_succ (k a : Nat) : decF (k + 1) a = if a < 10 then [UInt8.ofNat (48 + a)] else decF k (a / 10) ++ [UInt8.ofNat (48 + a % 10)] := rfl
theorem digit_nat (a : Nat) : ((48 : Int) + (a : Int) % 10).toNat = 48 + a % 10 := by omega
theorem decF_more : ∀ (k a : Nat), a < 10 ^ (k + 1) → decF (k + 1) a = decF (k + 2) a := by
  intro k
  induction k with
  | zero =>
    intro a h
    have c : a < 10 := by simpa using h
    rw [decF_succ 0, decF_succ (0 + 1), if_pos c, if_pos c]
  | succ k ih =>
    intro a h
    rw [decF_succ (k + 1), decF_succ (k + 1 + 1)]
    by_cases c : a < 10
    · rw [if_pos c, if_pos c]
    · rw [if_neg c, if_neg c, ih (a / 10) (by rw [Nat.pow_succ] at h; omega)]
theorem decF_dec (a : Nat) (m : Nat) : ∀ k, k + m = 38 → a < 10 ^ (k + 1) → decF (k + 1) a = dec a := by
  induction m with
  | zero => intro k h _; rw [show k = 38 by omega]; rfl
  | succ m ih =>
    intro k h ha
    rw [decF_more k a ha]
    refine ih (k + 1) (by omega) ?_
    rw [Nat.pow_succ]; omega
theorem dec_lt {a : Nat} (h : a < 10) : dec a = [UInt8.ofNat (48 + a)] := by
  unfold dec
  rw [decF_succ, if_pos h]
theorem dec_ge {a : Nat} (h : 10 ≤ a) (h1 : a < 340282366920938463463374607431768211456) : dec a = dec (a / 10) ++ [UInt8.ofNat (48 + a % 10)] := by
  conv => lhs; unfold dec
  rw [decF_succ, if_neg (by omega), decF_dec (a / 10) 1 37 rfl (by omega)]

theorem dsl_back (V : Int) (n : Nat) : dsl V (n + 1) = dsl (V / 10) n ++ [48 + V % 10] := by
  unfold dsl
  rw [List.range_succ, List.map_append, List.map_cons, List.map_nil]
  congr 1
  · refine List.map_congr_left fun t ht => ?_
    have := List.mem_range.1 ht
    rw [show n + 1 - 1 - t = (n - 1 - t) + 1 by omega, Int.pow_succ, Int.mul_comm, ← Int.ediv_ediv_of_nonneg (by omega)]
  · simp
theorem foldl_push (l : List Int) : ∀ acc : ByteArray, l.foldl (fun r d => r.push (UInt8.ofNat d.toNat)) acc = ⟨acc.data ++ (l.map fun d => UInt8.ofNat d.toNat).toArray⟩ := by
  induction l with
  | nil => intro acc; simp
  | cons d l ih =>
    intro acc
    rw [List.foldl_cons, ih]
    simp [ByteArray.push]
theorem dsl_dec : ∀ (n a : Nat), a < 10 ^ (n + 1) → (n ≠ 0 → 10 ^ n ≤ a) → (dsl (a : Int) (n + 1)).map (fun d => UInt8.ofNat d.toNat) = decF (n + 1) a := by
  intro n
  induction n with
  | zero =>
    intro a h _
    have c : a < 10 := by simpa using h
    rw [decF, if_pos c, dsl_back, List.map_append, show dsl ((a : Int) / 10) 0 = [] from rfl, List.map_nil, List.nil_append, List.map_cons, List.map_nil, digit_nat, Nat.mod_eq_of_lt c]
  | succ n ih =>
    intro a h h2
    have h3 := h2 (by omega)
    rw [Nat.pow_succ] at h h3
    have p : 1 ≤ 10 ^ n := Nat.one_le_pow _ _ (by omega)
    rw [decF, if_neg (by omega), dsl_back, List.map_append, show (a : Int) / 10 = ((a / 10 : Nat) : Int) by simp, ih (a / 10) (by omega) (by omega), List.map_cons, List.map_nil, digit_nat]
theorem tx_dec (n a : Nat) (n1 : n ≤ 38) (h : a < 10 ^ (n + 1)) (h2 : n ≠ 0 → 10 ^ n ≤ a) : tx (a : Int) (n + 1) = ⟨(dec a).toArray⟩ := by
  unfold tx
  rw [foldl_push, dsl_dec n a h h2, decF_dec a (38 - n) n (by omega) h]
  rw [show ByteArray.empty.data = #[] from rfl, Array.empty_append]

theorem text_is {ah al : Int} {a : Nat} (i : Is ah al a) (w : World) :
    Calls Tryz.prog 65 #[.agg #[.int .u64 ah, .int .u64 al]] w fun e w' =>
      e = .returned (.string ⟨(dec a).toArray⟩) ∧ Below w.heap.size w w' := by
  refine (text_any ah al w i.l0 i.l1 i.h0 i.h1).mono ?_
  rintro e w' ⟨n, he, n1, n2, p, q, hw⟩
  rw [i.eq] at he p q
  obtain ⟨k, rfl⟩ : ∃ k, n = k + 1 := ⟨n - 1, by omega⟩
  refine ⟨?_, hw⟩
  have P : ∀ k : Nat, (10 : Int) ^ k = ((10 ^ k : Nat) : Int) := fun k => by simp
  have pos : ∀ k : Nat, 0 < 10 ^ k := fun k => Nat.pow_pos (by omega)
  rw [he, tx_dec k a (by omega) ?_ ?_]
  · rw [P] at q
    have q' : a / 10 ^ (k + 1) = 0 := by exact_mod_cast q
    exact (Nat.div_eq_zero_iff.1 q').resolve_left (by have := pos (k + 1); omega)
  · intro hk
    have := p (by omega)
    rw [P, show k + 1 - 1 = k by omega] at this
    have q' : ¬ a / 10 ^ k = 0 := fun h => this (by exact_mod_cast h)
    rw [Nat.div_eq_zero_iff] at q'
    omega

end Go.Proofs.YtpbgolcimbjekaaGreatDoor

namespace Go.Proofs.YtpbgolcimbjekaaGreatDoor
open Go.RowKit

set_option maxHeartbeats 1000000 in
theorem so_is (n u : Int) (k v : Nat) (hn : n = (k : Int)) (k1 : k ≤ 1152921504606846976) (hu : u = (v : Int)) (v1 : v ≤ 1000000000) (w : World) :
    Calls Tryz.prog 63 #[.int .i64 n, .int .u64 u] w fun e w' =>
      ∃ h l : Int, e = .returned (.tuple #[.agg #[.int .u64 h, .int .u64 l], .int .i64 0]) ∧ Is h l (k * v) ∧ Below w.heap.size w w' := by
  have p : k * v ≤ 1152921504606846976000000000 := Nat.mul_le_mul k1 v1
  have P : Hid _ := p
  clear p
  have n0 : 0 ≤ n := by omega
  have n1 : n ≤ 1152921504606846976 := by omega
  have HN : Hid _ := hn
  clear hn
  go_enter Tryz.func63, Tryz.ntmps63
  go_wp2_with (fail)
  refine (of_any _ _).mono ?_
  rintro e w1 ⟨rfl, hw1⟩
  have HBw1 : Below w.heap.size w w1 := Below.trans (by go_grown) (hw1.mono (by first | omega | (simp; done) | (simp; omega)))
  have p_r : Box w1 (w.heap.size) (0) (0) := Box.later hw1 (by repeat (first | assumption | (refine Box.new _ _ _ _ _ ?_; simp; done) | refine Box.alloc ?_ _ | refine Box.drew ?_ | (apply Box.put) | (refine Box.beside ?_ _ _ _ (by omega))))
  have q_r := p_r
  obtain ⟨r0, r1, r2, r3, r4⟩ := p_r
  have hsw1 := hw1.size
  (try simp at hsw1)
  clear hw1
  go_wp2_with (fail)
  have i0 : Is 0 n k := Is.small HN.out (by omega)
  refine (times_is (v := v) i0 (by rfl) (by omega) _).mono ?_
  rintro e w2 ⟨h, l, o, rfl, f, hw2⟩
  obtain ⟨rfl, i⟩ := f.ok (by have := P.out; omega)
  clear i0 f
  have HBw2 : Below w.heap.size w w2 := Below.trans (by go_grown) (hw2.mono (by first | omega | (simp; done) | (simp; omega)))
  have p_r : Box w2 (w.heap.size) (0) (0) := Box.later hw2 (by repeat (first | assumption | (refine Box.new _ _ _ _ _ ?_; simp; done) | refine Box.alloc ?_ _ | refine Box.drew ?_ | (apply Box.put) | (refine Box.beside ?_ _ _ _ (by omega))))
  clear q_r r0 r1 r2 r3 r4
  have q_r := p_r
  obtain ⟨r0, r1, r2, r3, r4⟩ := p_r
  have hsw2 := hw2.size
  (try simp at hsw2)
  clear hw2
  go_wp2
  refine bodyPost_ret (v := .tuple #[.agg #[.int .u64 h, .int .u64 l], .int .i64 0]) (by simp [results, Tryz.results63, go_sem, r0, r1, r4]) rfl ?_
  exact ⟨_, _, rfl, i, by go_grown⟩

set_option maxHeartbeats 1000000 in
theorem so_neg (n u : Int) (hn : n < 0) (w : World) :
    Calls Tryz.prog 63 #[.int .i64 n, .int .u64 u] w fun e w' =>
      e = .returned (.tuple #[.agg #[.int .u64 0, .int .u64 0], .int .i64 2]) ∧ Below w.heap.size w w' := by
  go_enter Tryz.func63, Tryz.ntmps63
  go_wp2
  go_returns
  exact ⟨rfl, by go_grown⟩

set_option maxHeartbeats 1000000 in
theorem so_over (n u : Int) (hn : 1152921504606846976 < n) (w : World) :
    Calls Tryz.prog 63 #[.int .i64 n, .int .u64 u] w fun e w' =>
      e = .returned (.tuple #[.agg #[.int .u64 0, .int .u64 0], .int .i64 15]) ∧ Below w.heap.size w w' := by
  go_enter Tryz.func63, Tryz.ntmps63
  go_wp2
  go_returns
  exact ⟨rfl, by go_grown⟩

/-- What 'so many times that' answers. -/
def So (n : Int) (v : Nat) (e : Ending) : Prop := ∃ h l g : Int, e = .returned (.tuple #[.agg #[.int .u64 h, .int .u64 l], .int .i64 g]) ∧
  ((n < 0 ∧ h = 0 ∧ l = 0 ∧ g = 2) ∨ (1152921504606846976 < n ∧ h = 0 ∧ l = 0 ∧ g = 15) ∨ (0 ≤ n ∧ n ≤ 1152921504606846976 ∧ Is h l (n.toNat * v) ∧ g = 0))

theorem so_any (n u : Int) (v : Nat) (hu : u = (v : Int)) (v1 : v ≤ 1000000000) (w : World) :
    Calls Tryz.prog 63 #[.int .i64 n, .int .u64 u] w fun e w' => So n v e ∧ Below w.heap.size w w' := by
  by_cases c : n < 0
  · refine (so_neg n u c w).mono ?_
    rintro e w' ⟨he, hw⟩
    exact ⟨⟨_, _, _, he, Or.inl ⟨c, rfl, rfl, rfl⟩⟩, hw⟩
  · by_cases d : 1152921504606846976 < n
    · refine (so_over n u d w).mono ?_
      rintro e w' ⟨he, hw⟩
      exact ⟨⟨_, _, _, he, Or.inr (Or.inl ⟨d, rfl, rfl, rfl⟩)⟩, hw⟩
    · refine (so_is n u n.toNat v (by omega) (by omega) hu v1 w).mono ?_
      rintro e w' ⟨h, l, he, i, hw⟩
      exact ⟨⟨_, _, _, he, Or.inr (Or.inr ⟨by omega, by omega, i, rfl⟩)⟩, hw⟩

set_option maxHeartbeats 1000000 in
theorem ofUnits_any (n : Int) (w : World) :
    Calls Tryz.prog 40 #[.int .i64 n] w fun e w' => So n 1000000000 e ∧ Below w.heap.size w w' := by
  go_enter Tryz.func40, Tryz.ntmps40
  go_wp2_with (fail)
  refine (so_any n 1000000000 1000000000 rfl (by omega) _).mono ?_
  rintro e w1 ⟨⟨h, l, g, rfl, f⟩, hw1⟩
  have HBw1 : Below w.heap.size w w1 := Below.trans (by go_grown) (hw1.mono (by first | omega | (simp; done) | (simp; omega)))
  have p_r : Box w1 (w.heap.size) (0) (0) := Box.later hw1 (by repeat (first | assumption | (refine Box.new _ _ _ _ _ ?_; simp; done) | refine Box.alloc ?_ _ | refine Box.drew ?_ | (apply Box.put) | (refine Box.beside ?_ _ _ _ (by omega))))
  have q_r := p_r
  obtain ⟨r0, r1, r2, r3, r4⟩ := p_r
  have hsw1 := hw1.size
  (try simp at hsw1)
  clear hw1
  go_wp2
  refine bodyPost_ret (v := .tuple #[.agg #[.int .u64 h, .int .u64 l], .int .i64 g]) (by simp [results, Tryz.results40, go_sem, r0, r1]) rfl ?_
  exact ⟨⟨_, _, _, rfl, f⟩, by go_grown⟩

set_option maxHeartbeats 1000000 in
theorem ofMilli_any (n : Int) (w : World) :
    Calls Tryz.prog 38 #[.int .i64 n] w fun e w' => So n 1000000 e ∧ Below w.heap.size w w' := by
  go_enter Tryz.func38, Tryz.ntmps38
  go_wp2_with (fail)
  refine (so_any n 1000000 1000000 rfl (by omega) _).mono ?_
  rintro e w1 ⟨⟨h, l, g, rfl, f⟩, hw1⟩
  have HBw1 : Below w.heap.size w w1 := Below.trans (by go_grown) (hw1.mono (by first | omega | (simp; done) | (simp; omega)))
  have p_r : Box w1 (w.heap.size) (0) (0) := Box.later hw1 (by repeat (first | assumption | (refine Box.new _ _ _ _ _ ?_; simp; done) | refine Box.alloc ?_ _ | refine Box.drew ?_ | (apply Box.put) | (refine Box.beside ?_ _ _ _ (by omega))))
  have q_r := p_r
  obtain ⟨r0, r1, r2, r3, r4⟩ := p_r
  have hsw1 := hw1.size
  (try simp at hsw1)
  clear hw1
  go_wp2
  refine bodyPost_ret (v := .tuple #[.agg #[.int .u64 h, .int .u64 l], .int .i64 g]) (by simp [results, Tryz.results38, go_sem, r0, r1]) rfl ?_
  exact ⟨⟨_, _, _, rfl, f⟩, by go_grown⟩

/-- 2^60 units. -/
def most : Nat := 1152921504606846976000000000

theorem cmp_le (a b : Nat) : decide (cmp (a : Int) (b : Int) ≤ 0) = decide (a ≤ b) := by
  rw [decide_eq_decide]
  unfold cmp
  split
  · omega
  · split <;> omega

set_option maxHeartbeats 1000000 in
theorem isAmount_is {h l : Int} {a : Nat} (i : Is h l a) (w : World) :
    Calls Tryz.prog 55 #[.agg #[.int .u64 h, .int .u64 l]] w fun e w' => e = .returned (.bool (decide (a ≤ most))) ∧ Below w.heap.size w w' := by
  go_enter Tryz.func55, Tryz.ntmps55
  go_wp2_with (fail)
  refine (ofUnits_any 1152921504606846976 _).mono ?_
  rintro e w1 ⟨⟨h1, l1, g, rfl, f⟩, hw1⟩
  have j : Is h1 l1 most := by
    rcases f with ⟨f, _⟩ | ⟨f, _⟩ | ⟨_, _, f, _⟩
    · omega
    · omega
    · exact f
  clear f
  have HBw1 : Below w.heap.size w w1 := Below.trans (by go_grown) (hw1.mono (by first | omega | (simp; done) | (simp; omega)))
  have p_r : Box w1 (w.heap.size) (h) (l) := Box.later hw1 (by repeat (first | assumption | (refine Box.new _ _ _ _ _ ?_; simp; done) | refine Box.alloc ?_ _ | refine Box.drew ?_ | (apply Box.put) | (refine Box.beside ?_ _ _ _ (by omega))))
  have q_r := p_r
  obtain ⟨r0, r1, r2, r3, r4⟩ := p_r
  have hsw1 := hw1.size
  (try simp at hsw1)
  clear hw1
  go_wp2_with (fail)
  refine (compare_is i j _).mono ?_
  rintro e w2 ⟨rfl, hw2⟩
  have HBw2 : Below w.heap.size w w2 := Below.trans (by go_grown) (hw2.mono (by first | omega | (simp; done) | (simp; omega)))
  have hsw2 := hw2.size
  (try simp at hsw2)
  clear hw2
  go_wp2
  go_ret
  exact ⟨congrArg Ending.returned (congrArg Value.bool (cmp_le a most)), by go_grown⟩

end Go.Proofs.YtpbgolcimbjekaaGreatDoor

namespace Go.Proofs.YtpbgolcimbjekaaGreatDoor
open Go.RowKit

section
variable {P : Program} {ops : Array Oper} {Q : Exit → Act → World → Prop} {S : World → Prop} {I : Array Bool → Act → World → Prop}

/-- Each of these operations, where it may come up, leads from the condition to the condition. -/
def StepsI (P : Program) (ops : Array Oper) (Q : Exit → Act → World → Prop) (I : Array Bool → Act → World → Prop) (rs : List Nat) : Prop :=
  ∀ i ∈ rs, ∀ L a w, I L a w → L.getD i true = false → (∀ o, ops[i]? = some o → ∀ e ∈ o.after, Region.binds .any e = true → L.getD e.on false = true) →
    wpOp P ops Q i (fun a' w' => I (L.setIfInBounds i true) a' w') a w

theorem StepsI.nil : StepsI P ops Q I [] := fun _ h => by cases h
theorem StepsI.cons {i : Nat} {o : Oper} {rs : List Nat} (ho : ops[i]? = some o)
    (h : ∀ L a w, I L a w → L.getD i true = false → (∀ e ∈ o.after, Region.binds .any e = true → L.getD e.on false = true) →
      ∀ K' : Act → World → Prop, Shut (∀ a w, I (L.setIfInBounds i true) a w → K' a w) → if Region.wanted o (yielded ops a.tmps) = true then Oper.wp P o a w K' Q else K' (a.put o.dst undef) w)
    (hs : StepsI P ops Q I rs) : StepsI P ops Q I (i :: rs) := fun j hj => by
  rcases List.mem_cons.1 hj with rfl | hj
  · exact fun L a w hI h0 hd => wpOp_step ho (fun K' hK => h L a w hI h0 (hd o ho) K' hK)
  · exact hs j hj
theorem StepsI.skip {i : Nat} {rs : List Nat} (h : ∀ L a w, I L a w → L.getD i true = true) (hs : StepsI P ops Q I rs) : StepsI P ops Q I (i :: rs) := fun j hj => by
  rcases List.mem_cons.1 hj with rfl | hj
  · exact fun L a w hI h0 _ => absurd (h L a w hI) (by rw [h0]; simp)
  · exact hs j hj

/-- Every edge that binds leads back. -/
def backB (ops : Array Oper) : Bool := (List.range ops.size).all fun i => match ops[i]? with
  | some o => o.after.all fun e => !Region.binds .any e || decide (e.on < i)
  | none => true

theorem all_listed {L : Array Bool} (hb : backB ops = true) (hz : L.size = ops.size) (hr : Region.ready .any ops L = []) : ∀ i, L.getD i true = true := by
  intro i
  induction i using Nat.strongRecOn with
  | _ i ih =>
    cases h : L.getD i true with
    | true => rfl
    | false =>
      have hi : i < L.size := by
        rcases Nat.lt_or_ge i L.size with h' | h'
        · exact h'
        · simp [Array.getElem?_eq_none h'] at h
      have hi' : i < ops.size := by omega
      have hm : i ∈ Region.ready .any ops L := by
        refine mem_ready.2 ⟨h, ops[i], by simp [hi'], fun e he hbe => ?_⟩
        have h1 := List.all_eq_true.1 hb i (List.mem_range.2 hi')
        simp only [Array.getElem?_eq_getElem hi', Array.all_eq_true_iff_forall_mem] at h1
        have h2 := h1 e he
        simp [hbe] at h2
        have h3 := ih e.on h2
        have : e.on < L.size := by omega
        simpa [this] using h3
      rw [hr] at hm
      cases hm

theorem count_set_lt {L : Array Bool} {i : Nat} (h : L.getD i true = false) : (L.setIfInBounds i true).toList.count false < L.toList.count false := by
  have hi : i < L.size := by
    rcases Nat.lt_or_ge i L.size with h' | h'
    · exact h'
    · simp [Array.getElem?_eq_none h'] at h
  obtain ⟨l⟩ := L
  have hi' : i < l.length := hi
  have hv : l[i] = false := by simpa [hi'] using h
  have hp : 0 < l.count false := List.count_pos_iff.2 (hv ▸ List.getElem_mem hi')
  simp only [List.setIfInBounds_toArray]
  rw [List.count_set hi']
  simp [hv]
  omega

theorem wpAnyH_inv (hS : ∀ L a w, I L a w → S w) (hz : ∀ L a w, I L a w → L.size = ops.size) (hb : backB ops = true)
    (hsteps : StepsI P ops Q I (List.range ops.size)) (hend : ∀ L a w, I L a w → (∀ i, L.getD i true = true) → Q .normal a w) :
    ∀ (fuel : Nat) (L : Array Bool) (a : Act) (w : World), L.toList.count false ≤ fuel → I L a w → wpAnyH P .any ops Q S fuel L a w := by
  intro fuel
  induction fuel with
  | zero =>
    intro L a w hc hI
    have hr : Region.ready .any ops L = [] := by
      cases hr : Region.ready .any ops L with
      | nil => rfl
      | cons i r =>
        have hm : i ∈ Region.ready .any ops L := by rw [hr]; simp
        have := count_set_lt (mem_ready.1 hm).1
        omega
    exact ⟨hr, hend L a w hI (all_listed hb (hz L a w hI) hr)⟩
  | succ fuel ih =>
    intro L a w hc hI
    refine ⟨fun hr => hend L a w hI (all_listed hb (hz L a w hI) hr), fun i hi => ?_⟩
    obtain ⟨h0, o, ho, hd⟩ := mem_ready.1 hi
    have hlt : i < ops.size := (Array.getElem?_eq_some_iff.1 ho).1
    refine wpOp_mono (fun a' w' hI' => ⟨hS _ _ _ hI', ih _ a' w' ?_ hI'⟩) (hsteps i (List.mem_range.2 hlt) L a w hI h0 (fun o' ho' => by rw [ho] at ho'; injection ho' with e; subst e; exact hd))
    have := count_set_lt h0
    omega

/-- The frame under a name. -/
theorem wpAnyH_named {fuel : Nat} {L : Array Bool} {a : Act} {w : World} (h : ∀ a0, a0 = a → wpAnyH P .any ops Q S fuel L a0 w) : wpAnyH P .any ops Q S fuel L a w := h a rfl

theorem put_self (a : Act) (t : Nat) : a.put (some t) (a.eval (.tmp t)) = a := by
  obtain ⟨⟨l⟩, d⟩ := a
  simp only [Act.put, Act.eval, List.setIfInBounds_toArray, Act.mk.injEq, and_true]
  congr 1
  apply List.ext_getElem?
  intro i
  rw [List.getElem?_set]
  by_cases h : t = i
  · subst h
    by_cases h2 : t < l.length
    · simp [h2]
    · simp [h2]
  · simp [h]
/-- One operation of a plain region, guarded or not. -/
theorem wpList_one {op : Oper} {rest : List Oper} {a : Act} {w : World}
    (h : ∀ K' : Act → World → Prop, Shut (∀ a w, wpList P ops Q rest a w → K' a w) → if Region.wanted op (yielded ops a.tmps) = true then Oper.wp P op a w K' Q else K' (a.put op.dst undef) w) : wpList P ops Q (op :: rest) a w := by
  have := h (wpList P ops Q rest) (fun _ _ h => h)
  unfold wpList
  split
  · rename_i hw; rw [if_pos hw] at this; exact .inl this
  · rename_i hw; rw [if_neg hw] at this; exact this
end

/-! ### A variable that a region makes and writes -/
theorem size_cells (b : Nat) : ∀ (vs : List Value) (o : Nat) (w : World), (w.setCells b o vs).heap.size = w.heap.size
  | [], _, _ => rfl
  | v :: r, o, w => by rw [World.setCells, size_cells b r]; simp
theorem below_cells {B : Nat} {a : World} (b : Nat) (hb : B ≤ b) : ∀ (vs : List Value) (o : Nat) {w : World}, Below B a w → Below B a (w.setCells b o vs) := by
  intro vs
  induction vs with
  | nil => intro o w h; exact h
  | cons v vs ih => intro o w h; exact ih (o + 1) (h.setCell hb v)
theorem cell_cells {w : World} {b o : Nat} {v : Value} (b' : Nat) (vs : List Value) (h : w.cell? ⟨b, o, none⟩ = some v) (hb : b ≠ b') : (w.setCells b' 0 vs).cell? ⟨b, o, none⟩ = some v := by
  rw [World.cell?_setCells_out b' vs 0 w ⟨b, o, none⟩ (fun e _ => absurd e hb)]; exact h
theorem there_later {w w1 : World} {b n : Nat} (h : w.there b 0 n) (hb : Below w.heap.size w w1) (hz : b < w.heap.size) : w1.there b 0 n := fun j hj => by
  obtain ⟨h1, h2⟩ := h j hj
  obtain ⟨v, hv⟩ := Option.isSome_iff_exists.1 h1
  exact ⟨by rw [(bcell hb).1 _ _ hz, hv]; rfl, (hb.frozen (p := ⟨b, 0 + j, none⟩) hz).trans h2⟩
theorem range_later {w w1 : World} {b : Nat} {vs : List Value} (h : w.rangeAt b 0 vs) (hb : Below w.heap.size w w1) (hz : b < w.heap.size) : w1.rangeAt b 0 vs := fun j v hv => by
  rw [(bcell hb).1 _ _ hz]; exact h j v hv

/-- A pointer's block. -/
def blkOf : Value → Nat
  | .pointer (some p) => p.block
  | _ => 0
/-- c: it is made; cs: it is written. -/
def MadeL (B n : Nat) (c cs : Bool) (s : Value) (vs : List Value) (W : World) : Prop :=
  (c = false → cs = false) ∧ (c = true → ∃ p, s = .pointer (some ⟨p, 0, none⟩) ∧ B ≤ p ∧ p < W.heap.size ∧ W.there p 0 n ∧ (cs = true → W.rangeAt p 0 vs))
section
variable {B n : Nat} {c cs : Bool} {s : Value} {vs : List Value} {W w1 : World}
theorem MadeL.not (B n : Nat) (s : Value) (vs : List Value) (W : World) : MadeL B n false false s vs W := ⟨fun _ => rfl, fun h => Bool.noConfusion h⟩
theorem MadeL.later (h : MadeL B n c cs s vs W) (hb : Below W.heap.size W w1) : MadeL B n c cs s vs w1 := ⟨h.1, fun hc => by
  obtain ⟨p, e, h0, h1, hG, h2⟩ := h.2 hc
  have := hb.size
  exact ⟨p, e, h0, by omega, there_later hG hb h1, fun hs => range_later (h2 hs) hb h1⟩⟩
theorem MadeL.alloc (h : MadeL B n c cs s vs W) (o : Obj) : MadeL B n c cs s vs (W.alloc o) := h.later ((Below.refl _ _).alloc (Nat.le_refl _) o)
theorem MadeL.new {z : Array Value} (h : MadeL B n false cs s vs W) (hB : B ≤ W.heap.size) (t : TypeId) (hz : z.size = n) : MadeL B n true cs (.pointer (some ⟨W.heap.size, 0, none⟩)) vs (W.alloc (.cells z t)) :=
  ⟨fun h => Bool.noConfusion h, fun _ => ⟨W.heap.size, rfl, hB, by simp, fun j hj => ⟨by rw [World.cell?_alloc_at _ _ _ _ rfl]; simp; omega, by simp [go_sem]⟩, fun hc => by rw [h.1 rfl] at hc; exact Bool.noConfusion hc⟩⟩
theorem MadeL.ne (h : MadeL B n true cs s vs W) : (.pointer (some ⟨W.heap.size, 0, Option.none⟩)) ≠ s := by
  obtain ⟨p, rfl, -, h1, -⟩ := h.2 rfl
  intro e
  injection e with e; injection e with e; injection e with e _ _
  omega
theorem MadeL.put (h : MadeL B n true false s vs W) (hn : vs.length = n) : MadeL B n true true s vs (W.setCells (blkOf s) 0 vs) := ⟨fun h => Bool.noConfusion h, fun _ => by
  obtain ⟨q, rfl, h0, h1, hG, -⟩ := h.2 rfl
  exact ⟨q, rfl, h0, by rw [size_cells]; exact h1, World.there_setCells hG q 0 vs, fun _ => World.rangeAt_setCells_same W q 0 vs (by rw [hn]; exact hG)⟩⟩
theorem MadeL.beside {B' n' : Nat} {cs' : Bool} {s' : Value} {vs' : List Value} (h : MadeL B n true cs s vs W) (h' : MadeL B' n' true cs' s' vs' W) (us : List Value) (hn : s' ≠ s) : MadeL B n true cs s vs (W.setCells (blkOf s') 0 us) := ⟨fun h => Bool.noConfusion h, fun _ => by
  obtain ⟨q, rfl, h0, h1, hG, h2⟩ := h.2 rfl
  obtain ⟨p, rfl, -⟩ := h'.2 rfl
  have ne : q ≠ p := fun e => hn (by rw [e])
  exact ⟨q, rfl, h0, by rw [size_cells]; exact h1, World.there_setCells hG p 0 us, fun hc => World.rangeAt_setCells_apart (h2 hc) p 0 us (Or.inl ne)⟩⟩
theorem MadeL.ge (h : MadeL B n true cs s vs W) : B ≤ blkOf s := by
  obtain ⟨q, rfl, h0, -⟩ := h.2 rfl
  exact h0
theorem MadeL.store {P : Program} {op : Oper} {a : Act} {K : Act → World → Prop} {Q : Exit → Act → World → Prop} (h : MadeL B n true cs s vs W) (ty : TypeId) (x y : Operand) (ho : op.op = .store ty x y) (hd : op.dst = none)
    (hx : a.eval x = s) (hy : a.eval y = .agg vs.toArray) (hn : vs.length = n) (hi : (P.info? ty).map (·.size) = some n) (h1 : ∀ v ∈ vs, v.oneCell' = true) (hk : K a (W.setCells (blkOf s) 0 vs)) : op.wp P a W K Q := by
  have hk : K (a.put op.dst undef) (W.setCells (blkOf s) 0 vs) := by rw [hd]; exact hk
  obtain ⟨q, rfl, -, -, hG, -⟩ := h.2 rfl
  refine wp_store_mid _ x y ho q 0 vs.toArray hx hy (by rw [List.size_toArray, hn]; exact hG) (by rw [List.size_toArray, hn]; exact hi) (all_oneCell_toArray h1) ?_
  rw [List.toList_toArray]
  exact hk
end

end Go.Proofs.YtpbgolcimbjekaaGreatDoor
