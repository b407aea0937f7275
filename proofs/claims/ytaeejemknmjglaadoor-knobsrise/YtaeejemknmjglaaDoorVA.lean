/-
  Package wide's contracts over the number that two words are ('Is h l a'), at this program, and a number's digits as a list of letters. Conditions: as each names them.
-/
import Derived.Test.YtaeejemknmjglaaDoorJ
namespace Go.Proofs.YtaeejemknmjglaaDoor
open Go.RowKit

/-- Two words are the number a. -/
structure Is (h l : Int) (a : Nat) : Prop where
  h0 : 0 ≤ h
  h1 : h < 18446744073709551616
  l0 : 0 ≤ l
  l1 : l < 18446744073709551616
  eq : h * 18446744073709551616 + l = (a : Int)

theorem Is.lt {h l : Int} {a : Nat} (i : Is h l a) : a < 340282366920938463463374607431768211456 := by
  obtain ⟨h0, h1, l0, l1, e⟩ := i
  omega
theorem Is.zero : Is 0 0 0 := ⟨by omega, by omega, by omega, by omega, by omega⟩
theorem Is.small {u : Int} {a : Nat} (e : u = (a : Int)) (h : a < 18446744073709551616) : Is 0 u a := ⟨by omega, by omega, by omega, by omega, by omega⟩
theorem Is.det {h l h' l' : Int} {a : Nat} (i : Is h l a) (j : Is h' l' a) : h = h' ∧ l = l' := by
  obtain ⟨h0, h1, l0, l1, e⟩ := i
  obtain ⟨k0, k1, m0, m1, f⟩ := j
  omega
theorem Is.nought {h l : Int} {a : Nat} (i : Is h l a) : (h = 0 ∧ l = 0) ↔ a = 0 := by
  obtain ⟨h0, h1, l0, l1, e⟩ := i
  omega
theorem Is.of {h l : Int} {a : Nat} {V : Int} (k : Wok h l) (e : h * 18446744073709551616 + l = V) (f : V = (a : Int)) : Is h l a := by
  obtain ⟨h0, h1, l0, l1⟩ := k
  exact ⟨h0, h1, l0, l1, e.trans f⟩
theorem Is.words {h l : Int} {a : Nat} (i : Is h l a) : h = ((a / 18446744073709551616 : Nat) : Int) ∧ l = ((a % 18446744073709551616 : Nat) : Int) := by
  obtain ⟨h0, h1, l0, l1, e⟩ := i
  omega

/-- The number v and true, if it has two words; else nothing and false. -/
def FitsN (h l : Int) (b : Bool) (v : Nat) : Prop := (b = true ∧ Is h l v) ∨ (b = false ∧ h = 0 ∧ l = 0 ∧ 340282366920938463463374607431768211456 ≤ v)
theorem FitsN.of {h l : Int} {b : Bool} {V : Int} {v : Nat} (k : Wok h l) (f : Fits h l b V) (e : V = (v : Int)) : FitsN h l b v := by
  rcases f with ⟨rfl, f⟩ | ⟨rfl, rfl, rfl, f⟩
  · exact Or.inl ⟨rfl, Is.of k f e⟩
  · exact Or.inr ⟨rfl, rfl, rfl, by omega⟩
theorem FitsN.ok {h l : Int} {b : Bool} {v : Nat} (f : FitsN h l b v) (hv : v < 340282366920938463463374607431768211456) : b = true ∧ Is h l v := by
  rcases f with f | ⟨_, _, _, f⟩
  · exact f
  · omega

/-- Two words lie in a block, and may be written. -/
def Box (W : World) (b : Nat) (h l : Int) : Prop := W.cell? ⟨b, 0, none⟩ = some (.int .u64 h) ∧ W.cell? ⟨b, 1, none⟩ = some (.int .u64 l) ∧ W.frozen? ⟨b, 0, none⟩ = false ∧ W.frozen? ⟨b, 1, none⟩ = false ∧ b < W.heap.size
theorem Box.later {W w1 : World} {b : Nat} {h l : Int} (hb : Below W.heap.size W w1) (k : Box W b h l) : Box w1 b h l := by
  obtain ⟨c0, c1, f0, f1, z⟩ := k
  have := hb.size
  obtain ⟨_, hf⟩ := bcell hb
  exact ⟨cell_later hb c0, cell_later hb c1, (hf _ _ z).trans f0, (hf _ _ z).trans f1, by omega⟩

theorem Box.alloc {W : World} {b : Nat} {h l : Int} (k : Box W b h l) (o : Obj) : Box (W.alloc o) b h l := Box.later ((Below.refl _ _).alloc (Nat.le_refl _) o) k
theorem Box.drew {W : World} {b : Nat} {h l : Int} (k : Box W b h l) : Box W.drew b h l := k
theorem Box.new (W : World) (b : Nat) (h l : Int) (t : TypeId) (e : b = W.heap.size) : Box (W.alloc (.cells #[.int .u64 h, .int .u64 l] t)) b h l := by
  subst e
  exact ⟨by simp [go_sem], by simp [go_sem], by simp [go_sem], by simp [go_sem], by simp⟩
theorem Box.put {W : World} {b : Nat} {h l : Int} (k : Box W b h l) (x y : Int) : Box ((W.setCell ⟨b, 0, none⟩ (.int .u64 x)).setCell ⟨b, 1, none⟩ (.int .u64 y)) b x y := by
  obtain ⟨c0, c1, f0, f1, z⟩ := k
  exact ⟨by simp [go_sem, c0], by simp [go_sem, c1], by simp [go_sem, f0], by simp [go_sem, f1], by simp [z]⟩
theorem Box.beside {W : World} {b : Nat} {h l : Int} (k : Box W b h l) (b' o : Nat) (v : Value) (e : b ≠ b') : Box (W.setCell ⟨b', o, none⟩ v) b h l := by
  obtain ⟨c0, c1, f0, f1, z⟩ := k
  refine ⟨?_, ?_, by simp [go_sem, f0], by simp [go_sem, f1], by simp [z]⟩
  · rw [World.cell?_setCell_other _ _ _ _ (by intro hh; injection hh with h1 _ _; exact e h1.symm)]; exact c0
  · rw [World.cell?_setCell_other _ _ _ _ (by intro hh; injection hh with h1 _ _; exact e h1.symm)]; exact c1

/-- A number's digits, the greatest first, without a nought ahead of others: at most k of them. -/
def decF : Nat → Nat → List UInt8
  | 0, _ => []
  | k + 1, a => if a < 10 then [UInt8.ofNat (48 + a)] else decF k (a / 10) ++ [UInt8.ofNat (48 + a % 10)]
def dec (a : Nat) : List UInt8 := decF 39 a

theorem decF_succ (k a : Nat) : decF (k + 1) a = if a < 10 then [UInt8.ofNat (48 + a)] else decF k (a / 10) ++ [UInt8.ofNat (48 + a % 10)] := rfl
theorem digit_nat (a : Nat) : ((48 : Int) + (a : Int) % 10).toNat = 48 + a % 10 := by omega
theorem decF_more : ∀ (k a : Nat), a < 10 ^ (k + 1) → decF (k + 1) a = decF (k + 2) a := by
  intro k
  induction k with
  | zero =>
    intro a h
    have c : a < 10 := by simpa using h
    rw [decF_succ 0, decF_succ (0 + 1), if_pos c, if_pos c]
  | succ k ih =>
    intro a h
    rw [decF_succ (k + 1), decF_succ (k + 1 + 1)]
    by_cases c : a < 10
    · rw [if_pos c, if_pos c]
    · rw [if_neg c, if_neg c, ih (a / 10) (by rw [Nat.pow_succ] at h; omega)]
theorem decF_dec (a : Nat) (m : Nat) : ∀ k, k + m = 38 → a < 10 ^ (k + 1) → decF (k + 1) a = dec a := by
  induction m with
  | zero => intro k h _; rw [show k = 38 by omega]; rfl
  | succ m ih =>
    intro k h ha
    rw [decF_more k a ha]
    refine ih (k + 1) (by omega) ?_
    rw [Nat.pow_succ]; omega
theorem dec_lt {a : Nat} (h : a < 10) : dec a = [UInt8.ofNat (48 + a)] := by
  unfold dec
  rw [decF_succ, if_pos h]
theorem dec_ge {a : Nat} (h : 10 ≤ a) (h1 : a < 340282366920938463463374607431768211456) : dec a = dec (a / 10) ++ [UInt8.ofNat (48 + a % 10)] := by
  conv => lhs; unfold dec
  rw [decF_succ, if_neg (by omega), decF_dec (a / 10) 1 37 rfl (by omega)]

theorem dsl_back (V : Int) (n : Nat) : dsl V (n + 1) = dsl (V / 10) n ++ [48 + V % 10] := by
  unfold dsl
  rw [List.range_succ, List.map_append, List.map_cons, List.map_nil]
  congr 1
  · refine List.map_congr_left fun t ht => ?_
    have := List.mem_range.1 ht
    rw [show n + 1 - 1 - t = (n - 1 - t) + 1 by omega, Int.pow_succ, Int.mul_comm, ← Int.ediv_ediv_of_nonneg (by omega)]
  · simp
theorem foldl_push (l : List Int) : ∀ acc : ByteArray, l.foldl (fun r d => r.push (UInt8.ofNat d.toNat)) acc = ⟨acc.data ++ (l.map fun d => UInt8.ofNat d.toNat).toArray⟩ := by
  induction l with
  | nil => intro acc; simp
  | cons d l ih =>
    intro acc
    rw [List.foldl_cons, ih]
    simp [ByteArray.push]
theorem dsl_dec : ∀ (n a : Nat), a < 10 ^ (n + 1) → (n ≠ 0 → 10 ^ n ≤ a) → (dsl (a : Int) (n + 1)).map (fun d => UInt8.ofNat d.toNat) = decF (n + 1) a := by
  intro n
  induction n with
  | zero =>
    intro a h _
    have c : a < 10 := by simpa using h
    rw [decF, if_pos c, dsl_back, List.map_append, show dsl ((a : Int) / 10) 0 = [] from rfl, List.map_nil, List.nil_append, List.map_cons, List.map_nil, digit_nat, Nat.mod_eq_of_lt c]
  | succ n ih =>
    intro a h h2
    have h3 := h2 (by omega)
    rw [Nat.pow_succ] at h h3
    have p : 1 ≤ 10 ^ n := Nat.one_le_pow _ _ (by omega)
    rw [decF, if_neg (by omega), dsl_back, List.map_append, show (a : Int) / 10 = ((a / 10 : Nat) : Int) by simp, ih (a / 10) (by omega) (by omega), List.map_cons, List.map_nil, digit_nat]
theorem tx_dec (n a : Nat) (n1 : n ≤ 38) (h : a < 10 ^ (n + 1)) (h2 : n ≠ 0 → 10 ^ n ≤ a) : tx (a : Int) (n + 1) = ⟨(dec a).toArray⟩ := by
  unfold tx
  rw [foldl_push, dsl_dec n a h h2, decF_dec a (38 - n) n (by omega) h]
  rw [show ByteArray.empty.data = #[] from rfl, Array.empty_append]

end Go.Proofs.YtaeejemknmjglaaDoor
