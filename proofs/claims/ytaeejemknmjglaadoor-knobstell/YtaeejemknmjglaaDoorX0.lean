/-
  Plain facts: what is known of a world (pairs of words, digits of numbers), kept along a walk. No condition.
-/
import Derived.Test.YtaeejemknmjglaaDoorZ0
namespace Go.Proofs.YtaeejemknmjglaaDoor
open Go.RowKit

theorem dl_each (F : Nat → Int) : ∀ v ∈ dl F, v.oneCell' = true := by
  intro v hv
  obtain ⟨i, _, rfl⟩ := List.mem_map.1 hv
  rfl
theorem two_each (a b : Int) : ∀ v ∈ [Value.int .u64 a, .int .u64 b], v.oneCell' = true := by
  intro v hv
  simp at hv
  rcases hv with rfl | rfl <;> rfl
theorem wide_info : (Tryd.prog.info? 85).map (·.size) = some 2 := by kernel_rfl

/-- Two words lie there. -/
def Pair (W : World) (p : Nat) (h l : Int) : Prop := W.cell? ⟨p, 0, none⟩ = some (.int .u64 h) ∧ W.cell? ⟨p, 1, none⟩ = some (.int .u64 l) ∧ p < W.heap.size
theorem Pair.later {W w1 : World} {p : Nat} {h l : Int} (K : Pair W p h l) (hb : Below W.heap.size W w1) : Pair w1 p h l := by
  obtain ⟨p0, p1, pz⟩ := K
  have := hb.size
  exact ⟨cell_later hb p0, cell_later hb p1, by omega⟩
/-- What is known: pairs of words, digits, and that nothing old has turned. -/
def Kn (w : World) (ps : List (Nat × Int × Int)) (rs : List (Nat × Int)) (W : World) : Prop :=
  (∀ x ∈ ps, Pair W x.1 x.2.1 x.2.2) ∧ (∀ x ∈ rs, W.rangeAt x.1 0 (dl (wd x.2)) ∧ x.1 < W.heap.size) ∧ w.heap.size ≤ W.heap.size ∧ Below w.heap.size w W
section
variable {w W w1 : World} {ps : List (Nat × Int × Int)} {rs : List (Nat × Int)}
theorem Kn.later (K : Kn w ps rs W) (hb : Below W.heap.size W w1) : Kn w ps rs w1 := by
  obtain ⟨k1, k2, k3, k4⟩ := K
  have := hb.size
  exact ⟨fun x hx => (k1 x hx).later hb, fun x hx => ⟨range_later (k2 x hx).1 hb (k2 x hx).2, by have := (k2 x hx).2; omega⟩, by omega, k4.trans (hb.mono k3)⟩
theorem Kn.alloc (K : Kn w ps rs W) (o : Obj) : Kn w ps rs (W.alloc o) := K.later ((Below.refl _ _).alloc (Nat.le_refl _) o)
theorem Kn.drew (K : Kn w ps rs W) : Kn w ps rs W.drew := ⟨K.1, K.2.1, K.2.2.1, K.2.2.2.drew⟩
theorem Kn.pair (K : Kn w ps rs W) {p : Nat} {h l : Int} (k : Pair W p h l) : Kn w ((p, h, l) :: ps) rs W := ⟨fun x hx => by
  rcases List.mem_cons.1 hx with rfl | hx
  · exact k
  · exact K.1 x hx, K.2⟩
theorem Kn.range (K : Kn w ps rs W) {p : Nat} {V : Int} (k : W.rangeAt p 0 (dl (wd V)) ∧ p < W.heap.size) : Kn w ps ((p, V) :: rs) W := ⟨K.1, fun x hx => by
  rcases List.mem_cons.1 hx with rfl | hx
  · exact k
  · exact K.2.1 x hx, K.2.2⟩
theorem Kn.ranges (K : Kn w ps rs W) {p q : Nat} {V U : Int} (k : W.rangeAt p 0 (dl (wd V)) ∧ p < W.heap.size) (k' : W.rangeAt q 0 (dl (wd U)) ∧ q < W.heap.size) : Kn w ps ((p, V) :: (q, U) :: rs) W := (K.range k').range k
theorem Kn.two {p q : Nat} {a b c d : Int} (k : Pair W p a b) (k' : Pair W q c d) (hz : w.heap.size ≤ W.heap.size) (hb : Below w.heap.size w W) : Kn w [(p, a, b), (q, c, d)] [] W :=
  Kn.pair (Kn.pair ⟨fun x hx => (by cases hx), fun x hx => (by cases hx), hz, hb⟩ k') k
theorem Kn.new (K : Kn w ps rs W) (h l : Int) (t : TypeId) : Kn w ((W.heap.size, h, l) :: ps) rs (W.alloc (.cells #[.int .u64 h, .int .u64 l] t)) :=
  (K.alloc _).pair ⟨by rw [World.cell?_alloc_at _ _ _ _ rfl]; rfl, by rw [World.cell?_alloc_at _ _ _ _ rfl]; rfl, by simp⟩
theorem pair_of {p : Nat} {a b : Int} (r : W.rangeAt p 0 [.int .u64 a, .int .u64 b]) (hz : p < W.heap.size) : Pair W p a b := ⟨r 0 _ rfl, r 1 _ rfl, hz⟩
end
theorem prod_in (V u : Int) (v0 : 0 ≤ V) (v1 : V < 340282366920938463463374607431768211456) (u0 : 0 ≤ u) (u1 : u < 18446744073709551616) : 0 ≤ V * u ∧ V * u < 2135987035920910082395021706169552114602704522356652769947041607822219725780640550022962086936576 := by
  refine ⟨Int.mul_nonneg v0 u0, ?_⟩
  have : V * u ≤ 340282366920938463463374607431768211455 * 18446744073709551615 := Int.mul_le_mul (by omega) (by omega) u0 (by omega)
  omega
theorem of_drew {B : Nat} {W w1 : World} (h : Below B W.drew w1) : Below B W w1 := ⟨h.os, h.tape, h.output, h.size, h.block⟩

end Go.Proofs.YtaeejemknmjglaaDoor
