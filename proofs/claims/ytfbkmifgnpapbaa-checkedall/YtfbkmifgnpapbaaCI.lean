/-
  The walk of the statement CheckedAll at this program: it returns true. Conditions: the argument reads as a list of numbers of 64 bits.
-/
import Derived.Test.YtfbkmifgnpapbaaCF
namespace Go.Proofs.Ytfbkmifgnpapbaa
open Go.RowKit

theorem add_gives (a b : Int) (ha : In64 a) (hb : In64 b) : ∃ (ma mb M : Bool) (VA VB R : Int),
      (∀ w, Calls Try.prog 8 #[.int .i64 a] w fun e w' => e = .returned (iv ma VA) ∧ Below w.heap.size w w') ∧
      (∀ w, Calls Try.prog 8 #[.int .i64 b] w fun e w' => e = .returned (iv mb VB) ∧ Below w.heap.size w w') ∧
      (∀ w, Calls Try.prog 10 #[iv ma VA, iv mb VB] w fun e w' => e = .returned (iv M R) ∧ Below w.heap.size w w') ∧
      (∀ w, Calls Try.prog 11 #[iv M R] w fun e w' => e = .returned (.tuple #[.int .i64 (fitv (a + b)), .bool (fitb (a + b))]) ∧ Below w.heap.size w w') := by
  have bA := abs_bd ha
  have bB := abs_bd hb
  have p20 := pow20
  have q1 := plus_bd (m1 := decide (a < 0)) (m2 := decide (b < 0)) (B := 65536 ^ 20) bA.1 bB.1 (by omega)
  refine ⟨decide (a < 0), decide (b < 0), plusM (decide (a < 0)) a.natAbs (decide (b < 0)) b.natAbs, a.natAbs, b.natAbs, plusV (decide (a < 0)) a.natAbs (decide (b < 0)) b.natAbs,
    fun w => of3 a w ha, fun w => of3 b w hb, fun w => plus3 _ _ _ _ w bA.1 bB.1 (by omega), fun w => intS _ _ _ w q1.1 q1.2 ?_⟩
  rw [plus_sgn, sgn_abs, sgn_abs]

theorem RdI.later {W w1 : World} {v : Value} {zs : List Int} (h : RdI W v zs) (hb : Below W.heap.size W w1) : RdI w1 v zs := by
  obtain ⟨a, cap, e, h1, h2, h3⟩ := h
  refine ⟨a, cap, e, h1, h2, fun j d hj => ?_⟩
  obtain ⟨b, off, e1, e2⟩ := h3 j d hj
  exact ⟨b, off, e1, cell_later hb e2⟩

/-- What the law's loop has behind so many numbers. -/
def Sofar (k : Bool) (s : Int) (rest : List Int) (R : Option Int) : Prop := (k = true ∧ In64 s ∧ sumv s rest = R) ∨ (k = false ∧ s = 0 ∧ R = none)

set_option maxHeartbeats 4000000 in
set_option maxRecDepth 100000 in
theorem lawall_any {v : Value} {zs : List Int} (w : World) (h : RdI w v zs) (hd : ∀ d ∈ zs, In64 d) :
    Calls Try.prog 4 #[v] w fun e w' => e = .returned (.bool true) ∧ Below w.heap.size w w' := by
  have HZ : Hid (RdI w v zs) := h
  obtain ⟨R, hR⟩ : ∃ R, R = sumv 0 zs := ⟨_, rfl⟩
  have HR : Hid (Sofar true 0 (zs.drop 0) R) := Or.inl ⟨rfl, by decide, by rw [hR]; simp⟩
  have SM : Hid (∀ w', RdI w' v zs → Calls Try.prog 18 #[v] w' fun e w2 => e = .returned (.tuple #[.int .i64 (R.getD 0), .bool R.isSome]) ∧ w2 = w') := by
    unfold Hid
    intro w' h'
    rw [hR]
    exact csum_any w' h' hd
  clear hR
  obtain ⟨a, cap, rfl, h1, h2, h3⟩ := h
  have H3 : Hid (∀ (j : Nat) (d : Int), zs[j]? = some d → ∃ b off : Nat, a = some ⟨b, off, none⟩ ∧ w.cell? ⟨b, off + j, none⟩ = some (.int .i64 d)) := h3
  have HD : Hid (∀ d ∈ zs, In64 d) := hd
  clear h3 hd
  have zl : zs.length ≤ maxLen := by omega
  unfold maxLen at zl
  go_enter Try.func4, Try.ntmps4
  go_wp2_with (fail)
  refine (cfirst_any _).mono ?_
  rintro e w1 ⟨rfl, hw1⟩
  by_cases hl : 200 < zs.length
  · have hl' : (200 : Int) < (zs.length : Int) := by omega
    go_wp2
    go_ret
    exact ⟨rfl, hw1⟩
  have hl' : ¬ (200 : Int) < (zs.length : Int) := by omega
  go_wp2_with (fail)
  refine (SM.out _ (HZ.out.later hw1)).mono ?_
  rintro e w' ⟨rfl, rfl⟩
  go_wp2
  go_loopw [5, 6, 21] (fun p b f wr => ∃ (j : Nat) (s : Int) (k : Bool), f = .int .i64 j ∧ j ≤ zs.length ∧ p = .int .i64 s ∧ b = .bool k ∧ Hid (Sofar k s (zs.drop j) R) ∧ Below w.heap.size w wr) (fun _ _ f _ => zs.length - (intOf f).toNat)
  case atStart => exact ⟨0, 0, true, rfl, by omega, rfl, rfl, HR, hw1⟩
  case round =>
    obtain ⟨j, s, k, rfl, jl, rfl, rfl, HO, HB⟩ := hrel
    by_cases cj : j < zs.length
    · obtain ⟨d, hdj⟩ : ∃ d, zs[j]? = some d := ⟨zs[j], List.getElem?_eq_getElem cj⟩
      obtain ⟨b, off, rfl, cell⟩ := H3.out j d hdj
      have cw := cell_later HB cell
      have d9 : Hid (In64 d) := HD.out d (List.mem_of_getElem? hdj)
      have E := HO.out
      rw [List.drop_eq_getElem_cons cj, show zs[j] = d from (List.getElem?_eq_some_iff.1 hdj).2] at E
      have HE : Hid (Sofar k s (d :: zs.drop (j + 1)) R) := E
      have j0 : (0 : Int) ≤ (j : Int) := by omega
      have j1 : (j : Int) < (zs.length : Int) := by omega
      clear E HO hdj cell
      cases k with
      | true =>
        have hs : In64 s ∧ (if In64 (s + d) then sumv (s + d) (zs.drop (j + 1)) else none) = R := by
          rcases HE.out with ⟨_, h1, h2⟩ | ⟨h, _⟩
          · exact ⟨h1, by rw [← h2]; rfl⟩
          · exact Bool.noConfusion h
        obtain ⟨ma, mb, M, VA, VB, S, gA, gB, gP, gI⟩ := add_gives s d hs.1 d9.out
        have GA : Hid _ := gA
        have GB : Hid _ := gB
        have GP : Hid _ := gP
        obtain ⟨x, y, hx⟩ : ∃ x y, x = fitv (s + d) ∧ y = fitb (s + d) := ⟨_, _, rfl, rfl⟩
        rw [← hx.1, ← hx.2] at gI
        have GI : Hid _ := gI
        have NX : Hid (Sofar y x (zs.drop (j + 1)) R) := by
          unfold Hid
          rw [hx.1, hx.2]
          by_cases hf : In64 (s + d)
          · rw [(fit_yes hf).1, (fit_yes hf).2]
            exact Or.inl ⟨rfl, hf, by rw [← hs.2, if_pos hf]⟩
          · rw [(fit_no hf).1, (fit_no hf).2]
            exact Or.inr ⟨rfl, rfl, by rw [← hs.2, if_neg hf]⟩
        clear gA gB gP gI hx hs HE
        go_wp2_with (fail)
        refine (GA.out _).mono ?_
        rintro e w2 ⟨rfl, hw2⟩
        have HB2 : Below w.heap.size w w2 := HB.trans (hw2.mono HB.size)
        clear HB hw2 cw
        go_wp2_with (fail)
        refine (GB.out _).mono ?_
        rintro e w3 ⟨rfl, hw3⟩
        have HB3 : Below w.heap.size w w3 := HB2.trans (hw3.mono HB2.size)
        clear HB2 hw3
        go_wp2_with (fail)
        refine (GP.out _).mono ?_
        rintro e w4 ⟨rfl, hw4⟩
        have HB4 : Below w.heap.size w w4 := HB3.trans (hw4.mono HB3.size)
        clear HB3 hw4
        go_wp2_with (fail)
        refine (GI.out _).mono ?_
        rintro e w5 ⟨rfl, hw5⟩
        have HB5 : Below w.heap.size w w5 := HB4.trans (hw5.mono HB4.size)
        clear HB4 hw5
        go_wp2
        go_roundw
        case rel => exact ⟨j + 1, x, y, by go_num, by omega, rfl, rfl, NX, HB5⟩
        case measure => simp [intOf]; omega
      | false =>
        have NX : Hid (Sofar false s (zs.drop (j + 1)) R) := by
          rcases HE.out with ⟨h, _⟩ | ⟨_, h1, h2⟩
          · exact Bool.noConfusion h
          · exact Or.inr ⟨rfl, h1, h2⟩
        clear HE
        go_wp2
        go_roundw
        case rel => exact ⟨j + 1, s, false, by go_num, by omega, rfl, rfl, NX, HB⟩
        case measure => simp [intOf]; omega
    · obtain rfl : j = zs.length := by omega
      rcases HO.out with ⟨rfl, _, E⟩ | ⟨rfl, rfl, rfl⟩
      · rw [List.drop_length, sumv] at E
        subst E
        clear HO
        go_wp2
        go_ret
        exact ⟨rfl, HB⟩
      · clear HO
        go_wp2
        go_ret
        exact ⟨rfl, HB⟩

end Go.Proofs.Ytfbkmifgnpapbaa
