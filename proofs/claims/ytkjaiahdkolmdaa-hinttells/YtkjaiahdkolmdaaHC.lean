/-
  What is right of both kinds at this program: ours. Conditions: none.
-/
import Derived.Test.YtkjaiahdkolmdaaHB
import Derived.Deep.MidRow
namespace Go.Proofs.Ytkjaiahdkolmdaa.Mk
open Go.RowKit

/-- Sixteen numbers are read at once, out of the middle of a block. -/
theorem ld16 {ops : Array Oper} {rest : List Oper} {op : Oper} {a : Act} {w : World} {Q : Exit → Act → World → Prop} {p o : Nat} {F : Nat → Nat → Int} (q : w.rangeAt p o (frL F)) (hgd : op.guard = none) (x : Operand)
    (ho : op.op = .load 24 x) (hx : a.eval x = .pointer (some ⟨p, o, none⟩)) (hk : wpList Try.prog ops Q rest (a.put op.dst (frV F)) w) : wpList Try.prog ops Q (op :: rest) a w :=
  wpList_load_mid hgd 24 x ho p o hx (frL F) _ q Try.underlying24 rfl (by kernel_rfl) hk
theorem cs_range {W : World} {b : Nat} {vs : List Value} (q : Cs W b vs) : W.rangeAt b 0 vs := fun j v h => by rw [Nat.zero_add]; exact q.1 j v h
def okG (F : Nat → Nat → Int) (K : Nat → Int) : Nat → Bool
  | 0 => okB F K
  | 1 => okN (K 1) && okS (F 1)
  | _ => true

set_option maxHeartbeats 2000000 in
set_option maxRecDepth 100000 in
theorem rightBlocks_is (F : Nat → Nat → Int) (K : Nat → Int) (w : World) : Calls Try.prog 24 #[frV F, ndV K] w fun e w' => e = .returned (.bool (okB F K)) ∧ Below w.heap.size w w' := by
  obtain ⟨R, hR⟩ : ∃ R, R = okB F K := ⟨_, rfl⟩
  rw [← hR]
  have HR : Hid (okG F K 0 = R) := hR.symm
  have CN : Hid (∀ n w, Calls Try.prog 21 #[.int .i64 n] w fun e w' => e = .returned (.bool (okN n)) ∧ w' = w) := fun n w => rightNumber_is n w
  have CS : Hid (∀ s w, Calls Try.prog 19 #[spV s] w fun e w' => e = .returned (.bool (okS s)) ∧ Below w.heap.size w w') := fun s w => rightSpread_is s w
  clear hR
  have X0 : ∀ w : World, Sem.run Try.prog (Instr.index 25 (.agg #[.int .i64 (K 0), .int .i64 (K 1)]) (.int .i64 0)) w = .ok (.int .i64 (K 0)) w := fun w => by kernel_rfl
  have X1 : ∀ w : World, Sem.run Try.prog (Instr.index 25 (.agg #[.int .i64 (K 0), .int .i64 (K 1)]) (.int .i64 1)) w = .ok (.int .i64 (K 1)) w := fun w => by kernel_rfl
  go_enter Try.func24, Try.ntmps24
  go_wp2
  have HB0 : Below w.heap.size w ((w.alloc (.cells (frL F).toArray 24)).alloc (.cells (kL K).toArray 25)) := by go_grown
  have q0 : Cs ((w.alloc (.cells (frL F).toArray 24)).alloc (.cells (kL K).toArray 25)) w.heap.size (frL F) := (Cs.new _ _ _ _ rfl).alloc _
  go_loopw [8] (fun f wr => ∃ j : Nat, f = .int .i64 j ∧ j ≤ 2 ∧ Hid (okG F K j = R) ∧ Cs wr w.heap.size (frL F) ∧ Below w.heap.size w wr) (fun f _ => 2 - (intOf f).toNat)
  case atStart => exact ⟨0, rfl, by omega, HR, q0, HB0⟩
  case round =>
    clear HR q0 HB0
    obtain ⟨j, rfl, jl, HO, q0, HB⟩ := hrel
    rcases (show j = 0 ∨ j = 1 ∨ j = 2 by omega) with rfl | rfl | rfl
    · have E : ((okN (K 0) && okS (F 0)) && okG F K 1) = R := HO.out
      have c0 := q0.1 0 _ rfl
      have c1 := q0.1 1 _ rfl
      have c2 := q0.1 2 _ rfl
      have c3 := q0.1 3 _ rfl
      have c4 := q0.1 4 _ rfl
      have c5 := q0.1 5 _ rfl
      have c6 := q0.1 6 _ rfl
      have c7 := q0.1 7 _ rfl
      have C1 := CN.out (K 0)
      have C2 := CS.out (F 0)
      have HE : Hid (((okN (K 0) && okS (F 0)) && okG F K 1) = R) := E
      generalize okN (K 0) = t at *
      generalize okS (F 0) = u at *
      clear E HO
      cases t with
      | false =>
        obtain rfl : R = false := HE.out.symm
        go_wp2_with (fail)
        refine (C1 _).mono ?_
        rintro e w1 ⟨rfl, hw⟩
        rw [hw]
        clear C1 C2 hw
        go_wp2
        go_ret
        exact ⟨rfl, HB⟩
      | true =>
        go_wp2_with (fail)
        refine (C1 _).mono ?_
        rintro e w1 ⟨rfl, hw⟩
        rw [hw]
        clear C1 hw
        go_wp2_with (fail)
        refine (C2 _).mono ?_
        rintro e w1 ⟨rfl, hb⟩
        have q1 := Cs.later hb q0
        have HB1 := HB.trans (hb.mono HB.size)
        clear C2 hb q0 HB c0 c1 c2 c3 c4 c5 c6 c7
        cases u with
        | false =>
          obtain rfl : R = false := HE.out.symm
          go_wp2
          go_ret
          exact ⟨rfl, HB1⟩
        | true =>
          have X : Hid (okG F K 1 = R) := HE.out
          clear HE
          go_wp2
          go_roundw
          case rel => exact ⟨1, rfl, by omega, X, q1, HB1⟩
          case measure => simp [intOf]
    · have E : ((okN (K 1) && okS (F 1)) && true) = R := by rw [Bool.and_true]; exact HO.out
      have c0 := q0.1 8 _ rfl
      have c1 := q0.1 9 _ rfl
      have c2 := q0.1 10 _ rfl
      have c3 := q0.1 11 _ rfl
      have c4 := q0.1 12 _ rfl
      have c5 := q0.1 13 _ rfl
      have c6 := q0.1 14 _ rfl
      have c7 := q0.1 15 _ rfl
      have C1 := CN.out (K 1)
      have C2 := CS.out (F 1)
      have HE : Hid (((okN (K 1) && okS (F 1)) && true) = R) := E
      generalize okN (K 1) = t at *
      generalize okS (F 1) = u at *
      clear E HO
      cases t with
      | false =>
        obtain rfl : R = false := HE.out.symm
        go_wp2_with (fail)
        refine (C1 _).mono ?_
        rintro e w1 ⟨rfl, hw⟩
        rw [hw]
        clear C1 C2 hw
        go_wp2
        go_ret
        exact ⟨rfl, HB⟩
      | true =>
        go_wp2_with (fail)
        refine (C1 _).mono ?_
        rintro e w1 ⟨rfl, hw⟩
        rw [hw]
        clear C1 hw
        go_wp2_with (fail)
        refine (C2 _).mono ?_
        rintro e w1 ⟨rfl, hb⟩
        have q1 := Cs.later hb q0
        have HB1 := HB.trans (hb.mono HB.size)
        clear C2 hb q0 HB c0 c1 c2 c3 c4 c5 c6 c7
        cases u with
        | false =>
          obtain rfl : R = false := HE.out.symm
          go_wp2
          go_ret
          exact ⟨rfl, HB1⟩
        | true =>
          have X : Hid (okG F K 2 = R) := HE.out
          clear HE
          go_wp2
          go_roundw
          case rel => exact ⟨2, rfl, by omega, X, q1, HB1⟩
          case measure => simp [intOf]
    · obtain rfl : R = true := HO.out.symm
      go_wp2
      go_ret
      exact ⟨rfl, HB⟩

end Go.Proofs.Ytkjaiahdkolmdaa.Mk
