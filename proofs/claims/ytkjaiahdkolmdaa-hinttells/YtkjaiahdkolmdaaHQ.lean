/-
  What is needed, spread over a set, at this program: the document's. Conditions: the numbers are right, the set is that of a mask.
-/
import Derived.Test.YtkjaiahdkolmdaaHK
import Derived.Test.YtkjaiahdkolmdaaHN
namespace Go.Proofs.Ytkjaiahdkolmdaa.Mk
open Go.RowKit

/-- What has been spread over the first nodes. -/
def upO (s : Nat → Int) (b : Nat) (need : Int) (i : Nat) : Nat → Int := fun j => if j < i then ovS s b need j else 0
theorem upO_zero (s : Nat → Int) (b : Nat) (need : Int) : spL (upO s b need 0) = spL nought := rfl
theorem upO_all (s : Nat → Int) (b : Nat) (need : Int) : spL (upO s b need 8) = spL (ovS s b need) := rfl
theorem upO_succ (s : Nat → Int) (b : Nat) (need : Int) {i : Nat} (h : i < 8) : spL (fun j => if j = i then ovS s b need i else upO s b need i j) = spL (upO s b need (i + 1)) := by
  have e : ∀ j, (if j = i then ovS s b need i else upO s b need i j) = upO s b need (i + 1) j := fun j => by
    unfold upO
    by_cases h1 : j = i
    · subst h1
      rw [if_pos rfl, if_pos (by omega)]
    · rw [if_neg h1]
      by_cases h2 : j < i
      · rw [if_pos h2, if_pos (by omega)]
      · rw [if_neg h2, if_neg (by omega)]
  rw [funext e]
theorem upO_at (s : Nat → Int) (b : Nat) (need : Int) (i : Nat) : upO s b need i i = 0 := if_neg (by omega)
theorem spL_self (f : Nat → Int) {i : Nat} (_ : i < 8) (v : Int) (hv : f i = v) : spL (fun j => if j = i then v else f j) = spL f := by
  have e : ∀ j, (if j = i then v else f j) = f j := fun j => by
    by_cases h : j = i
    · subst h; rw [if_pos rfl, hv]
    · rw [if_neg h]
  rw [funext e]

set_option maxHeartbeats 4000000 in
set_option maxRecDepth 100000 in
theorem rover_is (s : Nat → Int) (b : Nat) (need : Int) (hS : okS s = true) (hn : 0 ≤ need ∧ need ≤ 1073741824) (w : World) :
    Calls Try.prog 14 #[spV s, setV b, .int .i64 need] w fun e w' => e = .returned (spV (ovS s b need)) ∧ Below w.heap.size w w' := by
  have RB : Hid ((∀ k, k ≤ 8 → 0 ≤ remS s b need k ∧ remS s b need k ≤ need) ∧ True) := ⟨remS_bound hS b hn.1, trivial⟩
  have SV : Hid ((∀ i, i < 8 → 0 ≤ s i ∧ s i ≤ 1073741824) ∧ True) := ⟨okS_all hS, trivial⟩
  have NB : Hid ((0 ≤ need ∧ need ≤ 1073741824) ∧ True) := ⟨hn, trivial⟩
  clear hn hS
  have g0 : Below w.heap.size w ((((w.alloc (.cells (spL s).toArray 23)).alloc (.cells #[.bool (tb b 0), .bool (tb b 1), .bool (tb b 2), .bool (tb b 3), .bool (tb b 4), .bool (tb b 5), .bool (tb b 6), .bool (tb b 7)] 39)).alloc (.cells #[.int .i64 0, .int .i64 0, .int .i64 0, .int .i64 0, .int .i64 0, .int .i64 0, .int .i64 0, .int .i64 0] 23)).alloc (.cells #[.int .i64 0, .int .i64 0, .int .i64 0, .int .i64 0, .int .i64 0, .int .i64 0, .int .i64 0, .int .i64 0] 23)) := by go_grown
  have q0 : Cs ((((w.alloc (.cells (spL s).toArray 23)).alloc (.cells #[.bool (tb b 0), .bool (tb b 1), .bool (tb b 2), .bool (tb b 3), .bool (tb b 4), .bool (tb b 5), .bool (tb b 6), .bool (tb b 7)] 39)).alloc (.cells #[.int .i64 0, .int .i64 0, .int .i64 0, .int .i64 0, .int .i64 0, .int .i64 0, .int .i64 0, .int .i64 0] 23)).alloc (.cells #[.int .i64 0, .int .i64 0, .int .i64 0, .int .i64 0, .int .i64 0, .int .i64 0, .int .i64 0, .int .i64 0] 23)) w.heap.size (spL s) := (((Cs.new _ _ _ _ rfl).alloc _).alloc _).alloc _
  have q1 : Cs ((((w.alloc (.cells (spL s).toArray 23)).alloc (.cells #[.bool (tb b 0), .bool (tb b 1), .bool (tb b 2), .bool (tb b 3), .bool (tb b 4), .bool (tb b 5), .bool (tb b 6), .bool (tb b 7)] 39)).alloc (.cells #[.int .i64 0, .int .i64 0, .int .i64 0, .int .i64 0, .int .i64 0, .int .i64 0, .int .i64 0, .int .i64 0] 23)).alloc (.cells #[.int .i64 0, .int .i64 0, .int .i64 0, .int .i64 0, .int .i64 0, .int .i64 0, .int .i64 0, .int .i64 0] 23)) (w.heap.size + 1) (setL b) := ((Cs.new _ _ _ _ (by simp)).alloc _).alloc _
  have q2 : Cs ((((w.alloc (.cells (spL s).toArray 23)).alloc (.cells #[.bool (tb b 0), .bool (tb b 1), .bool (tb b 2), .bool (tb b 3), .bool (tb b 4), .bool (tb b 5), .bool (tb b 6), .bool (tb b 7)] 39)).alloc (.cells #[.int .i64 0, .int .i64 0, .int .i64 0, .int .i64 0, .int .i64 0, .int .i64 0, .int .i64 0, .int .i64 0] 23)).alloc (.cells #[.int .i64 0, .int .i64 0, .int .i64 0, .int .i64 0, .int .i64 0, .int .i64 0, .int .i64 0, .int .i64 0] 23)) (w.heap.size + 1 + 1) (spL nought) := (Cs.new _ _ _ _ (by simp)).alloc _
  have q3 : Cs ((((w.alloc (.cells (spL s).toArray 23)).alloc (.cells #[.bool (tb b 0), .bool (tb b 1), .bool (tb b 2), .bool (tb b 3), .bool (tb b 4), .bool (tb b 5), .bool (tb b 6), .bool (tb b 7)] 39)).alloc (.cells #[.int .i64 0, .int .i64 0, .int .i64 0, .int .i64 0, .int .i64 0, .int .i64 0, .int .i64 0, .int .i64 0] 23)).alloc (.cells #[.int .i64 0, .int .i64 0, .int .i64 0, .int .i64 0, .int .i64 0, .int .i64 0, .int .i64 0, .int .i64 0] 23)) (w.heap.size + 1 + 1 + 1) (spL nought) := Cs.new _ _ _ _ (by simp)
  go_enter Try.func14, Try.ntmps14
  go_wp2
  generalize ((((w.alloc (.cells (spL s).toArray 23)).alloc (.cells #[.bool (tb b 0), .bool (tb b 1), .bool (tb b 2), .bool (tb b 3), .bool (tb b 4), .bool (tb b 5), .bool (tb b 6), .bool (tb b 7)] 39)).alloc (.cells #[.int .i64 0, .int .i64 0, .int .i64 0, .int .i64 0, .int .i64 0, .int .i64 0, .int .i64 0, .int .i64 0] 23)).alloc (.cells #[.int .i64 0, .int .i64 0, .int .i64 0, .int .i64 0, .int .i64 0, .int .i64 0, .int .i64 0, .int .i64 0] 23)) = W0 at *
  go_loopw [2, 8] (fun nd f wr => ∃ i : Nat, f = .int .i64 i ∧ i ≤ 8 ∧ nd = .int .i64 (remS s b need i) ∧ Cs wr w.heap.size (spL s) ∧ Cs wr (w.heap.size + 1) (setL b) ∧ Cs wr (w.heap.size + 1 + 1) (spL nought) ∧ Cs wr (w.heap.size + 1 + 1 + 1) (spL (upO s b need i)) ∧ Below w.heap.size w wr) (fun _ f _ => 8 - (intOf f).toNat)
  case atStart => exact ⟨0, rfl, by omega, rfl, q0, q1, q2, q3, g0⟩
  case round =>
    clear q0 q1 q2 q3 g0
    obtain ⟨i, rfl, il, rfl, q0, q1, q2, q3, HB⟩ := hrel
    by_cases ci : i < 8
    · have j0 : (0 : Int) ≤ (i : Int) := by omega
      have j1 : (i : Int) < 8 := by omega
      have c0 : wr.cell? ⟨w.heap.size, i, none⟩ = some (.int .i64 (s i)) := q0.1 i _ (spL_at s ci)
      have c1 : wr.cell? ⟨w.heap.size + 1, i, none⟩ = some (.bool (tb b i)) := q1.1 i _ (setL_at b ci)
      have c3 : wr.cell? ⟨w.heap.size + 1 + 1 + 1, i, none⟩ = some (.int .i64 0) := by
        have := q3.1 i _ (spL_at _ ci)
        rwa [upO_at] at this
      have f3 : wr.frozen? ⟨w.heap.size + 1 + 1 + 1, i, none⟩ = false := q3.2.1 i ci
      have z0 := q0.2.2
      have z1 := q1.2.2
      have z3 := q3.2.2
      have RBi := RB.out.1 i (by omega)
      have SVi := SV.out.1 i ci
      have NBi := NB.out.1
      have UP : Hid (spL (fun j => if j = i then ovS s b need i else upO s b need i j) = spL (upO s b need (i + 1))) := upO_succ s b need ci
      have HV : Hid (ovS s b need i = if tb b i = true then min (s i) (remS s b need i) else 0) := rfl
      have HR : Hid (remS s b need (i + 1) = if tb b i = true then remS s b need i - min (s i) (remS s b need i) else remS s b need i) := rfl
      obtain ⟨R, hR⟩ : ∃ R, R = remS s b need i := ⟨_, rfl⟩
      obtain ⟨S, hS⟩ : ∃ S, S = s i := ⟨_, rfl⟩
      rw [← hR] at HV HR RBi ⊢
      rw [← hS] at HV HR SVi c0
      generalize tb b i = t at *
      clear hR hS
      cases t with
      | false =>
        have OV : ovS s b need i = 0 := HV.out
        have RM : remS s b need (i + 1) = R := HR.out
        have Q3 : Hid (Cs wr (w.heap.size + 1 + 1 + 1) (spL (upO s b need (i + 1)))) := by
          show Cs wr _ _
          rw [← UP.out, spL_self _ ci _ (by rw [upO_at, OV])]
          exact q3
        have RMM : Hid (remS s b need (i + 1) = R) := RM
        clear HV HR OV RM UP
        go_wp2
        go_roundw
        case rel => exact ⟨i + 1, by go_num, by omega, by rw [RMM.out], q0, q1, q2, Q3.out, HB⟩
        case measure => simp [intOf]; omega
      | true =>
        have OV0 : ovS s b need i = min S R := HV.out
        have RM0 : remS s b need (i + 1) = R - min S R := HR.out
        by_cases r0 : R = 0
        · subst r0
          have OV : ovS s b need i = 0 := by rw [OV0]; omega
          have Q3 : Hid (Cs wr (w.heap.size + 1 + 1 + 1) (spL (upO s b need (i + 1)))) := by
            show Cs wr _ _
            rw [← UP.out, spL_self _ ci _ (by rw [upO_at, OV])]
            exact q3
          have RMM : Hid (remS s b need (i + 1) = 0) := by show remS s b need (i + 1) = 0; rw [RM0]; omega
          clear HV HR OV OV0 RM0 UP
          go_wp2
          go_roundw
          case rel => exact ⟨i + 1, by go_num, by omega, by rw [RMM.out], q0, q1, q2, Q3.out, HB⟩
          case measure => simp [intOf]; omega
        · have r1 : 0 < R := by omega
          by_cases rs : R < S
          · have OV : ovS s b need i = R := by rw [OV0]; omega
            have RMM : Hid (remS s b need (i + 1) = 0) := by show remS s b need (i + 1) = 0; rw [RM0]; omega
            have Q3 : Cs ((wr.setCell ⟨w.heap.size + 1 + 1 + 1, i, none⟩ (.int .i64 S)).setCell ⟨w.heap.size + 1 + 1 + 1, i, none⟩ (.int .i64 R)) (w.heap.size + 1 + 1 + 1) (spL (upO s b need (i + 1))) := by rw [← UP.out, show ovS s b need i = R from OV]; exact by have := (q3.set i (.int .i64 S) ci).set i (.int .i64 R) (by rw [List.length_set]; exact ci); rwa [List.set_set, spL_set _ _ ci] at this
            have Q0 : Cs ((wr.setCell ⟨w.heap.size + 1 + 1 + 1, i, none⟩ (.int .i64 S)).setCell ⟨w.heap.size + 1 + 1 + 1, i, none⟩ (.int .i64 R)) w.heap.size (spL s) := (q0.beside (b' := w.heap.size + 1 + 1 + 1) i _ (by omega)).beside (b' := w.heap.size + 1 + 1 + 1) i _ (by omega)
            have Q1 : Cs ((wr.setCell ⟨w.heap.size + 1 + 1 + 1, i, none⟩ (.int .i64 S)).setCell ⟨w.heap.size + 1 + 1 + 1, i, none⟩ (.int .i64 R)) (w.heap.size + 1) (setL b) := (q1.beside (b' := w.heap.size + 1 + 1 + 1) i _ (by omega)).beside (b' := w.heap.size + 1 + 1 + 1) i _ (by omega)
            have Q2 : Cs ((wr.setCell ⟨w.heap.size + 1 + 1 + 1, i, none⟩ (.int .i64 S)).setCell ⟨w.heap.size + 1 + 1 + 1, i, none⟩ (.int .i64 R)) (w.heap.size + 1 + 1) (spL nought) := (q2.beside (b' := w.heap.size + 1 + 1 + 1) i _ (by omega)).beside (b' := w.heap.size + 1 + 1 + 1) i _ (by omega)
            have QB : Below w.heap.size w ((wr.setCell ⟨w.heap.size + 1 + 1 + 1, i, none⟩ (.int .i64 S)).setCell ⟨w.heap.size + 1 + 1 + 1, i, none⟩ (.int .i64 R)) := (HB.setCell (p := ⟨w.heap.size + 1 + 1 + 1, i, none⟩) (by show w.heap.size ≤ w.heap.size + 1 + 1 + 1; omega) _).setCell (p := ⟨w.heap.size + 1 + 1 + 1, i, none⟩) (by show w.heap.size ≤ w.heap.size + 1 + 1 + 1; omega) _
            have H0 : Hid _ := Q0
            have H1 : Hid _ := Q1
            have H2 : Hid _ := Q2
            have H3 : Hid _ := Q3
            have H4 : Hid _ := QB
            clear HV HR OV OV0 RM0 UP Q0 Q1 Q2 Q3 QB q0 q1 q2 q3 HB r0
            go_wp2
            go_roundw
            case rel => exact ⟨i + 1, by go_num, by omega, by rw [RMM.out], H0.out, H1.out, H2.out, H3.out, H4.out⟩
            case measure => simp [intOf]; omega
          · have OV : ovS s b need i = S := by rw [OV0]; omega
            have RMM : Hid (remS s b need (i + 1) = R - S) := by show remS s b need (i + 1) = R - S; rw [RM0]; omega
            have b2 : -9223372036854775808 ≤ R - S := by omega
            have b3 : R - S ≤ 9223372036854775807 := by omega
            have Q3 : Cs (wr.setCell ⟨w.heap.size + 1 + 1 + 1, i, none⟩ (.int .i64 S)) (w.heap.size + 1 + 1 + 1) (spL (upO s b need (i + 1))) := by rw [← UP.out, show ovS s b need i = S from OV]; exact by have := q3.set i (.int .i64 S) ci; rwa [spL_set _ _ ci] at this
            have Q0 : Cs (wr.setCell ⟨w.heap.size + 1 + 1 + 1, i, none⟩ (.int .i64 S)) w.heap.size (spL s) := q0.beside (b' := w.heap.size + 1 + 1 + 1) i _ (by omega)
            have Q1 : Cs (wr.setCell ⟨w.heap.size + 1 + 1 + 1, i, none⟩ (.int .i64 S)) (w.heap.size + 1) (setL b) := q1.beside (b' := w.heap.size + 1 + 1 + 1) i _ (by omega)
            have Q2 : Cs (wr.setCell ⟨w.heap.size + 1 + 1 + 1, i, none⟩ (.int .i64 S)) (w.heap.size + 1 + 1) (spL nought) := q2.beside (b' := w.heap.size + 1 + 1 + 1) i _ (by omega)
            have QB : Below w.heap.size w (wr.setCell ⟨w.heap.size + 1 + 1 + 1, i, none⟩ (.int .i64 S)) := HB.setCell (p := ⟨w.heap.size + 1 + 1 + 1, i, none⟩) (by show w.heap.size ≤ w.heap.size + 1 + 1 + 1; omega) _
            have H0 : Hid _ := Q0
            have H1 : Hid _ := Q1
            have H2 : Hid _ := Q2
            have H3 : Hid _ := Q3
            have H4 : Hid _ := QB
            clear HV HR OV OV0 RM0 UP Q0 Q1 Q2 Q3 QB q0 q1 q2 q3 HB r0
            go_wp2
            go_roundw
            case rel => exact ⟨i + 1, by go_num, by omega, by rw [RMM.out], H0.out, H1.out, H2.out, H3.out, H4.out⟩
            case measure => simp [intOf]; omega
    · obtain rfl : i = 8 := by omega
      rw [show ((8 : Nat) : Int) = 8 from rfl]
      rw [upO_all] at q3
      obtain ⟨f, hf⟩ : ∃ f, f = ovS s b need := ⟨_, rfl⟩
      have HF : Hid (f = ovS s b need) := hf
      rw [← hf] at q3
      clear hf
      have d0 := q3.1 0 _ rfl
      have d1 := q3.1 1 _ rfl
      have d2 := q3.1 2 _ rfl
      have d3 := q3.1 3 _ rfl
      have d4 := q3.1 4 _ rfl
      have d5 := q3.1 5 _ rfl
      have d6 := q3.1 6 _ rfl
      have d7 := q3.1 7 _ rfl
      have c0 := q2.1 0 _ rfl
      have c1 := q2.1 1 _ rfl
      have c2 := q2.1 2 _ rfl
      have c3 := q2.1 3 _ rfl
      have c4 := q2.1 4 _ rfl
      have c5 := q2.1 5 _ rfl
      have c6 := q2.1 6 _ rfl
      have c7 := q2.1 7 _ rfl
      have f0 := q2.2.1 0 (by show 0 < 8; omega)
      have f1 := q2.2.1 1 (by show 1 < 8; omega)
      have f2 := q2.2.1 2 (by show 2 < 8; omega)
      have f3 := q2.2.1 3 (by show 3 < 8; omega)
      have f4 := q2.2.1 4 (by show 4 < 8; omega)
      have f5 := q2.2.1 5 (by show 5 < 8; omega)
      have f6 := q2.2.1 6 (by show 6 < 8; omega)
      have f7 := q2.2.1 7 (by show 7 < 8; omega)
      have z3 := q3.2.2
      have z2 := q2.2.2
      have K6 : Hid (Cs ((((((((wr.setCell ⟨w.heap.size + 1 + 1, 0, none⟩ (.int .i64 (f 0))).setCell ⟨w.heap.size + 1 + 1, 1, none⟩ (.int .i64 (f 1))).setCell ⟨w.heap.size + 1 + 1, 2, none⟩ (.int .i64 (f 2))).setCell ⟨w.heap.size + 1 + 1, 3, none⟩ (.int .i64 (f 3))).setCell ⟨w.heap.size + 1 + 1, 4, none⟩ (.int .i64 (f 4))).setCell ⟨w.heap.size + 1 + 1, 5, none⟩ (.int .i64 (f 5))).setCell ⟨w.heap.size + 1 + 1, 6, none⟩ (.int .i64 (f 6))).setCell ⟨w.heap.size + 1 + 1, 7, none⟩ (.int .i64 (f 7))) (w.heap.size + 1 + 1) (spL f)) := cs_store8 (g := f) q2
      have K7 : Hid (Below w.heap.size w ((((((((wr.setCell ⟨w.heap.size + 1 + 1, 0, none⟩ (.int .i64 (f 0))).setCell ⟨w.heap.size + 1 + 1, 1, none⟩ (.int .i64 (f 1))).setCell ⟨w.heap.size + 1 + 1, 2, none⟩ (.int .i64 (f 2))).setCell ⟨w.heap.size + 1 + 1, 3, none⟩ (.int .i64 (f 3))).setCell ⟨w.heap.size + 1 + 1, 4, none⟩ (.int .i64 (f 4))).setCell ⟨w.heap.size + 1 + 1, 5, none⟩ (.int .i64 (f 5))).setCell ⟨w.heap.size + 1 + 1, 6, none⟩ (.int .i64 (f 6))).setCell ⟨w.heap.size + 1 + 1, 7, none⟩ (.int .i64 (f 7)))) := below_store8 f HB (by omega)
      clear q0 q1 q2 q3 HB ci il RB SV NB
      go_wp2
      have k6 := K6.out
      have k7 := K7.out
      clear K6 K7
      generalize ((((((((wr.setCell ⟨w.heap.size + 1 + 1, 0, none⟩ (.int .i64 (f 0))).setCell ⟨w.heap.size + 1 + 1, 1, none⟩ (.int .i64 (f 1))).setCell ⟨w.heap.size + 1 + 1, 2, none⟩ (.int .i64 (f 2))).setCell ⟨w.heap.size + 1 + 1, 3, none⟩ (.int .i64 (f 3))).setCell ⟨w.heap.size + 1 + 1, 4, none⟩ (.int .i64 (f 4))).setCell ⟨w.heap.size + 1 + 1, 5, none⟩ (.int .i64 (f 5))).setCell ⟨w.heap.size + 1 + 1, 6, none⟩ (.int .i64 (f 6))).setCell ⟨w.heap.size + 1 + 1, 7, none⟩ (.int .i64 (f 7))) = U at *
      have e0 := k6.1 0 _ rfl
      have e1 := k6.1 1 _ rfl
      have e2 := k6.1 2 _ rfl
      have e3 := k6.1 3 _ rfl
      have e4 := k6.1 4 _ rfl
      have e5 := k6.1 5 _ rfl
      have e6 := k6.1 6 _ rfl
      have e7 := k6.1 7 _ rfl
      refine bodyPost_ret (v := spV f) (by simp [results, Try.results14, go_sem, e0, e1, e2, e3, e4, e5, e6, e7]) rfl ⟨by rw [HF.out], k7⟩

end Go.Proofs.Ytkjaiahdkolmdaa.Mk
