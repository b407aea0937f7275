/-
  The document's comparison of two rows and of two lists of rows (Same), at this program. Conditions: both lists read as rows.
-/
import Derived.Test.YtpefjcgccbfgbaaBD
import Derived.BigQuiet
namespace Go.Proofs.Ytpefjcgccbfgbaa.Bk
open Go.RowKit

/-- Like spreads, and like rows. -/
def eqP (a b : Nat → Int) : Bool := a 0 == b 0 && (a 1 == b 1 && (a 2 == b 2 && (a 3 == b 3 && (a 4 == b 4 && (a 5 == b 5 && (a 6 == b 6 && a 7 == b 7))))))
def eqR (r q : Rw) : Bool := eqO r.p r.c r.k q.p q.c q.k && eqP r.s q.s
abbrev rowV (r : Rw) : Value := .agg #[.string r.p, .string r.c, .int .i64 r.k, .int .i64 (r.s 0), .int .i64 (r.s 1), .int .i64 (r.s 2), .int .i64 (r.s 3), .int .i64 (r.s 4), .int .i64 (r.s 5), .int .i64 (r.s 6), .int .i64 (r.s 7)]
set_option maxHeartbeats 1000000 in
theorem sp_eq (d : Nat) (a b : Nat → Int) (w : World) : Sem.run Try.prog (Op.equalIn (d + 2) 47 (spV a) (spV b)) w = .ok (eqP a b) w := by
  obtain ⟨i, hi⟩ := info_of_underlying Try.underlying3
  rw [show d + 2 = (d + 1) + 1 from rfl, run_equalIn_array w (d + 1) _ _ Try.underlying47 hi]
  rw [show Try.prog.cellsOf 3 = 1 by kernel_rfl, show List.range 8 = [0, 1, 2, 3, 4, 5, 6, 7] by rfl]
  have u := Try.underlying3
  unfold eqP
  simp only [Op.eqItems, Sem.run_bind]
  go_simp
  by_cases h0 : a 0 = b 0 <;> simp [h0]
  by_cases h1 : a 1 = b 1 <;> simp [h1]
  by_cases h2 : a 2 = b 2 <;> simp [h2]
  by_cases h3 : a 3 = b 3 <;> simp [h3]
  by_cases h4 : a 4 = b 4 <;> simp [h4]
  by_cases h5 : a 5 = b 5 <;> simp [h5]
  by_cases h6 : a 6 = b 6 <;> simp [h6]
  by_cases h7 : a 7 = b 7 <;> simp [h7]
theorem rowS : Try.prog.underlying 66 = some (.struct (Try.prog.fieldsOf 66)) := by kernel_rfl
theorem rowH : Try.prog.stoodInHeld 66 = false := by kernel_rfl
set_option maxHeartbeats 1000000 in
theorem row_eq (r q : Rw) (w : World) : Sem.run Try.prog (Op.equalIn 10000 66 (rowV r) (rowV q)) w = .ok (eqR r q) w := by
  rw [show (10000 : Nat) = 9999 + 1 from rfl, run_equalIn_agg w 9999 66 _ _ rowS rowH]
  simp only [Program.fieldsOf, Try.underlying66]
  have e1 := eqS_l r.p q.p
  have e2 := eqS_l r.c q.c
  have v1 : ∀ w, _ := fun w => sp_eq 9997 r.s q.s w
  unfold eqR eqO
  go_simp
  cases eqS r.p q.p <;> cases eqS r.c q.c <;> by_cases h : r.k = q.k <;> simp [h] <;> (cases eqP r.s q.s <;> simp)

/-- Like lists of rows. -/
def sameL : List Rw → List Rw → Bool
  | [], [] => true
  | r :: l, q :: m => eqR r q && sameL l m
  | _, _ => false
theorem sameL_len : ∀ {l m : List Rw}, sameL l m = true → l.length = m.length
  | [], [], _ => rfl
  | [], q :: m, h => by simp [sameL] at h
  | r :: l, [], h => by simp [sameL] at h
  | r :: l, q :: m, h => by
    rw [sameL, Bool.and_eq_true] at h
    simp [sameL_len h.2]

set_option maxHeartbeats 2000000 in
set_option maxRecDepth 100000 in
theorem rsame_is {lv mv : Value} {ls ms : List Rw} (w : World) (h : RdW w lv ls) (k : RdW w mv ms) :
    Calls Try.prog 26 #[lv, mv] w fun e w' => e = .returned (.bool (sameL ls ms)) ∧ Below w.heap.size w w' := by
  obtain ⟨R, hR⟩ : ∃ R, R = sameL ls ms := ⟨_, rfl⟩
  rw [← hR]
  have HR : Hid (sameL (ls.drop 0) (ms.drop 0) = R) := hR.symm
  have HL : Hid (R = true → ls.length = ms.length) := fun e => sameL_len (hR.symm.trans e)
  clear hR
  obtain ⟨a, cap, rfl, h1, h2, h3⟩ := h
  obtain ⟨a', cap', rfl, k1, k2, k3⟩ := k
  have H3 : Hid (∀ (j : Nat) (r : Rw), ls[j]? = some r → (r.p.size ≤ maxLen ∧ r.c.size ≤ maxLen) ∧ ∃ b off : Nat, a = some ⟨b, off, none⟩ ∧ El w b (off + j * 11) r) := h3
  have K3 : Hid (∀ (j : Nat) (r : Rw), ms[j]? = some r → (r.p.size ≤ maxLen ∧ r.c.size ≤ maxLen) ∧ ∃ b off : Nat, a' = some ⟨b, off, none⟩ ∧ El w b (off + j * 11) r) := k3
  have zl : ls.length ≤ maxLen := by omega
  have yl : ms.length ≤ maxLen := by omega
  unfold maxLen at zl yl
  clear h3 k3
  go_enter Try.func26, Try.ntmps26
  by_cases ll : ls.length = ms.length
  case neg =>
    have lt : ((ls.length : Int) != (ms.length : Int)) = true := by simp; omega
    have X : R = false := by cases R with
      | false => rfl
      | true => exact absurd (HL.out rfl) ll
    subst X
    go_wp2
    go_ret
    exact ⟨rfl, by go_grown⟩
  have LL : Hid (ls.length = ms.length) := ll
  have lt : ((ls.length : Int) != (ms.length : Int)) = false := by simp; omega
  clear ll HL
  go_wp2
  go_loopw [13] (fun f wr => ∃ j : Nat, f = .int .i64 j ∧ j ≤ ls.length ∧ Hid (sameL (ls.drop j) (ms.drop j) = R) ∧ Below w.heap.size w wr) (fun f _ => ls.length - (intOf f).toNat)
  case atStart => exact ⟨0, rfl, by omega, HR, by go_grown⟩
  case round =>
    clear HR
    obtain ⟨j, rfl, jl, HJ, HB⟩ := hrel
    by_cases cj : j < ls.length
    · have cy : j < ms.length := by have := LL.out; omega
      obtain ⟨r, hr⟩ : ∃ r, ls[j]? = some r := ⟨ls[j], List.getElem?_eq_getElem cj⟩
      obtain ⟨-, b, off, rfl, T⟩ := H3.out j r hr
      obtain ⟨t0, t1, t2, t3, t4, t5, t6, t7, t8, t9, t10⟩ := T.later HB
      obtain ⟨q, hq⟩ : ∃ q, ms[j]? = some q := ⟨ms[j], List.getElem?_eq_getElem cy⟩
      obtain ⟨-, b1, off1, rfl, U⟩ := K3.out j q hq
      obtain ⟨u0', u1', u2', u3', u4', u5', u6', u7', u8', u9', u10'⟩ := U.later HB
      have E := HJ.out
      rw [List.drop_eq_getElem_cons cj, List.drop_eq_getElem_cons cy, show ls[j] = r from (List.getElem?_eq_some_iff.1 hr).2, show ms[j] = q from (List.getElem?_eq_some_iff.1 hq).2, sameL] at E
      have j0 : (0 : Int) ≤ (j : Int) := by omega
      have j1 : (j : Int) < (ls.length : Int) := by omega
      have j2 : (j : Int) < (ms.length : Int) := by omega
      obtain ⟨g, hg⟩ : ∃ g, g = eqR r q := ⟨_, rfl⟩
      have sm : ∀ w : World, Sem.run Try.prog (Op.equalIn 10000 66 (rowV r) (rowV q)) w = .ok g w := by rw [hg]; exact row_eq r q
      rw [← hg] at E
      have HE : Hid ((g && sameL (ls.drop (j + 1)) (ms.drop (j + 1))) = R) := E
      clear T U hr hq hg E HJ H3 K3
      go_wp2_with (fail)
      go_quiet (fail)
      clear t0 t1 t2 t3 t4 t5 t6 t7 t8 t9 t10 u0' u1' u2' u3' u4' u5' u6' u7' u8' u9' u10' sm
      cases g with
      | false =>
        have X : R = false := by rw [← HE.out]; rfl
        subst X
        go_wp2
        go_ret
        exact ⟨rfl, below_drewN HB _⟩
      | true =>
        have X : Hid (sameL (ls.drop (j + 1)) (ms.drop (j + 1)) = R) := by have := HE.out; rwa [Bool.true_and] at this
        clear HE
        go_wp2
        go_roundw
        case rel => exact ⟨j + 1, by go_num, by omega, X, below_drewN HB _⟩
        case measure => simp [intOf]; omega
    · obtain rfl : j = ls.length := by omega
      have X : R = true := by rw [← HJ.out, List.drop_length, LL.out, List.drop_length]; rfl
      subst X
      go_wp2
      go_ret
      exact ⟨rfl, by go_grown⟩

end Go.Proofs.Ytpefjcgccbfgbaa.Bk
