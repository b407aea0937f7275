/-
  Two pods beside one another at this program: package spec's own, and the document's. Conditions: the containers read as lists.
-/
import Derived.Test.YtfgbppngnafpoaaDoorPJ
import Derived.Test.YtfgbppngnafpoaaDoorYS
import Derived.ChangeKeysEq
import Derived.Deep.QuietTactic
import Derived.BigQuiet
namespace Go.Proofs.YtfgbppngnafpoaaDoor.Sp
open Go.RowKit

theorem vecS : Tryd.prog.underlying 23 = some (.struct (Tryd.prog.fieldsOf 23)) := by kernel_rfl
theorem vecH : Tryd.prog.stoodInHeld 23 = false := by kernel_rfl
theorem ctS : Tryd.prog.underlying 26 = some (.struct (Tryd.prog.fieldsOf 26)) := by kernel_rfl
theorem ctH : Tryd.prog.stoodInHeld 26 = false := by kernel_rfl

theorem vec_eq (d : Nat) (a b c a' b' c' : Int) (w : World) : Sem.run Tryd.prog (Op.equalIn (d + 2) 23 (.agg #[.int .i64 a, .int .i64 b, .int .i64 c]) (.agg #[.int .i64 a', .int .i64 b', .int .i64 c'])) w = .ok (decide (a = a' ∧ b = b' ∧ c = c')) w := by
  rw [show d + 2 = (d + 1) + 1 from rfl, run_equalIn_agg w (d + 1) 23 _ _ vecS vecH]
  simp only [Program.fieldsOf, Tryd.underlying23]
  go_simp
  by_cases h1 : a = a' <;> by_cases h2 : b = b' <;> by_cases h3 : c = c' <;> simp [h1, h2, h3]

theorem bools_eq (d : Nat) (a b c a' b' c' : Bool) (w : World) : Sem.run Tryd.prog (Op.equalIn (d + 2) 24 (.agg #[.bool a, .bool b, .bool c]) (.agg #[.bool a', .bool b', .bool c'])) w = .ok (decide (a = a' ∧ b = b' ∧ c = c')) w := by
  obtain ⟨i, hi⟩ := info_of_underlying Tryd.underlying4
  rw [show d + 2 = (d + 1) + 1 from rfl, run_equalIn_array w (d + 1) _ _ Tryd.underlying24 hi]
  cases a <;> cases b <;> cases c <;> cases a' <;> cases b' <;> cases c' <;> kernel_rfl

set_option maxHeartbeats 1000000 in
theorem ct_eq (m rc rm rh lc lm lh x y z m1 rc1 rm1 rh1 lc1 lm1 lh1 x1 y1 z1) (w : World) : Sem.run Tryd.prog (Op.equalIn 10000 26 (.agg #[.string m, .int .i64 rc, .int .i64 rm, .int .i64 rh, .int .i64 lc, .int .i64 lm, .int .i64 lh, .bool x, .bool y, .bool z]) (.agg #[.string m1, .int .i64 rc1, .int .i64 rm1, .int .i64 rh1, .int .i64 lc1, .int .i64 lm1, .int .i64 lh1, .bool x1, .bool y1, .bool z1])) w = .ok (eqC ⟨m, rc, rm, rh, lc, lm, lh, x, y, z⟩ ⟨m1, rc1, rm1, rh1, lc1, lm1, lh1, x1, y1, z1⟩) w := by
  rw [show (10000 : Nat) = 9999 + 1 from rfl, run_equalIn_agg w 9999 26 _ _ ctS ctH]
  simp only [Program.fieldsOf, Tryd.underlying26]
  have v1 := fun w => vec_eq 9997 rc rm rh rc1 rm1 rh1 w
  have v2 := fun w => vec_eq 9997 lc lm lh lc1 lm1 lh1 w
  have v3 := fun w => bools_eq 9997 x y z x1 y1 z1 w
  go_simp
  by_cases h0 : m.toList = m1.toList
  case neg =>
    have e0 : eqS m m1 = false := by
      rw [← eqS_l]
      exact beq_eq_false_iff_ne.2 h0
    rw [if_neg h0]
    simp [eqC, e0]
  have e0 : eqS m m1 = true := by
    rw [← eqS_l]
    exact beq_iff_eq.2 h0
  rw [if_pos h0]
  by_cases h1 : rc = rc1 ∧ rm = rm1 ∧ rh = rh1
  case neg =>
    rw [if_pos (fun a b c => h1 ⟨a, b, c⟩)]
    simp only [eqC, e0, decide_eq_false h1, Bool.true_and, Bool.false_and]
  rw [if_neg (fun f => f h1.1 h1.2.1 h1.2.2)]
  by_cases h2 : lc = lc1 ∧ lm = lm1 ∧ lh = lh1
  case neg =>
    rw [if_pos (fun a b c => h2 ⟨a, b, c⟩)]
    simp only [eqC, e0, decide_eq_true h1, decide_eq_false h2, Bool.true_and, Bool.false_and]
  rw [if_neg (fun f => f h2.1 h2.2.1 h2.2.2)]
  by_cases h3 : x = x1 ∧ y = y1 ∧ z = z1
  case neg =>
    rw [if_pos (fun a b c => h3 ⟨a, b, c⟩)]
    simp only [eqC, e0, decide_eq_true h1, decide_eq_true h2, decide_eq_false h3, Bool.true_and]
  rw [if_neg (fun f => f h3.1 h3.2.1 h3.2.2)]
  simp only [eqC, e0, decide_eq_true h1, decide_eq_true h2, decide_eq_true h3, Bool.true_and]

set_option maxHeartbeats 1000000 in
set_option maxRecDepth 100000 in
theorem equal_is {v u : Value} {zs ys : List Ct} (w : World) (h : RdC w v zs) (k : RdC w u ys) :
    Calls Tryd.prog 41 #[v, u] w fun e w' => e = .returned (.bool (eqL zs ys)) ∧ Below w.heap.size w w' := by
  obtain ⟨R, hR⟩ : ∃ R, R = eqL zs ys := ⟨_, rfl⟩
  rw [← hR]
  have HR : Hid (R = eqL zs ys) := hR
  clear hR
  obtain ⟨a, cap, rfl, h1, h2, h3⟩ := h
  have H3 : Hid (∀ (j : Nat) (c : Ct), zs[j]? = some c → c.n.size ≤ maxLen ∧ ∃ b off : Nat, a = some ⟨b, off, none⟩ ∧ Ten w b (off + j * 10) c) := h3
  obtain ⟨a1, cap1, rfl, k1, k2, k3⟩ := k
  have K3 : Hid (∀ (j : Nat) (c : Ct), ys[j]? = some c → c.n.size ≤ maxLen ∧ ∃ b off : Nat, a1 = some ⟨b, off, none⟩ ∧ Ten w b (off + j * 10) c) := k3
  clear h3 k3
  have zl : zs.length ≤ maxLen := by omega
  unfold maxLen at zl
  by_cases ll : zs.length = ys.length
  case neg =>
    have lt : ((zs.length : Int) != (ys.length : Int)) = true := by simp; omega
    have X : Hid (R = false) := by unfold Hid; rw [HR.out, eqL_len ll]
    clear ll
    go_enter Tryd.func41, Tryd.ntmps41
    go_wp2
    go_ret
    exact ⟨by rw [X.out]; rfl, by go_grown⟩
  have LL : Hid (zs.length = ys.length) := ll
  have lt : ((zs.length : Int) != (ys.length : Int)) = false := by simp; omega
  clear ll
  go_enter Tryd.func41, Tryd.ntmps41
  go_wp2
  go_loopw [13] (fun f wr => ∃ j : Nat, f = .int .i64 j ∧ j ≤ zs.length ∧ Hid (∀ i, i < j → ∀ c d : Ct, zs[i]? = some c → ys[i]? = some d → eqC c d = true) ∧ Below w.heap.size w wr) (fun f _ => zs.length - (intOf f).toNat)
  case atStart => exact ⟨0, rfl, by omega, fun i hi => absurd hi (by omega), by go_grown⟩
  case round =>
    obtain ⟨j, rfl, jl, HJ, HB⟩ := hrel
    by_cases cj : j < zs.length
    · have cy : j < ys.length := by have := LL.out; omega
      obtain ⟨⟨m, rc, rm, rh, lc, lm, lh, x, y, z⟩, hdj⟩ : ∃ d, zs[j]? = some d := ⟨zs[j], List.getElem?_eq_getElem cj⟩
      obtain ⟨-, b, off, rfl, T⟩ := H3.out j _ hdj
      obtain ⟨c0, c1, c2, c3, c4, c5, c6, c7, c8, c9⟩ := T.later HB
      obtain ⟨⟨m1, rc1, rm1, rh1, lc1, lm1, lh1, x1, y1, z1⟩, hej⟩ : ∃ d, ys[j]? = some d := ⟨ys[j], List.getElem?_eq_getElem cy⟩
      obtain ⟨-, b1, off1, rfl, U⟩ := K3.out j _ hej
      obtain ⟨d0, d1, d2, d3, d4, d5, d6, d7, d8, d9⟩ := U.later HB
      simp only at c0 c1 c2 c3 c4 c5 c6 c7 c8 c9 d0 d1 d2 d3 d4 d5 d6 d7 d8 d9
      have j0 : (0 : Int) ≤ (j : Int) := by omega
      have j1 : (j : Int) < (zs.length : Int) := by omega
      have j2 : (j : Int) < (ys.length : Int) := by omega
      obtain ⟨g, hg⟩ : ∃ g, g = eqC ⟨m, rc, rm, rh, lc, lm, lh, x, y, z⟩ ⟨m1, rc1, rm1, rh1, lc1, lm1, lh1, x1, y1, z1⟩ := ⟨_, rfl⟩
      have sm : ∀ w : World, Sem.run Tryd.prog (Op.equalIn 10000 26 (.agg #[.string m, .int .i64 rc, .int .i64 rm, .int .i64 rh, .int .i64 lc, .int .i64 lm, .int .i64 lh, .bool x, .bool y, .bool z]) (.agg #[.string m1, .int .i64 rc1, .int .i64 rm1, .int .i64 rh1, .int .i64 lc1, .int .i64 lm1, .int .i64 lh1, .bool x1, .bool y1, .bool z1])) w = .ok g w := by rw [hg]; exact ct_eq _ _ _ _ _ _ _ _ _ _ _ _ _ _ _ _ _ _ _ _
      have DJ : Hid (zs[j]? = some ⟨m, rc, rm, rh, lc, lm, lh, x, y, z⟩) := hdj
      have EJ : Hid (ys[j]? = some ⟨m1, rc1, rm1, rh1, lc1, lm1, lh1, x1, y1, z1⟩) := hej
      have G : Hid (eqC ⟨m, rc, rm, rh, lc, lm, lh, x, y, z⟩ ⟨m1, rc1, rm1, rh1, lc1, lm1, lh1, x1, y1, z1⟩ = g) := hg.symm
      clear T U hdj hej hg
      go_wp2_with (fail)
      go_quiet (fail)
      clear c0 c1 c2 c3 c4 c5 c6 c7 c8 c9 d0 d1 d2 d3 d4 d5 d6 d7 d8 d9 sm
      cases g with
      | false =>
        have X : Hid (R = false) := by unfold Hid; rw [HR.out, eqL_no DJ.out EJ.out G.out]
        go_wp2
        go_ret
        exact ⟨by rw [X.out]; rfl, below_drewN HB _⟩
      | true =>
        have HJ' : Hid (∀ i, i < j + 1 → ∀ c d : Ct, zs[i]? = some c → ys[i]? = some d → eqC c d = true) := fun i hi c d hc hd => by
          by_cases e : i = j
          · subst e
            rw [DJ.out] at hc
            rw [EJ.out] at hd
            injection hc with hc
            injection hd with hd
            subst hc hd
            exact G.out
          · exact HJ.out i (by omega) c d hc hd
        clear HJ DJ EJ G
        go_wp2
        go_roundw
        case rel => exact ⟨j + 1, by go_num, by omega, HJ', below_drewN HB _⟩
        case measure => simp [intOf]; omega
    · have X : Hid (R = true) := by
        unfold Hid
        rw [HR.out, eqL_yes LL.out (fun i c d hc hd => HJ.out i (by have := (List.getElem?_eq_some_iff.1 hc).1; omega) c d hc hd)]
      clear HJ HR
      go_wp2
      go_ret
      exact ⟨by rw [X.out]; rfl, by go_grown⟩

theorem same_no1 {pn : ByteArray} {pr po : Int} {zs : List Ct} {qn : ByteArray} {qr qo : Int} {ys : List Ct} (h : eqS pn qn = false) : sameB pn pr po zs qn qr qo ys = false := by simp [sameB, h]
theorem same_no2 {pn : ByteArray} {pr po : Int} {zs : List Ct} {qn : ByteArray} {qr qo : Int} {ys : List Ct} (h : pr ≠ qr) : sameB pn pr po zs qn qr qo ys = false := by simp [sameB, h]
theorem same_no3 {pn : ByteArray} {pr po : Int} {zs : List Ct} {qn : ByteArray} {qr qo : Int} {ys : List Ct} (h : po ≠ qo) : sameB pn pr po zs qn qr qo ys = false := by simp [sameB, h]
theorem same_yes {pn : ByteArray} {pr po : Int} {zs : List Ct} {qn : ByteArray} {qr qo : Int} {ys : List Ct} (h : eqS pn qn = true) (h2 : pr = qr) (h3 : po = qo) : sameB pn pr po zs qn qr qo ys = eqL zs ys := by simp [sameB, h, h2, h3]

set_option maxHeartbeats 1000000 in
set_option maxRecDepth 100000 in
theorem same_is {v u : Value} {zs ys : List Ct} (pn : ByteArray) (pr po : Int) (qn : ByteArray) (qr qo : Int) (w : World) (h : RdC w v zs) (k : RdC w u ys) :
    Calls Tryd.prog 23 #[.agg #[.string pn, .int .i64 pr, .int .i64 po, v], .agg #[.string qn, .int .i64 qr, .int .i64 qo, u]] w fun e w' => e = .returned (.bool (sameB pn pr po zs qn qr qo ys)) ∧ Below w.heap.size w w' := by
  obtain ⟨R, hR⟩ : ∃ R, R = sameB pn pr po zs qn qr qo ys := ⟨_, rfl⟩
  rw [← hR]
  have HR : Hid (R = sameB pn pr po zs qn qr qo ys) := hR
  have HZ : Hid (RdC w v zs) := h
  have HY : Hid (RdC w u ys) := k
  clear hR h k
  obtain ⟨a, cap, rfl, -⟩ := id HZ.out
  obtain ⟨a1, cap1, rfl, -⟩ := id HY.out
  by_cases h0 : eqS pn qn = true
  case neg =>
    have e0 : eqS pn qn = false := Bool.eq_false_iff.2 h0
    have X : Hid (R = false) := by unfold Hid; rw [HR.out, same_no1 e0]
    have t0 : (pn.toList == qn.toList) = false := by rw [eqS_l]; exact e0
    clear h0 e0
    go_enter Tryd.func23, Tryd.ntmps23
    go_wp2
    go_ret
    exact ⟨by rw [X.out]; rfl, by go_grown⟩
  have t0 : (pn.toList == qn.toList) = true := by rw [eqS_l]; exact h0
  by_cases h1 : pr = qr
  case neg =>
    have X : Hid (R = false) := by unfold Hid; rw [HR.out, same_no2 h1]
    have t1 : (pr == qr) = false := by simp [h1]
    clear h0 h1
    go_enter Tryd.func23, Tryd.ntmps23
    go_wp2
    go_ret
    exact ⟨by rw [X.out]; rfl, by go_grown⟩
  have t1 : (pr == qr) = true := by simp [h1]
  by_cases h2 : po = qo
  case neg =>
    have X : Hid (R = false) := by unfold Hid; rw [HR.out, same_no3 h2]
    have t2 : (po == qo) = false := by simp [h2]
    clear h0 h1 h2
    go_enter Tryd.func23, Tryd.ntmps23
    go_wp2
    go_ret
    exact ⟨by rw [X.out]; rfl, by go_grown⟩
  have t2 : (po == qo) = true := by simp [h2]
  have Y : Hid (R = eqL zs ys) := by unfold Hid; rw [HR.out, same_yes h0 h1 h2]
  clear h0 h1 h2 HR
  go_enter Tryd.func23, Tryd.ntmps23
  go_wp2_with (fail)
  refine (equal_is _ ((HZ.out.alloc _).alloc _) ((HY.out.alloc _).alloc _)).mono ?_
  rintro e w1 ⟨rfl, hw1⟩
  have HB1 : Below w.heap.size w w1 := Below.trans (show Below w.heap.size w _ by go_grown) (hw1.mono (by simp; omega))
  obtain ⟨g, hg⟩ : ∃ g, g = eqL zs ys := ⟨_, rfl⟩
  rw [← hg] at Y ⊢
  clear hw1 hg
  go_wp2
  go_ret
  exact ⟨by rw [Y.out]; rfl, HB1⟩

set_option maxHeartbeats 1000000 in
set_option maxRecDepth 100000 in
theorem refSame_is {v u : Value} {zs ys : List Ct} (pn : ByteArray) (pr po : Int) (qn : ByteArray) (qr qo : Int) (w : World) (h : RdC w v zs) (k : RdC w u ys) :
    Calls Tryd.prog 24 #[.agg #[.string pn, .int .i64 pr, .int .i64 po, v], .agg #[.string qn, .int .i64 qr, .int .i64 qo, u]] w fun e w' => e = .returned (.bool (sameB pn pr po zs qn qr qo ys)) ∧ Below w.heap.size w w' := by
  obtain ⟨R, hR⟩ : ∃ R, R = sameB pn pr po zs qn qr qo ys := ⟨_, rfl⟩
  rw [← hR]
  have HR : Hid (R = sameB pn pr po zs qn qr qo ys) := hR
  clear hR
  obtain ⟨a, cap, rfl, h1, h2, h3⟩ := h
  have H3 : Hid (∀ (j : Nat) (c : Ct), zs[j]? = some c → c.n.size ≤ maxLen ∧ ∃ b off : Nat, a = some ⟨b, off, none⟩ ∧ Ten w b (off + j * 10) c) := h3
  obtain ⟨a1, cap1, rfl, k1, k2, k3⟩ := k
  have K3 : Hid (∀ (j : Nat) (c : Ct), ys[j]? = some c → c.n.size ≤ maxLen ∧ ∃ b off : Nat, a1 = some ⟨b, off, none⟩ ∧ Ten w b (off + j * 10) c) := k3
  clear h3 k3
  have zl : zs.length ≤ maxLen := by omega
  unfold maxLen at zl
  by_cases h0 : eqS pn qn = true
  case neg =>
    have e0 : eqS pn qn = false := Bool.eq_false_iff.2 h0
    have X : Hid (R = false) := by unfold Hid; rw [HR.out, same_no1 e0]
    have t0 : ¬ pn.toList = qn.toList := fun h => by rw [← eqS_l, h] at e0; simp at e0
    clear h0 e0
    go_enter Tryd.func24, Tryd.ntmps24
    go_wp2
    go_ret
    exact ⟨by rw [X.out]; rfl, by go_grown⟩
  obtain rfl : pn = qn := eqS_iff.1 h0
  by_cases g1 : pr = qr
  case neg =>
    have X : Hid (R = false) := by unfold Hid; rw [HR.out, same_no2 g1]
    clear h0
    go_enter Tryd.func24, Tryd.ntmps24
    go_wp2
    go_ret
    exact ⟨by rw [X.out]; rfl, by go_grown⟩
  obtain rfl : pr = qr := g1
  by_cases g2 : po = qo
  case neg =>
    have X : Hid (R = false) := by unfold Hid; rw [HR.out, same_no3 g2]
    clear h0
    go_enter Tryd.func24, Tryd.ntmps24
    go_wp2
    go_ret
    exact ⟨by rw [X.out]; rfl, by go_grown⟩
  obtain rfl : po = qo := g2
  have Y : Hid (R = eqL zs ys) := by unfold Hid; rw [HR.out, same_yes h0 rfl rfl]
  clear h0 HR
  by_cases ll : zs.length = ys.length
  case neg =>
    have lt : ((zs.length : Int) != (ys.length : Int)) = true := by simp; omega
    have X : Hid (R = false) := by unfold Hid; rw [Y.out, eqL_len ll]
    clear ll
    go_enter Tryd.func24, Tryd.ntmps24
    go_wp2
    go_ret
    exact ⟨by rw [X.out]; rfl, by go_grown⟩
  have LL : Hid (zs.length = ys.length) := ll
  have lt : ((zs.length : Int) != (ys.length : Int)) = false := by simp; omega
  clear ll
  go_enter Tryd.func24, Tryd.ntmps24
  go_wp2
  go_loopw [37] (fun f wr => ∃ j : Nat, f = .int .i64 j ∧ j ≤ zs.length ∧ Hid (∀ i, i < j → ∀ c d : Ct, zs[i]? = some c → ys[i]? = some d → eqC c d = true) ∧ Cs wr w.heap.size [.string pn, .int .i64 pr, .int .i64 po, .slice a zs.length cap] ∧ Cs wr (w.heap.size + 1) [.string pn, .int .i64 pr, .int .i64 po, .slice a1 ys.length cap1] ∧ Below w.heap.size w wr) (fun f _ => zs.length - (intOf f).toNat)
  case atStart => exact ⟨0, rfl, by omega, fun i hi => absurd hi (by omega), (by repeat (first | assumption | (refine Cs.new _ _ _ _ ?_; simp; done) | refine Cs.alloc ?_ _ | refine Cs.drew ?_ | (refine Cs.beside ?_ _ _ (by omega)))), (by repeat (first | assumption | (refine Cs.new _ _ _ _ ?_; simp; done) | refine Cs.alloc ?_ _ | refine Cs.drew ?_ | (refine Cs.beside ?_ _ _ (by omega)))), by go_grown⟩
  case round =>
    obtain ⟨j, rfl, jl, HJ, q_p, q_q, HB⟩ := hrel
    have p3 : wr.cell? ⟨w.heap.size, 3, none⟩ = some (.slice a zs.length cap) := q_p.1 3 _ rfl
    have q3 : wr.cell? ⟨w.heap.size + 1, 3, none⟩ = some (.slice a1 ys.length cap1) := q_q.1 3 _ rfl
    by_cases cj : j < zs.length
    · have cy : j < ys.length := by have := LL.out; omega
      obtain ⟨⟨m, rc, rm, rh, lc, lm, lh, x, y, z⟩, hdj⟩ : ∃ d, zs[j]? = some d := ⟨zs[j], List.getElem?_eq_getElem cj⟩
      obtain ⟨-, b, off, rfl, T⟩ := H3.out j _ hdj
      obtain ⟨c0, c1, c2, c3, c4, c5, c6, c7, c8, c9⟩ := T.later HB
      obtain ⟨⟨m1, rc1, rm1, rh1, lc1, lm1, lh1, x1, y1, z1⟩, hej⟩ : ∃ d, ys[j]? = some d := ⟨ys[j], List.getElem?_eq_getElem cy⟩
      obtain ⟨-, b1, off1, rfl, U⟩ := K3.out j _ hej
      obtain ⟨d0, d1, d2, d3, d4, d5, d6, d7, d8, d9⟩ := U.later HB
      simp only at c0 c1 c2 c3 c4 c5 c6 c7 c8 c9 d0 d1 d2 d3 d4 d5 d6 d7 d8 d9
      have j0 : (0 : Int) ≤ (j : Int) := by omega
      have j1 : (j : Int) < (zs.length : Int) := by omega
      have j2 : (j : Int) < (ys.length : Int) := by omega
      obtain ⟨g, hg⟩ : ∃ g, g = eqC ⟨m, rc, rm, rh, lc, lm, lh, x, y, z⟩ ⟨m1, rc1, rm1, rh1, lc1, lm1, lh1, x1, y1, z1⟩ := ⟨_, rfl⟩
      have sm : ∀ w : World, Sem.run Tryd.prog (Op.equalIn 10000 26 (.agg #[.string m, .int .i64 rc, .int .i64 rm, .int .i64 rh, .int .i64 lc, .int .i64 lm, .int .i64 lh, .bool x, .bool y, .bool z]) (.agg #[.string m1, .int .i64 rc1, .int .i64 rm1, .int .i64 rh1, .int .i64 lc1, .int .i64 lm1, .int .i64 lh1, .bool x1, .bool y1, .bool z1])) w = .ok g w := by rw [hg]; exact ct_eq _ _ _ _ _ _ _ _ _ _ _ _ _ _ _ _ _ _ _ _
      have DJ : Hid (zs[j]? = some ⟨m, rc, rm, rh, lc, lm, lh, x, y, z⟩) := hdj
      have EJ : Hid (ys[j]? = some ⟨m1, rc1, rm1, rh1, lc1, lm1, lh1, x1, y1, z1⟩) := hej
      have G : Hid (eqC ⟨m, rc, rm, rh, lc, lm, lh, x, y, z⟩ ⟨m1, rc1, rm1, rh1, lc1, lm1, lh1, x1, y1, z1⟩ = g) := hg.symm
      clear T U hdj hej hg
      go_wp2_with (fail)
      go_quiet (fail)
      clear c0 c1 c2 c3 c4 c5 c6 c7 c8 c9 d0 d1 d2 d3 d4 d5 d6 d7 d8 d9 sm p3 q3
      cases g with
      | false =>
        have X : Hid (R = false) := by unfold Hid; rw [Y.out, eqL_no DJ.out EJ.out G.out]
        go_wp2
        go_ret
        exact ⟨by rw [X.out]; rfl, below_drewN HB _⟩
      | true =>
        have HJ' : Hid (∀ i, i < j + 1 → ∀ c d : Ct, zs[i]? = some c → ys[i]? = some d → eqC c d = true) := fun i hi c d hc hd => by
          by_cases e : i = j
          · subst e
            rw [DJ.out] at hc
            rw [EJ.out] at hd
            injection hc with hc
            injection hd with hd
            subst hc hd
            exact G.out
          · exact HJ.out i (by omega) c d hc hd
        have r_p : Cs (wr.drewN nq) w.heap.size [.string pn, .int .i64 pr, .int .i64 po, .slice (some ⟨b, off, none⟩) zs.length cap] := q_p
        have r_q : Cs (wr.drewN nq) (w.heap.size + 1) [.string pn, .int .i64 pr, .int .i64 po, .slice (some ⟨b1, off1, none⟩) ys.length cap1] := q_q
        clear HJ DJ EJ G q_p q_q
        go_wp2
        go_roundw
        case rel => exact ⟨j + 1, by go_num, by omega, HJ', r_p, r_q, below_drewN HB _⟩
        case measure => simp [intOf]; omega
    · have X : Hid (R = true) := by
        unfold Hid
        rw [Y.out, eqL_yes LL.out (fun i c d hc hd => HJ.out i (by have := (List.getElem?_eq_some_iff.1 hc).1; omega) c d hc hd)]
      clear HJ
      go_wp2
      go_ret
      exact ⟨by rw [X.out]; rfl, by go_grown⟩

end Go.Proofs.YtfgbppngnafpoaaDoor.Sp
