/-
  The contract of the document's own Parse of an amount at this program: the same as the meaning of VE. Conditions: a text of at most 300 letters.
-/
import Derived.Test.YtpbgolcimbjekaaGreatDoorQ35
import Derived.Deep.CutBlock
namespace Go.Proofs.YtpbgolcimbjekaaGreatDoor
open Go.RowKit

/-- Along the document's Parse: the row of digits, the result's place; nothing older has turned. -/
def NR (w W : World) (v : Value) (ns : List Nat) : Prop := Rd W v ns ∧ (∀ d ∈ ns, d < 10) ∧ Box W w.heap.size 0 0 ∧ Below w.heap.size w W
theorem NR.later {w W w1 : World} {v : Value} {ns : List Nat} (h : NR w W v ns) (hb : Below W.heap.size W w1) : NR w w1 v ns :=
  ⟨h.1.later hb, h.2.1, h.2.2.1.later hb, h.2.2.2.trans (hb.mono h.2.2.2.size)⟩
theorem NR.times {w W : World} {v : Value} {ns : List Nat} {k c : Nat} (h : NR w W v ns) (hk : k ≤ 10) (hc : c ≤ 10) (hl : ns.length ≤ 1000) :
    Calls Tryz.prog 59 #[v, .int .i64 (k : Int), .int .i64 (c : Int)] W fun e w' => ∃ v' : Value, e = .returned v' ∧ NR w w' v' (tm k c ns) ∧ Below W.heap.size W w' := by
  refine (times_num W h.1 hk hc h.2.1 hl).mono ?_
  rintro e w' ⟨v', rfl, r, hb⟩
  exact ⟨v', rfl, ⟨r, tm_lt k ns c, h.2.2.1.later hb, h.2.2.2.trans (hb.mono h.2.2.2.size)⟩, hb⟩

theorem rparse_amount_none (s : ByteArray) (hz : s.size = 0) (w : World) :
    Calls Tryz.prog 37 #[.string s] w fun e w' => Parsed s.data.toList e ∧ Below w.heap.size w w' := by
  obtain rfl : s = ⟨#[]⟩ := by
    cases s with | mk d => simp [ByteArray.size] at hz; subst hz; rfl
  go_enter Tryz.func37, Tryz.ntmps37
  go_wp2
  go_returns
  exact ⟨Parsed.mk rfl Is.zero, by go_grown⟩

/-- What is known along the first loop: at place j of the text, behind c digits, b of them behind a point. -/
def At (l : List UInt8) (E CT BT DT : Nat) (p : Bool) (j c b V : Nat) : Prop :=
  j + nend p (l.drop j) = E ∧ c + ((sc p (l.drop j)).1.length + (sc p (l.drop j)).2.length) = CT ∧ b + (sc p (l.drop j)).2.length = BT ∧ (CT ≤ 28 → dig (dig V (sc p (l.drop j)).1) (sc p (l.drop j)).2 = DT)
theorem At.stop {s : ByteArray} {E CT BT DT : Nat} {p : Bool} {j c b V : Nat} (h : At s.data.toList E CT BT DT p j c b V) (hs : (∃ hj : j < s.size, stopB p s[j]) ∨ s.size ≤ j) :
    E = j ∧ CT = c ∧ BT = b ∧ (CT ≤ 28 → V = DT) := by
  obtain ⟨h1, h2, h3, h4⟩ := h
  have e : nend p (s.data.toList.drop j) = 0 ∧ sc p (s.data.toList.drop j) = ([], []) := by
    rcases hs with ⟨hj, hs⟩ | hs
    · rw [drop_at s j hj]; exact ⟨nend_stop hs, sc_stop hs⟩
    · rw [drop_end s j hs]; exact ⟨rfl, rfl⟩
  rw [e.2] at h2 h3 h4
  rw [e.1] at h1
  simp [dig] at h1 h2 h3 h4
  exact ⟨by omega, by omega, by omega, h4⟩
theorem At.dot {s : ByteArray} {E CT BT DT : Nat} {j c b V : Nat} (h : At s.data.toList E CT BT DT false j c b V) (hj : j < s.size) (hd : s[j].toNat = 46) : At s.data.toList E CT BT DT true (j + 1) c b V := by
  obtain ⟨h1, h2, h3, h4⟩ := h
  rw [drop_at s j hj] at h1 h2 h3 h4
  obtain ⟨e1, e2⟩ := sc_dot (r := s.data.toList.drop (j + 1)) hd
  rw [e1] at h2 h3 h4
  rw [e2] at h1
  have e3 : (sc true (s.data.toList.drop (j + 1))).1 = [] := by rw [sc_true]
  refine ⟨by omega, by rw [e3]; simpa using h2, h3, fun hc => ?_⟩
  rw [e3]
  exact h4 hc
theorem At.dig {s : ByteArray} {E CT BT DT : Nat} {p : Bool} {j c b V : Nat} (h : At s.data.toList E CT BT DT p j c b V) (hj : j < s.size) (hd : isD s[j] = true) :
    At s.data.toList E CT BT DT p (j + 1) (c + 1) (b + (if p = true then 1 else 0)) (V * 10 + (s[j].toNat - 48)) ∧ c + 1 ≤ CT := by
  obtain ⟨h1, h2, h3, h4⟩ := h
  rw [drop_at s j hj] at h1 h2 h3 h4
  obtain ⟨e1, e2, e3, e4⟩ := sc_dig (p := p) (r := s.data.toList.drop (j + 1)) hd
  rw [e1] at h1
  rw [e2] at h2
  rw [e3] at h3
  refine ⟨⟨by omega, by omega, by omega, fun hc => ?_⟩, by omega⟩
  rw [← e4]; exact h4 hc
/-- Beyond 28 digits nothing hangs on the number. -/
theorem At.long {l : List UInt8} {E CT BT DT : Nat} {p : Bool} {j c b V : Nat} (h : At l E CT BT DT p j c b V) (hc : 28 < CT) (U : Nat) : At l E CT BT DT p j c b U :=
  ⟨h.1, h.2.1, h.2.2.1, fun h => by omega⟩

theorem fin_val {DT N1 N2 t : Nat} {T : Int} {b : Bool} (h1 : N1 = DT * 2 ^ t) (h2 : N2 = N1 * 10 ^ T.toNat) (h3 : b = false ↔ N2 % 10 ^ (-T).toNat = 0) :
    N2 / 10 ^ (-T).toNat + (bif b then 1 else 0) = scal DT t T := by
  unfold scal
  by_cases c : 0 ≤ T
  · rw [if_pos c]
    have e : (-T).toNat = 0 := by omega
    rw [e] at h3 ⊢
    have b0 : b = false := h3.2 (by simp [Nat.mod_one])
    rw [b0, h2, h1, Nat.mul_right_comm]
    simp
  · rw [if_neg c]
    have e : T.toNat = 0 := by omega
    rw [e, Nat.pow_zero, Nat.mul_one, h1] at h2
    rw [← h2, tens_up (by omega)]
    congr 1
    cases b
    · rw [if_pos (h3.1 rfl)]; rfl
    · rw [if_neg (fun h => by have := h3.2 h; cases this)]; rfl

set_option maxHeartbeats 4000000 in
set_option maxRecDepth 100000 in
theorem rparse_amount_some (s : ByteArray) (hm : s.size ≤ 300) (hz : 0 < s.size) (w : World) :
    Calls Tryz.prog 37 #[.string s] w fun e w' => Parsed s.data.toList e ∧ Below w.heap.size w w' := by
  obtain ⟨E, hE⟩ : ∃ E, E = nend false s.data.toList := ⟨_, rfl⟩
  have E1 : E ≤ s.size := by have := nend_le s.data.toList false; rw [← hE] at this; simpa using this
  obtain ⟨A, B, hAB⟩ : ∃ A B, cutDot (s.data.toList.take E) = (A, B) := ⟨_, _, rfl⟩
  obtain ⟨CT, hCT⟩ : ∃ CT, CT = A.length + B.length := ⟨_, rfl⟩
  obtain ⟨BT, hBT⟩ : ∃ BT, BT = B.length := ⟨_, rfl⟩
  obtain ⟨DT, hDT⟩ : ∃ DT, DT = dig (dig 0 A) B := ⟨_, rfl⟩
  have hne : ¬ s.data.toList = [] := by
    intro h; have : s.data.toList.length = 0 := by rw [h]; rfl
    simp at this; simp [ByteArray.size, this] at hz
  have ln := cutDot_len (s.data.toList.take E)
  rw [hAB] at ln
  simp at ln
  have ct1 : CT ≤ 300 := by omega
  have bt1 : BT ≤ CT := by omega
  have H0 : Hid (At s.data.toList E CT BT DT false 0 0 0 0) := by
    unfold Hid At
    rw [List.drop_zero, sc_false, ← hE, hAB]
    dsimp only
    exact ⟨by omega, by omega, by omega, fun _ => hDT.symm⟩
  have PL : Hid (parseL s.data.toList = match pow (s.data.toList.drop E) with
    | none => (0, 11)
    | some (t, n) => if CT = 0 then (0, 11) else if 28 < CT then (0, 12) else
      if scal DT t (n + 9 - BT) ≤ most then (scal DT t (n + 9 - BT), 0) else (0, 15)) := by
    unfold Hid parseL
    rw [if_neg hne, ← hE, hAB]
    cases pow (s.data.toList.drop E) with
    | none => rfl
    | some x =>
      obtain ⟨t, n⟩ := x
      have e : (A = [] ∧ B = []) ↔ CT = 0 := by
        rw [hCT]
        constructor
        · rintro ⟨rfl, rfl⟩; rfl
        · intro h; exact ⟨List.length_eq_zero_iff.1 (by omega), List.length_eq_zero_iff.1 (by omega)⟩
      simp only [e, ← hBT, ← hDT]
      rw [show A.length + BT = CT by omega]
  have CS : Hid (∀ w, Calls Tryz.prog 60 #[.string (s.extract E s.size)] w fun e w' => Scal (s.data.toList.drop E) e ∧ Below w.heap.size w w') := fun w => by
    have := scale_is (s.extract E s.size) (by simp; omega) w
    rw [drop_of] at this
    exact this
  have hem := not_empty s hz
  have hem1 : ¬ s.toList = [] := by simpa using hem
  clear hE hAB hCT hBT hDT ln hne
  go_enter Tryz.func37, Tryz.ntmps37
  go_upto_block 0 with (fail)
  go_cut [4, 5, 7, 8] (fun f4 f5 f7 f8 wc => ∃ ns : List Nat, f5 = .int .i64 E ∧ f7 = .int .i64 CT ∧ f8 = .int .i64 BT ∧ ns.length ≤ 84 ∧ Hid (NR w wc f4 ns) ∧ Hid (CT ≤ 28 → val ns = DT))
  case first =>
    clear PL CS
    have N0 : NR w (w.alloc (.cells #[.int .u64 0, .int .u64 0] 42)) (.slice none 0 0) [] := ⟨Rd.nil _, fun d h => by simp at h, Box.new _ _ _ _ _ rfl, by go_grown⟩
    go_wp2_with (fail)
    go_loopw [4, 5, 6, 7, 8] (fun f4 f5 f6 f7 f8 wr => ∃ (ns : List Nat) (j c b : Nat) (p : Bool), f5 = .int .i64 j ∧ f6 = .int .i64 (bif p then 1 else 0) ∧ f7 = .int .i64 c ∧ f8 = .int .i64 b ∧ j ≤ s.size ∧ c ≤ j ∧ b ≤ j ∧ ns.length ≤ 84 ∧ ns.length ≤ 3 * c ∧ Hid (NR w wr f4 ns) ∧ Hid (At s.data.toList E CT BT DT p j c b (val ns))) (fun _ f5 _ _ _ _ => s.size - (intOf f5).toNat)
    case atStart => exact ⟨[], 0, 0, 0, false, rfl, rfl, rfl, rfl, by omega, by omega, by omega, by simp, by simp, N0, H0⟩
    case round =>
      clear N0 H0
      obtain ⟨ns, j, c, b, p, rfl, rfl, rfl, rfl, jl, cl, bl, l84, l3, F, HA⟩ := hrel
      by_cases cj : j < s.size
      · have b8 : s[j].toNat < 256 := s[j].toNat_lt
        have ID : Hid (∀ w, Calls Tryz.prog 58 #[.int .u8 (s[j].toNat : Int)] w fun e w' => e = .returned (.bool (isD s[j])) ∧ w = w') := fun w => digit_any s[j] w
        have j0 : (0 : Int) ≤ (j : Int) := by omega
        have j1 : (j : Int) < (s.size : Int) := by omega
        cases hx : isD s[j]
        · rw [hx] at ID
          by_cases c46 : s[j].toNat = 46 ∧ p = false
          · obtain ⟨c4, rfl⟩ := c46
            have e46 : (((s[j].toNat : Nat) : Int) == 46) = true := by simp [c4]
            have HA' : Hid _ := HA.out.dot cj c4
            clear hx c4 HA
            go_wp2_with (fail)
            refine (ID.out _).mono ?_
            rintro e w1 ⟨rfl, rfl⟩
            go_wp2
            go_roundw
            case rel => exact ⟨ns, j + 1, c, b, true, by go_num, rfl, rfl, rfl, by omega, by omega, by omega, l84, l3, F, HA'⟩
            case measure => simp [intOf]; omega
          · have st : stopB p s[j] := by
              by_cases c4 : s[j].toNat = 46
              · refine Or.inl ⟨c4, ?_⟩
                cases p
                · exact absurd ⟨c4, rfl⟩ c46
                · rfl
              · exact Or.inr ⟨c4, hx⟩
            obtain ⟨rfl, rfl, rfl, hv⟩ := HA.out.stop (Or.inl ⟨cj, st⟩)
            have HV : Hid _ := hv
            have gd : ((((s[E].toNat : Nat) : Int) == 46) = false) ∨ ((((s[E].toNat : Nat) : Int) == 46) = true ∧ p = true) := by
              by_cases c4 : s[E].toNat = 46
              · refine Or.inr ⟨by simp [c4], ?_⟩
                cases p
                · exact absurd ⟨c4, rfl⟩ c46
                · rfl
              · exact Or.inl (by simp; omega)
            clear hv hx c46 st HA
            rcases gd with gd | ⟨gd, rfl⟩
            all_goals
              go_wp2_with (fail)
              refine (ID.out _).mono ?_
              rintro e w1 ⟨rfl, rfl⟩
              go_wp2_with (fail)
              go_meet
              case rel => exact ⟨ns, rfl, rfl, rfl, l84, F, HV⟩
        · obtain ⟨x0, x1⟩ := isD_at hx
          rw [hx] at ID
          obtain ⟨hA1, hA2⟩ := HA.out.dig cj hx
          have e46 : (((s[j].toNat : Nat) : Int) == 46) = false := by simp; omega
          by_cases c28 : c + 1 ≤ 28
          · have tv := tm_val 10 (by omega) ns (s[j].toNat - 48) (by omega) F.out.2.1
            have tl := tm_len 10 ns (s[j].toNat - 48)
            rw [← tv] at hA1
            have HA' : Hid _ := hA1
            have CT1 : Hid (∀ (v : Value) (W : World), NR w W v ns → Calls Tryz.prog 59 #[v, .int .i64 10, .int .i64 ((s[j].toNat : Int) - 48)] W fun e w' => ∃ v' : Value, e = .returned v' ∧ NR w w' v' (tm 10 (s[j].toNat - 48) ns) ∧ Below W.heap.size W w') := fun v W h => by
              have := h.times (k := 10) (c := s[j].toNat - 48) (by omega) (by omega) (by omega)
              rw [show ((s[j].toNat - 48 : Nat) : Int) = (s[j].toNat : Int) - 48 by omega] at this
              exact this
            have cc : ((c : Int) + 1) ≤ 28 := by omega
            clear tv hA1 hA2 hx HA
            cases p
            all_goals
              go_wp2_with (fail)
              refine (ID.out _).mono ?_
              rintro e w1 ⟨rfl, rfl⟩
              go_wp2_with (fail)
              refine (CT1.out _ _ F.out).mono ?_
              rintro e w1 ⟨v', rfl, F', hw1⟩
              clear hw1
              go_wp2
              go_roundw
              case rel => exact ⟨_, j + 1, c + 1, _, _, by go_num, rfl, by go_num, by first | go_num | rfl, by omega, by omega, by simp; omega, by omega, by omega, F', HA'⟩
              case measure => simp [intOf]; omega
          · have HA' : Hid _ := hA1.long (by omega) (val ns)
            have cc : ¬ ((c : Int) + 1) ≤ 28 := by omega
            clear hA1 hA2 hx HA
            cases p
            all_goals
              go_wp2_with (fail)
              refine (ID.out _).mono ?_
              rintro e w1 ⟨rfl, rfl⟩
              go_wp2
              go_roundw
              case rel => exact ⟨ns, j + 1, c + 1, _, _, by go_num, rfl, by go_num, by first | go_num | rfl, by omega, by omega, by simp; omega, l84, by omega, F, HA'⟩
              case measure => simp [intOf]; omega
      · obtain ⟨rfl, rfl, rfl, hv⟩ := HA.out.stop (Or.inr (by omega))
        have HV : Hid _ := hv
        have j1 : ¬ (E : Int) < (s.size : Int) := by omega
        clear hv HA
        go_wp2_with (fail)
        go_meet
        case rel => exact ⟨ns, rfl, rfl, rfl, l84, F, HV⟩
  case rest =>
    obtain ⟨ns, rfl, rfl, rfl, l84, F, HV⟩ := hcut
    clear H0
    have hsB := F.out.2.2.2.size
    obtain ⟨r0, r1, r2, r3, r4⟩ := id F.out.2.2.1
    have e0 : (0 : Int) ≤ (E : Int) := by omega
    have e1 : (E : Int) ≤ (s.size : Int) := by omega
    go_wp2_with (fail)
    refine (CS.out _).mono ?_
    rintro e w1 ⟨⟨te, tw, o, rfl, g⟩, hw1⟩
    have F1 : Hid _ := F.out.later hw1
    clear hw1 CS F r0 r1 r2 r3 r4 hsB
    have HB1 : Below w.heap.size w w1 := F1.out.2.2.2
    have hsB := HB1.size
    obtain ⟨r0, r1, r2, r3, r4⟩ := id F1.out.2.2.1
    rcases g with ⟨g, rfl⟩ | ⟨t, n, g, rfl, rfl, rfl⟩
    · have X : Hid (parseL s.data.toList = (0, 11)) := by unfold Hid; rw [PL.out, g]
      clear PL g
      go_wp2
      refine bodyPost_ret (v := .tuple #[.agg #[.int .u64 0, .int .u64 0], .int .i64 11]) (by simp [results, Tryz.results37, go_sem, r0, r1]) rfl ?_
      exact ⟨Parsed.mk X.out Is.zero, by go_grown⟩
    · have bd := pow_bd g
      have PL2 := PL.out
      rw [g] at PL2
      simp only at PL2
      have HP : Hid _ := PL2
      clear PL PL2 g
      obtain ⟨t1, n0, n1, tn⟩ := bd
      by_cases z : CT = 0
      · have X : Hid (parseL s.data.toList = (0, 11)) := by unfold Hid; rw [HP.out, if_pos z]
        have zb : ((CT : Int) == 0) = true := by simp [z]
        clear HP HV
        subst z
        go_wp2
        refine bodyPost_ret (v := .tuple #[.agg #[.int .u64 0, .int .u64 0], .int .i64 11]) (by simp [results, Tryz.results37, go_sem, r0, r1]) rfl ?_
        exact ⟨Parsed.mk X.out Is.zero, by go_grown⟩
      · have zb : ((CT : Int) == 0) = false := by simp; omega
        have HP1 := HP.out
        rw [if_neg z] at HP1
        have HP2 : Hid _ := HP1
        clear HP HP1
        by_cases y : 28 < CT
        · have X : Hid (parseL s.data.toList = (0, 12)) := by unfold Hid; rw [HP2.out, if_pos y]
          have y1 : (28 : Int) < (CT : Int) := by omega
          clear HP2 HV
          go_wp2
          refine bodyPost_ret (v := .tuple #[.agg #[.int .u64 0, .int .u64 0], .int .i64 12]) (by simp [results, Tryz.results37, go_sem, r0, r1]) rfl ?_
          exact ⟨Parsed.mk X.out Is.zero, by go_grown⟩
        · have HP3 := HP2.out
          rw [if_neg y] at HP3
          have HP4 : Hid _ := HP3
          have vd := HV.out (by omega)
          have V0 : Hid (val ns = DT * 2 ^ 0) := by unfold Hid; rw [vd]; simp
          have y1 : ¬ (28 : Int) < (CT : Int) := by omega
          clear HP2 HP3 HV vd z r0 r1 r2 r3 r4
          obtain ⟨T, hT⟩ : ∃ T : Int, T = te + 9 - (BT : Int) := ⟨_, rfl⟩
          have T0 : -118 ≤ T := by omega
          have T1 : T ≤ 108 := by omega
          rw [← hT] at HP4
          have HTT : Hid (te + 9 - (BT : Int) = T) := hT.symm
          clear hT
          go_wp2_with (fail)
          go_loopw [4, 12] (fun f g wr => ∃ (ns : List Nat) (j : Nat), g = .int .i64 j ∧ j ≤ t ∧ ns.length ≤ 84 + 3 * j ∧ Hid (NR w wr f ns) ∧ Hid (val ns = DT * 2 ^ j)) (fun _ g _ => t - (intOf g).toNat)
          case atStart => exact ⟨ns, 0, rfl, by omega, by omega, F1, V0⟩
          case round =>
            clear V0 F1 hsB HB1
            obtain ⟨ns, j, rfl, jt, nl, F, HV⟩ := hrel
            by_cases c : j < t
            · have j1 : (j : Int) < (t : Int) := by omega
              have tv := tm_val 2 (by omega) ns 0 (by omega) F.out.2.1
              have tl := tm_len 2 ns 0
              have HV' : Hid (val (tm 2 0 ns) = DT * 2 ^ (j + 1)) := by unfold Hid; rw [tv, HV.out, Nat.pow_succ, Nat.mul_assoc]; simp
              have CT1 : ∀ (v : Value) (W : World), NR w W v ns → Calls Tryz.prog 59 #[v, .int .i64 2, .int .i64 0] W fun e w' => ∃ v' : Value, e = .returned v' ∧ NR w w' v' (tm 2 0 ns) ∧ Below W.heap.size W w' := fun v W h => h.times (k := 2) (c := 0) (by omega) (by omega) (by omega)
              have CT2 : Hid _ := CT1
              clear tv CT1 HV
              go_wp2_with (fail)
              refine (CT2.out _ _ F.out).mono ?_
              rintro e w2 ⟨v', rfl, F', hw2⟩
              clear hw2 CT2
              go_wp2
              go_roundw
              case rel => exact ⟨_, j + 1, by go_num, by omega, by omega, F', HV'⟩
              case measure => simp [intOf]; omega
            · obtain rfl : j = t := by omega
              obtain ⟨N1, hN1⟩ : ∃ N1, N1 = DT * 2 ^ j := ⟨_, rfl⟩
              have V1 : Hid (val ns = N1 * 10 ^ 0) := by unfold Hid; rw [HV.out, hN1]; simp
              have HN1 : Hid (N1 = DT * 2 ^ j) := hN1
              have nl2 : ns.length ≤ 264 := by omega
              clear HV hN1 nl
              go_wp2_with (fail)
              go_loopw [4, 13] (fun f g wr => ∃ (ns : List Nat) (i : Nat), g = .int .i64 i ∧ i ≤ T.toNat ∧ ns.length ≤ 264 + 3 * i ∧ Hid (NR w wr f ns) ∧ Hid (val ns = N1 * 10 ^ i)) (fun _ g _ => T.toNat - (intOf g).toNat)
              case atStart => exact ⟨ns, 0, rfl, by omega, by omega, F, V1⟩
              case round =>
                clear V1 F nl2
                obtain ⟨ns, i, rfl, it, nl, F, HV⟩ := hrel
                by_cases c : i < T.toNat
                · have j1 : (i : Int) < te + 9 - (BT : Int) := by rw [HTT.out]; omega
                  have tv := tm_val 10 (by omega) ns 0 (by omega) F.out.2.1
                  have tl := tm_len 10 ns 0
                  have HV' : Hid (val (tm 10 0 ns) = N1 * 10 ^ (i + 1)) := by unfold Hid; rw [tv, HV.out, Nat.pow_succ, Nat.mul_assoc]; simp
                  have CT1 : ∀ (v : Value) (W : World), NR w W v ns → Calls Tryz.prog 59 #[v, .int .i64 10, .int .i64 0] W fun e w' => ∃ v' : Value, e = .returned v' ∧ NR w w' v' (tm 10 0 ns) ∧ Below W.heap.size W w' := fun v W h => h.times (k := 10) (c := 0) (by omega) (by omega) (by omega)
                  have CT2 : Hid _ := CT1
                  clear tv CT1 HV
                  go_wp2_with (fail)
                  refine (CT2.out _ _ F.out).mono ?_
                  rintro e w2 ⟨v', rfl, F', hw2⟩
                  clear hw2 CT2
                  go_wp2
                  go_roundw
                  case rel => exact ⟨_, i + 1, by go_num, by omega, by omega, F', HV'⟩
                  case measure => simp [intOf]; omega
                · obtain rfl : i = T.toNat := by omega
                  have j1 : ¬ ((T.toNat : Nat) : Int) < te + 9 - (BT : Int) := by rw [HTT.out]; omega
                  obtain ⟨N2, hN2⟩ : ∃ N2, N2 = N1 * 10 ^ T.toNat := ⟨_, rfl⟩
                  have VN : Hid (val ns = N2) := by unfold Hid; rw [HV.out, hN2]
                  have HN2 : Hid (N2 = N1 * 10 ^ T.toNat) := hN2
                  have nl2 : ns.length ≤ 588 := by omega
                  clear HV hN2 nl c
                  go_wp2_with (fail)
                  go_loopw [4, 14, 15] (fun f u g wr => ∃ (ns : List Nat) (k : Nat) (b : Bool), g = .int .i64 (-(k : Int)) ∧ u = .bool b ∧ k ≤ (-T).toNat ∧ ns.length ≤ 588 ∧ Hid (NR w wr f ns) ∧ Hid (val ns = N2 / 10 ^ k ∧ (b = false ↔ N2 % 10 ^ k = 0))) (fun _ _ g _ => (-T).toNat - (-(intOf g)).toNat)
                  case atStart => exact ⟨ns, 0, false, rfl, rfl, by omega, nl2, F, by unfold Hid; rw [VN.out]; simp [Nat.mod_one]⟩
                  case round =>
                    clear VN F nl2 j1
                    obtain ⟨ns, k, b, rfl, rfl, kt, nl, F, HV⟩ := hrel
                    by_cases c : k < (-T).toNat
                    · have j1 : te + 9 - (BT : Int) < -(k : Int) := by rw [HTT.out]; omega
                      obtain ⟨a, cap, rfl, h1, h2, h3⟩ := F.out.1
                      cases ns with
                      | nil =>
                        obtain ⟨d1, d2⟩ := drop_none HV.out.1
                        have HV' : Hid (val [] = N2 / 10 ^ (k + 1) ∧ (b = false ↔ N2 % 10 ^ (k + 1) = 0)) := ⟨d1, HV.out.2.trans d2.symm⟩
                        clear HV d1 d2 h3
                        go_wp2
                        go_roundw
                        case rel => exact ⟨[], k + 1, b, by go_light; refine congrArg (Value.int IntKind.i64) ?_; omega, rfl, by omega, by simp, F, HV'⟩
                        case measure => simp [intOf]; omega
                      | cons d r =>
                        have d9 : d < 10 := F.out.2.1 d (by simp)
                        obtain ⟨bb, off, rfl, cell, bw⟩ := h3 0 d rfl
                        rw [Nat.add_zero] at cell
                        obtain ⟨q1, q2⟩ := drop_dig HV.out.1 d9
                        simp only [List.length_cons] at h1 nl
                        have RR : Hid (NR w wr (.slice (if cap = 1 then some ⟨bb, off, none⟩ else some ⟨bb, off + 1, none⟩) r.length (cap - 1)) r) := by
                          refine ⟨⟨_, cap - 1, rfl, by omega, by omega, fun j x hj => ?_⟩, fun x hx => F.out.2.1 x (by simp [hx]), F.out.2.2⟩
                          have hjl := (List.getElem?_eq_some_iff.1 hj).1
                          rw [if_neg (by omega)]
                          obtain ⟨b1, o1, e1, e2, e3⟩ := h3 (j + 1) x (by simpa using hj)
                          injection e1 with e1
                          injection e1 with e4 e5 _
                          subst e4 e5
                          exact ⟨bb, off + 1, rfl, by rw [Nat.add_assoc, Nat.add_comm 1 j]; exact e2, bw⟩
                        have HQ : Hid (val r = N2 / 10 ^ (k + 1)) := q1
                        have HQ2 : Hid (N2 % 10 ^ (k + 1) = 0 ↔ b = false ∧ d = 0) := by
                          unfold Hid; rw [q2, HV.out.2]
                        have ln1 : (0 : Int) < ((d :: r).length : Int) := by first | (simp; done) | (simp; omega)
                        clear HV q1 q2 h3
                        cases b
                        · by_cases d0 : d = 0
                          · subst d0
                            go_wp2
                            go_roundw
                            case rel => exact ⟨r, k + 1, false, by go_light; refine congrArg (Value.int IntKind.i64) ?_; omega, by first | rfl | (simp; done) | (simp; omega), by omega, by omega, RR, ⟨HQ.out, by rw [HQ2.out]; simp⟩⟩
                            case measure => simp [intOf]; omega
                          · have dp : (0 : Int) < (d : Int) := by omega
                            go_wp2
                            go_roundw
                            case rel => exact ⟨r, k + 1, true, by go_light; refine congrArg (Value.int IntKind.i64) ?_; omega, by first | rfl | (simp; done) | (simp; omega), by omega, by omega, RR, ⟨HQ.out, by rw [HQ2.out]; simp; exact d0⟩⟩
                            case measure => simp [intOf]; omega
                        · go_wp2
                          go_roundw
                          case rel => exact ⟨r, k + 1, true, by go_light; refine congrArg (Value.int IntKind.i64) ?_; omega, by first | rfl | (simp; done) | (simp; omega), by omega, by omega, RR, ⟨HQ.out, by rw [HQ2.out]; simp⟩⟩
                          case measure => simp [intOf]; omega
                    · obtain rfl : k = (-T).toNat := by omega
                      have j1 : ¬ te + 9 - (BT : Int) < -(((-T).toNat : Nat) : Int) := by rw [HTT.out]; omega
                      have FV := fin_val HN1.out HN2.out HV.out.2
                      have VV := HV.out.1
                      cases b
                      · have V5 : Hid (val ns = scal DT j T) := by unfold Hid; rw [VV]; simpa using FV
                        clear VV FV HV HN1 HN2 HTT c kt
                        obtain ⟨Fv, hFv⟩ : ∃ Fv, Fv = scal DT j T := ⟨_, rfl⟩
                        rw [← hFv] at HP4 V5
                        clear hFv
                        have fl : ns.length ≤ 1000 := by omega
                        go_wp2_with (fail)
                        refine (text_num _ F.out.1 F.out.2.1 fl).mono ?_
                        rintro e w5 ⟨st, rfl, sz, gd, dv', hw5⟩
                        rw [V5.out] at dv'
                        have HD : Hid (good st ∧ dval st.data.toList = (Fv : Int)) := ⟨gd, dv'⟩
                        have F5 : Hid (NR w w5 _ ns) := F.out.later hw5
                        clear gd dv' hw5
                        have hB5 := F5.out.2.2.2.size
                        go_wp2_with (fail)
                        refine (rparse_any st _ (by unfold maxLen; omega)).mono ?_
                        rintro e w6 ⟨h, l, o, rfl, wk, fp, hw6⟩
                        have F6 := F5.out.later hw6
                        have HB6 : Below w.heap.size w w6 := F6.2.2.2
                        have hB6 := HB6.size
                        obtain ⟨r0, r1, r2, r3, r4⟩ := id F6.2.2.1
                        clear hw6
                        obtain ⟨k0, k1, k2, k3⟩ := id wk
                        rcases fp with ⟨rfl, gd, dv'⟩ | ⟨rfl, rfl, rfl, fp⟩
                        · rw [HD.out.2] at dv'
                          have j2 : Is h l Fv := ⟨k0, k1, k2, k3, dv'⟩
                          have q_r := F6.2.2.1
                          clear dv' gd F5 F6 HD wk k0 k1 k2 k3
                          go_wp2_with (fail)
                          refine (fits_is j2 _).mono ?_
                          rintro e w7 ⟨rfl, hw7⟩
                          have q_v := (Box.new w6 w6.heap.size h l 42 rfl).later hw7
                          have q_r7 := (q_r.alloc _).later hw7
                          have HB7 : Below w.heap.size w w7 := (HB6.alloc HB6.size _).trans (hw7.mono (by simp; omega))
                          have hs7 := hw7.size
                          simp at hs7
                          clear hw7 r0 r1 r2 r3 r4
                          obtain ⟨x0, x1, -, -, x4⟩ := id q_v
                          obtain ⟨r0, r1, r2, r3, r4⟩ := id q_r7
                          by_cases c : Fv ≤ most
                          · have X : Hid (parseL s.data.toList = (Fv, 0)) := by unfold Hid; rw [HP4.out, if_pos c]
                            rw [decide_eq_true c]
                            clear HP4 c
                            go_wp2
                            refine bodyPost_ret (v := .tuple #[.agg #[.int .u64 h, .int .u64 l], .int .i64 0]) (by simp [results, Tryz.results37, go_sem, r0, r1]) rfl ?_
                            exact ⟨Parsed.mk X.out j2, by go_grown⟩
                          · have X : Hid (parseL s.data.toList = (0, 15)) := by unfold Hid; rw [HP4.out, if_neg c]
                            rw [decide_eq_false c]
                            clear HP4 c
                            go_wp2
                            refine bodyPost_ret (v := .tuple #[.agg #[.int .u64 0, .int .u64 0], .int .i64 15]) (by simp [results, Tryz.results37, go_sem, r0, r1]) rfl ?_
                            exact ⟨Parsed.mk X.out Is.zero, by go_grown⟩
                        · have X : Hid (parseL s.data.toList = (0, 15)) := by
                            have f1 : ¬ (Fv : Int) < 340282366920938463463374607431768211456 := fun hh => fp ⟨HD.out.1, by rw [HD.out.2]; exact hh⟩
                            unfold Hid; rw [HP4.out, if_neg (by unfold most; omega)]
                          clear HP4 fp HD F5 F6
                          go_wp2
                          refine bodyPost_ret (v := .tuple #[.agg #[.int .u64 0, .int .u64 0], .int .i64 15]) (by simp [results, Tryz.results37, go_sem, r0, r1, r4]) rfl ?_
                          exact ⟨Parsed.mk X.out Is.zero, by go_grown⟩
                      · have tv := tm_val 1 (by omega) ns 1 (by omega) F.out.2.1
                        have tl := tm_len 1 ns 1
                        have V5 : Hid (val (tm 1 1 ns) = scal DT j T) := by unfold Hid; rw [tv, VV, Nat.mul_one]; simpa using FV
                        have CT1 : ∀ (v : Value) (W : World), NR w W v ns → Calls Tryz.prog 59 #[v, .int .i64 1, .int .i64 1] W fun e w' => ∃ v' : Value, e = .returned v' ∧ NR w w' v' (tm 1 1 ns) ∧ Below W.heap.size W w' := fun v W h => h.times (k := 1) (c := 1) (by omega) (by omega) (by omega)
                        have CT2 : Hid _ := CT1
                        clear tv CT1 VV FV HV HN1 HN2 HTT c kt
                        go_wp2_with (fail)
                        refine (CT2.out _ _ F.out).mono ?_
                        rintro e w4 ⟨v', rfl, F4, hw4⟩
                        have F4' : Hid (NR w w4 v' (tm 1 1 ns)) := F4
                        clear hw4 CT2 F F4
                        obtain ⟨Fv, hFv⟩ : ∃ Fv, Fv = scal DT j T := ⟨_, rfl⟩
                        rw [← hFv] at HP4 V5
                        clear hFv
                        have fl : (tm 1 1 ns).length ≤ 1000 := by omega
                        go_wp2_with (fail)
                        refine (text_num _ F4'.out.1 F4'.out.2.1 fl).mono ?_
                        rintro e w5 ⟨st, rfl, sz, gd, dv', hw5⟩
                        rw [V5.out] at dv'
                        have HD : Hid (good st ∧ dval st.data.toList = (Fv : Int)) := ⟨gd, dv'⟩
                        have F5 : Hid (NR w w5 _ (tm 1 1 ns)) := F4'.out.later hw5
                        clear gd dv' hw5
                        have hB5 := F5.out.2.2.2.size
                        go_wp2_with (fail)
                        refine (rparse_any st _ (by unfold maxLen; omega)).mono ?_
                        rintro e w6 ⟨h, l, o, rfl, wk, fp, hw6⟩
                        have F6 := F5.out.later hw6
                        have HB6 : Below w.heap.size w w6 := F6.2.2.2
                        have hB6 := HB6.size
                        obtain ⟨r0, r1, r2, r3, r4⟩ := id F6.2.2.1
                        clear hw6
                        obtain ⟨k0, k1, k2, k3⟩ := id wk
                        rcases fp with ⟨rfl, gd, dv'⟩ | ⟨rfl, rfl, rfl, fp⟩
                        · rw [HD.out.2] at dv'
                          have j2 : Is h l Fv := ⟨k0, k1, k2, k3, dv'⟩
                          have q_r := F6.2.2.1
                          clear dv' gd F5 F6 HD wk k0 k1 k2 k3
                          go_wp2_with (fail)
                          refine (fits_is j2 _).mono ?_
                          rintro e w7 ⟨rfl, hw7⟩
                          have q_v := (Box.new w6 w6.heap.size h l 42 rfl).later hw7
                          have q_r7 := (q_r.alloc _).later hw7
                          have HB7 : Below w.heap.size w w7 := (HB6.alloc HB6.size _).trans (hw7.mono (by simp; omega))
                          have hs7 := hw7.size
                          simp at hs7
                          clear hw7 r0 r1 r2 r3 r4
                          obtain ⟨x0, x1, -, -, x4⟩ := id q_v
                          obtain ⟨r0, r1, r2, r3, r4⟩ := id q_r7
                          by_cases c : Fv ≤ most
                          · have X : Hid (parseL s.data.toList = (Fv, 0)) := by unfold Hid; rw [HP4.out, if_pos c]
                            rw [decide_eq_true c]
                            clear HP4 c
                            go_wp2
                            refine bodyPost_ret (v := .tuple #[.agg #[.int .u64 h, .int .u64 l], .int .i64 0]) (by simp [results, Tryz.results37, go_sem, r0, r1]) rfl ?_
                            exact ⟨Parsed.mk X.out j2, by go_grown⟩
                          · have X : Hid (parseL s.data.toList = (0, 15)) := by unfold Hid; rw [HP4.out, if_neg c]
                            rw [decide_eq_false c]
                            clear HP4 c
                            go_wp2
                            refine bodyPost_ret (v := .tuple #[.agg #[.int .u64 0, .int .u64 0], .int .i64 15]) (by simp [results, Tryz.results37, go_sem, r0, r1]) rfl ?_
                            exact ⟨Parsed.mk X.out Is.zero, by go_grown⟩
                        · have X : Hid (parseL s.data.toList = (0, 15)) := by
                            have f1 : ¬ (Fv : Int) < 340282366920938463463374607431768211456 := fun hh => fp ⟨HD.out.1, by rw [HD.out.2]; exact hh⟩
                            unfold Hid; rw [HP4.out, if_neg (by unfold most; omega)]
                          clear HP4 fp HD F5 F6
                          go_wp2
                          refine bodyPost_ret (v := .tuple #[.agg #[.int .u64 0, .int .u64 0], .int .i64 15]) (by simp [results, Tryz.results37, go_sem, r0, r1, r4]) rfl ?_
                          exact ⟨Parsed.mk X.out Is.zero, by go_grown⟩

theorem rparse_amount (s : ByteArray) (hm : s.size ≤ 300) (w : World) :
    Calls Tryz.prog 37 #[.string s] w fun e w' => Parsed s.data.toList e ∧ Below w.heap.size w w' := by
  by_cases z : s.size = 0
  · exact rparse_amount_none s z w
  · exact rparse_amount_some s hm (by omega) w

end Go.Proofs.YtpbgolcimbjekaaGreatDoor
