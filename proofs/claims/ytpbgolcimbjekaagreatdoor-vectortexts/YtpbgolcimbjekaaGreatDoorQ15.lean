/-
  The contract of package amount's Parse at this program, over any text: which amount it is, or the error. Conditions: the text's length fits the machine; the two tables of suffixes lie as the program's text lays them.
-/
import Derived.Test.YtpbgolcimbjekaaGreatDoorQ12
import Derived.Test.YtpbgolcimbjekaaGreatDoorQ14
namespace Go.Proofs.YtpbgolcimbjekaaGreatDoor
open Go.RowKit

theorem place_lt : ∀ (L : List (List UInt8)) (l : List UInt8) (i : Nat), place L l = some i → i < L.length
  | [], _, _, h => by simp [place] at h
  | x :: r, l, i, h => by
    rw [place] at h
    split at h
    · simp at h; subst h; simp
    · cases k : place r l with
      | none => simp [k] at h
      | some j =>
        simp [k] at h
        have := place_lt r l j k
        simp; omega
theorem two_le {l : List UInt8} {m : Nat} (h : two l = some m) : m ≤ 99 := by
  unfold two at h
  split at h
  · rename_i k
    have := dig_lt l 0 0 (by simp) k.2.2
    simp at h
    subst h
    have p : 10 ^ (0 + l.length) ≤ 10 ^ 2 := Nat.pow_le_pow_right (by omega) (by omega)
    omega
  · cases h
theorem expo_bd {l : List UInt8} {n : Int} (h : expo l = some n) : -99 ≤ n ∧ n ≤ 99 := by
  cases l with
  | nil => simp [expo] at h
  | cons c r =>
    rw [expo] at h
    split at h
    · cases h
    · cases k : two (sgn r).2 with
      | none => simp [k] at h
      | some m =>
        have := two_le k
        simp [k] at h
        split at h <;> omega
theorem pow_bd {l : List UInt8} {t : Nat} {n : Int} (h : pow l = some (t, n)) : t ≤ 60 ∧ -99 ≤ n ∧ n ≤ 99 ∧ (t ≠ 0 → n = 0) := by
  unfold pow at h
  cases k : place decs l with
  | some i =>
    have := place_lt _ _ _ k
    simp [k] at h
    have e : decs.length = 10 := rfl
    omega
  | none =>
    cases k' : place bins l with
    | some i =>
      have := place_lt _ _ _ k'
      simp [k, k'] at h
      have e : bins.length = 6 := rfl
      omega
    | none =>
      cases k2 : expo l with
      | none => simp [k, k', k2] at h
      | some m =>
        have := expo_bd k2
        simp [k, k', k2] at h
        omega

/-- What Parse answers. -/
def Parsed (l : List UInt8) (e : Ending) : Prop := ∃ h k g : Int, e = .returned (.tuple #[.agg #[.int .u64 h, .int .u64 k], .int .i64 g]) ∧ g = (parseL l).2 ∧ Is h k (parseL l).1
theorem Parsed.mk {l : List UInt8} {v : Nat} {g h k : Int} (e : parseL l = (v, g)) (i : Is h k v) : Parsed l (.returned (.tuple #[.agg #[.int .u64 h, .int .u64 k], .int .i64 g])) :=
  ⟨h, k, g, rfl, by rw [e], by rw [e]; exact i⟩

theorem empty_iff (s : ByteArray) : s.toList.isEmpty = decide (s.data.toList = []) := by
  rw [ByteArray.toList_eq]
  cases s.data.toList <;> simp
theorem take_of (s : ByteArray) (k : Nat) : (s.extract 0 k).data.toList = s.data.toList.take k := by simp
theorem drop_of (s : ByteArray) (k : Nat) : (s.extract k s.size).data.toList = s.data.toList.drop k := by
  simp; exact List.take_of_length_le (by simp)

theorem parse_none (s : ByteArray) (hz : s.size = 0) (w : World) :
    Calls Tryz.prog 35 #[.string s] w fun e w' => Parsed s.data.toList e ∧ Below w.heap.size w w' := by
  obtain rfl : s = ⟨#[]⟩ := by
    cases s with | mk d => simp [ByteArray.size] at hz; subst hz; rfl
  go_enter Tryz.func35, Tryz.ntmps35
  go_wp2
  go_returns
  exact ⟨Parsed.mk rfl Is.zero, by go_grown⟩

set_option maxHeartbeats 4000000 in
set_option maxRecDepth 100000 in
theorem parse_some (s : ByteArray) (hm : s.size ≤ maxLen) (hz : 0 < s.size) (w : World) (hL : LaidW w) :
    Calls Tryz.prog 35 #[.string s] w fun e w' => Parsed s.data.toList e ∧ Below w.heap.size w w' := by
  obtain ⟨E, hE⟩ : ∃ E, E = nend false s.data.toList := ⟨_, rfl⟩
  have E1 : E ≤ s.size := by have := nend_le s.data.toList false; rw [← hE] at this; simpa using this
  have HM : Hid (s.size ≤ maxLen) := hm
  unfold maxLen at hm
  have hne : ¬ s.data.toList = [] := by
    intro h; have : s.data.toList.length = 0 := by rw [h]; rfl
    simp at this; simp [ByteArray.size, this] at hz
  have hem : s.toList.isEmpty = false := by rw [empty_iff]; exact decide_eq_false hne
  have hem1 : ¬ s.toList = [] := by rw [ByteArray.toList_eq]; exact hne
  have CN : Hid (∀ w, Calls Tryz.prog 51 #[.string s] w fun e w' => e = .returned (.int .i64 (E : Int)) ∧ w = w') := fun w => by
    rw [hE]; exact numberEnd_is s HM.out w
  obtain ⟨A, B, hAB⟩ : ∃ A B, cutDot (s.data.toList.take E) = (A, B) := ⟨_, _, rfl⟩
  have CC : Hid (∀ w, Calls Tryz.prog 19 #[.string (s.extract 0 E), .string ⟨#[46]⟩] w fun e w' => ∃ (a b : ByteArray) (f : Bool), e = .returned (.tuple #[.string a, .string b, .bool f]) ∧ a.data.toList = A ∧ b.data.toList = B ∧ Below w.heap.size w w') := fun w => by
    have := cut_is (s.extract 0 E) (by have := HM.out; simp; omega) w
    rw [take_of, hAB] at this
    exact this
  have CP : Hid (∀ w, LaidW w → Calls Tryz.prog 52 #[.string (s.extract E s.size)] w fun e w' => Powd (s.data.toList.drop E) e ∧ w = w') := fun w hL => by
    have := power_is (s.extract E s.size) (by have := HM.out; simp; omega) w hL
    rw [drop_of] at this
    exact this
  have dg := (nend_digits s.data.toList false).2 rfl
  rw [← hE, hAB] at dg
  have ln := cutDot_len (s.data.toList.take E)
  rw [hAB] at ln
  simp at ln
  have DA : Hid (∀ c ∈ A, isD c = true) := dg.1
  have DB : Hid (∀ c ∈ B, isD c = true) := dg.2
  have PL : Hid (parseL s.data.toList = match pow (s.data.toList.drop E) with
    | none => (0, 11)
    | some (t, n) => if A = [] ∧ B = [] then (0, 11) else if 28 < A.length + B.length then (0, 12) else
      if scal (dig (dig 0 A) B) t (n + 9 - B.length) ≤ most then (scal (dig (dig 0 A) B) t (n + 9 - B.length), 0) else (0, 15)) := by
    unfold Hid parseL
    rw [if_neg hne, ← hE, hAB]
    cases pow (s.data.toList.drop E) <;> rfl
  have HL : Hid (LaidW w) := hL
  clear hE hAB dg hL hne
  have e0 : (0 : Int) ≤ (E : Int) := by omega
  have e1 : (E : Int) ≤ (s.size : Int) := by omega
  go_enter Tryz.func35, Tryz.ntmps35
  go_wp2_with (fail)
  refine (CN.out _).mono ?_
  rintro e w1 ⟨rfl, rfl⟩
  clear CN
  go_wp2_with (fail)
  refine (CC.out _).mono ?_
  rintro e w2 ⟨a, b, f, rfl, ha, hb, hw2⟩
  have HBw2 : Below w.heap.size w w2 := Below.trans (by go_grown) (hw2.mono (by first | omega | (simp; done) | (simp; omega)))
  have p_r : Box w2 (w.heap.size) (0) (0) := Box.later hw2 (by repeat (first | assumption | (refine Box.new _ _ _ _ _ ?_; simp; done) | refine Box.alloc ?_ _ | refine Box.drew ?_ | (apply Box.put) | (refine Box.beside ?_ _ _ _ (by omega))))
  have q_r := p_r
  obtain ⟨r0, r1, r2, r3, r4⟩ := p_r
  have hsw2 := hw2.size
  (try simp at hsw2)
  clear hw2
  clear CC
  have HA : Hid (a.data.toList = A) := ha
  have HB : Hid (b.data.toList = B) := hb
  have la : A.length = a.size := by rw [← ha]; simp
  have lb : B.length = b.size := by rw [← hb]; simp
  clear ha hb
  have HL2 : Hid (LaidW w2) := HL.out.later HBw2
  go_wp2_with (fail)
  refine (CP.out _ HL2.out).mono ?_
  rintro e w3 ⟨⟨tw, te, o, rfl, g⟩, rfl⟩
  clear CP
  rcases g with ⟨g, rfl⟩ | ⟨t, n, g, rfl, rfl, rfl⟩
  · have X : Hid (parseL s.data.toList = (0, 11)) := by unfold Hid; rw [PL.out, g]
    clear PL g la lb ln
    go_wp2
    refine bodyPost_ret (v := .tuple #[.agg #[.int .u64 0, .int .u64 0], .int .i64 11]) (by simp [results, Tryz.results35, go_sem, r0, r1]) rfl ?_
    exact ⟨Parsed.mk X.out Is.zero, by go_grown⟩
  · have bd := pow_bd g
    have PL2 := PL.out
    rw [g] at PL2
    simp only at PL2
    have HP : Hid _ := PL2
    clear PL PL2 g
    obtain ⟨t1, n0, n1, tn⟩ := bd
    by_cases z : A = [] ∧ B = []
    · have X : Hid (parseL s.data.toList = (0, 11)) := by unfold Hid; rw [HP.out, if_pos z]
      have za : a.toList.isEmpty = true := by rw [empty_iff, HA.out]; exact decide_eq_true z.1
      have zb : b.toList.isEmpty = true := by rw [empty_iff, HB.out]; exact decide_eq_true z.2
      have za1 : a.toList = [] := by simpa using za
      have zb1 : b.toList = [] := by simpa using zb
      clear HP
      go_wp2
      refine bodyPost_ret (v := .tuple #[.agg #[.int .u64 0, .int .u64 0], .int .i64 11]) (by simp [results, Tryz.results35, go_sem, r0, r1]) rfl ?_
      exact ⟨Parsed.mk X.out Is.zero, by go_grown⟩
    · have HP1 := HP.out
      rw [if_neg z] at HP1
      have HP2 : Hid _ := HP1
      clear HP HP1
      have ab : (a.toList.isEmpty = false ∧ ¬ a.toList = []) ∨ ((a.toList.isEmpty = true ∧ a.toList = []) ∧ (b.toList.isEmpty = false ∧ ¬ b.toList = [])) := by
        by_cases za : A = []
        · refine Or.inr ⟨⟨by rw [empty_iff, HA.out]; exact decide_eq_true za, by rw [ByteArray.toList_eq, HA.out]; exact za⟩, ⟨by rw [empty_iff, HB.out]; exact decide_eq_false (fun h => z ⟨za, h⟩), by rw [ByteArray.toList_eq, HB.out]; exact fun h => z ⟨za, h⟩⟩⟩
        · exact Or.inl ⟨by rw [empty_iff, HA.out]; exact decide_eq_false za, by rw [ByteArray.toList_eq, HA.out]; exact za⟩
      by_cases y : 28 < A.length + B.length
      · have X : Hid (parseL s.data.toList = (0, 12)) := by unfold Hid; rw [HP2.out, if_pos y]
        have y1 : (28 : Int) < (a.size : Int) + (b.size : Int) := by omega
        clear HP2 z y
        rcases ab with ⟨v1, v2⟩ | ⟨⟨v1, v2⟩, ⟨v3, v4⟩⟩
        all_goals
          go_wp2
          refine bodyPost_ret (v := .tuple #[.agg #[.int .u64 0, .int .u64 0], .int .i64 12]) (by simp [results, Tryz.results35, go_sem, r0, r1]) rfl ?_
          exact ⟨Parsed.mk X.out Is.zero, by go_grown⟩
      · have HP3 := HP2.out
        rw [if_neg y] at HP3
        have HP4 : Hid _ := HP3
        clear HP2 HP3 z
        have y1 : ¬ (28 : Int) < (a.size : Int) + (b.size : Int) := by omega
        have lt28 : dig (dig 0 A) B < 10000000000000000000000000000 := by
          have h1 := dig_lt A 0 0 (by simp) DA.out
          have h2 := dig_lt B (dig 0 A) (0 + A.length) h1 DB.out
          have h3 : 10 ^ (0 + A.length + B.length) ≤ 10 ^ 28 := Nat.pow_le_pow_right (by omega) (by omega)
          have h4 : (10 : Nat) ^ 28 = 10000000000000000000000000000 := by decide
          omega
        obtain ⟨M, hM⟩ : ∃ M, M = dig (dig 0 A) B := ⟨_, rfl⟩
        have CM : Hid (∀ w, Calls Tryz.prog 54 #[.string a, .string b] w fun e w' => ∃ h l : Int, e = .returned (.agg #[.int .u64 h, .int .u64 l]) ∧ Is h l M ∧ Below w.heap.size w w') := fun w => by
          have h1 : a.size ≤ maxLen := by unfold maxLen; omega
          have h2 : b.size ≤ maxLen := by unfold maxLen; omega
          have := number_is a b h1 h2 (by rw [HA.out]; exact DA.out) (by rw [HB.out]; exact DB.out) (by rw [HA.out, HB.out]; omega) w
          rw [HA.out, HB.out, ← hM] at this
          exact this
        rw [← hM] at HP4
        have bl : b.size ≤ 28 := by omega
        clear hM lt28
        rw [lb] at HP4
        rcases ab with ⟨v1, v2⟩ | ⟨⟨v1, v2⟩, ⟨v3, v4⟩⟩
        all_goals
          go_wp2_with (fail)
          refine (CM.out _).mono ?_
          rintro e w4 ⟨h, l, rfl, jm, hw4⟩
          have HBw4 : Below w.heap.size w w4 := Below.trans (by go_grown) (hw4.mono (by first | omega | (simp; done) | (simp; omega)))
          have p_r : Box w4 (w.heap.size) (0) (0) := Box.later hw4 (by repeat (first | assumption | (refine Box.new _ _ _ _ _ ?_; simp; done) | refine Box.alloc ?_ _ | refine Box.drew ?_ | (apply Box.put) | (refine Box.beside ?_ _ _ _ (by omega))))
          clear q_r r0 r1 r2 r3 r4
          have q_r := p_r
          obtain ⟨r0, r1, r2, r3, r4⟩ := p_r
          have hsw4 := hw4.size
          (try simp at hsw4)
          clear hw4
          clear CM
          go_wp2_with (fail)
          refine (scaled_is jm (t := t) rfl t1 ?g1 ?g2 ?g3 _).mono ?_
          case g1 => omega
          case g2 => omega
          case g3 => intro ht; have := tn ht; omega
          rintro e w5 ⟨h2, l2, o, rfl, f, hw5⟩
          have HBw5 : Below w.heap.size w w5 := Below.trans (by go_grown) (hw5.mono (by first | omega | (simp; done) | (simp; omega)))
          have p_r : Box w5 (w.heap.size) (0) (0) := Box.later hw5 (by repeat (first | assumption | (refine Box.new _ _ _ _ _ ?_; simp; done) | refine Box.alloc ?_ _ | refine Box.drew ?_ | (apply Box.put) | (refine Box.beside ?_ _ _ _ (by omega))))
          clear q_r r0 r1 r2 r3 r4
          have q_r := p_r
          obtain ⟨r0, r1, r2, r3, r4⟩ := p_r
          have hsw5 := hw5.size
          (try simp at hsw5)
          clear hw5
          obtain ⟨V, hV⟩ : ∃ V, V = scal M t (te + 9 - (b.size : Int)) := ⟨_, rfl⟩
          rw [← hV] at HP4 f
          clear hV
          rcases f with ⟨rfl, j2⟩ | ⟨rfl, rfl, rfl, f⟩
          · go_wp2_with (fail)
            refine (isAmount_is j2 _).mono ?_
            rintro e w6 ⟨rfl, hw6⟩
            have q_v := (Box.new w5 w5.heap.size h2 l2 42 rfl).later hw6
            obtain ⟨x0, x1, -, -, x4⟩ := id q_v
            have HBw6 : Below w.heap.size w w6 := Below.trans (by go_grown) (hw6.mono (by first | omega | (simp; done) | (simp; omega)))
            have p_r : Box w6 (w.heap.size) (0) (0) := Box.later hw6 (by repeat (first | assumption | (refine Box.new _ _ _ _ _ ?_; simp; done) | refine Box.alloc ?_ _ | refine Box.drew ?_ | (apply Box.put) | (refine Box.beside ?_ _ _ _ (by omega))))
            clear q_r r0 r1 r2 r3 r4
            have q_r := p_r
            obtain ⟨r0, r1, r2, r3, r4⟩ := p_r
            have hsw6 := hw6.size
            (try simp at hsw6)
            clear hw6
            by_cases c : V ≤ most
            · have X : Hid (parseL s.data.toList = (V, 0)) := by unfold Hid; rw [HP4.out, if_pos c]
              rw [decide_eq_true c]
              clear HP4 c
              go_wp2
              refine bodyPost_ret (v := .tuple #[.agg #[.int .u64 h2, .int .u64 l2], .int .i64 0]) (by simp [results, Tryz.results35, go_sem, r0, r1]) rfl ?_
              exact ⟨Parsed.mk X.out j2, by go_grown⟩
            · have X : Hid (parseL s.data.toList = (0, 15)) := by unfold Hid; rw [HP4.out, if_neg c]
              rw [decide_eq_false c]
              clear HP4 c
              go_wp2
              refine bodyPost_ret (v := .tuple #[.agg #[.int .u64 0, .int .u64 0], .int .i64 15]) (by simp [results, Tryz.results35, go_sem, r0, r1]) rfl ?_
              exact ⟨Parsed.mk X.out Is.zero, by go_grown⟩
          · have X : Hid (parseL s.data.toList = (0, 15)) := by unfold Hid; rw [HP4.out, if_neg (by unfold most; omega)]
            clear HP4 f
            go_wp2
            refine bodyPost_ret (v := .tuple #[.agg #[.int .u64 0, .int .u64 0], .int .i64 15]) (by simp [results, Tryz.results35, go_sem, r0, r1, r4]) rfl ?_
            exact ⟨Parsed.mk X.out Is.zero, by go_grown⟩

theorem parse_amount (s : ByteArray) (hm : s.size ≤ maxLen) (w : World) (hL : LaidW w) :
    Calls Tryz.prog 35 #[.string s] w fun e w' => Parsed s.data.toList e ∧ Below w.heap.size w w' := by
  by_cases z : s.size = 0
  · exact parse_none s z w
  · exact parse_some s hm (by omega) w hL

end Go.Proofs.YtpbgolcimbjekaaGreatDoor
