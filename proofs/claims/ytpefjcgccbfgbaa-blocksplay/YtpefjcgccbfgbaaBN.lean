/-
  Contracts of package spec's functions on names at this program, and of the document's own. Conditions: none but a name's length. (PD's text, without stage 5's tables.)
-/
import Derived.Test.YtpefjcgccbfgbaaGA
import Derived.Test.YtpefjcgccbfgbaaRows
import Derived.WalkKit
namespace Go.Proofs.Ytpefjcgccbfgbaa.Sp
open Go.RowKit

/-- A letter of a name. -/
def letterB (c : Int) : Bool := decide ((97 ≤ c ∧ c ≤ 122) ∨ (48 ≤ c ∧ c ≤ 57))
def nameByteB (c : Int) : Bool := letterB c || decide (c = 45)

set_option maxHeartbeats 1000000 in
theorem nameByte_any (c : Int) (w : World) (c0 : 0 ≤ c) (c1 : c < 256) :
    Calls Try.prog 47 #[.int .u8 c] w fun e w' => e = .returned (.bool (nameByteB c)) ∧ w' = w := by
  go_enter Try.func47, Try.ntmps47
  go_wp2
  all_goals
    go_ret
    refine ⟨congrArg (fun b => Ending.returned (Value.bool b)) ?_, rfl⟩
    unfold nameByteB letterB
    rw [Bool.eq_iff_iff]
    simp
    try omega

/-- A right name. -/
def nameB (s : ByteArray) : Bool := decide (1 ≤ s.size ∧ s.size ≤ 16) && s.data.toList.all (fun c => nameByteB c.toNat) && decide (s.data.toList.head? ≠ some 45) && decide (s.data.toList.getLast? ≠ some 45)
theorem head_ne (s : ByteArray) (h : 0 < s.size) : s.data.toList.head? ≠ some 45 ↔ s[0].toNat ≠ 45 := by
  have : s.data.toList.head? = some s[0] := by
    rw [List.head?_eq_getElem?]
    have : 0 < s.data.toList.length := by simpa using h
    rw [List.getElem?_eq_getElem this]
    rfl
  rw [this]
  simp [← UInt8.toNat_inj]
theorem last_ne (s : ByteArray) (h : 0 < s.size) : s.data.toList.getLast? ≠ some 45 ↔ (s[s.size - 1]'(by omega)).toNat ≠ 45 := by
  have : s.data.toList.getLast? = some (s[s.size - 1]'(by omega)) := by
    rw [List.getLast?_eq_getElem?]
    have e : s.data.toList.length = s.size := by simp
    rw [e, List.getElem?_eq_getElem (by rw [e]; omega)]
    rfl
  rw [this]
  simp [← UInt8.toNat_inj]
theorem all_iff (s : ByteArray) (f : UInt8 → Bool) : s.data.toList.all f = true ↔ ∀ j (h : j < s.size), f s[j] = true := by
  rw [List.all_eq_true]
  constructor
  · intro k j h
    exact k s[j] (by
      have : j < s.data.toList.length := by simpa using h
      exact List.getElem_mem this)
  · intro k x hx
    obtain ⟨j, hj, rfl⟩ := List.getElem_of_mem hx
    exact k j (by simpa using hj)
theorem name_iff (s : ByteArray) (h : 0 < s.size) : nameB s = true ↔ s.size ≤ 16 ∧ s[0].toNat ≠ 45 ∧ (s[s.size - 1]'(by omega)).toNat ≠ 45 ∧ ∀ j (h : j < s.size), nameByteB s[j].toNat = true := by
  unfold nameB
  rw [Bool.and_eq_true, Bool.and_eq_true, Bool.and_eq_true, decide_eq_true_iff, decide_eq_true_iff, decide_eq_true_iff, head_ne s h, last_ne s h, all_iff]
  constructor
  · rintro ⟨⟨⟨⟨_, a⟩, b⟩, c⟩, d⟩; exact ⟨a, c, d, b⟩
  · rintro ⟨a, c, d, b⟩; exact ⟨⟨⟨⟨h, a⟩, b⟩, c⟩, d⟩
theorem name_none (s : ByteArray) (h : ¬ 0 < s.size) : nameB s = false := by
  have : ¬ (1 ≤ s.size ∧ s.size ≤ 16) := by omega
  simp [nameB, this]
theorem name_long (s : ByteArray) (h : 16 < s.size) : nameB s = false := by
  have : ¬ (1 ≤ s.size ∧ s.size ≤ 16) := by omega
  simp [nameB, this]
theorem name_not (s : ByteArray) (h : 0 < s.size) (k : ¬ (s[0].toNat ≠ 45 ∧ (s[s.size - 1]'(by omega)).toNat ≠ 45 ∧ ∀ j (h : j < s.size), nameByteB s[j].toNat = true)) : nameB s = false := by
  rw [Bool.eq_false_iff]
  intro e
  exact k ((name_iff s h).1 e).2

theorem last_ix (s : ByteArray) (h : 0 < s.size) (w : World) : (Instr.index 9 (.string s) (.int .i64 ((s.size : Int) - 1))).run Try.prog w = .ok (.int .u8 ((s[s.size - 1]'(by omega)).toNat : Int)) w := by
  have e : ((s.size : Int) - 1).toNat = s.size - 1 := by omega
  have l : ((s.size : Int) - 1) < s.size := by omega
  have l0 : 0 ≤ ((s.size : Int) - 1) := by omega
  rw [run_index_string w 9 s .i64 _ Try.underlying9]
  rw [dif_pos ⟨l0, l⟩]
  simp only [e]

set_option maxHeartbeats 1000000 in
theorem name_is (s : ByteArray) (hm : s.size ≤ maxLen) (w : World) :
    Calls Try.prog 42 #[.string s] w fun e w' => e = .returned (.bool (nameB s)) ∧ w' = w := by
  obtain ⟨R, hR⟩ : ∃ R, R = nameB s := ⟨_, rfl⟩
  rw [← hR]
  have HR : Hid (R = nameB s) := hR
  clear hR
  unfold maxLen at hm
  by_cases h0 : 0 < s.size
  case neg =>
    have h0' : s.size = 0 := by omega
    go_enter Try.func42, Try.ntmps42
    go_wp2
    go_ret
    exact ⟨by rw [HR.out, name_none s h0]; rfl, rfl⟩
  by_cases h1 : 16 < s.size
  · go_enter Try.func42, Try.ntmps42
    go_wp2
    go_ret
    exact ⟨by rw [HR.out, name_long s h1]; rfl, rfl⟩
  by_cases h2 : s[0].toNat = 45
  · have d2 : (((s[0].toNat : Nat) : Int) == 45) = true := by simp [h2]
    have X : Hid (R = false) := by unfold Hid; rw [HR.out]; exact name_not s h0 (fun k => k.1 h2)
    clear h2
    go_enter Try.func42, Try.ntmps42
    go_wp2
    go_ret
    exact ⟨by rw [X.out]; rfl, rfl⟩
  have d2 : (((s[0].toNat : Nat) : Int) == 45) = false := by simp; omega
  by_cases h3 : (s[s.size - 1]'(by omega)).toNat = 45
  · have d3 : ((((s[s.size - 1]'(by omega)).toNat : Nat) : Int) == 45) = true := by simp [h3]
    have X : Hid (R = false) := by unfold Hid; rw [HR.out]; exact name_not s h0 (fun k => k.2.1 h3)
    have i3 : ∀ w : World, (Instr.index 9 (.string s) (.int .i64 ((s.size : Int) - 1))).run Try.prog w = .ok (.int .u8 ((s[s.size - 1]'(by omega)).toNat : Int)) w := fun w => last_ix s h0 w
    clear h3 h2
    go_enter Try.func42, Try.ntmps42
    go_wp2
    go_ret
    exact ⟨by rw [X.out]; rfl, rfl⟩
  have d3 : ((((s[s.size - 1]'(by omega)).toNat : Nat) : Int) == 45) = false := by simp; omega
  have i3 : ∀ w : World, (Instr.index 9 (.string s) (.int .i64 ((s.size : Int) - 1))).run Try.prog w = .ok (.int .u8 ((s[s.size - 1]'(by omega)).toNat : Int)) w := fun w => last_ix s h0 w
  have X : Hid ((∀ j (h : j < s.size), nameByteB s[j].toNat = true) → R = true) := fun k => by rw [HR.out]; exact (name_iff s h0).2 ⟨by omega, h2, h3, k⟩
  have Z : Hid ((∃ j, ∃ h : j < s.size, nameByteB s[j].toNat = false) → R = false) := fun ⟨j, h, k⟩ => by rw [HR.out]; exact name_not s h0 (fun e => by rw [e.2.2 j h] at k; exact Bool.noConfusion k)
  clear h2 h3
  go_enter Try.func42, Try.ntmps42
  go_wp2
  clear i3
  go_loopw [27] (fun f wr => ∃ j : Nat, f = .int .i64 j ∧ j ≤ s.size ∧ Hid (∀ i (h : i < s.size), i < j → nameByteB s[i].toNat = true) ∧ wr = w) (fun f _ => s.size - (intOf f).toNat)
  case atStart => exact ⟨0, rfl, by omega, fun i _ h => absurd h (by omega), rfl⟩
  case round =>
    obtain ⟨j, rfl, jl, HJ, rfl⟩ := hrel
    by_cases c : j < s.size
    · have b8 : s[j].toNat < 256 := s[j].toNat_lt
      obtain ⟨g, hg⟩ : ∃ g, g = nameByteB s[j].toNat := ⟨_, rfl⟩
      have C : Hid (∀ w, Calls Try.prog 47 #[.int .u8 (s[j].toNat : Int)] w fun e w' => e = .returned (.bool g) ∧ w' = w) := fun w => by rw [hg]; exact nameByte_any _ w (by omega) (by omega)
      have G : Hid (g = nameByteB s[j].toNat) := hg
      clear hg
      cases g with
      | false =>
        go_wp2_with (fail)
        refine (C.out _).mono ?_
        rintro e w1 ⟨rfl, rfl⟩
        go_wp2
        go_ret
        exact ⟨by rw [Z.out ⟨j, c, G.out.symm⟩]; rfl, rfl⟩
      | true =>
        go_wp2_with (fail)
        refine (C.out _).mono ?_
        rintro e w1 ⟨rfl, rfl⟩
        have HJ' : Hid (∀ i (h : i < s.size), i < j + 1 → nameByteB s[i].toNat = true) := fun i h hi => by
          by_cases e : i = j
          · subst e; exact G.out.symm
          · exact HJ.out i h (by omega)
        clear G C HJ
        go_wp2
        go_roundw
        case rel => exact ⟨j + 1, by go_num, by omega, HJ', trivial⟩
        case measure => simp [intOf]; omega
    · have x : R = true := X.out (fun i h => HJ.out i h (by omega))
      clear X Z HJ
      go_wp2
      go_ret
      exact ⟨by rw [x]; rfl, rfl⟩

/-- What the document asks of a byte at its place. -/
def okAt (s : ByteArray) (j : Nat) (h : j < s.size) : Prop := letterB s[j].toNat = true ∨ (s[j].toNat = 45 ∧ j ≠ 0 ∧ j ≠ s.size - 1)
theorem letter_no (s : ByteArray) (j : Nat) (h : j < s.size) (e : s[j].toNat = 45) : letterB s[j].toNat = false := by rw [e]; decide
theorem name_ref (s : ByteArray) (h0 : 0 < s.size) : nameB s = true ↔ s.size ≤ 16 ∧ ∀ j h, okAt s j h := by
  rw [name_iff s h0]
  constructor
  · rintro ⟨a, b, c, d⟩
    refine ⟨a, fun j h => ?_⟩
    have := d j h
    unfold nameByteB at this
    rw [Bool.or_eq_true, decide_eq_true_iff] at this
    rcases this with g | g
    · exact Or.inl g
    · refine Or.inr ⟨by omega, fun e => ?_, fun e => ?_⟩
      · subst e; exact b (by omega)
      · subst e; exact c (by omega)
  · rintro ⟨a, k⟩
    refine ⟨a, fun e => ?_, fun e => ?_, fun j h => ?_⟩
    · rcases k 0 h0 with g | g
      · rw [letter_no s 0 h0 e] at g; exact Bool.noConfusion g
      · exact g.2.1 rfl
    · rcases k (s.size - 1) (by omega) with g | g
      · rw [letter_no s _ (by omega) e] at g; exact Bool.noConfusion g
      · exact g.2.2 rfl
    · unfold nameByteB
      rw [Bool.or_eq_true, decide_eq_true_iff]
      rcases k j h with g | g
      · exact Or.inl g
      · exact Or.inr (by omega)

set_option maxHeartbeats 1000000 in
theorem refName_is (s : ByteArray) (hm : s.size ≤ maxLen) (w : World) :
    Calls Try.prog 37 #[.string s] w fun e w' => e = .returned (.bool (nameB s)) ∧ w' = w := by
  obtain ⟨R, hR⟩ : ∃ R, R = nameB s := ⟨_, rfl⟩
  rw [← hR]
  have HR : Hid (R = nameB s) := hR
  clear hR
  unfold maxLen at hm
  have X : Hid ((∀ j h, okAt s j h) → R = decide (0 < s.size ∧ s.size ≤ 16)) := fun k => by
    rw [HR.out]
    by_cases h0 : 0 < s.size
    · by_cases h1 : s.size ≤ 16
      · rw [(name_ref s h0).2 ⟨h1, k⟩]; simp [h0, h1]
      · rw [name_long s (by omega)]; simp [h1]
    · rw [name_none s h0]; simp [h0]
  have Z : Hid ((∃ j h, ¬ okAt s j h) → R = false) := fun ⟨j, h, k⟩ => by
    rw [HR.out, Bool.eq_false_iff]
    intro e
    exact k (((name_ref s (by omega)).1 e).2 j h)
  clear HR
  go_enter Try.func37, Try.ntmps37
  go_wp2
  go_loopw [3] (fun f wr => ∃ j : Nat, f = .int .i64 j ∧ j ≤ s.size ∧ Hid (∀ i h, i < j → okAt s i h) ∧ wr = w) (fun f _ => s.size - (intOf f).toNat)
  case atStart => exact ⟨0, rfl, by omega, fun i _ h => absurd h (by omega), rfl⟩
  case round =>
    obtain ⟨j, rfl, jl, HJ, rfl⟩ := hrel
    by_cases c : j < s.size
    · have b8 : s[j].toNat < 256 := s[j].toNat_lt
      have HJ' : Hid (okAt s j c → ∀ i h, i < j + 1 → okAt s i h) := fun k i h hi => by
        by_cases e : i = j
        · subst e; exact k
        · exact HJ.out i h (by omega)
      have OK : Hid (okAt s j c ↔ ((97 ≤ s[j].toNat ∧ s[j].toNat ≤ 122) ∨ (48 ≤ s[j].toNat ∧ s[j].toNat ≤ 57)) ∨ (s[j].toNat = 45 ∧ j ≠ 0 ∧ j ≠ s.size - 1)) := by
        unfold Hid okAt letterB
        rw [decide_eq_true_iff]
        constructor
        · rintro (k | k)
          · left; omega
          · right; exact k
        · rintro (k | k)
          · left; omega
          · right; exact k
      have Z' : Hid (¬ okAt s j c → R = false) := fun k => Z.out ⟨j, c, k⟩
      clear HJ X Z
      obtain ⟨x, hx⟩ : ∃ x, x = s[j].toNat := ⟨_, rfl⟩
      go_wp2
      all_goals first
        | (go_ret
           refine ⟨by rw [Z'.out (by rw [OK.out]; simp at *; omega)]; rfl, rfl⟩)
        | (go_roundw
           case rel => exact ⟨j + 1, by go_num, by omega, HJ'.out (by rw [OK.out]; simp at *; omega), trivial⟩
           case measure => simp [intOf]; omega)
    · have x : R = decide (0 < s.size ∧ s.size ≤ 16) := X.out (fun i h => HJ.out i h (by omega))
      have XX : Hid (R = decide (0 < s.size ∧ s.size ≤ 16)) := x
      clear X Z HJ x
      go_wp2
      all_goals
        go_ret
        refine ⟨?_, rfl⟩
        rw [XX.out]
        refine congrArg (fun b => Ending.returned (Value.bool b)) ?_
        rw [Bool.eq_iff_iff]
        simp
        try omega

end Go.Proofs.Ytpefjcgccbfgbaa.Sp
