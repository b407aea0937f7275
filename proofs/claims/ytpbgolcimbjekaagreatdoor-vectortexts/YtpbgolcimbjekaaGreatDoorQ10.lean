/-
  Contracts of package amount's functions that read a suffix, at this program: an exponent, a power. Conditions: a text's length fits the machine; the two tables of suffixes lie as the program's text lays them.
-/
import Derived.Test.YtpbgolcimbjekaaGreatDoorQ09
namespace Go.Proofs.YtpbgolcimbjekaaGreatDoor
open Go.RowKit

theorem two_no (l : List UInt8) (h : ¬ (1 ≤ l.length ∧ l.length ≤ 2)) : two l = none := by
  unfold two
  rw [if_neg (fun k => h ⟨k.1, k.2.1⟩)]
theorem two_bad {s : ByteArray} {j : Nat} (h : j < s.size) (hx : isD s[j] = false) : two s.data.toList = none := by
  unfold two
  rw [if_neg]
  rintro ⟨-, -, k⟩
  have := k s[j] (List.getElem_mem (l := s.data.toList) (n := j) (by simpa using h))
  rw [hx] at this
  cases this
theorem two_yes {l : List UInt8} (h1 : 1 ≤ l.length) (h2 : l.length ≤ 2) (h : ∀ c ∈ l, isD c = true) : two l = some (dig 0 l) := by
  unfold two
  rw [if_pos ⟨h1, h2, h⟩]
theorem isD_at {c : UInt8} (h : isD c = true) : 48 ≤ c.toNat ∧ c.toNat ≤ 57 := by
  unfold isD at h
  exact of_decide_eq_true h
theorem sgn_eq (r : List UInt8) : sgn r = (Lib.hasPrefix r [45], if Lib.hasPrefix r [45] = true then Lib.trimPrefix r [45] else Lib.trimPrefix (Lib.trimPrefix r [45]) [43]) := by
  unfold Lib.trimPrefix Lib.hasPrefix
  cases r with
  | nil => rfl
  | cons d t =>
    rw [sgn]
    by_cases h : d = 45
    · subst h; simp [List.isPrefixOf]
    · have h' : ((45 : UInt8) == d) = false := by simpa using fun e => h e.symm
      rw [if_neg h]
      by_cases k : d = 43
      · subst k; simp [List.isPrefixOf]
      · have k' : ((43 : UInt8) == d) = false := by simpa using fun e => k e.symm
        rw [if_neg k]
        simp [List.isPrefixOf, h', k']

/-- What an exponent answers. -/
def Expd (l : List UInt8) (e : Ending) : Prop := ∃ (n : Int) (o : Bool), e = .returned (.tuple #[.int .i64 n, .bool o]) ∧
  ((expo l = none ∧ o = false ∧ n = 0) ∨ (expo l = some n ∧ o = true))

theorem cutp_is (s : ByteArray) (w : World) :
    Calls Tryz.prog 90 #[.string s, .string ⟨#[45]⟩] w fun e w' => ∃ u : ByteArray, u.data.toList = Lib.trimPrefix s.data.toList [45] ∧ e = .returned (.tuple #[.string u, .bool (Lib.hasPrefix s.data.toList [45])]) ∧ w = w' := by
  refine (Tryz.strings_CutPrefix s ⟨#[45]⟩ w).mono ?_
  rintro e w1 ⟨rfl, rfl⟩
  exact ⟨⟨(Lib.trimPrefix s.data.toList [45]).toArray⟩, by simp, rfl, rfl⟩
theorem trimp_is (s : ByteArray) (w : World) :
    Calls Tryz.prog 91 #[.string s, .string ⟨#[43]⟩] w fun e w' => ∃ u : ByteArray, u.data.toList = Lib.trimPrefix s.data.toList [43] ∧ e = .returned (.string u) ∧ w = w' := by
  refine (Tryz.strings_TrimPrefix s ⟨#[43]⟩ w).mono ?_
  rintro e w1 ⟨rfl, rfl⟩
  exact ⟨⟨(Lib.trimPrefix s.data.toList [43]).toArray⟩, by simp, rfl, rfl⟩

set_option maxHeartbeats 1000000 in
theorem expo_none (s : ByteArray) (hm : s.size ≤ maxLen) (w : World) (h : s.size = 0 ∨ ∃ z : 0 < s.size, s[0].toNat ≠ 101 ∧ s[0].toNat ≠ 69) :
    Calls Tryz.prog 75 #[.string s] w fun e w' => Expd s.data.toList e ∧ w = w' := by
  unfold maxLen at hm
  by_cases z : s.size = 0
  · obtain rfl : s = ⟨#[]⟩ := by
      cases s with | mk d => simp [ByteArray.size] at z; subst z; rfl
    go_enter Tryz.func75, Tryz.ntmps75
    go_wp2
    go_ret2
    exact ⟨⟨_, _, rfl, Or.inl ⟨rfl, rfl, rfl⟩⟩, rfl⟩
  · obtain ⟨z0, c⟩ := h.resolve_left z
    have he1 : ¬ s.toList = [] := by
      rw [ByteArray.toList_eq]; intro h; have : s.data.toList.length = 0 := by rw [h]; rfl
      simp at this; simp [ByteArray.size, this] at z
    have he2 : s.toList.isEmpty = false := by simpa [List.isEmpty_iff] using he1
    have b8 : s[0].toNat < 256 := s[0].toNat_lt
    have D : s.data.toList = s[0] :: s.data.toList.drop 1 := by
      have := drop_at s 0 z0
      simpa using this
    have E : Hid (expo s.data.toList = none) := by unfold Hid; rw [D, expo, if_pos c]
    clear D
    have c1 : (((s[0].toNat : Nat) : Int) != 101) = true := by simp; omega
    have c2 : (((s[0].toNat : Nat) : Int) != 69) = true := by simp; omega
    clear c h
    go_enter Tryz.func75, Tryz.ntmps75
    go_wp2
    go_ret2
    exact ⟨⟨_, _, rfl, Or.inl ⟨E.out, rfl, rfl⟩⟩, rfl⟩

theorem expo_split (s : ByteArray) (z0 : 0 < s.size) (c : ¬ (s[0].toNat ≠ 101 ∧ s[0].toNat ≠ 69)) :
    expo s.data.toList = (two (sgn (s.data.toList.drop 1)).2).map fun n => if (sgn (s.data.toList.drop 1)).1 = true then -(n : Int) else (n : Int) := by
  have D : s.data.toList = s[0] :: s.data.toList.drop 1 := by
    have := drop_at s 0 z0
    simpa using this
  conv => lhs; rw [D]
  rw [expo, if_neg c]
theorem rest_of (s : ByteArray) : (s.extract 1 s.size).data.toList = s.data.toList.drop 1 := by
  simp; exact List.take_of_length_le (by simp)

set_option maxHeartbeats 4000000 in
theorem expo_true101 (s : ByteArray) (hm : s.size ≤ maxLen) (w : World) (z0 : 0 < s.size) (c : s[0].toNat = 101) (hb : Lib.hasPrefix (s.data.toList.drop 1) [45] = true) :
    Calls Tryz.prog 75 #[.string s] w fun e w' => Expd s.data.toList e ∧ w = w' := by
  unfold maxLen at hm
  have he1 : ¬ s.toList = [] := by
    rw [ByteArray.toList_eq]; intro h; have : s.data.toList.length = 0 := by rw [h]; rfl
    simp at this; simp [ByteArray.size, this] at z0
  have he2 : s.toList.isEmpty = false := by simpa [List.isEmpty_iff] using he1
  have E := expo_split s z0 (by omega)
  rw [sgn_eq, hb] at E
  have HE0 : Hid _ := E
  clear E
  have c' : ((s[0].toNat : Nat) : Int) = 101 := by omega
  clear c
  have CP : Hid (∀ w, Calls Tryz.prog 90 #[.string (s.extract 1 s.size), .string ⟨#[45]⟩] w fun e w' => ∃ u : ByteArray, u.data.toList = Lib.trimPrefix (s.data.toList.drop 1) [45] ∧ e = .returned (.tuple #[.string u, .bool true]) ∧ w = w') := fun w => by
    have := cutp_is (s.extract 1 s.size) w
    rw [rest_of, hb] at this
    exact this
  clear hb
  go_enter Tryz.func75, Tryz.ntmps75
  go_wp2_with (fail)
  refine (CP.out _).mono ?_
  rintro e w1 ⟨d, hd, rfl, rfl⟩
  have HE : Hid (expo s.data.toList = (two d.data.toList).map fun n => -(n : Int)) := by unfold Hid; rw [HE0.out, hd]; rfl
  clear HE0 hd CP
  have dz : d.data.toList.length = d.size := by simp
  by_cases c1 : 1 ≤ d.size
  · by_cases c2 : d.size ≤ 2
    · go_wp2
      go_loopw [6, 40] (fun n f wr => ∃ (j v : Nat), n = .int .i64 v ∧ f = .int .i64 j ∧ j ≤ d.size ∧ Hid (v = dig 0 (d.data.toList.take j)) ∧ (j = 0 → v = 0) ∧ (j ≤ 1 → v ≤ 9) ∧ v ≤ 99 ∧ Hid (∀ c ∈ d.data.toList.take j, isD c = true) ∧ w = wr) (fun _ f _ => d.size - (intOf f).toNat)
      case atStart => exact ⟨0, 0, rfl, rfl, by omega, by unfold Hid; simp [dig], by omega, by omega, by omega, by unfold Hid; simp, rfl⟩
      case round =>
        obtain ⟨j, v, rfl, rfl, jl, HV, v0, v1, v2, HA, rfl⟩ := hrel
        by_cases c : j < d.size
        · have b8 : d[j].toNat < 256 := d[j].toNat_lt
          have ID : Hid (∀ w, Calls Tryz.prog 74 #[.int .u8 (d[j].toNat : Int)] w fun e w' => e = .returned (.bool (isD d[j])) ∧ w = w') := fun w => isDigit_any d[j] w
          cases hx : isD d[j]
          · rw [hx] at ID
            have X : Hid (expo s.data.toList = none) := by unfold Hid; rw [HE.out, two_bad c hx]; rfl
            clear hx HE HA HV
            go_wp2_with (fail)
            refine (ID.out _).mono ?_
            rintro e w1 ⟨rfl, rfl⟩
            go_wp2
            go_ret2
            exact ⟨⟨_, _, rfl, Or.inl ⟨X.out, rfl, rfl⟩⟩, rfl⟩
          · rw [hx] at ID
            obtain ⟨x0, x1⟩ := isD_at hx
            have T := take_more d j c
            have HA' : Hid (∀ c ∈ d.data.toList.take (j + 1), isD c = true) := by
              unfold Hid
              rw [T]; intro y hy
              rcases List.mem_append.1 hy with hy | hy
              · exact HA.out y hy
              · simp at hy; subst hy; exact hx
            have HV' : Hid (v * 10 + (d[j].toNat - 48) = dig 0 (d.data.toList.take (j + 1))) := by unfold Hid; rw [T, dig_snoc, ← HV.out]
            clear hx HA HV T
            go_wp2_with (fail)
            refine (ID.out _).mono ?_
            rintro e w1 ⟨rfl, rfl⟩
            go_wp2
            go_roundw
            case rel => exact ⟨j + 1, v * 10 + (d[j].toNat - 48), by go_light; refine congrArg (Value.int IntKind.i64) ?_; omega, by go_num, by omega, HV', by omega, by omega, by omega, HA', trivial⟩
            case measure => simp [intOf]; omega
        · have jm : j = d.size := by omega
          have TT : d.data.toList.take j = d.data.toList := List.take_of_length_le (by simp; omega)
          have X : Hid (expo s.data.toList = some (-(v : Int))) := by
            have h1 := HV.out
            have h2 := HA.out
            rw [TT] at h1 h2
            unfold Hid; rw [HE.out, two_yes (by omega) (by omega) h2, h1]; rfl
          clear TT HV HA HE
          subst jm
          go_wp2
          go_ret2
          exact ⟨⟨_, _, rfl, Or.inr ⟨X.out.trans (congrArg some (by first | rfl | (go_light; unfold wrap64; omega))), rfl⟩⟩, rfl⟩
    · have X : Hid (expo s.data.toList = none) := by unfold Hid; rw [HE.out, two_no _ (by omega)]; rfl
      clear HE
      go_wp2
      go_ret2
      exact ⟨⟨_, _, rfl, Or.inl ⟨X.out, rfl, rfl⟩⟩, rfl⟩
  · have X : Hid (expo s.data.toList = none) := by unfold Hid; rw [HE.out, two_no _ (by omega)]; rfl
    clear HE
    go_wp2
    go_ret2
    exact ⟨⟨_, _, rfl, Or.inl ⟨X.out, rfl, rfl⟩⟩, rfl⟩

set_option maxHeartbeats 4000000 in
theorem expo_true69 (s : ByteArray) (hm : s.size ≤ maxLen) (w : World) (z0 : 0 < s.size) (c : s[0].toNat = 69) (hb : Lib.hasPrefix (s.data.toList.drop 1) [45] = true) :
    Calls Tryz.prog 75 #[.string s] w fun e w' => Expd s.data.toList e ∧ w = w' := by
  unfold maxLen at hm
  have he1 : ¬ s.toList = [] := by
    rw [ByteArray.toList_eq]; intro h; have : s.data.toList.length = 0 := by rw [h]; rfl
    simp at this; simp [ByteArray.size, this] at z0
  have he2 : s.toList.isEmpty = false := by simpa [List.isEmpty_iff] using he1
  have E := expo_split s z0 (by omega)
  rw [sgn_eq, hb] at E
  have HE0 : Hid _ := E
  clear E
  have c' : ((s[0].toNat : Nat) : Int) = 69 := by omega
  clear c
  have CP : Hid (∀ w, Calls Tryz.prog 90 #[.string (s.extract 1 s.size), .string ⟨#[45]⟩] w fun e w' => ∃ u : ByteArray, u.data.toList = Lib.trimPrefix (s.data.toList.drop 1) [45] ∧ e = .returned (.tuple #[.string u, .bool true]) ∧ w = w') := fun w => by
    have := cutp_is (s.extract 1 s.size) w
    rw [rest_of, hb] at this
    exact this
  clear hb
  go_enter Tryz.func75, Tryz.ntmps75
  go_wp2_with (fail)
  refine (CP.out _).mono ?_
  rintro e w1 ⟨d, hd, rfl, rfl⟩
  have HE : Hid (expo s.data.toList = (two d.data.toList).map fun n => -(n : Int)) := by unfold Hid; rw [HE0.out, hd]; rfl
  clear HE0 hd CP
  have dz : d.data.toList.length = d.size := by simp
  by_cases c1 : 1 ≤ d.size
  · by_cases c2 : d.size ≤ 2
    · go_wp2
      go_loopw [6, 40] (fun n f wr => ∃ (j v : Nat), n = .int .i64 v ∧ f = .int .i64 j ∧ j ≤ d.size ∧ Hid (v = dig 0 (d.data.toList.take j)) ∧ (j = 0 → v = 0) ∧ (j ≤ 1 → v ≤ 9) ∧ v ≤ 99 ∧ Hid (∀ c ∈ d.data.toList.take j, isD c = true) ∧ w = wr) (fun _ f _ => d.size - (intOf f).toNat)
      case atStart => exact ⟨0, 0, rfl, rfl, by omega, by unfold Hid; simp [dig], by omega, by omega, by omega, by unfold Hid; simp, rfl⟩
      case round =>
        obtain ⟨j, v, rfl, rfl, jl, HV, v0, v1, v2, HA, rfl⟩ := hrel
        by_cases c : j < d.size
        · have b8 : d[j].toNat < 256 := d[j].toNat_lt
          have ID : Hid (∀ w, Calls Tryz.prog 74 #[.int .u8 (d[j].toNat : Int)] w fun e w' => e = .returned (.bool (isD d[j])) ∧ w = w') := fun w => isDigit_any d[j] w
          cases hx : isD d[j]
          · rw [hx] at ID
            have X : Hid (expo s.data.toList = none) := by unfold Hid; rw [HE.out, two_bad c hx]; rfl
            clear hx HE HA HV
            go_wp2_with (fail)
            refine (ID.out _).mono ?_
            rintro e w1 ⟨rfl, rfl⟩
            go_wp2
            go_ret2
            exact ⟨⟨_, _, rfl, Or.inl ⟨X.out, rfl, rfl⟩⟩, rfl⟩
          · rw [hx] at ID
            obtain ⟨x0, x1⟩ := isD_at hx
            have T := take_more d j c
            have HA' : Hid (∀ c ∈ d.data.toList.take (j + 1), isD c = true) := by
              unfold Hid
              rw [T]; intro y hy
              rcases List.mem_append.1 hy with hy | hy
              · exact HA.out y hy
              · simp at hy; subst hy; exact hx
            have HV' : Hid (v * 10 + (d[j].toNat - 48) = dig 0 (d.data.toList.take (j + 1))) := by unfold Hid; rw [T, dig_snoc, ← HV.out]
            clear hx HA HV T
            go_wp2_with (fail)
            refine (ID.out _).mono ?_
            rintro e w1 ⟨rfl, rfl⟩
            go_wp2
            go_roundw
            case rel => exact ⟨j + 1, v * 10 + (d[j].toNat - 48), by go_light; refine congrArg (Value.int IntKind.i64) ?_; omega, by go_num, by omega, HV', by omega, by omega, by omega, HA', trivial⟩
            case measure => simp [intOf]; omega
        · have jm : j = d.size := by omega
          have TT : d.data.toList.take j = d.data.toList := List.take_of_length_le (by simp; omega)
          have X : Hid (expo s.data.toList = some (-(v : Int))) := by
            have h1 := HV.out
            have h2 := HA.out
            rw [TT] at h1 h2
            unfold Hid; rw [HE.out, two_yes (by omega) (by omega) h2, h1]; rfl
          clear TT HV HA HE
          subst jm
          go_wp2
          go_ret2
          exact ⟨⟨_, _, rfl, Or.inr ⟨X.out.trans (congrArg some (by first | rfl | (go_light; unfold wrap64; omega))), rfl⟩⟩, rfl⟩
    · have X : Hid (expo s.data.toList = none) := by unfold Hid; rw [HE.out, two_no _ (by omega)]; rfl
      clear HE
      go_wp2
      go_ret2
      exact ⟨⟨_, _, rfl, Or.inl ⟨X.out, rfl, rfl⟩⟩, rfl⟩
  · have X : Hid (expo s.data.toList = none) := by unfold Hid; rw [HE.out, two_no _ (by omega)]; rfl
    clear HE
    go_wp2
    go_ret2
    exact ⟨⟨_, _, rfl, Or.inl ⟨X.out, rfl, rfl⟩⟩, rfl⟩

set_option maxHeartbeats 4000000 in
theorem expo_false101 (s : ByteArray) (hm : s.size ≤ maxLen) (w : World) (z0 : 0 < s.size) (c : s[0].toNat = 101) (hb : Lib.hasPrefix (s.data.toList.drop 1) [45] = false) :
    Calls Tryz.prog 75 #[.string s] w fun e w' => Expd s.data.toList e ∧ w = w' := by
  unfold maxLen at hm
  have he1 : ¬ s.toList = [] := by
    rw [ByteArray.toList_eq]; intro h; have : s.data.toList.length = 0 := by rw [h]; rfl
    simp at this; simp [ByteArray.size, this] at z0
  have he2 : s.toList.isEmpty = false := by simpa [List.isEmpty_iff] using he1
  have E := expo_split s z0 (by omega)
  rw [sgn_eq, hb] at E
  have HE0 : Hid _ := E
  clear E
  have c' : ((s[0].toNat : Nat) : Int) = 101 := by omega
  clear c
  have CP : Hid (∀ w, Calls Tryz.prog 90 #[.string (s.extract 1 s.size), .string ⟨#[45]⟩] w fun e w' => ∃ u : ByteArray, u.data.toList = Lib.trimPrefix (s.data.toList.drop 1) [45] ∧ e = .returned (.tuple #[.string u, .bool false]) ∧ w = w') := fun w => by
    have := cutp_is (s.extract 1 s.size) w
    rw [rest_of, hb] at this
    exact this
  clear hb
  go_enter Tryz.func75, Tryz.ntmps75
  go_wp2_with (fail)
  refine (CP.out _).mono ?_
  rintro e w1 ⟨d0, hd, rfl, rfl⟩
  go_wp2_with (fail)
  refine (trimp_is _ _).mono ?_
  rintro e w1 ⟨d, hd', rfl, rfl⟩
  have HE : Hid (expo s.data.toList = (two d.data.toList).map fun n => (n : Int)) := by unfold Hid; rw [HE0.out, hd', hd]; rfl
  clear HE0 hd hd' CP
  have dz : d.data.toList.length = d.size := by simp
  by_cases c1 : 1 ≤ d.size
  · by_cases c2 : d.size ≤ 2
    · go_wp2
      go_loopw [6, 40] (fun n f wr => ∃ (j v : Nat), n = .int .i64 v ∧ f = .int .i64 j ∧ j ≤ d.size ∧ Hid (v = dig 0 (d.data.toList.take j)) ∧ (j = 0 → v = 0) ∧ (j ≤ 1 → v ≤ 9) ∧ v ≤ 99 ∧ Hid (∀ c ∈ d.data.toList.take j, isD c = true) ∧ w = wr) (fun _ f _ => d.size - (intOf f).toNat)
      case atStart => exact ⟨0, 0, rfl, rfl, by omega, by unfold Hid; simp [dig], by omega, by omega, by omega, by unfold Hid; simp, rfl⟩
      case round =>
        obtain ⟨j, v, rfl, rfl, jl, HV, v0, v1, v2, HA, rfl⟩ := hrel
        by_cases c : j < d.size
        · have b8 : d[j].toNat < 256 := d[j].toNat_lt
          have ID : Hid (∀ w, Calls Tryz.prog 74 #[.int .u8 (d[j].toNat : Int)] w fun e w' => e = .returned (.bool (isD d[j])) ∧ w = w') := fun w => isDigit_any d[j] w
          cases hx : isD d[j]
          · rw [hx] at ID
            have X : Hid (expo s.data.toList = none) := by unfold Hid; rw [HE.out, two_bad c hx]; rfl
            clear hx HE HA HV
            go_wp2_with (fail)
            refine (ID.out _).mono ?_
            rintro e w1 ⟨rfl, rfl⟩
            go_wp2
            go_ret2
            exact ⟨⟨_, _, rfl, Or.inl ⟨X.out, rfl, rfl⟩⟩, rfl⟩
          · rw [hx] at ID
            obtain ⟨x0, x1⟩ := isD_at hx
            have T := take_more d j c
            have HA' : Hid (∀ c ∈ d.data.toList.take (j + 1), isD c = true) := by
              unfold Hid
              rw [T]; intro y hy
              rcases List.mem_append.1 hy with hy | hy
              · exact HA.out y hy
              · simp at hy; subst hy; exact hx
            have HV' : Hid (v * 10 + (d[j].toNat - 48) = dig 0 (d.data.toList.take (j + 1))) := by unfold Hid; rw [T, dig_snoc, ← HV.out]
            clear hx HA HV T
            go_wp2_with (fail)
            refine (ID.out _).mono ?_
            rintro e w1 ⟨rfl, rfl⟩
            go_wp2
            go_roundw
            case rel => exact ⟨j + 1, v * 10 + (d[j].toNat - 48), by go_light; refine congrArg (Value.int IntKind.i64) ?_; omega, by go_num, by omega, HV', by omega, by omega, by omega, HA', trivial⟩
            case measure => simp [intOf]; omega
        · have jm : j = d.size := by omega
          have TT : d.data.toList.take j = d.data.toList := List.take_of_length_le (by simp; omega)
          have X : Hid (expo s.data.toList = some ((v : Int))) := by
            have h1 := HV.out
            have h2 := HA.out
            rw [TT] at h1 h2
            unfold Hid; rw [HE.out, two_yes (by omega) (by omega) h2, h1]; rfl
          clear TT HV HA HE
          subst jm
          go_wp2
          go_ret2
          exact ⟨⟨_, _, rfl, Or.inr ⟨X.out.trans (congrArg some (by first | rfl | (go_light; unfold wrap64; omega))), rfl⟩⟩, rfl⟩
    · have X : Hid (expo s.data.toList = none) := by unfold Hid; rw [HE.out, two_no _ (by omega)]; rfl
      clear HE
      go_wp2
      go_ret2
      exact ⟨⟨_, _, rfl, Or.inl ⟨X.out, rfl, rfl⟩⟩, rfl⟩
  · have X : Hid (expo s.data.toList = none) := by unfold Hid; rw [HE.out, two_no _ (by omega)]; rfl
    clear HE
    go_wp2
    go_ret2
    exact ⟨⟨_, _, rfl, Or.inl ⟨X.out, rfl, rfl⟩⟩, rfl⟩

set_option maxHeartbeats 4000000 in
theorem expo_false69 (s : ByteArray) (hm : s.size ≤ maxLen) (w : World) (z0 : 0 < s.size) (c : s[0].toNat = 69) (hb : Lib.hasPrefix (s.data.toList.drop 1) [45] = false) :
    Calls Tryz.prog 75 #[.string s] w fun e w' => Expd s.data.toList e ∧ w = w' := by
  unfold maxLen at hm
  have he1 : ¬ s.toList = [] := by
    rw [ByteArray.toList_eq]; intro h; have : s.data.toList.length = 0 := by rw [h]; rfl
    simp at this; simp [ByteArray.size, this] at z0
  have he2 : s.toList.isEmpty = false := by simpa [List.isEmpty_iff] using he1
  have E := expo_split s z0 (by omega)
  rw [sgn_eq, hb] at E
  have HE0 : Hid _ := E
  clear E
  have c' : ((s[0].toNat : Nat) : Int) = 69 := by omega
  clear c
  have CP : Hid (∀ w, Calls Tryz.prog 90 #[.string (s.extract 1 s.size), .string ⟨#[45]⟩] w fun e w' => ∃ u : ByteArray, u.data.toList = Lib.trimPrefix (s.data.toList.drop 1) [45] ∧ e = .returned (.tuple #[.string u, .bool false]) ∧ w = w') := fun w => by
    have := cutp_is (s.extract 1 s.size) w
    rw [rest_of, hb] at this
    exact this
  clear hb
  go_enter Tryz.func75, Tryz.ntmps75
  go_wp2_with (fail)
  refine (CP.out _).mono ?_
  rintro e w1 ⟨d0, hd, rfl, rfl⟩
  go_wp2_with (fail)
  refine (trimp_is _ _).mono ?_
  rintro e w1 ⟨d, hd', rfl, rfl⟩
  have HE : Hid (expo s.data.toList = (two d.data.toList).map fun n => (n : Int)) := by unfold Hid; rw [HE0.out, hd', hd]; rfl
  clear HE0 hd hd' CP
  have dz : d.data.toList.length = d.size := by simp
  by_cases c1 : 1 ≤ d.size
  · by_cases c2 : d.size ≤ 2
    · go_wp2
      go_loopw [6, 40] (fun n f wr => ∃ (j v : Nat), n = .int .i64 v ∧ f = .int .i64 j ∧ j ≤ d.size ∧ Hid (v = dig 0 (d.data.toList.take j)) ∧ (j = 0 → v = 0) ∧ (j ≤ 1 → v ≤ 9) ∧ v ≤ 99 ∧ Hid (∀ c ∈ d.data.toList.take j, isD c = true) ∧ w = wr) (fun _ f _ => d.size - (intOf f).toNat)
      case atStart => exact ⟨0, 0, rfl, rfl, by omega, by unfold Hid; simp [dig], by omega, by omega, by omega, by unfold Hid; simp, rfl⟩
      case round =>
        obtain ⟨j, v, rfl, rfl, jl, HV, v0, v1, v2, HA, rfl⟩ := hrel
        by_cases c : j < d.size
        · have b8 : d[j].toNat < 256 := d[j].toNat_lt
          have ID : Hid (∀ w, Calls Tryz.prog 74 #[.int .u8 (d[j].toNat : Int)] w fun e w' => e = .returned (.bool (isD d[j])) ∧ w = w') := fun w => isDigit_any d[j] w
          cases hx : isD d[j]
          · rw [hx] at ID
            have X : Hid (expo s.data.toList = none) := by unfold Hid; rw [HE.out, two_bad c hx]; rfl
            clear hx HE HA HV
            go_wp2_with (fail)
            refine (ID.out _).mono ?_
            rintro e w1 ⟨rfl, rfl⟩
            go_wp2
            go_ret2
            exact ⟨⟨_, _, rfl, Or.inl ⟨X.out, rfl, rfl⟩⟩, rfl⟩
          · rw [hx] at ID
            obtain ⟨x0, x1⟩ := isD_at hx
            have T := take_more d j c
            have HA' : Hid (∀ c ∈ d.data.toList.take (j + 1), isD c = true) := by
              unfold Hid
              rw [T]; intro y hy
              rcases List.mem_append.1 hy with hy | hy
              · exact HA.out y hy
              · simp at hy; subst hy; exact hx
            have HV' : Hid (v * 10 + (d[j].toNat - 48) = dig 0 (d.data.toList.take (j + 1))) := by unfold Hid; rw [T, dig_snoc, ← HV.out]
            clear hx HA HV T
            go_wp2_with (fail)
            refine (ID.out _).mono ?_
            rintro e w1 ⟨rfl, rfl⟩
            go_wp2
            go_roundw
            case rel => exact ⟨j + 1, v * 10 + (d[j].toNat - 48), by go_light; refine congrArg (Value.int IntKind.i64) ?_; omega, by go_num, by omega, HV', by omega, by omega, by omega, HA', trivial⟩
            case measure => simp [intOf]; omega
        · have jm : j = d.size := by omega
          have TT : d.data.toList.take j = d.data.toList := List.take_of_length_le (by simp; omega)
          have X : Hid (expo s.data.toList = some ((v : Int))) := by
            have h1 := HV.out
            have h2 := HA.out
            rw [TT] at h1 h2
            unfold Hid; rw [HE.out, two_yes (by omega) (by omega) h2, h1]; rfl
          clear TT HV HA HE
          subst jm
          go_wp2
          go_ret2
          exact ⟨⟨_, _, rfl, Or.inr ⟨X.out.trans (congrArg some (by first | rfl | (go_light; unfold wrap64; omega))), rfl⟩⟩, rfl⟩
    · have X : Hid (expo s.data.toList = none) := by unfold Hid; rw [HE.out, two_no _ (by omega)]; rfl
      clear HE
      go_wp2
      go_ret2
      exact ⟨⟨_, _, rfl, Or.inl ⟨X.out, rfl, rfl⟩⟩, rfl⟩
  · have X : Hid (expo s.data.toList = none) := by unfold Hid; rw [HE.out, two_no _ (by omega)]; rfl
    clear HE
    go_wp2
    go_ret2
    exact ⟨⟨_, _, rfl, Or.inl ⟨X.out, rfl, rfl⟩⟩, rfl⟩

theorem exponent_is (s : ByteArray) (hm : s.size ≤ maxLen) (w : World) :
    Calls Tryz.prog 75 #[.string s] w fun e w' => Expd s.data.toList e ∧ w = w' := by
  by_cases z : s.size = 0
  · exact expo_none s hm w (Or.inl z)
  · have z0 : 0 < s.size := by omega
    by_cases c : s[0].toNat = 101
    · cases hb : Lib.hasPrefix (s.data.toList.drop 1) [45]
      · exact expo_false101 s hm w z0 c hb
      · exact expo_true101 s hm w z0 c hb
    · by_cases c' : s[0].toNat = 69
      · cases hb : Lib.hasPrefix (s.data.toList.drop 1) [45]
        · exact expo_false69 s hm w z0 c' hb
        · exact expo_true69 s hm w z0 c' hb
      · exact expo_none s hm w (Or.inr ⟨z0, c, c'⟩)

end Go.Proofs.YtpbgolcimbjekaaGreatDoor
