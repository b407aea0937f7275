/-
  Both texts of an amount mean that amount: plain facts on the functions of VE. No program is spoken of.
  The walk of the statement AmountBack at this program: it returns true. Conditions: the words are words, the two tables of suffixes lie as the program's text lays them.
  Contracts of what package vector reads texts with: a text cut at a letter, a resource by its name, a resource's number; at this program. Conditions: where it is said, the tables of the program lie as its text lays them; a text's length fits the machine.
  A resource's number and text as package vector reads and writes them, at this program. Conditions: the tables of the program lie as its text lays them; a text's length fits the machine.
-/
import Derived.Test.YtpbgolcimbjekaaGreatDoorQ15
import Derived.Test.YtpbgolcimbjekaaGreatDoorQ16
import Derived.Test.YtpbgolcimbjekaaGreatDoorQ18
namespace Go.Proofs.YtpbgolcimbjekaaGreatDoor

theorem isD_dig (k : Nat) (h : k < 10) : isD (UInt8.ofNat (48 + k)) = true ∧ (UInt8.ofNat (48 + k)).toNat - 48 = k := by
  have : (UInt8.ofNat (48 + k)).toNat = 48 + k := by
    rw [UInt8.toNat_ofNat']
    omega
  unfold isD
  rw [this]
  exact ⟨by simp; omega, by omega⟩
theorem decF_digits : ∀ (k a : Nat), ∀ c ∈ decF k a, isD c = true
  | 0, a, c, h => by simp [decF] at h
  | k + 1, a, c, h => by
    rw [decF_succ] at h
    split at h
    · rename_i k
      rw [List.mem_singleton.1 h]
      exact (isD_dig a k).1
    · rcases List.mem_append.1 h with h | h
      · exact decF_digits k _ c h
      · rw [List.mem_singleton.1 h]
        exact (isD_dig (a % 10) (by omega)).1
theorem decF_val : ∀ (k a : Nat), a < 10 ^ (k + 1) → dig 0 (decF (k + 1) a) = a
  | 0, a, h => by
    rw [decF_succ, if_pos (by simpa using h)]
    have := (isD_dig a (by simpa using h)).2
    simpa [dig] using this
  | k + 1, a, h => by
    rw [decF_succ]
    by_cases c : a < 10
    · rw [if_pos c]
      have := (isD_dig a c).2
      simpa [dig] using this
    · rw [if_neg c, dig_snoc, decF_val k (a / 10) (by rw [Nat.pow_succ] at h; omega), (isD_dig (a % 10) (by omega)).2]
      omega
theorem dec_digits (a : Nat) : ∀ c ∈ dec a, isD c = true := decF_digits 39 a
theorem dec_val (a : Nat) (h : a < 340282366920938463463374607431768211456) : dig 0 (dec a) = a := by
  unfold dec
  exact decF_val 38 a (by have : (10 : Nat) ^ 39 = 1000000000000000000000000000000000000000 := by decide
                          omega)
theorem dec_short (a : Nat) (h : a ≤ most) : (dec a).length ≤ 28 := by
  have : (10 : Nat) ^ 28 = 10000000000000000000000000000 := by decide
  rw [← decF_dec a 11 27 rfl (by unfold most at h; omega)]
  exact decF_len 28 a
theorem dec_ne (a : Nat) : dec a ≠ [] := by
  unfold dec
  rw [decF_succ]
  split <;> simp

theorem isD_46 {c : UInt8} (h : isD c = true) : c.toNat ≠ 46 := by
  unfold isD at h
  have := of_decide_eq_true h
  omega
theorem nend_app (suf : List UInt8) (hs : nend false suf = 0) : ∀ D : List UInt8, (∀ c ∈ D, isD c = true) → nend false (D ++ suf) = D.length
  | [], _ => by simpa using hs
  | c :: r, h => by
    have hc := h c (by simp)
    have n := isD_46 hc
    rw [List.cons_append, nend_on (by simp [n, hc]), show (false || decide (c.toNat = 46)) = false by simp [n], nend_app suf hs r (fun x hx => h x (by simp [hx]))]
    simp
theorem cut_plain : ∀ D : List UInt8, (∀ c ∈ D, isD c = true) → cutDot D = (D, [])
  | [], _ => rfl
  | c :: r, h => by
    have n := isD_46 (h c (by simp))
    rw [cutDot, if_neg (by rintro rfl; exact n rfl), cut_plain r (fun x hx => h x (by simp [hx]))]

theorem parse_of {D suf : List UInt8} {t : Nat} {n : Int} {v : Nat} (hd : ∀ c ∈ D, isD c = true) (h0 : D ≠ []) (hl : D.length ≤ 28) (hs : nend false suf = 0) (hp : pow suf = some (t, n)) (hv : scal (dig 0 D) t (n + 9) = v) (hm : v ≤ most) :
    parseL (D ++ suf) = (v, 0) := by
  have e := nend_app suf hs D hd
  have e1 : (D ++ suf).take D.length = D := by simp
  have e2 : (D ++ suf).drop D.length = suf := by simp
  unfold parseL
  rw [if_neg (by simp [h0]), e, e1, e2, hp, cut_plain D hd]
  have e3 : dig (dig 0 D) [] = dig 0 D := rfl
  have e4 : n + 9 - (([] : List UInt8).length : Int) = n + 9 := by simp
  simp only [e3, e4, hv]
  rw [if_neg (by simp [h0]), if_neg (by simp; omega), if_pos hm]

theorem decs_pow (t : Nat) (h : t < 10) : pow (decs.getD t []) = some (0, 3 * (t : Int) - 9) ∧ nend false (decs.getD t []) = 0 := by
  match t, h with
  | 0, _ => decide +kernel
  | 1, _ => decide +kernel
  | 2, _ => decide +kernel
  | 3, _ => decide +kernel
  | 4, _ => decide +kernel
  | 5, _ => decide +kernel
  | 6, _ => decide +kernel
  | 7, _ => decide +kernel
  | 8, _ => decide +kernel
  | 9, _ => decide +kernel
theorem bins_pow (t : Nat) (h : t < 6) : pow (bins.getD t []) = some (10 * (t + 1), 0) ∧ nend false (bins.getD t []) = 0 := by
  match t, h with
  | 0, _ => decide +kernel
  | 1, _ => decide +kernel
  | 2, _ => decide +kernel
  | 3, _ => decide +kernel
  | 4, _ => decide +kernel
  | 5, _ => decide +kernel

theorem sh_val (v : Nat) (v0 : 0 < v) : ∀ (k a t : Nat), t ≤ (sh v k a t).2 ∧ (sh v k a t).1 * v ^ ((sh v k a t).2 - t) = a ∧ (sh v k a t).1 ≤ a
  | 0, a, t => by simp [sh]
  | k + 1, a, t => by
    rw [sh]
    split
    · rename_i h
      obtain ⟨h1, h2, h3⟩ := sh_val v v0 k (a / v) (t + 1)
      refine ⟨by omega, ?_, Nat.le_trans h3 (Nat.div_le_self _ _)⟩
      rw [show (sh v k (a / v) (t + 1)).2 - t = ((sh v k (a / v) (t + 1)).2 - (t + 1)) + 1 by omega, Nat.pow_succ, ← Nat.mul_assoc, h2]
      exact Nat.div_mul_cancel (Nat.dvd_of_mod_eq_zero h)
    · simp

theorem text_back (a : Nat) (h : a ≤ most) : parseL (textL a) = (a, 0) ∧ textL a ≠ [] := by
  unfold textL
  rw [if_pos h]
  by_cases z : a = 0
  · rw [if_pos z, z]
    exact ⟨by decide +kernel, by simp⟩
  · rw [if_neg z]
    obtain ⟨R, t, hR⟩ : ∃ R t, sh 1000 9 a 0 = (R, t) := ⟨_, _, rfl⟩
    have s1 := sh_le 1000 9 a 0
    obtain ⟨-, s2, s3⟩ := sh_val 1000 (by omega) 9 a 0
    rw [hR] at s1 s2 s3 ⊢
    simp only at s1 s2 s3 ⊢
    obtain ⟨p1, p2⟩ := decs_pow t (by omega)
    have lt : R < 340282366920938463463374607431768211456 := by unfold most at h; omega
    refine ⟨parse_of (dec_digits R) (dec_ne R) (dec_short R (by omega)) p2 p1 ?_ h, by simp [dec_ne]⟩
    rw [dec_val R lt]
    unfold scal
    rw [if_pos (by omega), show (3 * (t : Int) - 9 + 9).toNat = 3 * t by omega, Nat.pow_mul]
    simpa using s2

theorem bin_back (a : Nat) (h : a ≤ most) : parseL (binL a) = (a, 0) := by
  unfold binL
  rw [if_pos h]
  by_cases z : a % 1000000000 ≠ 0 ∨ a / 1000000000 = 0
  · rw [if_pos z]; exact (text_back a h).1
  · rw [if_neg z]
    obtain ⟨R, t, hR⟩ : ∃ R t, sh 1024 6 (a / 1000000000) 0 = (R, t) := ⟨_, _, rfl⟩
    have s1 := sh_le 1024 6 (a / 1000000000) 0
    obtain ⟨-, s2, s3⟩ := sh_val 1024 (by omega) 6 (a / 1000000000) 0
    rw [hR] at s1 s2 s3 ⊢
    simp only at s1 s2 s3 ⊢
    by_cases c : t = 0
    · rw [if_pos c]; exact (text_back a h).1
    · rw [if_neg c]
      obtain ⟨k, rfl⟩ : ∃ k, t = k + 1 := ⟨t - 1, by omega⟩
      rw [show k + 1 - 1 = k by omega]
      obtain ⟨p1, p2⟩ := bins_pow k (by omega)
      have lt : R < 340282366920938463463374607431768211456 := by unfold most at h; omega
      refine parse_of (dec_digits R) (dec_ne R) (dec_short R (by omega)) p2 p1 ?_ h
      rw [dec_val R lt]
      unfold scal
      rw [if_pos (by omega), show ((0 : Int) + 9).toNat = 9 by omega, Nat.pow_mul, Nat.mul_right_comm]
      have e : (2 : Nat) ^ 10 = 1024 := by decide
      have e' : (10 : Nat) ^ 9 = 1000000000 := by decide
      rw [e, e']
      simp only [Nat.sub_zero] at s2
      rw [s2]
      omega

end Go.Proofs.YtpbgolcimbjekaaGreatDoor

namespace Go.Proofs.YtpbgolcimbjekaaGreatDoor
open Go.RowKit

theorem len_text (a : Nat) : (textL a).length ≤ 100 ∧ (binL a).length ≤ 100 := by
  have h1 : (textL a).length ≤ 100 := by
    unfold textL
    split
    · split
      · simp
      · have := dec_len (sh 1000 9 a 0).1
        have h := sh_le 1000 9 a 0
        have := decs_len (sh 1000 9 a 0).2 (by omega)
        simp only [List.length_append]; omega
    · simp
  refine ⟨h1, ?_⟩
  unfold binL
  split
  · split
    · exact h1
    · split
      · exact h1
      · have := dec_len (sh 1024 6 (a / 1000000000) 0).1
        have h := sh_le 1024 6 (a / 1000000000) 0
        have := bins_len ((sh 1024 6 (a / 1000000000) 0).2 - 1) (by omega)
        simp only [List.length_append]; omega
  · simp
theorem up_near (a : Nat) (h : a ≤ most) : up a 1000000000 ≤ 1152921504606846976 ∧ a ≤ up a 1000000000 * 1000000000 ∧ up a 1000000000 * 1000000000 - a < 1000000000 := by
  unfold up most at *
  omega
theorem parse_det {h l : Int} {v : Nat} {s : ByteArray} (hs : s.size ≤ 100) (e : parseL s.data.toList = (v, 0)) (i : Is h l v) (w : World) (hL : LaidW w) :
    Calls Tryz.prog 35 #[.string s] w fun e w' => e = .returned (.tuple #[.agg #[.int .u64 h, .int .u64 l], .int .i64 0]) ∧ Below w.heap.size w w' := by
  refine (parse_amount s (by unfold maxLen; omega) w hL).mono ?_
  rintro e' w' ⟨⟨h', k, g', rfl, hg, i'⟩, hw⟩
  rw [e] at hg i'
  subst hg
  obtain ⟨rfl, rfl⟩ := i'.det i
  exact ⟨rfl, hw⟩
theorem text_det {h l : Int} {v : Nat} (i : Is h l v) (w : World) (hL : LaidW w) :
    Calls Tryz.prog 39 #[.agg #[.int .u64 h, .int .u64 l]] w fun e w' => e = .returned (.string (ba (textL v))) ∧ Below w.heap.size w w' := by
  refine (text_amount i w hL).mono ?_
  rintro e w' ⟨⟨t, rfl, ht⟩, hw⟩
  exact ⟨by rw [ba_eq ht]; rfl, hw⟩
theorem bin_det {h l : Int} {v : Nat} (i : Is h l v) (w : World) (hL : LaidW w) :
    Calls Tryz.prog 41 #[.agg #[.int .u64 h, .int .u64 l]] w fun e w' => e = .returned (.string (ba (binL v))) ∧ Below w.heap.size w w' := by
  refine (binary_amount i w hL).mono ?_
  rintro e w' ⟨⟨t, rfl, ht⟩, hw⟩
  exact ⟨by rw [ba_eq ht]; rfl, hw⟩

/-- These boxes lie there, the tables too; nothing older has turned. -/
def Keep (w : World) (bs : List (Nat × Int × Int)) (W : World) : Prop := (∀ x ∈ bs, Box W x.1 x.2.1 x.2.2) ∧ LaidW W ∧ Below w.heap.size w W
theorem LaidW.drew {w : World} (h : LaidW w) : LaidW w.drew := ⟨(World.rangeAt_drew _ _ _ _).2 h.1, (World.rangeAt_drew _ _ _ _).2 h.2.1, h.2.2⟩
theorem Keep.later {w W w1 : World} {bs : List (Nat × Int × Int)} (k : Keep w bs W) (hb : Below W.heap.size W w1) : Keep w bs w1 :=
  ⟨fun x hx => (k.1 x hx).later hb, k.2.1.later hb, k.2.2.trans (hb.mono k.2.2.size)⟩
theorem Keep.drew {w W : World} {bs : List (Nat × Int × Int)} (k : Keep w bs W) : Keep w bs W.drew :=
  ⟨fun x hx => (k.1 x hx).drew, k.2.1.drew, k.2.2.drew⟩
/-- These boxes lie there; nothing older has turned. -/
def BD (w : World) (bs : List (Nat × Int × Int)) (W : World) : Prop := (∀ x ∈ bs, Box W x.1 x.2.1 x.2.2) ∧ Below w.heap.size w W
theorem BD.later {w W w1 : World} {bs : List (Nat × Int × Int)} (k : BD w bs W) (hb : Below W.heap.size W w1) : BD w bs w1 :=
  ⟨fun x hx => (k.1 x hx).later hb, k.2.trans (hb.mono k.2.size)⟩
theorem BD.drew {w W : World} {bs : List (Nat × Int × Int)} (k : BD w bs W) : BD w bs W.drew := ⟨fun x hx => (k.1 x hx).drew, k.2.drew⟩
theorem text_over {a : Nat} (h : ¬ a ≤ most) : textL a = [] ∧ binL a = [] := by
  unfold textL binL
  rw [if_neg h, if_neg h]
  exact ⟨rfl, rfl⟩
theorem cmp_lt {a b : Nat} (h : a < b) : cmp (a : Int) (b : Int) < 0 := by
  unfold cmp
  rw [if_neg (by omega), if_pos (by omega)]
  omega

end Go.Proofs.YtpbgolcimbjekaaGreatDoor

namespace Go.Proofs.YtpbgolcimbjekaaGreatDoor
open Go.RowKit

/-- What is ahead of the first such letter, and what is behind it, if there is one. -/
def cutAt (d : UInt8) : List UInt8 → List UInt8 × Option (List UInt8)
  | [] => ([], none)
  | c :: r => if c = d then ([], some r) else (c :: (cutAt d r).1, (cutAt d r).2)
theorem cutAt_none (d : UInt8) : ∀ (l : List UInt8), Lib.indexByte l d = -1 → cutAt d l = (l, none)
  | [], _ => rfl
  | c :: r, h => by
    rw [Lib.indexByte] at h
    rw [cutAt]
    by_cases e : c = d
    · simp [e] at h
    · rw [if_neg e]
      have e' : (c == d) = false := by simpa using e
      rw [e'] at h
      by_cases k : Lib.indexByte r d = -1
      · rw [cutAt_none d r k]
      · have g := Lib.indexByte_ge r d
        simp [k] at h
        omega
theorem cutAt_some (d : UInt8) : ∀ (l : List UInt8) (i : Nat), Lib.indexByte l d = (i : Int) → cutAt d l = (l.take i, some (l.drop (i + 1))) ∧ i < l.length
  | [], i, h => by simp [Lib.indexByte] at h
  | c :: r, i, h => by
    rw [Lib.indexByte] at h
    rw [cutAt]
    by_cases e : c = d
    · simp [e] at h
      obtain rfl : i = 0 := by omega
      simp [e]
    · rw [if_neg e]
      have e' : (c == d) = false := by simpa using e
      rw [e'] at h
      by_cases k : Lib.indexByte r d = -1
      · simp [k] at h
      · simp [k] at h
        have g := Lib.indexByte_ge r d
        obtain ⟨j, rfl⟩ : ∃ j, i = j + 1 := ⟨i - 1, by omega⟩
        obtain ⟨h1, h2⟩ := cutAt_some d r j (by omega)
        rw [h1]
        simp; omega
/-- Both parts, and whether there was such a letter. -/
def Cutd (d : UInt8) (l : List UInt8) (a b : ByteArray) (f : Bool) : Prop := a.data.toList = (cutAt d l).1 ∧ a.size ≤ l.length ∧ ((f = true ∧ (cutAt d l).2 = some b.data.toList ∧ b.size < l.length) ∨ (f = false ∧ (cutAt d l).2 = none ∧ b.size = 0))
theorem ba_len (s : ByteArray) : s.data.toList.length = s.size := by rw [Array.length_toList]; rfl

set_option maxHeartbeats 2000000 in
theorem cutl_44 (s : ByteArray) (hm : s.size ≤ maxLen) (w : World) :
    Calls Tryz.prog 34 #[.string s, .string ⟨#[44]⟩] w fun e w' => ∃ (a b : ByteArray) (f : Bool), e = .returned (.tuple #[.string a, .string b, .bool f]) ∧ Cutd 44 s.data.toList a b f ∧ Below w.heap.size w w' := by
  unfold maxLen at hm
  by_cases h : Lib.indexByte s.data.toList 44 = -1
  · have C := cutAt_none 44 _ h
    have C' : Hid (cutAt 44 s.data.toList = (s.data.toList, none)) := C
    have IX : Hid (∀ w, Calls Tryz.prog 50 #[.string s, .string ⟨#[44]⟩] w fun e w' => e = .returned (.int .i64 (-1)) ∧ w' = w) := fun w => by rw [← h]; exact Tryz.stringslite_Index_one s 44 w
    clear h C
    go_enter Tryz.func34, Tryz.ntmps34
    go_wp2_with (fail)
    refine (IX.out _).mono ?_
    rintro e w1 ⟨rfl, rfl⟩
    go_wp2
    go_ret3
    exact ⟨_, _, _, rfl, ⟨by rw [C'.out], by rw [ba_len]; exact Nat.le_refl _, Or.inr ⟨rfl, by rw [C'.out], rfl⟩⟩, by go_grown⟩
  · have g := Lib.indexByte_ge s.data.toList 44
    obtain ⟨i, hi⟩ : ∃ i : Nat, Lib.indexByte s.data.toList 44 = (i : Int) := ⟨(Lib.indexByte s.data.toList 44).toNat, by omega⟩
    obtain ⟨h1, h2⟩ := cutAt_some 44 _ i hi
    have C' : Hid (cutAt 44 s.data.toList = (s.data.toList.take i, some (s.data.toList.drop (i + 1)))) := h1
    have IX : Hid (∀ w, Calls Tryz.prog 50 #[.string s, .string ⟨#[44]⟩] w fun e w' => e = .returned (.int .i64 (i : Int)) ∧ w' = w) := fun w => by rw [← hi]; exact Tryz.stringslite_Index_one s 44 w
    have is : i < s.size := by simpa using h2
    clear h g hi h1 h2
    have c1 : (0 : Int) ≤ (i : Int) := by omega
    have c2 : (i : Int) ≤ (s.size : Int) := by omega
    have c3 : (0 : Int) ≤ (i : Int) + 1 := by omega
    have c4 : (i : Int) + 1 ≤ (s.size : Int) := by omega
    go_enter Tryz.func34, Tryz.ntmps34
    go_wp2_with (fail)
    refine (IX.out _).mono ?_
    rintro e w1 ⟨rfl, rfl⟩
    go_wp2
    go_region
    go_wp2
    go_ret3
    refine ⟨_, _, _, rfl, ⟨?_, ?_, Or.inl ⟨rfl, ?_, ?_⟩⟩, by go_grown⟩
    · rw [C'.out]; simp
    · rw [ba_len]; simp; omega
    · rw [C'.out]; simp
      exact (List.take_of_length_le (by simp)).symm
    · rw [ba_len]; simp; omega

set_option maxHeartbeats 2000000 in
theorem cut_44 (s : ByteArray) (hm : s.size ≤ maxLen) (w : World) :
    Calls Tryz.prog 19 #[.string s, .string ⟨#[44]⟩] w fun e w' => ∃ (a b : ByteArray) (f : Bool), e = .returned (.tuple #[.string a, .string b, .bool f]) ∧ Cutd 44 s.data.toList a b f ∧ Below w.heap.size w w' := by
  go_enter Tryz.func19, Tryz.ntmps19
  go_wp2_with (fail)
  refine (cutl_44 s hm _).mono ?_
  rintro e w1 ⟨a, b, f, rfl, ha, hw1⟩
  have A : Hid _ := ha
  clear ha
  go_wp2
  go_ret3
  exact ⟨_, _, _, rfl, A.out, hw1⟩

set_option maxHeartbeats 2000000 in
theorem cutl_61 (s : ByteArray) (hm : s.size ≤ maxLen) (w : World) :
    Calls Tryz.prog 34 #[.string s, .string ⟨#[61]⟩] w fun e w' => ∃ (a b : ByteArray) (f : Bool), e = .returned (.tuple #[.string a, .string b, .bool f]) ∧ Cutd 61 s.data.toList a b f ∧ Below w.heap.size w w' := by
  unfold maxLen at hm
  by_cases h : Lib.indexByte s.data.toList 61 = -1
  · have C := cutAt_none 61 _ h
    have C' : Hid (cutAt 61 s.data.toList = (s.data.toList, none)) := C
    have IX : Hid (∀ w, Calls Tryz.prog 50 #[.string s, .string ⟨#[61]⟩] w fun e w' => e = .returned (.int .i64 (-1)) ∧ w' = w) := fun w => by rw [← h]; exact Tryz.stringslite_Index_one s 61 w
    clear h C
    go_enter Tryz.func34, Tryz.ntmps34
    go_wp2_with (fail)
    refine (IX.out _).mono ?_
    rintro e w1 ⟨rfl, rfl⟩
    go_wp2
    go_ret3
    exact ⟨_, _, _, rfl, ⟨by rw [C'.out], by rw [ba_len]; exact Nat.le_refl _, Or.inr ⟨rfl, by rw [C'.out], rfl⟩⟩, by go_grown⟩
  · have g := Lib.indexByte_ge s.data.toList 61
    obtain ⟨i, hi⟩ : ∃ i : Nat, Lib.indexByte s.data.toList 61 = (i : Int) := ⟨(Lib.indexByte s.data.toList 61).toNat, by omega⟩
    obtain ⟨h1, h2⟩ := cutAt_some 61 _ i hi
    have C' : Hid (cutAt 61 s.data.toList = (s.data.toList.take i, some (s.data.toList.drop (i + 1)))) := h1
    have IX : Hid (∀ w, Calls Tryz.prog 50 #[.string s, .string ⟨#[61]⟩] w fun e w' => e = .returned (.int .i64 (i : Int)) ∧ w' = w) := fun w => by rw [← hi]; exact Tryz.stringslite_Index_one s 61 w
    have is : i < s.size := by simpa using h2
    clear h g hi h1 h2
    have c1 : (0 : Int) ≤ (i : Int) := by omega
    have c2 : (i : Int) ≤ (s.size : Int) := by omega
    have c3 : (0 : Int) ≤ (i : Int) + 1 := by omega
    have c4 : (i : Int) + 1 ≤ (s.size : Int) := by omega
    go_enter Tryz.func34, Tryz.ntmps34
    go_wp2_with (fail)
    refine (IX.out _).mono ?_
    rintro e w1 ⟨rfl, rfl⟩
    go_wp2
    go_region
    go_wp2
    go_ret3
    refine ⟨_, _, _, rfl, ⟨?_, ?_, Or.inl ⟨rfl, ?_, ?_⟩⟩, by go_grown⟩
    · rw [C'.out]; simp
    · rw [ba_len]; simp; omega
    · rw [C'.out]; simp
      exact (List.take_of_length_le (by simp)).symm
    · rw [ba_len]; simp; omega

set_option maxHeartbeats 2000000 in
theorem cut_61 (s : ByteArray) (hm : s.size ≤ maxLen) (w : World) :
    Calls Tryz.prog 19 #[.string s, .string ⟨#[61]⟩] w fun e w' => ∃ (a b : ByteArray) (f : Bool), e = .returned (.tuple #[.string a, .string b, .bool f]) ∧ Cutd 61 s.data.toList a b f ∧ Below w.heap.size w w' := by
  go_enter Tryz.func19, Tryz.ntmps19
  go_wp2_with (fail)
  refine (cutl_61 s hm _).mono ?_
  rintro e w1 ⟨a, b, f, rfl, ha, hw1⟩
  have A : Hid _ := ha
  clear ha
  go_wp2
  go_ret3
  exact ⟨_, _, _, rfl, A.out, hw1⟩

/-! ### A resource by its name -/
def cpuL : List UInt8 := [99, 112, 117]
def memL : List UInt8 := [109, 101, 109, 111, 114, 121]
def hugL : List UInt8 := [104, 117, 103, 101, 112, 97, 103, 101, 115]
theorem beq_dec (l m : List UInt8) : (l == m) = decide (l = m) := by
  by_cases h : l = m
  · rw [decide_eq_true h, h]; simp
  · rw [decide_eq_false h]; simpa using h
def resL (l : List UInt8) : Option Nat := if l = cpuL then some 0 else if l = memL then some 1 else if l = hugL then some 2 else none
def resV (o : Option Nat) : Value := .tuple #[.int .i64 ((o.getD 0 : Nat) : Int), .bool o.isSome]
theorem name_ix0 (w : World) : (Instr.index 56 (.agg #[.string ⟨#[99, 112, 117]⟩, .string ⟨#[109, 101, 109, 111, 114, 121]⟩, .string ⟨#[104, 117, 103, 101, 112, 97, 103, 101, 115]⟩]) (.int .i64 0)).run Tryz.prog w = .ok (.string ⟨#[99, 112, 117]⟩) w := by kernel_rfl
theorem name_ix1 (w : World) : (Instr.index 56 (.agg #[.string ⟨#[99, 112, 117]⟩, .string ⟨#[109, 101, 109, 111, 114, 121]⟩, .string ⟨#[104, 117, 103, 101, 112, 97, 103, 101, 115]⟩]) (.int .i64 1)).run Tryz.prog w = .ok (.string ⟨#[109, 101, 109, 111, 114, 121]⟩) w := by kernel_rfl
theorem name_ix2 (w : World) : (Instr.index 56 (.agg #[.string ⟨#[99, 112, 117]⟩, .string ⟨#[109, 101, 109, 111, 114, 121]⟩, .string ⟨#[104, 117, 103, 101, 112, 97, 103, 101, 115]⟩]) (.int .i64 2)).run Tryz.prog w = .ok (.string ⟨#[104, 117, 103, 101, 112, 97, 103, 101, 115]⟩) w := by kernel_rfl
theorem cpu_eq (s : ByteArray) : (s.toList == [99, 112, 117]) = decide (s.data.toList = cpuL) := by
  rw [ByteArray.toList_eq]; exact beq_dec _ cpuL
theorem mem_eq (s : ByteArray) : (s.toList == [109, 101, 109, 111, 114, 121]) = decide (s.data.toList = memL) := by
  rw [ByteArray.toList_eq]; exact beq_dec _ memL
theorem hug_eq (s : ByteArray) : (s.toList == [104, 117, 103, 101, 112, 97, 103, 101, 115]) = decide (s.data.toList = hugL) := by
  rw [ByteArray.toList_eq]; exact beq_dec _ hugL

set_option maxHeartbeats 2000000 in
set_option maxRecDepth 100000 in
theorem resource_is (s : ByteArray) (w : World) (hL : LaidV w) :
    Calls Tryz.prog 20 #[.string s] w fun e w' => e = .returned (resV (resL s.data.toList)) ∧ w = w' := by
  obtain ⟨R, hR⟩ : ∃ R, R = resL s.data.toList := ⟨_, rfl⟩
  rw [← hR]
  have HR : Hid (R = resL s.data.toList) := hR
  clear hR
  obtain ⟨b0, b1, b2, bz⟩ := hL.names
  clear hL
  go_enter Tryz.func20, Tryz.ntmps20
  go_wp2
  clear b0 b1 b2
  go_loopw [7] (fun p wr => ∃ j : Nat, p = .int .i64 j ∧ j ≤ 3 ∧ Hid ((0 < j → s.data.toList ≠ cpuL) ∧ (1 < j → s.data.toList ≠ memL) ∧ (2 < j → s.data.toList ≠ hugL)) ∧ w = wr) (fun p _ => 3 - (intOf p).toNat)
  case atStart => exact ⟨0, rfl, by omega, ⟨by omega, by omega, by omega⟩, rfl⟩
  case round =>
    obtain ⟨j, rfl, jl, HJ, rfl⟩ := hrel
    match j, jl with
    | 0, _ =>
      have ix : ∀ w : World, (Instr.index 56 (.agg #[.string ⟨#[99, 112, 117]⟩, .string ⟨#[109, 101, 109, 111, 114, 121]⟩, .string ⟨#[104, 117, 103, 101, 112, 97, 103, 101, 115]⟩]) (.int .i64 0)).run Tryz.prog w = .ok (.string ⟨#[99, 112, 117]⟩) w := name_ix0
      by_cases d : s.data.toList = cpuL
      · have hq : (s.toList == [99, 112, 117]) = true := by rw [cpu_eq]; exact decide_eq_true d
        have X : Hid (resL s.data.toList = some 0) := by unfold Hid; unfold resL; rw [if_pos d]
        clear d HJ
        go_wp2
        go_ret2
        exact ⟨by rw [HR.out, X.out]; rfl, rfl⟩
      · have hq : (s.toList == [99, 112, 117]) = false := by rw [cpu_eq]; exact decide_eq_false d
        have HJ' : Hid ((0 < 1 → s.data.toList ≠ cpuL) ∧ (1 < 1 → s.data.toList ≠ memL) ∧ (2 < 1 → s.data.toList ≠ hugL)) := ⟨fun _ => d, by omega, by omega⟩
        clear d HJ
        go_wp2
        go_roundw
        case rel => exact ⟨1, by go_num, by omega, HJ', trivial⟩
        case measure => simp [intOf]
    | 1, _ =>
      have ix : ∀ w : World, (Instr.index 56 (.agg #[.string ⟨#[99, 112, 117]⟩, .string ⟨#[109, 101, 109, 111, 114, 121]⟩, .string ⟨#[104, 117, 103, 101, 112, 97, 103, 101, 115]⟩]) (.int .i64 1)).run Tryz.prog w = .ok (.string ⟨#[109, 101, 109, 111, 114, 121]⟩) w := name_ix1
      by_cases d : s.data.toList = memL
      · have hq : (s.toList == [109, 101, 109, 111, 114, 121]) = true := by rw [mem_eq]; exact decide_eq_true d
        have X : Hid (resL s.data.toList = some 1) := by unfold Hid; unfold resL; rw [if_neg (HJ.out.1 (by omega))]; rw [if_pos d]
        clear d HJ
        go_wp2
        go_ret2
        exact ⟨by rw [HR.out, X.out]; rfl, rfl⟩
      · have hq : (s.toList == [109, 101, 109, 111, 114, 121]) = false := by rw [mem_eq]; exact decide_eq_false d
        have HJ' : Hid ((0 < 2 → s.data.toList ≠ cpuL) ∧ (1 < 2 → s.data.toList ≠ memL) ∧ (2 < 2 → s.data.toList ≠ hugL)) := ⟨fun _ => HJ.out.1 (by omega), fun _ => d, by omega⟩
        clear d HJ
        go_wp2
        go_roundw
        case rel => exact ⟨2, by go_num, by omega, HJ', trivial⟩
        case measure => simp [intOf]
    | 2, _ =>
      have ix : ∀ w : World, (Instr.index 56 (.agg #[.string ⟨#[99, 112, 117]⟩, .string ⟨#[109, 101, 109, 111, 114, 121]⟩, .string ⟨#[104, 117, 103, 101, 112, 97, 103, 101, 115]⟩]) (.int .i64 2)).run Tryz.prog w = .ok (.string ⟨#[104, 117, 103, 101, 112, 97, 103, 101, 115]⟩) w := name_ix2
      by_cases d : s.data.toList = hugL
      · have hq : (s.toList == [104, 117, 103, 101, 112, 97, 103, 101, 115]) = true := by rw [hug_eq]; exact decide_eq_true d
        have X : Hid (resL s.data.toList = some 2) := by unfold Hid; unfold resL; rw [if_neg (HJ.out.1 (by omega))]; rw [if_neg (HJ.out.2.1 (by omega))]; rw [if_pos d]
        clear d HJ
        go_wp2
        go_ret2
        exact ⟨by rw [HR.out, X.out]; rfl, rfl⟩
      · have hq : (s.toList == [104, 117, 103, 101, 112, 97, 103, 101, 115]) = false := by rw [hug_eq]; exact decide_eq_false d
        have HJ' : Hid ((0 < 3 → s.data.toList ≠ cpuL) ∧ (1 < 3 → s.data.toList ≠ memL) ∧ (2 < 3 → s.data.toList ≠ hugL)) := ⟨fun _ => HJ.out.1 (by omega), fun _ => HJ.out.2.1 (by omega), fun _ => d⟩
        clear d HJ
        go_wp2
        go_roundw
        case rel => exact ⟨3, by go_num, by omega, HJ', trivial⟩
        case measure => simp [intOf]
    | 3, _ =>
      have X : Hid (resL s.data.toList = none) := by unfold Hid resL; rw [if_neg (HJ.out.1 (by omega)), if_neg (HJ.out.2.1 (by omega)), if_neg (HJ.out.2.2 (by omega))]
      clear HJ
      go_wp2
      go_ret2
      exact ⟨by rw [HR.out, X.out]; rfl, rfl⟩

end Go.Proofs.YtpbgolcimbjekaaGreatDoor

namespace Go.Proofs.YtpbgolcimbjekaaGreatDoor
open Go.RowKit

/-! ### A resource's number -/
def each (r : Nat) : Nat := if r = 0 then 1000000 else 1000000000
def bnd (r : Nat) : Nat := if r = 0 then 1099511627776 else 1125899906842624
/-- How much of a resource an amount is. -/
def cntL (r v : Nat) : Int × Int := if up v (each r) ≤ 1152921504606846976 then ((up v (each r) : Nat), 0) else (0, 15)
def iiv (x : Int × Int) : Value := .tuple #[.int .i64 x.1, .int .i64 x.2]

theorem counted_eq {a v : Nat} {e : Ending} {r : Nat} (hv : each r = v) (h : Counted a v e) : e = .returned (iiv (cntL r a)) := by
  obtain ⟨n, g, rfl, f⟩ := h
  subst hv
  unfold cntL
  rcases f with ⟨f, rfl, rfl⟩ | ⟨f, rfl, rfl⟩
  · rw [if_pos f]; rfl
  · rw [if_neg (by omega)]; rfl

set_option maxHeartbeats 1000000 in
theorem vcounted_is {ah al r : Int} {a k : Nat} (i : Is ah al a) (hr : r = (k : Int)) (w : World) :
    Calls Tryz.prog 36 #[.int .i64 r, .agg #[.int .u64 ah, .int .u64 al]] w fun e w' => e = .returned (iiv (cntL k a)) ∧ Below w.heap.size w w' := by
  obtain ⟨x, y, hx⟩ : ∃ x y, cntL k a = (x, y) := ⟨_, _, Prod.eta _ |>.symm⟩
  rw [hx]
  have I : Hid (Is ah al a) := i
  by_cases c : r = 0
  · have M : Hid (∀ w, Calls Tryz.prog 56 #[.agg #[.int .u64 ah, .int .u64 al]] w fun e w' => e = .returned (iiv (x, y)) ∧ Below w.heap.size w w') := fun w => by
      refine (milli_is i w).mono ?_
      rintro e w' ⟨f, hw⟩
      exact ⟨by rw [counted_eq (r := k) (by unfold each; rw [if_pos (by omega)]) f, hx], hw⟩
    subst c
    clear hx i hr
    go_enter Tryz.func36, Tryz.ntmps36
    go_wp2_with (fail)
    refine (M.out _).mono ?_
    rintro e w1 ⟨rfl, hw1⟩
    rw [show iiv (x, y) = .tuple #[.int .i64 x, .int .i64 y] from rfl]
    have HB : Below w.heap.size w w1 := Below.trans (by go_grown) (hw1.mono (by simp))
    clear hw1
    go_wp2
    go_ret2
    exact ⟨rfl, HB⟩
  · have M : Hid (∀ w, Calls Tryz.prog 57 #[.agg #[.int .u64 ah, .int .u64 al]] w fun e w' => e = .returned (iiv (x, y)) ∧ Below w.heap.size w w') := fun w => by
      refine (units_is i w).mono ?_
      rintro e w' ⟨f, hw⟩
      exact ⟨by rw [counted_eq (r := k) (by unfold each; rw [if_neg (by omega)]) f, hx], hw⟩
    have g : (r == 0) = false := by simp [c]
    clear hx i hr
    go_enter Tryz.func36, Tryz.ntmps36
    go_wp2_with (fail)
    refine (M.out _).mono ?_
    rintro e w1 ⟨rfl, hw1⟩
    rw [show iiv (x, y) = .tuple #[.int .i64 x, .int .i64 y] from rfl]
    have HB : Below w.heap.size w w1 := Below.trans (by go_grown) (hw1.mono (by simp))
    clear hw1
    go_wp2
    go_ret2
    exact ⟨rfl, HB⟩

/-- A resource's number, as a text tells it; or nothing and the error. -/
def numP (r : Nat) (p : Nat × Int) : Int × Int :=
  if p.2 ≠ 0 then (0, p.2) else
  if (cntL r p.1).2 ≠ 0 then (0, (cntL r p.1).2) else
  if (bnd r : Int) < (cntL r p.1).1 then (0, 15) else
  if r = 2 ∧ (cntL r p.1).1 % 2097152 ≠ 0 then (0, 11) else ((cntL r p.1).1, 0)
def numL (r : Nat) (l : List UInt8) : Int × Int := numP r (parseL l)
theorem cnt_pos (r v : Nat) : 0 ≤ (cntL r v).1 := by unfold cntL; split <;> simp <;> omega

/-! ### A resource's text -/
def amtL (r : Nat) (n : Int) : List UInt8 := if r = 0 then textL (n.toNat * 1000000) else binL (n.toNat * 1000000000)

set_option maxHeartbeats 1000000 in
theorem amountText_is {r : Int} {k : Nat} (n : Int) (hr : r = (k : Int)) (n0 : 0 ≤ n) (n1 : n ≤ 1125899906842624) (w : World) (hL : LaidV w) :
    Calls Tryz.prog 25 #[.int .i64 r, .int .i64 n] w fun e w' => (∃ t : ByteArray, e = .returned (.string t) ∧ t.data.toList = amtL k n) ∧ Below w.heap.size w w' := by
  have HL : Hid (LaidV w) := hL
  clear hL
  have NN : Hid (0 ≤ n ∧ n ≤ 1125899906842624) := ⟨n0, n1⟩
  clear n0 n1
  by_cases c : r = 0
  · obtain rfl : k = 0 := by omega
    subst c
    clear hr
    go_enter Tryz.func25, Tryz.ntmps25
    go_wp2_with (fail)
    refine (ofMilli_any n _).mono ?_
    rintro e w1 ⟨⟨h, l, g, rfl, f⟩, hw1⟩
    have F : Hid (Is h l (n.toNat * 1000000)) := by
      obtain ⟨n0, n1⟩ := NN.out
      rcases f with ⟨f, _⟩ | ⟨f, _⟩ | ⟨_, _, f, rfl⟩
      · omega
      · omega
      · exact f
    have HL1 : Hid (LaidV w1) := HL.out.later hw1
    have hs := hw1.size
    clear f HL
    go_wp2_with (fail)
    refine (text_amount F.out _ (HL1.out.alloc _).1).mono ?_
    rintro e w2 ⟨⟨t, rfl, ht⟩, hw2⟩
    have T : Hid (t.data.toList = amtL 0 n) := by unfold Hid amtL; rw [ht, if_pos rfl]
    have HB : Below w.heap.size w w2 := Below.trans (show Below w.heap.size w _ by go_grown) (hw2.mono (by simp; omega))
    clear ht hw1 hw2 HL1
    go_wp2
    go_ret
    exact ⟨⟨t, rfl, T.out⟩, HB⟩
  · have g : (r == 0) = false := by simp [c]
    have K : Hid (k ≠ 0) := fun h => c (by omega)
    clear hr
    go_enter Tryz.func25, Tryz.ntmps25
    go_wp2_with (fail)
    refine (ofUnits_any n _).mono ?_
    rintro e w1 ⟨⟨h, l, g', rfl, f⟩, hw1⟩
    have F : Hid (Is h l (n.toNat * 1000000000)) := by
      obtain ⟨n0, n1⟩ := NN.out
      rcases f with ⟨f, _⟩ | ⟨f, _⟩ | ⟨_, _, f, rfl⟩
      · omega
      · omega
      · exact f
    have HL1 : Hid (LaidV w1) := HL.out.later hw1
    have hs := hw1.size
    clear f HL
    go_wp2_with (fail)
    refine (binary_amount F.out _ (HL1.out.alloc _).1).mono ?_
    rintro e w2 ⟨⟨t, rfl, ht⟩, hw2⟩
    have T : Hid (t.data.toList = amtL k n) := by unfold Hid amtL; rw [ht, if_neg K.out]
    have HB : Below w.heap.size w w2 := Below.trans (show Below w.heap.size w _ by go_grown) (hw2.mono (by simp; omega))
    clear ht hw1 hw2 HL1
    go_wp2
    go_ret
    exact ⟨⟨t, rfl, T.out⟩, HB⟩

end Go.Proofs.YtpbgolcimbjekaaGreatDoor
