/-
  What both sides answer alike: Parse and Text, for the walk of WideTells; and how many bits a number has. Conditions: words lie below 2^64; the text's length is a machine word.
-/
import Derived.Test.YtahmgbaonldlfaaTB
namespace Go.Proofs.Ytahmgbaonldlfaa
open Go.RowKit

/-- A call that hands back this value, wherever it runs. -/
def Gives (f : Nat) (args : Array Value) (v : Value) : Prop := ∀ w, Calls Try.prog f args w fun e w' => e = .returned v ∧ Below w.heap.size w w'

theorem parse_one (s : ByteArray) (f : Nat) (g : good s ∧ dval s.data.toList < 340282366920938463463374607431768211456)
    (h : ∀ w, Calls Try.prog f #[.string s] w fun e w' => ∃ (h l : Int) (b : Bool), e = .returned (.tuple #[.agg #[.int .u64 h, .int .u64 l], .bool b]) ∧ Wok h l ∧
        ((b = true ∧ good s ∧ h * 18446744073709551616 + l = dval s.data.toList) ∨ (b = false ∧ h = 0 ∧ l = 0 ∧ ¬ (good s ∧ dval s.data.toList < 340282366920938463463374607431768211456))) ∧ Below w.heap.size w w') :
    Gives f #[.string s] (.tuple #[.agg #[.int .u64 (wh (dval s.data.toList)), .int .u64 (wl (dval s.data.toList))], .bool true]) := fun w => by
  refine (h w).mono ?_
  rintro e w' ⟨x, y, b, rfl, m, (⟨rfl, _, f⟩ | ⟨_, _, _, f⟩), hb⟩
  · obtain ⟨rfl, rfl⟩ := words_can m f
    exact ⟨rfl, hb⟩
  · exact absurd g f
theorem parse_none (s : ByteArray) (f : Nat) (g : ¬ (good s ∧ dval s.data.toList < 340282366920938463463374607431768211456))
    (h : ∀ w, Calls Try.prog f #[.string s] w fun e w' => ∃ (h l : Int) (b : Bool), e = .returned (.tuple #[.agg #[.int .u64 h, .int .u64 l], .bool b]) ∧ Wok h l ∧
        ((b = true ∧ good s ∧ h * 18446744073709551616 + l = dval s.data.toList) ∨ (b = false ∧ h = 0 ∧ l = 0 ∧ ¬ (good s ∧ dval s.data.toList < 340282366920938463463374607431768211456))) ∧ Below w.heap.size w w') :
    Gives f #[.string s] (.tuple #[.agg #[.int .u64 0, .int .u64 0], .bool false]) := fun w => by
  refine (h w).mono ?_
  rintro e w' ⟨x, y, b, rfl, ⟨m0, m1, m2, m3⟩, (⟨rfl, g1, f⟩ | ⟨rfl, rfl, rfl, _⟩), hb⟩
  · exact absurd ⟨g1, by omega⟩ g
  · exact ⟨rfl, hb⟩
theorem both_parse (s : ByteArray) (hm : s.size ≤ maxLen) : ∃ (h l : Int) (b : Bool), Gives 13 #[.string s] (.tuple #[.agg #[.int .u64 h, .int .u64 l], .bool b]) ∧ Gives 14 #[.string s] (.tuple #[.agg #[.int .u64 h, .int .u64 l], .bool b]) := by
  by_cases g : good s ∧ dval s.data.toList < 340282366920938463463374607431768211456
  · exact ⟨_, _, _, parse_one s _ g (fun w => parse_any s w hm), parse_one s _ g (fun w => rparse_any s w hm)⟩
  · exact ⟨_, _, _, parse_none s _ g (fun w => parse_any s w hm), parse_none s _ g (fun w => rparse_any s w hm)⟩

/-- How many digits: one only. -/
def Long (A : Int) (n : Nat) : Prop := 1 ≤ n ∧ (n ≠ 1 → A / 10 ^ (n - 1) ≠ 0) ∧ A / 10 ^ n = 0
theorem gone_on (A : Int) (a b : Nat) (h : A / 10 ^ a = 0) (hab : a ≤ b) : A / 10 ^ b = 0 := by
  obtain ⟨c, rfl⟩ : ∃ c, b = a + c := ⟨b - a, by omega⟩
  rw [Int.pow_add, ← Int.ediv_ediv_of_nonneg (Int.pow_nonneg (by omega)), h, Int.zero_ediv]
theorem Long.one {A : Int} {m n : Nat} (h : Long A m) (k : Long A n) : m = n := by
  obtain ⟨h1, h2, h3⟩ := h
  obtain ⟨k1, k2, k3⟩ := k
  rcases Nat.lt_trichotomy m n with c | c | c
  · exact absurd (gone_on A m (n - 1) h3 (by omega)) (k2 (by omega))
  · exact c
  · exact absurd (gone_on A n (m - 1) k3 (by omega)) (h2 (by omega))
theorem Long.any (A : Int) (m : Nat) : ∀ _ : A / 10 ^ (m + 1) = 0, ∃ n, Long A n := by
  induction m with
  | zero => intro h; exact ⟨1, by omega, fun h => absurd rfl h, h⟩
  | succ m ih =>
    intro h
    by_cases c : A / 10 ^ (m + 1) = 0
    · exact ih c
    · exact ⟨m + 1 + 1, by omega, fun _ => c, h⟩
theorem both_text (ah al : Int) (a0 : 0 ≤ al) (a1 : al < 18446744073709551616) (a2 : 0 ≤ ah) (a3 : ah < 18446744073709551616) :
    ∃ t : ByteArray, Gives 18 #[.agg #[.int .u64 ah, .int .u64 al]] (.string t) ∧ Gives 19 #[.agg #[.int .u64 ah, .int .u64 al]] (.string t) := by
  have z : (ah * 18446744073709551616 + al) / 10 ^ (38 + 1) = 0 := Int.ediv_eq_zero_of_lt (by omega) (by
    rw [show (10 : Int) ^ (38 + 1) = 1000000000000000000000000000000000000000 by decide]
    omega)
  obtain ⟨n, hn⟩ := Long.any _ 38 z
  refine ⟨tx (ah * 18446744073709551616 + al) n, fun w => (text_any ah al w a0 a1 a2 a3).mono ?_, fun w => (rtext_any ah al w a0 a1 a2 a3).mono ?_⟩
  all_goals
    rintro e w' ⟨m, rfl, m1, _, m3, m4, hb⟩
    obtain rfl := Long.one (A := ah * 18446744073709551616 + al) ⟨m1, m3, m4⟩ hn
    exact ⟨rfl, hb⟩

theorem bits_more (A : Int) (k : Nat) (A0 : 0 ≤ A) (h : ¬ A < 2 ^ k) : k + 1 ≤ bitLen A.toNat := by
  obtain ⟨n, rfl⟩ := Int.eq_ofNat_of_zero_le A0
  rw [Int.toNat_natCast]
  have s := (bitLen_spec n).1
  refine Nat.lt_of_not_le fun c => h ?_
  have := Nat.pow_le_pow_right (n := 2) (by omega) c
  have e : (2 : Int) ^ k = ((2 ^ k : Nat) : Int) := by simp
  rw [e]
  exact Int.ofNat_lt.2 (by omega)
theorem bits_end (A : Int) (k : Nat) (A0 : 0 ≤ A) (h : A < 2 ^ k) (hk : k ≤ bitLen A.toNat) : k = bitLen A.toNat := by
  obtain ⟨n, rfl⟩ := Int.eq_ofNat_of_zero_le A0
  rw [Int.toNat_natCast] at hk ⊢
  have e : (2 : Int) ^ k = ((2 ^ k : Nat) : Int) := by simp
  rw [e] at h
  have h' : n < 2 ^ k := Int.ofNat_lt.1 h
  by_cases z : n = 0
  · subst z
    unfold bitLen at hk ⊢
    rw [if_pos rfl] at hk ⊢
    omega
  · have s := (bitLen_spec n).2 z
    by_cases c : k ≤ bitLen n - 1
    · have := Nat.pow_le_pow_right (n := 2) (by omega) c
      omega
    · omega
theorem cmp_lt {x y : Int} (h : x < y) : cmp x y = -1 := by unfold cmp; rw [if_neg (by omega), if_pos h]
theorem cmp_gt {x y : Int} (h : y < x) : cmp x y = 1 := by unfold cmp; rw [if_neg (by omega), if_neg (by omega)]
theorem cmp_eq {x y : Int} (h : ¬ x < y) (h' : ¬ y < x) : cmp x y = 0 := by unfold cmp; rw [if_pos (by omega)]
end Go.Proofs.Ytahmgbaonldlfaa
