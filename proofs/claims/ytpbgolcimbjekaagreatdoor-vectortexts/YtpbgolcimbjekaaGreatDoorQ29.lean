/-
  The contract of the document's own answer for an amount's text at this program. Conditions: the words are words.
-/
import Derived.Test.YtpbgolcimbjekaaGreatDoorQ27
namespace Go.Proofs.YtpbgolcimbjekaaGreatDoor
open Go.RowKit

theorem rtext_is {ah al : Int} {a : Nat} (i : Is ah al a) (w : World) :
    Calls Tryz.prog 28 #[.agg #[.int .u64 ah, .int .u64 al]] w fun e w' =>
      e = .returned (.string (ba (dec a))) ∧ Below w.heap.size w w' := by
  refine (rtext_any ah al w i.l0 i.l1 i.h0 i.h1).mono ?_
  rintro e w' ⟨n, he, n1, n2, p, q, hw⟩
  rw [i.eq] at he p q
  obtain ⟨k, rfl⟩ : ∃ k, n = k + 1 := ⟨n - 1, by omega⟩
  refine ⟨?_, hw⟩
  have P : ∀ k : Nat, (10 : Int) ^ k = ((10 ^ k : Nat) : Int) := fun k => by simp
  have pos : ∀ k : Nat, 0 < 10 ^ k := fun k => Nat.pow_pos (by omega)
  rw [he, tx_dec k a (by omega) ?_ ?_]
  · rfl
  · rw [P] at q
    have q' : a / 10 ^ (k + 1) = 0 := by exact_mod_cast q
    exact (Nat.div_eq_zero_iff.1 q').resolve_left (by have := pos (k + 1); omega)
  · intro hk
    have := p (by omega)
    rw [P, show k + 1 - 1 = k by omega] at this
    have q' : ¬ a / 10 ^ k = 0 := fun h => this (by exact_mod_cast h)
    rw [Nat.div_eq_zero_iff] at q'
    omega

/-! ### The last three digits -/
theorem dec_three {x : Nat} (h : 1000 ≤ x) (h1 : x < 340282366920938463463374607431768211456) :
    dec x = dec (x / 1000) ++ [UInt8.ofNat (48 + x / 100 % 10), UInt8.ofNat (48 + x / 10 % 10), UInt8.ofNat (48 + x % 10)] := by
  rw [dec_ge (by omega) h1, dec_ge (a := x / 10) (by omega) (by omega), dec_ge (a := x / 10 / 10) (by omega) (by omega)]
  rw [show x / 10 / 10 / 10 = x / 1000 by omega, show x / 10 / 10 % 10 = x / 100 % 10 by omega]
  simp
theorem dec_low {x : Nat} (h : x < 1000) : (dec x).length ≤ 3 := by
  rw [← decF_dec x 36 2 rfl (by omega)]
  exact decF_len 3 x
theorem dig_48 {k : Nat} (h : k < 10) : UInt8.ofNat (48 + k) = 48 ↔ k = 0 := by
  constructor
  · intro e
    have := congrArg UInt8.toNat e
    rw [UInt8.toNat_ofNat'] at this
    have e48 : (48 : UInt8).toNat = 48 := rfl
    rw [e48] at this
    omega
  · rintro rfl; rfl
/-- Three noughts are struck from a text if and only if a thousand goes in without a rest. -/
theorem last_three {s : ByteArray} {x : Nat} (hs : s.data.toList = dec x) (h : 1000 ≤ x) (h1 : x < 340282366920938463463374607431768211456) :
    3 < s.size ∧ (s.extract (s.size - 3) s.size).data.toList = [UInt8.ofNat (48 + x / 100 % 10), UInt8.ofNat (48 + x / 10 % 10), UInt8.ofNat (48 + x % 10)] ∧ (s.extract 0 (s.size - 3)).data.toList = dec (x / 1000) := by
  have hl : s.size = (dec (x / 1000)).length + 3 := by
    have : s.data.toList.length = s.size := by simp
    rw [← this, hs, dec_three h h1]; simp
  have hp : 0 < (dec (x / 1000)).length := List.length_pos_iff.2 (dec_ne _)
  refine ⟨by omega, ?_, ?_⟩
  · rw [drop_of, hs, dec_three h h1, show s.size - 3 = (dec (x / 1000)).length by omega]
    simp
  · rw [take_of, hs, dec_three h h1, show s.size - 3 = (dec (x / 1000)).length by omega]
    simp
theorem three_noughts (x : Nat) : ([UInt8.ofNat (48 + x / 100 % 10), UInt8.ofNat (48 + x / 10 % 10), UInt8.ofNat (48 + x % 10)] : List UInt8) = [48, 48, 48] ↔ x % 1000 = 0 := by
  rw [List.cons.injEq, List.cons.injEq, List.cons.injEq, dig_48 (by omega), dig_48 (by omega), dig_48 (by omega)]
  constructor
  · rintro ⟨h1, h2, h3, -⟩
    omega
  · intro h
    exact ⟨by omega, by omega, by omega, rfl⟩
theorem dec_zero_iff {x : Nat} (h1 : x < 340282366920938463463374607431768211456) : dec x = [48] ↔ x = 0 := by
  constructor
  · intro e
    have := dec_val x h1
    rw [e] at this
    simpa [dig] using this.symm
  · rintro rfl; rfl

theorem app_data {s : ByteArray} {l : List UInt8} (h : s.data.toList = l) (t : Nat) : (s ++ decB t).data.toList = l ++ decs.getD t [] := by
  simp [decB, ba, ← h]
theorem dec_lits (t : Nat) (h : t < 10) : ([.string ⟨#[110]⟩, .string ⟨#[117]⟩, .string ⟨#[109]⟩, .string ⟨#[]⟩, .string ⟨#[107]⟩, .string ⟨#[77]⟩, .string ⟨#[71]⟩, .string ⟨#[84]⟩, .string ⟨#[80]⟩, .string ⟨#[69]⟩] : List Value)[t]? = some (.string (decB t)) := decV_at t h
theorem dec_lits2 (t : Nat) (h : t < ([.string ⟨#[110]⟩, .string ⟨#[117]⟩, .string ⟨#[109]⟩, .string ⟨#[]⟩, .string ⟨#[107]⟩, .string ⟨#[77]⟩, .string ⟨#[71]⟩, .string ⟨#[84]⟩, .string ⟨#[80]⟩, .string ⟨#[69]⟩] : List Value).length) : ([.string ⟨#[110]⟩, .string ⟨#[117]⟩, .string ⟨#[109]⟩, .string ⟨#[]⟩, .string ⟨#[107]⟩, .string ⟨#[77]⟩, .string ⟨#[71]⟩, .string ⟨#[84]⟩, .string ⟨#[80]⟩, .string ⟨#[69]⟩] : List Value)[t]'h = .string (decB t) := by
  have := dec_lits t h
  rw [List.getElem?_eq_getElem h] at this
  exact Option.some.inj this

set_option maxHeartbeats 1000000 in
set_option maxRecDepth 100000 in
theorem rtextAmount_is {ah al : Int} {a : Nat} (i : Is ah al a) (am : a ≤ most) (w : World) :
    Calls Tryz.prog 16 #[.agg #[.int .u64 ah, .int .u64 al]] w fun e w' => (∃ t : ByteArray, e = .returned (.string t) ∧ t.data.toList = textL a) ∧ Below w.heap.size w w' := by
  have a1 := i.lt
  go_enter Tryz.func16, Tryz.ntmps16
  go_wp2_with (fail)
  refine (rtext_is i _).mono ?_
  rintro e w1 ⟨rfl, hw1⟩
  have HBw1 : Below w.heap.size w w1 := Below.trans (by go_grown) (hw1.mono (by first | omega | (simp; done) | (simp; omega)))
  have hsw1 := hw1.size
  (try simp at hsw1)
  clear hw1
  clear i
  by_cases z : a = 0
  · have X : Hid (textL a = [48]) := by unfold Hid textL; rw [if_pos am, if_pos z]
    have eq : ba (dec a) = ⟨#[48]⟩ := by rw [z]; rfl
    rw [eq]
    clear z eq a1 am
    go_wp2
    go_ret
    exact ⟨⟨_, rfl, X.out.symm⟩, by go_grown⟩
  · obtain ⟨R, t, hR⟩ : ∃ R t, sh 1000 9 a 0 = (R, t) := ⟨_, _, rfl⟩
    have X : Hid (textL a = dec R ++ decs.getD t []) := by unfold Hid textL; rw [if_pos am, if_neg z, hR]
    have HR : Hid (sh 1000 9 a 0 = (R, t)) := hR
    obtain ⟨S, hS⟩ : ∃ S : ByteArray, S = ba (dec a) := ⟨_, rfl⟩
    have HS : Hid (S.data.toList = dec a) := by unfold Hid; rw [hS, ba_list]
    rw [← hS]
    have ne : (S.toList == [48]) = false := by
      rw [ByteArray.toList_eq, HS.out]
      have : ¬ dec a = [48] := fun h => z ((dec_zero_iff a1).1 h)
      simpa using this
    have HA1 : Hid (a < 340282366920938463463374607431768211456 ∧ a ≠ 0) := ⟨a1, z⟩
    have ss : S.size ≤ 39 := by rw [hS, ba_size]; exact dec_len a
    clear hR hS a1 am z
    go_wp2
    go_loopw [3, 4] (fun f g wr => ∃ (S : ByteArray) (x j : Nat), f = .string S ∧ g = .int .i64 j ∧ j ≤ 9 ∧ S.size ≤ 39 ∧ Hid (S.data.toList = dec x) ∧ Hid (x < 340282366920938463463374607431768211456 ∧ x ≠ 0) ∧ Hid (sh 1000 (9 - j) x j = (R, t)) ∧ Below w.heap.size w wr) (fun _ g _ => 9 - (intOf g).toNat)
    case atStart => exact ⟨S, a, 0, rfl, rfl, by omega, ss, HS, HA1, HR, by go_grown⟩
    case round =>
      clear ss HS HA1 HR ne
      obtain ⟨S, x, j, rfl, rfl, jl, ss, HS, HX, HR, HB⟩ := hrel
      have hsB := HB.size
      have fin : Hid ((9 ≤ j ∨ ¬ x % 1000 = 0) → R = x ∧ t = j) := by
        intro h
        have e := HR.out
        rcases h with h | h
        · rw [show 9 - j = 0 by omega, sh] at e
          injection e with e1 e2; exact ⟨e1.symm, e2.symm⟩
        · by_cases c : j < 9
          · obtain ⟨k, hk⟩ : ∃ k, 9 - j = k + 1 := ⟨9 - j - 1, by omega⟩
            rw [hk, sh, if_neg h] at e
            injection e with e1 e2; exact ⟨e1.symm, e2.symm⟩
          · rw [show 9 - j = 0 by omega, sh] at e
            injection e with e1 e2; exact ⟨e1.symm, e2.symm⟩
      by_cases c : j < 9
      · by_cases d : 1000 ≤ x
        · obtain ⟨l1, l2, l3⟩ := last_three HS.out d HX.out.1
          by_cases m : x % 1000 = 0
          · have q : (S.extract (S.size - 3) S.size).toList = [48, 48, 48] := by rw [ByteArray.toList_eq, l2]; exact (three_noughts x).2 m
            have L3 : Hid ((S.extract 0 (S.size - 3)).data.toList = dec (x / 1000)) := l3
            have E : Hid (sh 1000 (9 - (j + 1)) (x / 1000) (j + 1) = (R, t)) := by
              have e := HR.out
              obtain ⟨k, hk⟩ : ∃ k, 9 - j = k + 1 := ⟨9 - j - 1, by omega⟩
              rw [hk, sh, if_pos m] at e
              unfold Hid
              rw [show 9 - (j + 1) = k by omega]; exact e
            have HX' : Hid (x / 1000 < 340282366920938463463374607431768211456 ∧ x / 1000 ≠ 0) := by
              have := HX.out
              unfold Hid; omega
            clear l2 l3 fin HR HX HS
            have s3 : (3 : Int) < (S.size : Int) := by omega
            go_wp2
            go_roundw
            case rel => exact ⟨S.extract 0 (S.size - 3), x / 1000, j + 1, rfl, by go_num, by omega, by simp; omega, L3, HX', E, HB⟩
            case measure => simp [intOf]; omega
          · have q : ((S.extract (S.size - 3) S.size).toList == [48, 48, 48]) = false := by
              rw [ByteArray.toList_eq, l2]
              have : ¬ ([UInt8.ofNat (48 + x / 100 % 10), UInt8.ofNat (48 + x / 10 % 10), UInt8.ofNat (48 + x % 10)] : List UInt8) = [48, 48, 48] := fun h => m ((three_noughts x).1 h)
              simpa using this
            clear l2 l3
            have s3 : (3 : Int) < (S.size : Int) := by omega
            obtain ⟨rfl, rfl⟩ := fin.out (Or.inr m)
            have Y : Hid (textL a = dec R ++ decs.getD t []) := X
            have ix := dec_lits t (by omega)
            have ix2 := dec_lits2 t
            have hsz : ¬ 9223372036854775807 < S.size + (decB t).size := by
              unfold decB
              rw [ba_size]
              have h2 := decs_len t (by omega)
              omega
            have t0 : (0 : Int) ≤ (t : Int) := by omega
            have t1 : (t : Int) < 10 := by omega
            clear fin HR HX m d
            go_wp2
            go_ret
            exact ⟨⟨_, rfl, by rw [Y.out]; exact app_data HS.out _⟩, by go_grown⟩
        · have s3 : ¬ (3 : Int) < (S.size : Int) := by
            have h1 := dec_low (x := x) (by omega)
            have h2 : S.data.toList.length = S.size := by simp
            rw [HS.out] at h2
            omega
          obtain ⟨rfl, rfl⟩ := fin.out (Or.inr (by have := HX.out; omega))
          have Y : Hid (textL a = dec R ++ decs.getD t []) := X
          have ix := dec_lits t (by omega)
          have ix2 := dec_lits2 t
          have hsz : ¬ 9223372036854775807 < S.size + (decB t).size := by
            unfold decB
            rw [ba_size]
            have h2 := decs_len t (by omega)
            omega
          have t0 : (0 : Int) ≤ (t : Int) := by omega
          have t1 : (t : Int) < 10 := by omega
          clear fin HR HX d
          go_wp2
          go_ret
          exact ⟨⟨_, rfl, by rw [Y.out]; exact app_data HS.out _⟩, by go_grown⟩
      · have j9 : ¬ (j : Int) < 9 := by omega
        obtain ⟨rfl, rfl⟩ := fin.out (Or.inl (by omega))
        have Y : Hid (textL a = dec R ++ decs.getD t []) := X
        have ix := dec_lits t (by omega)
        have ix2 := dec_lits2 t
        have hsz : ¬ 9223372036854775807 < S.size + (decB t).size := by
          unfold decB
          rw [ba_size]
          have h2 := decs_len t (by omega)
          omega
        have t0 : (0 : Int) ≤ (t : Int) := by omega
        have t1 : (t : Int) < 10 := by omega
        clear fin HR HX
        go_wp2
        go_ret
        exact ⟨⟨_, rfl, by rw [Y.out]; exact app_data HS.out _⟩, by go_grown⟩

end Go.Proofs.YtpbgolcimbjekaaGreatDoor
