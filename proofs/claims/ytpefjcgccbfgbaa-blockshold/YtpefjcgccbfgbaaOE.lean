/-
  The law BlocksHold at this program: of no zone more is held than its room, and what is held and what is free is all of it. Conditions: the arguments read as zones and ops.
-/
import Derived.Test.YtpefjcgccbfgbaaOC
namespace Go.Proofs.Ytpefjcgccbfgbaa.Bk
open Go.RowKit

/-- Sixteen numbers: two spreads. -/
def L16 (f : Nat → Int) : List Value := [.int .i64 (f 0), .int .i64 (f 1), .int .i64 (f 2), .int .i64 (f 3), .int .i64 (f 4), .int .i64 (f 5), .int .i64 (f 6), .int .i64 (f 7), .int .i64 (f 8), .int .i64 (f 9), .int .i64 (f 10), .int .i64 (f 11), .int .i64 (f 12), .int .i64 (f 13), .int .i64 (f 14), .int .i64 (f 15)]
theorem L16_at (f : Nat → Int) {n : Nat} (h : n < 16) : (L16 f)[n]? = some (.int .i64 (f n)) := by
  rcases (show n = 0 ∨ n = 1 ∨ n = 2 ∨ n = 3 ∨ n = 4 ∨ n = 5 ∨ n = 6 ∨ n = 7 ∨ n = 8 ∨ n = 9 ∨ n = 10 ∨ n = 11 ∨ n = 12 ∨ n = 13 ∨ n = 14 ∨ n = 15 by omega) with rfl | rfl | rfl | rfl | rfl | rfl | rfl | rfl | rfl | rfl | rfl | rfl | rfl | rfl | rfl | rfl <;> rfl
theorem L16_ext {f g : Nat → Int} (h : ∀ n, n < 16 → f n = g n) : L16 f = L16 g := by
  unfold L16
  rw [h 0 (by omega), h 1 (by omega), h 2 (by omega), h 3 (by omega), h 4 (by omega), h 5 (by omega), h 6 (by omega), h 7 (by omega), h 8 (by omega), h 9 (by omega), h 10 (by omega), h 11 (by omega), h 12 (by omega), h 13 (by omega), h 14 (by omega), h 15 (by omega)]
theorem L16_set (f : Nat → Int) {n : Nat} (h : n < 16) (x : Int) : (L16 f).set n (.int .i64 x) = L16 fun i => if i = n then x else f i := by
  rcases (show n = 0 ∨ n = 1 ∨ n = 2 ∨ n = 3 ∨ n = 4 ∨ n = 5 ∨ n = 6 ∨ n = 7 ∨ n = 8 ∨ n = 9 ∨ n = 10 ∨ n = 11 ∨ n = 12 ∨ n = 13 ∨ n = 14 ∨ n = 15 by omega) with rfl | rfl | rfl | rfl | rfl | rfl | rfl | rfl | rfl | rfl | rfl | rfl | rfl | rfl | rfl | rfl <;> rfl
/-- What the first rows hold together, of each node and kind. -/
def sumF16 (ls : List Rw) (n : Nat) : Int := sumK (n % 8) ((n / 8 : Nat) : Int) ls
/-- The same, where the next row is counted for the first nodes. -/
def mid16 (ls : List Rw) (r : Rw) (i n : Nat) : Int := if n / 8 = r.k.toNat ∧ n % 8 < i then sumF16 (ls ++ [r]) n else sumF16 ls n
theorem mid16_zero (ls : List Rw) (r : Rw) : L16 (mid16 ls r 0) = L16 (sumF16 ls) := L16_ext fun n _ => by unfold mid16; rw [if_neg (by omega)]
theorem mid16_end (ls : List Rw) (r : Rw) (h0 : 0 ≤ r.k) : L16 (mid16 ls r 8) = L16 (sumF16 (ls ++ [r])) := L16_ext fun n hn => by
  unfold mid16
  split
  · rfl
  · unfold sumF16
    rw [sumK_app, sumK, sumK, if_neg (by omega)]
    omega
theorem mid16_at (ls : List Rw) (r : Rw) {i : Nat} (hi : i < 8) : mid16 ls r i (r.k.toNat * 8 + i) = sumK i r.k.toNat ls := by
  unfold mid16 sumF16
  rw [if_neg (by omega), show (r.k.toNat * 8 + i) % 8 = i by omega, show (r.k.toNat * 8 + i) / 8 = r.k.toNat by omega]
theorem mid16_step (ls : List Rw) (r : Rw) {i : Nat} (hi : i < 8) (h0 : 0 ≤ r.k) (h1 : r.k ≤ 1) : (L16 (mid16 ls r i)).set (r.k.toNat * 8 + i) (.int .i64 (sumK i r.k.toNat ls + r.s i)) = L16 (mid16 ls r (i + 1)) := by
  rw [L16_set _ (by omega)]
  refine L16_ext fun n hn => ?_
  by_cases e : n = r.k.toNat * 8 + i
  · rw [if_pos e]
    unfold mid16
    rw [if_pos (by omega)]
    unfold sumF16
    rw [e, show (r.k.toNat * 8 + i) % 8 = i by omega, show (r.k.toNat * 8 + i) / 8 = r.k.toNat by omega, sumK_app, sumK, sumK, if_pos (by omega)]
    omega
  · rw [if_neg e]
    unfold mid16
    by_cases c : n / 8 = r.k.toNat ∧ n % 8 < i
    · rw [if_pos c, if_pos (by omega)]
    · rw [if_neg c, if_neg (by omega)]
theorem sumK_bd {zs : List Zn} {ls : List Rw} (hs : Sound zs ls) (hf : ∀ z ∈ zs, Fit z) {j : Nat} {r : Rw} (h : ls[j]? = some r) {i : Nat} (hi : i < 8) (k : Int) : (0 ≤ sumK i k (ls.take j) ∧ sumK i k (ls.take j) ≤ 1073741824) ∧ 0 ≤ r.s i ∧ r.s i ≤ 1073741824 := by
  have e : sumK i k ls = sumK i k (ls.take j) + sumK i k (ls.drop j) := by rw [← sumK_app, List.take_append_drop]
  have n1 := sumK_nn (i := i) (k := k) (l := ls.take j) fun q hq => hs.nn q (List.mem_of_mem_take hq) i hi
  have n2 := sumK_nn (i := i) (k := k) (l := ls.drop j) fun q hq => hs.nn q (List.mem_of_mem_drop hq) i hi
  have b1 := hs.le i k hi
  have b2 := roomV_bd hf (i : Int) k
  have hm : r ∈ ls := List.mem_of_getElem? h
  exact ⟨by omega, hs.one hf hm hi⟩
theorem take_snoc {ls : List Rw} {j : Nat} {r : Rw} (h : ls[j]? = some r) : ls.take (j + 1) = ls.take j ++ [r] := by
  rw [List.take_add_one, h]
  rfl

set_option maxHeartbeats 4000000 in
set_option maxRecDepth 100000 in
theorem hold_is {zv ov : Value} {zs : List Zn} {qs : List Oq} (w : World) (hz : RdZ w zv zs) (ho : RdO w ov qs) :
    Calls Try.prog 4 #[zv, ov] w fun e w' => e = .returned (.bool true) ∧ Below w.heap.size w w' := by
  obtain ⟨A, hA⟩ : ∃ A, A = greatB qs := ⟨_, rfl⟩
  have HA : Hid (A = greatB qs) := hA
  have GA : Hid (∀ w1, Below w.heap.size w w1 → Calls Try.prog 7 #[ov] w1 fun e w' => e = .returned (.bool A) ∧ Below w1.heap.size w1 w') := fun w1 hb => by rw [hA]; exact great_is w1 (ho.later hb)
  have NW : Hid (∀ w1, Below w.heap.size w w1 → Calls Try.prog 8 #[zv] w1 fun e w' => NewPost w1 (fits zs) zs e w') := fun w1 hb => new_is w1 (hz.later hb)
  clear hA
  obtain ⟨az, cz, rfl, -, zm, -⟩ := hz
  obtain ⟨ao, co, rfl, oc, om, ho3⟩ := ho
  have HO3 : Hid (∀ (j : Nat) (x : Oq), qs[j]? = some x → GdK x.p x.c x.k ∧ ∃ b off : Nat, ao = some ⟨b, off, none⟩ ∧ ElO w b (off + j * 13) x) := ho3
  have zl : qs.length ≤ maxLen := by omega
  unfold maxLen at zl
  clear ho3
  go_enter Try.func4, Try.ntmps4
  go_wp2_with (fail)
  refine (first_is _).mono ?_
  rintro e w1 ⟨rfl, HB1⟩
  go_wp2_with (fail)
  refine (GA.out w1 HB1).mono ?_
  rintro e w3 ⟨rfl, hb⟩
  have HB3 := HB1.trans (hb.mono HB1.size)
  clear HB1 hb
  cases A with
  | true =>
    clear HA GA NW HO3
    go_wp2
    go_ret
    exact ⟨rfl, HB3⟩
  | false =>
    obtain ⟨hn, hl⟩ := great_no HA.out.symm
    have HN : Hid (qs.length ≤ 60) := hn
    clear HA GA hn hl
    by_cases n20 : (20 : Int) < (zs.length : Int)
    · clear NW HO3
      go_wp2
      go_ret
      exact ⟨rfl, HB3⟩
    go_wp2_with (fail)
    refine (NW.out w3 HB3).mono ?_
    rintro e w4 ⟨hb, (⟨-, b, m, rfl, T4, lb, lm⟩ | ⟨hf, rfl⟩)⟩
    case inr =>
      have HB4 := HB3.trans (hb.mono HB3.size)
      clear NW HO3 HB3 hb
      go_wp2
      go_ret
      exact ⟨rfl, HB4⟩
    have A4 : Aft w4 b m 0 zs [] := ⟨T4, Ord.nil (fits_all T4.fit), Nat.le_refl _⟩
    have FZ : Hid (∀ z ∈ zs, Fit z) := fits_all T4.fit
    have Z8 : Hid (zs.length < 9) := (fits_len T4.fit).2
    have HB4 := HB3.trans (hb.mono HB3.size)
    have LM : Hid (w.heap.size ≤ m) := Nat.le_trans HB3.size lm
    clear NW HB3 hb lb lm T4
    go_wp2
    go_loopw [36] (fun f wr => ∃ (j : Nat) (ls : List Rw), f = .int .i64 j ∧ j ≤ qs.length ∧ Aft wr b m j zs ls ∧ Below w.heap.size w wr) (fun f _ => qs.length - (intOf f).toNat)
    case atStart => exact ⟨0, [], rfl, Nat.zero_le _, A4, HB4⟩
    case round =>
      clear A4 HB4
      obtain ⟨j, ls, rfl, jl, AF, HB⟩ := hrel
      have hs := HB.size
      by_cases cj : j < qs.length
      · obtain ⟨x, hx⟩ : ∃ x, qs[j]? = some x := ⟨qs[j], List.getElem?_eq_getElem cj⟩
        obtain ⟨gx, bo, off, rfl, TT⟩ := HO3.out j x hx
        obtain ⟨t0, t1, t2, t3, t4, t5, t6, t7, t8, t9, t10, t11, t12⟩ := TT.later HB
        have j0 : (0 : Int) ≤ (j : Int) := by omega
        have j1 : (j : Int) < (qs.length : Int) := by omega
        have GX : Hid (GdK x.p x.c x.k) := gx
        clear TT hx HO3 gx
        go_upto_region 11 with (fail)
        have q9 : Cs (wr.alloc (.cells #[.int .i64 x.kd, .int .i64 x.pl, .string x.p, .string x.c, .int .i64 x.k, .int .i64 (x.s 0), .int .i64 (x.s 1), .int .i64 (x.s 2), .int .i64 (x.s 3), .int .i64 (x.s 4), .int .i64 (x.s 5), .int .i64 (x.s 6), .int .i64 (x.s 7)] 57)) wr.heap.size (opL x) := Cs.new _ _ _ _ rfl
        have HB9 : Below w.heap.size w (wr.alloc (.cells #[.int .i64 x.kd, .int .i64 x.pl, .string x.p, .string x.c, .int .i64 x.k, .int .i64 (x.s 0), .int .i64 (x.s 1), .int .i64 (x.s 2), .int .i64 (x.s 3), .int .i64 (x.s 4), .int .i64 (x.s 5), .int .i64 (x.s 6), .int .i64 (x.s 7)] 57)) := HB.alloc HB.size _
        have T9 := AF.tb.alloc (.cells #[.int .i64 x.kd, .int .i64 x.pl, .string x.p, .string x.c, .int .i64 x.k, .int .i64 (x.s 0), .int .i64 (x.s 1), .int .i64 (x.s 2), .int .i64 (x.s 3), .int .i64 (x.s 4), .int .i64 (x.s 5), .int .i64 (x.s 6), .int .i64 (x.s 7)] 57)
        have A9 : Aft (wr.alloc (.cells #[.int .i64 x.kd, .int .i64 x.pl, .string x.p, .string x.c, .int .i64 x.k, .int .i64 (x.s 0), .int .i64 (x.s 1), .int .i64 (x.s 2), .int .i64 (x.s 3), .int .i64 (x.s 4), .int .i64 (x.s 5), .int .i64 (x.s 6), .int .i64 (x.s 7)] 57)) b m j zs ls := ⟨T9, AF.ord, AF.len⟩
        obtain ⟨b9, hb9⟩ : ∃ b9, b9 = wr.heap.size := ⟨_, rfl⟩
        rw [← hb9] at q9 ⊢
        clear hb9 T9
        generalize wr.alloc (.cells #[.int .i64 x.kd, .int .i64 x.pl, .string x.p, .string x.c, .int .i64 x.k, .int .i64 (x.s 0), .int .i64 (x.s 1), .int .i64 (x.s 2), .int .i64 (x.s 3), .int .i64 (x.s 4), .int .i64 (x.s 5), .int .i64 (x.s 6), .int .i64 (x.s 7)] 57) = W9 at *
        clear t0 t1 t2 t3 t4 t5 t6 t7 t8 t9 t10 t11 t12 HB hs AF
        have d0 := q9.1 0 _ rfl
        have d1 := q9.1 1 _ rfl
        have d2 := q9.1 2 _ rfl
        have d3 := q9.1 3 _ rfl
        have d4 := q9.1 4 _ rfl
        have d5 := q9.1 5 _ rfl
        have d6 := q9.1 6 _ rfl
        have d7 := q9.1 7 _ rfl
        have d8 := q9.1 8 _ rfl
        have d9 := q9.1 9 _ rfl
        have d10 := q9.1 10 _ rfl
        have d11 := q9.1 11 _ rfl
        have d12 := q9.1 12 _ rfl
        have dz := q9.2.2
        have hlen := A9.len
        have nq := HN.out
        by_cases g : (IntKind.u64.wrap x.kd).tmod 7 = 5
        · go_wp2_with (fail)
          refine (release_is x.p W9 A9.tb (by omega)).mono ?_
          rintro e w6 ⟨rfl, T6, hg⟩
          have A6 := A9.rel T6
          have HB6 := HB9.grown hg HB9.size (fun k e => by cases e; exact LM.out)
          clear hg T6 A9 HB9 q9 d0 d1 d2 d3 d4 d5 d6 d7 d8 d9 d10 d11 d12 dz
          go_wp2
          go_roundw
          case rel => exact ⟨j + 1, _, by go_num, by omega, A6, HB6⟩
          case measure => simp [intOf]; omega
        · go_wp2_with (fail)
          refine (put_is x.p x.c x.k x.s W9 A9.tb A9.ord.sound GX.out (by unfold maxLen; omega)).mono ?_
          rintro e w6 ⟨rfl, T6, hg⟩
          have A6 := A9.put T6
          have HB6 := HB9.grown hg HB9.size (fun k e => by cases e; exact LM.out)
          clear hg T6 A9 HB9 q9 d0 d1 d2 d3 d4 d5 d6 d7 d8 d9 d10 d11 d12 dz
          go_wp2
          go_roundw
          case rel => exact ⟨j + 1, _, by go_num, by omega, A6, HB6⟩
          case measure => simp [intOf]; omega

      · obtain rfl : j = qs.length := by omega
        obtain ⟨W0, hW0⟩ : ∃ W0, W0 = wr := ⟨_, rfl⟩
        subst hW0
        have T := AF.tb
        have SD : Hid (Sound zs ls) := AF.ord.sound
        have OKK : Hid (∀ r ∈ ls, 0 ≤ r.k ∧ r.k ≤ 1) := fun r hr => by
          have := AF.ord.right r hr
          unfold okO at this
          rw [Bool.and_eq_true, Bool.and_eq_true] at this
          exact of_decide_eq_true this.2.2
        have nl : ls.length ≤ 60 := by have := AF.len; have := HN.out; omega
        have GS : Hid (∀ r ∈ ls, r.p.size ≤ maxLen ∧ r.c.size ≤ maxLen) := fun r hr => (T.map.good r hr).1
        have RW : Hid (∀ w1, Below W0.heap.size W0 w1 → Calls Try.prog 15 #[tbV b, .int .i64 500] w1 fun e W' => ∃ v, e = .returned v ∧ OwnW W' w1.heap.size v ls ∧ Below w1.heap.size w1 W') := fun w1 hb => by
          have := callsIn_wide.1 (lawrows_in 3 (by omega) (tbV b) ls 500 (by omega) (by omega) w1 fun w2 hb2 => all_is w2 (Tb.later (hb.trans (hb2.mono hb.size)) T) AF.ord.sorted (by omega))
          rwa [List.take_of_length_le (show ls.length ≤ 500 by omega)] at this
        clear AF HO3
        go_upto_region 16 with (fail)
        have qz : Cs (W0.alloc (.cells #[.int .i64 0, .int .i64 0, .int .i64 0, .int .i64 0, .int .i64 0, .int .i64 0, .int .i64 0, .int .i64 0, .int .i64 0, .int .i64 0, .int .i64 0, .int .i64 0, .int .i64 0, .int .i64 0, .int .i64 0, .int .i64 0] 64)) W0.heap.size (L16 (sumF16 [])) := Cs.new _ _ _ _ rfl
        have BT : Below W0.heap.size W0 (W0.alloc (.cells #[.int .i64 0, .int .i64 0, .int .i64 0, .int .i64 0, .int .i64 0, .int .i64 0, .int .i64 0, .int .i64 0, .int .i64 0, .int .i64 0, .int .i64 0, .int .i64 0, .int .i64 0, .int .i64 0, .int .i64 0, .int .i64 0] 64)) := (Below.refl _ _).alloc (Nat.le_refl _) _
        obtain ⟨pS, hpS⟩ : ∃ pS, pS = W0.heap.size := ⟨_, rfl⟩
        have PS : Hid (W0.heap.size ≤ pS) := Nat.le_of_eq hpS.symm
        rw [← hpS] at qz ⊢
        clear hpS
        generalize W0.alloc (.cells #[.int .i64 0, .int .i64 0, .int .i64 0, .int .i64 0, .int .i64 0, .int .i64 0, .int .i64 0, .int .i64 0, .int .i64 0, .int .i64 0, .int .i64 0, .int .i64 0, .int .i64 0, .int .i64 0, .int .i64 0, .int .i64 0] 64) = W1 at *
        have PO : Hid (pS < W1.heap.size) := qz.2.2
        go_wp2_with (fail)
        refine (RW.out W1 BT).mono ?_
        rintro e W2 ⟨v, rfl, own, hb⟩
        have qz2 := Cs.later hb qz
        have BT2 := BT.trans (hb.mono BT.size)
        obtain ⟨va, vc, rfl⟩ := own.form
        clear RW qz BT hb
        go_wp2
        go_loopw [60] (fun f wr => ∃ j : Nat, f = .int .i64 j ∧ j ≤ ls.length ∧ OwnW wr W1.heap.size (.slice va ls.length vc) ls ∧ Cs wr pS (L16 (sumF16 (ls.take j))) ∧ Below W0.heap.size W0 wr) (fun f _ => ls.length - (intOf f).toNat)
        case atStart => exact ⟨0, rfl, Nat.zero_le _, own, qz2, BT2⟩
        case round =>
          clear own qz2 BT2
          obtain ⟨j, rfl, jl, own, qz, BT⟩ := hrel
          by_cases cj : j < ls.length
          · obtain ⟨r, hr⟩ : ∃ r, ls[j]? = some r := ⟨ls[j], List.getElem?_eq_getElem cj⟩
            obtain ⟨va', vc', ev, -, -, h3⟩ := own.read GS.out
            obtain ⟨-, bo, off, e9, TT⟩ := h3 j r hr
            cases ev
            subst e9
            obtain ⟨t0, t1, t2, t3, t4, t5, t6, t7, t8, t9, t10⟩ := TT
            have j0 : (0 : Int) ≤ (j : Int) := by omega
            have j1 : (j : Int) < (ls.length : Int) := by omega
            have k01 := OKK.out r (List.mem_of_getElem? hr)
            have BD : Hid (∀ i, i < 8 → (0 ≤ sumK i r.k (ls.take j) ∧ sumK i r.k (ls.take j) ≤ 1073741824) ∧ 0 ≤ r.s i ∧ r.s i ≤ 1073741824) := fun i hi => sumK_bd SD.out FZ.out hr hi r.k
            have TK : Hid (ls.take (j + 1) = ls.take j ++ [r]) := take_snoc hr
            clear hr h3
            go_upto_region 19 with (fail)
            have q9 : Cs (wr.alloc (.cells #[.string r.p, .string r.c, .int .i64 r.k, .int .i64 (r.s 0), .int .i64 (r.s 1), .int .i64 (r.s 2), .int .i64 (r.s 3), .int .i64 (r.s 4), .int .i64 (r.s 5), .int .i64 (r.s 6), .int .i64 (r.s 7)] 66)) wr.heap.size (rowL r) := Cs.new _ _ _ _ rfl
            have BT9 : Below W0.heap.size W0 (wr.alloc (.cells #[.string r.p, .string r.c, .int .i64 r.k, .int .i64 (r.s 0), .int .i64 (r.s 1), .int .i64 (r.s 2), .int .i64 (r.s 3), .int .i64 (r.s 4), .int .i64 (r.s 5), .int .i64 (r.s 6), .int .i64 (r.s 7)] 66)) := BT.alloc BT.size _
            have own9 := own.alloc (.cells #[.string r.p, .string r.c, .int .i64 r.k, .int .i64 (r.s 0), .int .i64 (r.s 1), .int .i64 (r.s 2), .int .i64 (r.s 3), .int .i64 (r.s 4), .int .i64 (r.s 5), .int .i64 (r.s 6), .int .i64 (r.s 7)] 66)
            have qz9 := qz.alloc (.cells #[.string r.p, .string r.c, .int .i64 r.k, .int .i64 (r.s 0), .int .i64 (r.s 1), .int .i64 (r.s 2), .int .i64 (r.s 3), .int .i64 (r.s 4), .int .i64 (r.s 5), .int .i64 (r.s 6), .int .i64 (r.s 7)] 66)
            obtain ⟨b9, hb9⟩ : ∃ b9, b9 = wr.heap.size := ⟨_, rfl⟩
            have NE : Hid (b9 ≠ pS) := fun e => by have := qz.2.2; omega
            rw [← hb9] at q9 ⊢
            clear hb9
            generalize wr.alloc (.cells #[.string r.p, .string r.c, .int .i64 r.k, .int .i64 (r.s 0), .int .i64 (r.s 1), .int .i64 (r.s 2), .int .i64 (r.s 3), .int .i64 (r.s 4), .int .i64 (r.s 5), .int .i64 (r.s 6), .int .i64 (r.s 7)] 66) = W9 at *
            clear t0 t1 t2 t3 t4 t5 t6 t7 t8 t9 t10 own qz BT
            obtain ⟨rp, rc, rk, rs⟩ := r
            have d2 := q9.1 2 _ rfl
            have d3 := q9.1 3 _ rfl
            have d4 := q9.1 4 _ rfl
            have d5 := q9.1 5 _ rfl
            have d6 := q9.1 6 _ rfl
            have d7 := q9.1 7 _ rfl
            have d8 := q9.1 8 _ rfl
            have d9 := q9.1 9 _ rfl
            have d10 := q9.1 10 _ rfl
            have dz := q9.2.2
            have kk : rk = 0 ∨ rk = 1 := by have : 0 ≤ rk ∧ rk ≤ 1 := k01; omega
            clear k01
            rcases kk with rfl | rfl
            · go_wp2
              have qm : Cs W9 pS (L16 (mid16 (ls.take j) ⟨rp, rc, 0, rs⟩ 0)) := by rw [mid16_zero]; exact qz9
              clear qz9 d2 d3 d4 d5 d6 d7 d8 d9 d10 dz
              go_loopw [76] (fun f wr => ∃ i : Nat, f = .int .i64 i ∧ i ≤ 8 ∧ Cs wr pS (L16 (mid16 (ls.take j) ⟨rp, rc, 0, rs⟩ i)) ∧ OwnW wr W1.heap.size (.slice (some ⟨bo, off, none⟩) ls.length vc) ls ∧ Cs wr b9 (rowL ⟨rp, rc, 0, rs⟩) ∧ Below W0.heap.size W0 wr) (fun f _ => 8 - (intOf f).toNat)
              case atStart => exact ⟨0, rfl, Nat.zero_le _, qm, own9, q9, BT9⟩
              case round =>
                clear qm own9 q9 BT9
                obtain ⟨i, rfl, il, qm, own, q9, BT⟩ := hrel
                by_cases ci : i < 8
                · have IX := fun w => ix8 rs ci w
                  have i0 : (0 : Int) ≤ (i : Int) := by omega
                  have i1 : (i : Int) < 8 := by omega
                  have bd := BD.out i ci
                  have SC := L16_at (mid16 (ls.take j) ⟨rp, rc, 0, rs⟩ i) (show (0 : Nat) * 8 + i < 16 by omega)
                  have MA : mid16 (ls.take j) ⟨rp, rc, 0, rs⟩ i (0 * 8 + i) = sumK i 0 (ls.take j) := mid16_at (ls.take j) ⟨rp, rc, 0, rs⟩ ci
                  rw [MA] at SC
                  have ST := mid16_step (ls.take j) ⟨rp, rc, 0, rs⟩ ci (by show (0 : Int) ≤ 0; decide) (by show (0 : Int) ≤ 1; decide)
                  go_upto_region 24 with (fail)
                  have d2 := q9.1 2 _ rfl
                  have cz : wr.cell? ⟨pS, i, none⟩ = some (.int .i64 (sumK i 0 (ls.take j))) := by simpa using qm.1 _ _ SC
                  have fz : wr.frozen? ⟨pS, i, none⟩ = false := by simpa using qm.2.1 (0 * 8 + i) (by show 0 * 8 + i < 16; omega)
                  have dz := q9.2.2
                  have pz := qm.2.2
                  have ST' : (L16 (mid16 (ls.take j) ⟨rp, rc, 0, rs⟩ i)).set (0 * 8 + i) (.int .i64 (sumK i 0 (ls.take j) + rs i)) = L16 (mid16 (ls.take j) ⟨rp, rc, 0, rs⟩ (i + 1)) := ST
                  have qn := qm.set (0 * 8 + i) (.int .i64 (sumK i 0 (ls.take j) + rs i)) (by show 0 * 8 + i < 16; omega)
                  rw [ST', show 0 * 8 + i = i by omega] at qn
                  have q9n := q9.beside (i) (.int .i64 (sumK i 0 (ls.take j) + rs i)) NE.out
                  have ownn := own.put PO.out (own_set wr pS (i) (.int .i64 (sumK i 0 (ls.take j) + rs i)))
                  have BTn := BT.setCell (p := ⟨pS, i, none⟩) PS.out (.int .i64 (sumK i 0 (ls.take j) + rs i))
                  clear ST ST' MA SC
                  go_region
                  all_goals
                    clear qm own q9 BT d2 cz fz dz pz
                    generalize wr.setCell ⟨pS, i, none⟩ (.int .i64 (sumK i 0 (ls.take j) + rs i)) = wS at *
                    go_wp2
                    go_roundw
                    case rel => exact ⟨i + 1, by go_num, by omega, qn.drew, ownn, q9n.drew, Below.drew BTn⟩
                    case measure => simp [intOf]; omega
                · obtain rfl : i = 8 := by omega
                  rw [show ((8 : Nat) : Int) = 8 from rfl]
                  have qn : Cs wr pS (L16 (sumF16 (ls.take (j + 1)))) := by rw [TK.out, ← mid16_end (ls.take j) ⟨rp, rc, 0, rs⟩ (by show (0 : Int) ≤ 0; decide)]; exact qm
                  clear qm q9
                  go_wp2
                  go_roundw
                  case rel => exact ⟨j + 1, by go_num, by omega, own, qn, BT⟩
                  case measure => simp [intOf]; omega
            · go_wp2
              have qm : Cs W9 pS (L16 (mid16 (ls.take j) ⟨rp, rc, 1, rs⟩ 0)) := by rw [mid16_zero]; exact qz9
              clear qz9 d2 d3 d4 d5 d6 d7 d8 d9 d10 dz
              go_loopw [76] (fun f wr => ∃ i : Nat, f = .int .i64 i ∧ i ≤ 8 ∧ Cs wr pS (L16 (mid16 (ls.take j) ⟨rp, rc, 1, rs⟩ i)) ∧ OwnW wr W1.heap.size (.slice (some ⟨bo, off, none⟩) ls.length vc) ls ∧ Cs wr b9 (rowL ⟨rp, rc, 1, rs⟩) ∧ Below W0.heap.size W0 wr) (fun f _ => 8 - (intOf f).toNat)
              case atStart => exact ⟨0, rfl, Nat.zero_le _, qm, own9, q9, BT9⟩
              case round =>
                clear qm own9 q9 BT9
                obtain ⟨i, rfl, il, qm, own, q9, BT⟩ := hrel
                by_cases ci : i < 8
                · have IX := fun w => ix8 rs ci w
                  have i0 : (0 : Int) ≤ (i : Int) := by omega
                  have i1 : (i : Int) < 8 := by omega
                  have bd := BD.out i ci
                  have SC := L16_at (mid16 (ls.take j) ⟨rp, rc, 1, rs⟩ i) (show (1 : Nat) * 8 + i < 16 by omega)
                  have MA : mid16 (ls.take j) ⟨rp, rc, 1, rs⟩ i (1 * 8 + i) = sumK i 1 (ls.take j) := mid16_at (ls.take j) ⟨rp, rc, 1, rs⟩ ci
                  rw [MA] at SC
                  have ST := mid16_step (ls.take j) ⟨rp, rc, 1, rs⟩ ci (by show (0 : Int) ≤ 1; decide) (by show (1 : Int) ≤ 1; decide)
                  go_upto_region 24 with (fail)
                  have d2 := q9.1 2 _ rfl
                  have cz : wr.cell? ⟨pS, 8 + i, none⟩ = some (.int .i64 (sumK i 1 (ls.take j))) := by simpa using qm.1 _ _ SC
                  have fz : wr.frozen? ⟨pS, 8 + i, none⟩ = false := by simpa using qm.2.1 (1 * 8 + i) (by show 1 * 8 + i < 16; omega)
                  have dz := q9.2.2
                  have pz := qm.2.2
                  have ST' : (L16 (mid16 (ls.take j) ⟨rp, rc, 1, rs⟩ i)).set (1 * 8 + i) (.int .i64 (sumK i 1 (ls.take j) + rs i)) = L16 (mid16 (ls.take j) ⟨rp, rc, 1, rs⟩ (i + 1)) := ST
                  have qn := qm.set (1 * 8 + i) (.int .i64 (sumK i 1 (ls.take j) + rs i)) (by show 1 * 8 + i < 16; omega)
                  rw [ST', show 1 * 8 + i = 8 + i by omega] at qn
                  have q9n := q9.beside (8 + i) (.int .i64 (sumK i 1 (ls.take j) + rs i)) NE.out
                  have ownn := own.put PO.out (own_set wr pS (8 + i) (.int .i64 (sumK i 1 (ls.take j) + rs i)))
                  have BTn := BT.setCell (p := ⟨pS, 8 + i, none⟩) PS.out (.int .i64 (sumK i 1 (ls.take j) + rs i))
                  clear ST ST' MA SC
                  go_region
                  all_goals
                    clear qm own q9 BT d2 cz fz dz pz
                    generalize wr.setCell ⟨pS, 8 + i, none⟩ (.int .i64 (sumK i 1 (ls.take j) + rs i)) = wS at *
                    go_wp2
                    go_roundw
                    case rel => exact ⟨i + 1, by go_num, by omega, qn.drew, ownn, q9n.drew, Below.drew BTn⟩
                    case measure => simp [intOf]; omega
                · obtain rfl : i = 8 := by omega
                  rw [show ((8 : Nat) : Int) = 8 from rfl]
                  have qn : Cs wr pS (L16 (sumF16 (ls.take (j + 1)))) := by rw [TK.out, ← mid16_end (ls.take j) ⟨rp, rc, 1, rs⟩ (by show (0 : Int) ≤ 1; decide)]; exact qm
                  clear qm q9
                  go_wp2
                  go_roundw
                  case rel => exact ⟨j + 1, by go_num, by omega, own, qn, BT⟩
                  case measure => simp [intOf]; omega
          · obtain rfl : j = ls.length := by omega
            rw [List.take_length] at qz
            clear own
            obtain ⟨W5, hW5⟩ : ∃ W5, W5 = wr := ⟨_, rfl⟩
            subst hW5
            have RM : Hid (∀ w1 (i k : Nat), Below W5.heap.size W5 w1 → Calls Try.prog 12 #[tbV b, .int .i64 i, .int .i64 k] w1 fun e w' => e = .returned (.int .i64 (roomV zs i k)) ∧ Below w1.heap.size w1 w') := fun w1 i k hb => troom_is i k w1 (Tb.later (BT.trans (hb.mono BT.size)) T)
            have FM : Hid (∀ w1 (i k : Nat), Below W5.heap.size W5 w1 → Calls Try.prog 13 #[tbV b, .int .i64 i, .int .i64 k] w1 fun e w' => e = .returned (.int .i64 (freT zs ls i k)) ∧ Below w1.heap.size w1 w') := fun w1 i k hb => free_is i k w1 (Tb.later (BT.trans (hb.mono BT.size)) T) SD.out
            have ARI : Hid (∀ i k : Nat, i < zs.length → k < 2 → 0 ≤ sumK i k ls ∧ sumK i k ls ≤ roomV zs i k ∧ sumK i k ls + freT zs ls i k = roomV zs i k ∧ roomV zs i k ≤ 1073741824) := fun i k hi hk => by
              have z8 := Z8.out
              have h1 := sumK_nn (i := i) (k := k) (l := ls) fun r hr => SD.out.nn r hr i (by omega)
              have h2 := SD.out.le i k (by omega)
              have h3 := roomV_bd FZ.out (i : Int) k
              refine ⟨h1, h2, ?_, h3.2⟩
              unfold freT isZ
              rw [decide_eq_true (by omega), if_pos rfl, show (i : Int).toNat = i by omega]
              unfold freV
              omega
            have HBT : Hid (Below w.heap.size w W5) := HB.trans (BT.mono HB.size)
            have z9 := Z8.out
            clear T SD OKK GS PS PO BT FZ HB
            go_wp2
            go_loopw [95] (fun f wr => ∃ i : Nat, f = .int .i64 i ∧ i ≤ zs.length ∧ Below W5.heap.size W5 wr) (fun f _ => zs.length - (intOf f).toNat)
            case atStart => exact ⟨0, rfl, Nat.zero_le _, Below.refl _ _⟩
            case round =>
              obtain ⟨i, rfl, il, BT5⟩ := hrel
              by_cases ci : i < zs.length
              · have i0 : (0 : Int) ≤ (i : Int) := by omega
                have i1 : (i : Int) < (zs.length : Int) := by omega
                have i8 : (i : Int) < 8 := by omega
                go_wp2
                go_loopw [98] (fun f wr => ∃ k : Nat, f = .int .i64 k ∧ k ≤ 2 ∧ Below W5.heap.size W5 wr) (fun f _ => 2 - (intOf f).toNat)
                case atStart => exact ⟨0, rfl, Nat.zero_le _, BT5⟩
                case round =>
                  clear BT5
                  obtain ⟨k, rfl, kl, BT5⟩ := hrel
                  rcases (show k = 0 ∨ k = 1 ∨ k = 2 by omega) with rfl | rfl | rfl
                  · rw [show ((0 : Nat) : Int) = 0 from rfl]
                    obtain ⟨x, hx⟩ : ∃ x, x = sumK i 0 ls := ⟨_, rfl⟩
                    obtain ⟨F, hF⟩ : ∃ F, F = freT zs ls i 0 := ⟨_, rfl⟩
                    obtain ⟨R, hR⟩ : ∃ R, R = roomV zs i 0 := ⟨_, rfl⟩
                    have AR := ARI.out i 0 ci (by omega)
                    have cq : ∀ wS, Cs wS pS (L16 (sumF16 ls)) → wS.cell? ⟨pS, i, none⟩ = some (.int .i64 x) := fun wS h => by
                      have := h.1 (0 * 8 + i) _ (L16_at (sumF16 ls) (by omega))
                      rw [sumF16, show (0 * 8 + i) % 8 = i by omega, show (0 * 8 + i) / 8 = 0 by omega] at this
                      rw [hx]
                      simpa using this
                    have CR : Hid (∀ w1, Below W5.heap.size W5 w1 → Calls Try.prog 12 #[tbV b, .int .i64 i, .int .i64 0] w1 fun e w' => e = .returned (.int .i64 R) ∧ Below w1.heap.size w1 w') := fun w1 hb => by rw [hR]; exact RM.out w1 i 0 hb
                    have CF : Hid (∀ w1, Below W5.heap.size W5 w1 → Calls Try.prog 13 #[tbV b, .int .i64 i, .int .i64 0] w1 fun e w' => e = .returned (.int .i64 F) ∧ Below w1.heap.size w1 w') := fun w1 hb => by rw [hF]; exact FM.out w1 i 0 hb
                    have AR2 : 0 ≤ x ∧ x ≤ R ∧ x + F = R ∧ R ≤ 1073741824 := by rw [hx, hF, hR]; exact AR
                    clear AR hx hF hR
                    obtain ⟨a0, a1, a2, a3⟩ := AR2
                    have g1 : decide (x < 0) = false := decide_eq_false (by omega)
                    have g2 : decide (R < x) = false := decide_eq_false (by omega)
                    have g3 : (x + F != R) = false := by rw [a2]; simp
                    have f0 : 0 ≤ F := by omega
                    have f1 : F ≤ 1073741824 := by omega
                    have f2 : x ≤ 1073741824 := by omega
                    have g5 : (IntKind.i64.wrap (x + F) != R) = false := by rw [show IntKind.i64.wrap (x + F) = x + F from IntWalk.i64_in _ (by omega), a2]; simp
                    clear a2 a3
                    go_upto_region 33 with (fail)
                    have BW : Hid (Below W5.heap.size W5 _) := Below.drew BT5
                    refine wp_region_noPanic ?_
                    refine wp_region_held_drew (S := fun w' => Cs w' pS (L16 (sumF16 ls))) (by kernel_rfl) ?_ (fun hHeld => ?_)
                    · exact Cs.later BW.out qz
                    generalize World.drew _ = wd0 at *
                    refine wpAnyH_take (i := 0) (v := ?_) rfl (by kernel_rfl) (by kernel_rfl) (by kernel_rfl) (fun _ _ _ h => h) (Or.inl ⟨by rfl, ?_⟩) (by assumption) ?_
                    rotate_left
                    · (intro wS hSw; have cz := cq _ hSw; have pz := hSw.2.2; go_simp; try with_reducible rfl)
                    change wpAnyH _ _ _ _ _ _ _ (Act.put _ (some 101) _) _
                    simp only [Act.put, List.setIfInBounds_toArray, List.set_cons_zero, List.set_cons_succ]
                    refine wpAnyH_take (i := 1) (v := ?_) rfl (by kernel_rfl) (by kernel_rfl) (by kernel_rfl) (fun _ _ _ h => h) (Or.inl ⟨by rfl, ?_⟩) (by assumption) ?_
                    rotate_left
                    · (intro wS hSw; have cz := cq _ hSw; have pz := hSw.2.2; go_simp; try with_reducible rfl)
                    change wpAnyH _ _ _ _ _ _ _ (Act.put _ (some 102) _) _
                    simp only [Act.put, List.setIfInBounds_toArray, List.set_cons_zero, List.set_cons_succ]
                    refine wpAnyH_take (i := 2) (v := ?_) rfl (by kernel_rfl) (by kernel_rfl) (by kernel_rfl) (fun _ _ _ h => h) (Or.inl ⟨by rfl, ?_⟩) (by assumption) ?_
                    rotate_left
                    · (intro wS hSw; have cz := cq _ hSw; have pz := hSw.2.2; go_simp; try with_reducible rfl)
                    change wpAnyH _ _ _ _ _ _ _ (Act.put _ (some 103) _) _
                    simp only [Act.put, List.setIfInBounds_toArray, List.set_cons_zero, List.set_cons_succ]
                    refine wpAnyH_take (i := 3) (v := ?_) rfl (by kernel_rfl) (by kernel_rfl) (by kernel_rfl) (fun _ _ _ h => h) (Or.inl ⟨by rfl, ?_⟩) (by assumption) ?_
                    rotate_left
                    · (intro wS hSw; have cz := cq _ hSw; have pz := hSw.2.2; go_simp; try with_reducible rfl)
                    change wpAnyH _ _ _ _ _ _ _ (Act.put _ (some 104) _) _
                    simp only [Act.put, List.setIfInBounds_toArray, List.set_cons_zero, List.set_cons_succ]
                    refine wpAnyH_take (i := 4) (v := ?_) rfl (by kernel_rfl) (by kernel_rfl) (by kernel_rfl) (fun _ _ _ h => h) (Or.inl ⟨by rfl, ?_⟩) (by assumption) ?_
                    rotate_left
                    · (intro wS hSw; have cz := cq _ hSw; have pz := hSw.2.2; go_simp; try with_reducible rfl)
                    change wpAnyH _ _ _ _ _ _ _ (Act.put _ (some 105) _) _
                    simp only [Act.put, List.setIfInBounds_toArray, List.set_cons_zero, List.set_cons_succ]
                    refine wpAnyH_take (i := 5) (v := ?_) rfl (by kernel_rfl) (by kernel_rfl) (by kernel_rfl) (fun _ _ _ h => h) (Or.inl ⟨by rfl, ?_⟩) (by assumption) ?_
                    rotate_left
                    · (intro wS hSw; have cz := cq _ hSw; have pz := hSw.2.2; go_simp; try with_reducible rfl)
                    change wpAnyH _ _ _ _ _ _ _ (Act.put _ (some 106) _) _
                    simp only [Act.put, List.setIfInBounds_toArray, List.set_cons_zero, List.set_cons_succ]
                    refine wpAnyH_take (i := 6) (v := ?_) rfl (by kernel_rfl) (by kernel_rfl) (by kernel_rfl) (fun _ _ _ h => h) (Or.inl ⟨by rfl, ?_⟩) (by assumption) ?_
                    rotate_left
                    · (intro wS hSw; have cz := cq _ hSw; have pz := hSw.2.2; go_simp; try with_reducible rfl)
                    change wpAnyH _ _ _ _ _ _ _ (Act.put _ (some 107) _) _
                    simp only [Act.put, List.setIfInBounds_toArray, List.set_cons_zero, List.set_cons_succ]
                    refine wpAnyH_take (i := 7) (v := ?_) rfl (by kernel_rfl) (by kernel_rfl) (by kernel_rfl) (fun _ _ _ h => h) (Or.inl ⟨by rfl, ?_⟩) (by assumption) ?_
                    rotate_left
                    · (intro wS hSw; have cz := cq _ hSw; have pz := hSw.2.2; go_simp; try with_reducible rfl)
                    change wpAnyH _ _ _ _ _ _ _ (Act.put _ (some 108) _) _
                    simp only [Act.put, List.setIfInBounds_toArray, List.set_cons_zero, List.set_cons_succ]
                    refine wpAnyH_take (i := 8) (v := ?_) rfl (by kernel_rfl) (by kernel_rfl) (by kernel_rfl) (fun _ _ _ h => h) (Or.inl ⟨by rfl, ?_⟩) (by assumption) ?_
                    rotate_left
                    · (intro wS hSw; have cz := cq _ hSw; have pz := hSw.2.2; go_simp; try with_reducible rfl)
                    change wpAnyH _ _ _ _ _ _ _ (Act.put _ (some 109) _) _
                    simp only [Act.put, List.setIfInBounds_toArray, List.set_cons_zero, List.set_cons_succ]
                    refine wpAnyH_take (i := 9) (v := ?_) rfl (by kernel_rfl) (by kernel_rfl) (by kernel_rfl) (fun _ _ _ h => h) (Or.inl ⟨by rfl, ?_⟩) (by assumption) ?_
                    rotate_left
                    · (intro wS hSw; have cz := cq _ hSw; have pz := hSw.2.2; go_simp; try with_reducible rfl)
                    change wpAnyH _ _ _ _ _ _ _ (Act.put _ (some 110) _) _
                    simp only [Act.put, List.setIfInBounds_toArray, List.set_cons_zero, List.set_cons_succ]
                    refine wpAnyH_take (i := 10) (v := ?_) rfl (by kernel_rfl) (by kernel_rfl) (by kernel_rfl) (fun _ _ _ h => h) (Or.inl ⟨by rfl, ?_⟩) (by assumption) ?_
                    rotate_left
                    · (intro wS hSw; have cz := cq _ hSw; have pz := hSw.2.2; go_simp; try with_reducible rfl)
                    change wpAnyH _ _ _ _ _ _ _ (Act.put _ (some 111) _) _
                    simp only [Act.put, List.setIfInBounds_toArray, List.set_cons_zero, List.set_cons_succ]
                    refine wpAnyH_take (i := 11) (v := ?_) rfl (by kernel_rfl) (by kernel_rfl) (by kernel_rfl) (fun _ _ _ h => h) (Or.inl ⟨by rfl, ?_⟩) (by assumption) ?_
                    rotate_left
                    · (intro wS hSw; have cz := cq _ hSw; have pz := hSw.2.2; go_simp; try with_reducible rfl)
                    change wpAnyH _ _ _ _ _ _ _ (Act.put _ (some 112) _) _
                    simp only [Act.put, List.setIfInBounds_toArray, List.set_cons_zero, List.set_cons_succ]
                    refine wpAnyH_take (i := 12) (v := ?_) rfl (by kernel_rfl) (by kernel_rfl) (by kernel_rfl) (fun _ _ _ h => h) (Or.inl ⟨by rfl, ?_⟩) (by assumption) ?_
                    rotate_left
                    · (intro wS hSw; have cz := cq _ hSw; have pz := hSw.2.2; go_simp; try with_reducible rfl)
                    change wpAnyH _ _ _ _ _ _ _ (Act.put _ (some 113) _) _
                    simp only [Act.put, List.setIfInBounds_toArray, List.set_cons_zero, List.set_cons_succ]
                    refine wpAnyH_take (i := 13) (v := ?_) rfl (by kernel_rfl) (by kernel_rfl) (by kernel_rfl) (fun _ _ _ h => h) (Or.inl ⟨by rfl, ?_⟩) (by assumption) ?_
                    rotate_left
                    · (intro wS hSw; have cz := cq _ hSw; have pz := hSw.2.2; go_simp; try with_reducible rfl)
                    change wpAnyH _ _ _ _ _ _ _ (Act.put _ (some 114) _) _
                    simp only [Act.put, List.setIfInBounds_toArray, List.set_cons_zero, List.set_cons_succ]
                    refine wpAnyH_take (i := 14) (v := ?_) rfl (by kernel_rfl) (by kernel_rfl) (by kernel_rfl) (fun _ _ _ h => h) (Or.inl ⟨by rfl, ?_⟩) (by assumption) ?_
                    rotate_left
                    · (intro wS hSw; have cz := cq _ hSw; have pz := hSw.2.2; go_simp; try with_reducible rfl)
                    change wpAnyH _ _ _ _ _ _ _ (Act.put _ (some 115) _) _
                    simp only [Act.put, List.setIfInBounds_toArray, List.set_cons_zero, List.set_cons_succ]
                    refine wpAnyH_ready (rs := [15]) (by kernel_rfl) (by simp) ?_
                    refine AllReadyH.cons rfl (fun K hK => ?_) AllReadyH.nil
                    go_simp
                    refine (CR.out _ BW.out).mono ?_
                    rintro e v1 ⟨rfl, hv1⟩
                    have BW' : Hid (Below W5.heap.size W5 v1) := BW.out.trans (hv1.mono BW.out.size)
                    clear hv1 BW
                    have BW := BW'
                    clear BW'
                    (try go_wp2_with (fail))
                    refine hK.out _ _ ?_ (fun hHeld => ?_)
                    · exact Cs.later BW.out qz
                    clear hK K
                    refine wpAnyH_take (i := 16) (v := ?_) rfl (by kernel_rfl) (by kernel_rfl) (by kernel_rfl) (fun _ _ _ h => h) (Or.inl ⟨by rfl, ?_⟩) (by assumption) ?_
                    rotate_left
                    · (intro wS hSw; have cz := cq _ hSw; have pz := hSw.2.2; go_simp; try with_reducible rfl)
                    change wpAnyH _ _ _ _ _ _ _ (Act.put _ (some 117) _) _
                    simp only [Act.put, List.setIfInBounds_toArray, List.set_cons_zero, List.set_cons_succ]
                    refine wpAnyH_take (i := 17) (v := ?_) rfl (by kernel_rfl) (by kernel_rfl) (by kernel_rfl) (fun _ _ _ h => h) (Or.inl ⟨by rfl, ?_⟩) (by assumption) ?_
                    rotate_left
                    · (intro wS hSw; have cz := cq _ hSw; have pz := hSw.2.2; go_simp; try with_reducible rfl)
                    change wpAnyH _ _ _ _ _ _ _ (Act.put _ (some 118) _) _
                    simp only [Act.put, List.setIfInBounds_toArray, List.set_cons_zero, List.set_cons_succ]
                    refine wpAnyH_take (i := 18) (v := ?_) rfl (by kernel_rfl) (by kernel_rfl) (by kernel_rfl) (fun _ _ _ h => h) (Or.inl ⟨by rfl, ?_⟩) (by assumption) ?_
                    rotate_left
                    · (intro wS hSw; have cz := cq _ hSw; have pz := hSw.2.2; go_simp; try with_reducible rfl)
                    change wpAnyH _ _ _ _ _ _ _ (Act.put _ (some 119) _) _
                    simp only [Act.put, List.setIfInBounds_toArray, List.set_cons_zero, List.set_cons_succ]
                    refine wpAnyH_take (i := 19) (v := ?_) rfl (by kernel_rfl) (by kernel_rfl) (by kernel_rfl) (fun _ _ _ h => h) (Or.inl ⟨by rfl, ?_⟩) (by assumption) ?_
                    rotate_left
                    · (intro wS hSw; have cz := cq _ hSw; have pz := hSw.2.2; go_simp; try with_reducible rfl)
                    change wpAnyH _ _ _ _ _ _ _ (Act.put _ (some 120) _) _
                    simp only [Act.put, List.setIfInBounds_toArray, List.set_cons_zero, List.set_cons_succ]
                    refine wpAnyH_take (i := 20) (v := ?_) rfl (by kernel_rfl) (by kernel_rfl) (by kernel_rfl) (fun _ _ _ h => h) (Or.inl ⟨by rfl, ?_⟩) (by assumption) ?_
                    rotate_left
                    · (intro wS hSw; have cz := cq _ hSw; have pz := hSw.2.2; go_simp; try with_reducible rfl)
                    change wpAnyH _ _ _ _ _ _ _ (Act.put _ (some 121) _) _
                    simp only [Act.put, List.setIfInBounds_toArray, List.set_cons_zero, List.set_cons_succ]
                    refine wpAnyH_take (i := 21) (v := ?_) rfl (by kernel_rfl) (by kernel_rfl) (by kernel_rfl) (fun _ _ _ h => h) (Or.inl ⟨by rfl, ?_⟩) (by assumption) ?_
                    rotate_left
                    · (intro wS hSw; have cz := cq _ hSw; have pz := hSw.2.2; go_simp; try with_reducible rfl)
                    change wpAnyH _ _ _ _ _ _ _ (Act.put _ (some 122) _) _
                    simp only [Act.put, List.setIfInBounds_toArray, List.set_cons_zero, List.set_cons_succ]
                    refine wpAnyH_take (i := 22) (v := ?_) rfl (by kernel_rfl) (by kernel_rfl) (by kernel_rfl) (fun _ _ _ h => h) (Or.inl ⟨by rfl, ?_⟩) (by assumption) ?_
                    rotate_left
                    · (intro wS hSw; have cz := cq _ hSw; have pz := hSw.2.2; go_simp; try with_reducible rfl)
                    change wpAnyH _ _ _ _ _ _ _ (Act.put _ (some 123) _) _
                    simp only [Act.put, List.setIfInBounds_toArray, List.set_cons_zero, List.set_cons_succ]
                    refine wpAnyH_take (i := 23) (v := ?_) rfl (by kernel_rfl) (by kernel_rfl) (by kernel_rfl) (fun _ _ _ h => h) (Or.inl ⟨by rfl, ?_⟩) (by assumption) ?_
                    rotate_left
                    · (intro wS hSw; have cz := cq _ hSw; have pz := hSw.2.2; go_simp; try with_reducible rfl)
                    change wpAnyH _ _ _ _ _ _ _ (Act.put _ (some 124) _) _
                    simp only [Act.put, List.setIfInBounds_toArray, List.set_cons_zero, List.set_cons_succ]
                    refine wpAnyH_take (i := 24) (v := ?_) rfl (by kernel_rfl) (by kernel_rfl) (by kernel_rfl) (fun _ _ _ h => h) (Or.inl ⟨by rfl, ?_⟩) (by assumption) ?_
                    rotate_left
                    · (intro wS hSw; have cz := cq _ hSw; have pz := hSw.2.2; go_simp; try with_reducible rfl)
                    change wpAnyH _ _ _ _ _ _ _ (Act.put _ (some 125) _) _
                    simp only [Act.put, List.setIfInBounds_toArray, List.set_cons_zero, List.set_cons_succ]
                    refine wpAnyH_take (i := 25) (v := ?_) rfl (by kernel_rfl) (by kernel_rfl) (by kernel_rfl) (fun _ _ _ h => h) (Or.inl ⟨by rfl, ?_⟩) (by assumption) ?_
                    rotate_left
                    · (intro wS hSw; have cz := cq _ hSw; have pz := hSw.2.2; go_simp; try with_reducible rfl)
                    change wpAnyH _ _ _ _ _ _ _ (Act.put _ (some 126) _) _
                    simp only [Act.put, List.setIfInBounds_toArray, List.set_cons_zero, List.set_cons_succ]
                    refine wpAnyH_take (i := 26) (v := ?_) rfl (by kernel_rfl) (by kernel_rfl) (by kernel_rfl) (fun _ _ _ h => h) (Or.inl ⟨by rfl, ?_⟩) (by assumption) ?_
                    rotate_left
                    · (intro wS hSw; have cz := cq _ hSw; have pz := hSw.2.2; go_simp; try with_reducible rfl)
                    change wpAnyH _ _ _ _ _ _ _ (Act.put _ (some 127) _) _
                    simp only [Act.put, List.setIfInBounds_toArray, List.set_cons_zero, List.set_cons_succ]
                    refine wpAnyH_take (i := 29) (v := ?_) rfl (by kernel_rfl) (by kernel_rfl) (by kernel_rfl) (fun _ _ _ h => h) (Or.inl ⟨by rfl, ?_⟩) (by assumption) ?_
                    rotate_left
                    · (intro wS hSw; have cz := cq _ hSw; have pz := hSw.2.2; go_simp; try with_reducible rfl)
                    change wpAnyH _ _ _ _ _ _ _ (Act.put _ (some 130) _) _
                    simp only [Act.put, List.setIfInBounds_toArray, List.set_cons_zero, List.set_cons_succ]
                    refine wpAnyH_take (i := 30) (v := ?_) rfl (by kernel_rfl) (by kernel_rfl) (by kernel_rfl) (fun _ _ _ h => h) (Or.inl ⟨by rfl, ?_⟩) (by assumption) ?_
                    rotate_left
                    · (intro wS hSw; have cz := cq _ hSw; have pz := hSw.2.2; go_simp; try with_reducible rfl)
                    change wpAnyH _ _ _ _ _ _ _ (Act.put _ (some 131) _) _
                    simp only [Act.put, List.setIfInBounds_toArray, List.set_cons_zero, List.set_cons_succ]
                    refine wpAnyH_take (i := 31) (v := ?_) rfl (by kernel_rfl) (by kernel_rfl) (by kernel_rfl) (fun _ _ _ h => h) (Or.inl ⟨by rfl, ?_⟩) (by assumption) ?_
                    rotate_left
                    · (intro wS hSw; have cz := cq _ hSw; have pz := hSw.2.2; go_simp; try with_reducible rfl)
                    change wpAnyH _ _ _ _ _ _ _ (Act.put _ (some 132) _) _
                    simp only [Act.put, List.setIfInBounds_toArray, List.set_cons_zero, List.set_cons_succ]
                    refine wpAnyH_ready (rs := [27]) (by kernel_rfl) (by simp) ?_
                    refine AllReadyH.cons rfl (fun K hK => ?_) AllReadyH.nil
                    go_simp
                    refine (CF.out _ BW.out).mono ?_
                    rintro e v2 ⟨rfl, hv2⟩
                    have BW' : Hid (Below W5.heap.size W5 v2) := BW.out.trans (hv2.mono BW.out.size)
                    clear hv2 BW
                    have BW := BW'
                    clear BW'
                    (try go_wp2_with (fail))
                    refine hK.out _ _ ?_ (fun hHeld => ?_)
                    · exact Cs.later BW.out qz
                    clear hK K
                    refine wpAnyH_take (i := 28) (v := ?_) rfl (by kernel_rfl) (by kernel_rfl) (by kernel_rfl) (fun _ _ _ h => h) (Or.inl ⟨by rfl, ?_⟩) (by assumption) ?_
                    rotate_left
                    · (intro wS hSw; have cz := cq _ hSw; have pz := hSw.2.2; go_simp; try with_reducible rfl)
                    change wpAnyH _ _ _ _ _ _ _ (Act.put _ (some 129) _) _
                    simp only [Act.put, List.setIfInBounds_toArray, List.set_cons_zero, List.set_cons_succ]
                    refine wpAnyH_ready (rs := [32]) (by kernel_rfl) (by simp) ?_
                    refine AllReadyH.cons rfl (fun K hK => ?_) AllReadyH.nil
                    go_simp
                    refine (CR.out _ BW.out).mono ?_
                    rintro e v3 ⟨rfl, hv3⟩
                    have BW' : Hid (Below W5.heap.size W5 v3) := BW.out.trans (hv3.mono BW.out.size)
                    clear hv3 BW
                    have BW := BW'
                    clear BW'
                    (try go_wp2_with (fail))
                    refine hK.out _ _ ?_ (fun hHeld => ?_)
                    · exact Cs.later BW.out qz
                    clear hK K
                    refine wpAnyH_take (i := 33) (v := ?_) rfl (by kernel_rfl) (by kernel_rfl) (by kernel_rfl) (fun _ _ _ h => h) (Or.inl ⟨by rfl, ?_⟩) (by assumption) ?_
                    rotate_left
                    · (intro wS hSw; have cz := cq _ hSw; have pz := hSw.2.2; go_simp; try with_reducible rfl)
                    change wpAnyH _ _ _ _ _ _ _ (Act.put _ (some 134) _) _
                    simp only [Act.put, List.setIfInBounds_toArray, List.set_cons_zero, List.set_cons_succ]
                    refine wpAnyH_take (i := 34) (v := ?_) rfl (by kernel_rfl) (by kernel_rfl) (by kernel_rfl) (fun _ _ _ h => h) (Or.inl ⟨by rfl, ?_⟩) (by assumption) ?_
                    rotate_left
                    · (intro wS hSw; have cz := cq _ hSw; have pz := hSw.2.2; go_simp; try with_reducible rfl)
                    change wpAnyH _ _ _ _ _ _ _ (Act.put _ (some 135) _) _
                    simp only [Act.put, List.setIfInBounds_toArray, List.set_cons_zero, List.set_cons_succ]
                    refine wpAnyH_done (by kernel_rfl) ?_ _
                    refine NoPanic.normal ?_
                    go_wp2
                    go_roundw
                    case rel => exact ⟨0 + 1, by go_num, by omega, BW.out⟩
                    case measure => simp [intOf]
                  · rw [show ((1 : Nat) : Int) = 1 from rfl]
                    obtain ⟨x, hx⟩ : ∃ x, x = sumK i 1 ls := ⟨_, rfl⟩
                    obtain ⟨F, hF⟩ : ∃ F, F = freT zs ls i 1 := ⟨_, rfl⟩
                    obtain ⟨R, hR⟩ : ∃ R, R = roomV zs i 1 := ⟨_, rfl⟩
                    have AR := ARI.out i 1 ci (by omega)
                    have cq : ∀ wS, Cs wS pS (L16 (sumF16 ls)) → wS.cell? ⟨pS, 8 + i, none⟩ = some (.int .i64 x) := fun wS h => by
                      have := h.1 (1 * 8 + i) _ (L16_at (sumF16 ls) (by omega))
                      rw [sumF16, show (1 * 8 + i) % 8 = i by omega, show (1 * 8 + i) / 8 = 1 by omega] at this
                      rw [hx]
                      simpa using this
                    have CR : Hid (∀ w1, Below W5.heap.size W5 w1 → Calls Try.prog 12 #[tbV b, .int .i64 i, .int .i64 1] w1 fun e w' => e = .returned (.int .i64 R) ∧ Below w1.heap.size w1 w') := fun w1 hb => by rw [hR]; exact RM.out w1 i 1 hb
                    have CF : Hid (∀ w1, Below W5.heap.size W5 w1 → Calls Try.prog 13 #[tbV b, .int .i64 i, .int .i64 1] w1 fun e w' => e = .returned (.int .i64 F) ∧ Below w1.heap.size w1 w') := fun w1 hb => by rw [hF]; exact FM.out w1 i 1 hb
                    have AR2 : 0 ≤ x ∧ x ≤ R ∧ x + F = R ∧ R ≤ 1073741824 := by rw [hx, hF, hR]; exact AR
                    clear AR hx hF hR
                    obtain ⟨a0, a1, a2, a3⟩ := AR2
                    have g1 : decide (x < 0) = false := decide_eq_false (by omega)
                    have g2 : decide (R < x) = false := decide_eq_false (by omega)
                    have g3 : (x + F != R) = false := by rw [a2]; simp
                    have f0 : 0 ≤ F := by omega
                    have f1 : F ≤ 1073741824 := by omega
                    have f2 : x ≤ 1073741824 := by omega
                    have g5 : (IntKind.i64.wrap (x + F) != R) = false := by rw [show IntKind.i64.wrap (x + F) = x + F from IntWalk.i64_in _ (by omega), a2]; simp
                    clear a2 a3
                    go_upto_region 33 with (fail)
                    have BW : Hid (Below W5.heap.size W5 _) := Below.drew BT5
                    refine wp_region_noPanic ?_
                    refine wp_region_held_drew (S := fun w' => Cs w' pS (L16 (sumF16 ls))) (by kernel_rfl) ?_ (fun hHeld => ?_)
                    · exact Cs.later BW.out qz
                    generalize World.drew _ = wd0 at *
                    refine wpAnyH_take (i := 0) (v := ?_) rfl (by kernel_rfl) (by kernel_rfl) (by kernel_rfl) (fun _ _ _ h => h) (Or.inl ⟨by rfl, ?_⟩) (by assumption) ?_
                    rotate_left
                    · (intro wS hSw; have cz := cq _ hSw; have pz := hSw.2.2; go_simp; try with_reducible rfl)
                    change wpAnyH _ _ _ _ _ _ _ (Act.put _ (some 101) _) _
                    simp only [Act.put, List.setIfInBounds_toArray, List.set_cons_zero, List.set_cons_succ]
                    refine wpAnyH_take (i := 1) (v := ?_) rfl (by kernel_rfl) (by kernel_rfl) (by kernel_rfl) (fun _ _ _ h => h) (Or.inl ⟨by rfl, ?_⟩) (by assumption) ?_
                    rotate_left
                    · (intro wS hSw; have cz := cq _ hSw; have pz := hSw.2.2; go_simp; try with_reducible rfl)
                    change wpAnyH _ _ _ _ _ _ _ (Act.put _ (some 102) _) _
                    simp only [Act.put, List.setIfInBounds_toArray, List.set_cons_zero, List.set_cons_succ]
                    refine wpAnyH_take (i := 2) (v := ?_) rfl (by kernel_rfl) (by kernel_rfl) (by kernel_rfl) (fun _ _ _ h => h) (Or.inl ⟨by rfl, ?_⟩) (by assumption) ?_
                    rotate_left
                    · (intro wS hSw; have cz := cq _ hSw; have pz := hSw.2.2; go_simp; try with_reducible rfl)
                    change wpAnyH _ _ _ _ _ _ _ (Act.put _ (some 103) _) _
                    simp only [Act.put, List.setIfInBounds_toArray, List.set_cons_zero, List.set_cons_succ]
                    refine wpAnyH_take (i := 3) (v := ?_) rfl (by kernel_rfl) (by kernel_rfl) (by kernel_rfl) (fun _ _ _ h => h) (Or.inl ⟨by rfl, ?_⟩) (by assumption) ?_
                    rotate_left
                    · (intro wS hSw; have cz := cq _ hSw; have pz := hSw.2.2; go_simp; try with_reducible rfl)
                    change wpAnyH _ _ _ _ _ _ _ (Act.put _ (some 104) _) _
                    simp only [Act.put, List.setIfInBounds_toArray, List.set_cons_zero, List.set_cons_succ]
                    refine wpAnyH_take (i := 4) (v := ?_) rfl (by kernel_rfl) (by kernel_rfl) (by kernel_rfl) (fun _ _ _ h => h) (Or.inl ⟨by rfl, ?_⟩) (by assumption) ?_
                    rotate_left
                    · (intro wS hSw; have cz := cq _ hSw; have pz := hSw.2.2; go_simp; try with_reducible rfl)
                    change wpAnyH _ _ _ _ _ _ _ (Act.put _ (some 105) _) _
                    simp only [Act.put, List.setIfInBounds_toArray, List.set_cons_zero, List.set_cons_succ]
                    refine wpAnyH_take (i := 5) (v := ?_) rfl (by kernel_rfl) (by kernel_rfl) (by kernel_rfl) (fun _ _ _ h => h) (Or.inl ⟨by rfl, ?_⟩) (by assumption) ?_
                    rotate_left
                    · (intro wS hSw; have cz := cq _ hSw; have pz := hSw.2.2; go_simp; try with_reducible rfl)
                    change wpAnyH _ _ _ _ _ _ _ (Act.put _ (some 106) _) _
                    simp only [Act.put, List.setIfInBounds_toArray, List.set_cons_zero, List.set_cons_succ]
                    refine wpAnyH_take (i := 6) (v := ?_) rfl (by kernel_rfl) (by kernel_rfl) (by kernel_rfl) (fun _ _ _ h => h) (Or.inl ⟨by rfl, ?_⟩) (by assumption) ?_
                    rotate_left
                    · (intro wS hSw; have cz := cq _ hSw; have pz := hSw.2.2; go_simp; try with_reducible rfl)
                    change wpAnyH _ _ _ _ _ _ _ (Act.put _ (some 107) _) _
                    simp only [Act.put, List.setIfInBounds_toArray, List.set_cons_zero, List.set_cons_succ]
                    refine wpAnyH_take (i := 7) (v := ?_) rfl (by kernel_rfl) (by kernel_rfl) (by kernel_rfl) (fun _ _ _ h => h) (Or.inl ⟨by rfl, ?_⟩) (by assumption) ?_
                    rotate_left
                    · (intro wS hSw; have cz := cq _ hSw; have pz := hSw.2.2; go_simp; try with_reducible rfl)
                    change wpAnyH _ _ _ _ _ _ _ (Act.put _ (some 108) _) _
                    simp only [Act.put, List.setIfInBounds_toArray, List.set_cons_zero, List.set_cons_succ]
                    refine wpAnyH_take (i := 8) (v := ?_) rfl (by kernel_rfl) (by kernel_rfl) (by kernel_rfl) (fun _ _ _ h => h) (Or.inl ⟨by rfl, ?_⟩) (by assumption) ?_
                    rotate_left
                    · (intro wS hSw; have cz := cq _ hSw; have pz := hSw.2.2; go_simp; try with_reducible rfl)
                    change wpAnyH _ _ _ _ _ _ _ (Act.put _ (some 109) _) _
                    simp only [Act.put, List.setIfInBounds_toArray, List.set_cons_zero, List.set_cons_succ]
                    refine wpAnyH_take (i := 9) (v := ?_) rfl (by kernel_rfl) (by kernel_rfl) (by kernel_rfl) (fun _ _ _ h => h) (Or.inl ⟨by rfl, ?_⟩) (by assumption) ?_
                    rotate_left
                    · (intro wS hSw; have cz := cq _ hSw; have pz := hSw.2.2; go_simp; try with_reducible rfl)
                    change wpAnyH _ _ _ _ _ _ _ (Act.put _ (some 110) _) _
                    simp only [Act.put, List.setIfInBounds_toArray, List.set_cons_zero, List.set_cons_succ]
                    refine wpAnyH_take (i := 10) (v := ?_) rfl (by kernel_rfl) (by kernel_rfl) (by kernel_rfl) (fun _ _ _ h => h) (Or.inl ⟨by rfl, ?_⟩) (by assumption) ?_
                    rotate_left
                    · (intro wS hSw; have cz := cq _ hSw; have pz := hSw.2.2; go_simp; try with_reducible rfl)
                    change wpAnyH _ _ _ _ _ _ _ (Act.put _ (some 111) _) _
                    simp only [Act.put, List.setIfInBounds_toArray, List.set_cons_zero, List.set_cons_succ]
                    refine wpAnyH_take (i := 11) (v := ?_) rfl (by kernel_rfl) (by kernel_rfl) (by kernel_rfl) (fun _ _ _ h => h) (Or.inl ⟨by rfl, ?_⟩) (by assumption) ?_
                    rotate_left
                    · (intro wS hSw; have cz := cq _ hSw; have pz := hSw.2.2; go_simp; try with_reducible rfl)
                    change wpAnyH _ _ _ _ _ _ _ (Act.put _ (some 112) _) _
                    simp only [Act.put, List.setIfInBounds_toArray, List.set_cons_zero, List.set_cons_succ]
                    refine wpAnyH_take (i := 12) (v := ?_) rfl (by kernel_rfl) (by kernel_rfl) (by kernel_rfl) (fun _ _ _ h => h) (Or.inl ⟨by rfl, ?_⟩) (by assumption) ?_
                    rotate_left
                    · (intro wS hSw; have cz := cq _ hSw; have pz := hSw.2.2; go_simp; try with_reducible rfl)
                    change wpAnyH _ _ _ _ _ _ _ (Act.put _ (some 113) _) _
                    simp only [Act.put, List.setIfInBounds_toArray, List.set_cons_zero, List.set_cons_succ]
                    refine wpAnyH_take (i := 13) (v := ?_) rfl (by kernel_rfl) (by kernel_rfl) (by kernel_rfl) (fun _ _ _ h => h) (Or.inl ⟨by rfl, ?_⟩) (by assumption) ?_
                    rotate_left
                    · (intro wS hSw; have cz := cq _ hSw; have pz := hSw.2.2; go_simp; try with_reducible rfl)
                    change wpAnyH _ _ _ _ _ _ _ (Act.put _ (some 114) _) _
                    simp only [Act.put, List.setIfInBounds_toArray, List.set_cons_zero, List.set_cons_succ]
                    refine wpAnyH_take (i := 14) (v := ?_) rfl (by kernel_rfl) (by kernel_rfl) (by kernel_rfl) (fun _ _ _ h => h) (Or.inl ⟨by rfl, ?_⟩) (by assumption) ?_
                    rotate_left
                    · (intro wS hSw; have cz := cq _ hSw; have pz := hSw.2.2; go_simp; try with_reducible rfl)
                    change wpAnyH _ _ _ _ _ _ _ (Act.put _ (some 115) _) _
                    simp only [Act.put, List.setIfInBounds_toArray, List.set_cons_zero, List.set_cons_succ]
                    refine wpAnyH_ready (rs := [15]) (by kernel_rfl) (by simp) ?_
                    refine AllReadyH.cons rfl (fun K hK => ?_) AllReadyH.nil
                    go_simp
                    refine (CR.out _ BW.out).mono ?_
                    rintro e v1 ⟨rfl, hv1⟩
                    have BW' : Hid (Below W5.heap.size W5 v1) := BW.out.trans (hv1.mono BW.out.size)
                    clear hv1 BW
                    have BW := BW'
                    clear BW'
                    (try go_wp2_with (fail))
                    refine hK.out _ _ ?_ (fun hHeld => ?_)
                    · exact Cs.later BW.out qz
                    clear hK K
                    refine wpAnyH_take (i := 16) (v := ?_) rfl (by kernel_rfl) (by kernel_rfl) (by kernel_rfl) (fun _ _ _ h => h) (Or.inl ⟨by rfl, ?_⟩) (by assumption) ?_
                    rotate_left
                    · (intro wS hSw; have cz := cq _ hSw; have pz := hSw.2.2; go_simp; try with_reducible rfl)
                    change wpAnyH _ _ _ _ _ _ _ (Act.put _ (some 117) _) _
                    simp only [Act.put, List.setIfInBounds_toArray, List.set_cons_zero, List.set_cons_succ]
                    refine wpAnyH_take (i := 17) (v := ?_) rfl (by kernel_rfl) (by kernel_rfl) (by kernel_rfl) (fun _ _ _ h => h) (Or.inl ⟨by rfl, ?_⟩) (by assumption) ?_
                    rotate_left
                    · (intro wS hSw; have cz := cq _ hSw; have pz := hSw.2.2; go_simp; try with_reducible rfl)
                    change wpAnyH _ _ _ _ _ _ _ (Act.put _ (some 118) _) _
                    simp only [Act.put, List.setIfInBounds_toArray, List.set_cons_zero, List.set_cons_succ]
                    refine wpAnyH_take (i := 18) (v := ?_) rfl (by kernel_rfl) (by kernel_rfl) (by kernel_rfl) (fun _ _ _ h => h) (Or.inl ⟨by rfl, ?_⟩) (by assumption) ?_
                    rotate_left
                    · (intro wS hSw; have cz := cq _ hSw; have pz := hSw.2.2; go_simp; try with_reducible rfl)
                    change wpAnyH _ _ _ _ _ _ _ (Act.put _ (some 119) _) _
                    simp only [Act.put, List.setIfInBounds_toArray, List.set_cons_zero, List.set_cons_succ]
                    refine wpAnyH_take (i := 19) (v := ?_) rfl (by kernel_rfl) (by kernel_rfl) (by kernel_rfl) (fun _ _ _ h => h) (Or.inl ⟨by rfl, ?_⟩) (by assumption) ?_
                    rotate_left
                    · (intro wS hSw; have cz := cq _ hSw; have pz := hSw.2.2; go_simp; try with_reducible rfl)
                    change wpAnyH _ _ _ _ _ _ _ (Act.put _ (some 120) _) _
                    simp only [Act.put, List.setIfInBounds_toArray, List.set_cons_zero, List.set_cons_succ]
                    refine wpAnyH_take (i := 20) (v := ?_) rfl (by kernel_rfl) (by kernel_rfl) (by kernel_rfl) (fun _ _ _ h => h) (Or.inl ⟨by rfl, ?_⟩) (by assumption) ?_
                    rotate_left
                    · (intro wS hSw; have cz := cq _ hSw; have pz := hSw.2.2; go_simp; try with_reducible rfl)
                    change wpAnyH _ _ _ _ _ _ _ (Act.put _ (some 121) _) _
                    simp only [Act.put, List.setIfInBounds_toArray, List.set_cons_zero, List.set_cons_succ]
                    refine wpAnyH_take (i := 21) (v := ?_) rfl (by kernel_rfl) (by kernel_rfl) (by kernel_rfl) (fun _ _ _ h => h) (Or.inl ⟨by rfl, ?_⟩) (by assumption) ?_
                    rotate_left
                    · (intro wS hSw; have cz := cq _ hSw; have pz := hSw.2.2; go_simp; try with_reducible rfl)
                    change wpAnyH _ _ _ _ _ _ _ (Act.put _ (some 122) _) _
                    simp only [Act.put, List.setIfInBounds_toArray, List.set_cons_zero, List.set_cons_succ]
                    refine wpAnyH_take (i := 22) (v := ?_) rfl (by kernel_rfl) (by kernel_rfl) (by kernel_rfl) (fun _ _ _ h => h) (Or.inl ⟨by rfl, ?_⟩) (by assumption) ?_
                    rotate_left
                    · (intro wS hSw; have cz := cq _ hSw; have pz := hSw.2.2; go_simp; try with_reducible rfl)
                    change wpAnyH _ _ _ _ _ _ _ (Act.put _ (some 123) _) _
                    simp only [Act.put, List.setIfInBounds_toArray, List.set_cons_zero, List.set_cons_succ]
                    refine wpAnyH_take (i := 23) (v := ?_) rfl (by kernel_rfl) (by kernel_rfl) (by kernel_rfl) (fun _ _ _ h => h) (Or.inl ⟨by rfl, ?_⟩) (by assumption) ?_
                    rotate_left
                    · (intro wS hSw; have cz := cq _ hSw; have pz := hSw.2.2; go_simp; try with_reducible rfl)
                    change wpAnyH _ _ _ _ _ _ _ (Act.put _ (some 124) _) _
                    simp only [Act.put, List.setIfInBounds_toArray, List.set_cons_zero, List.set_cons_succ]
                    refine wpAnyH_take (i := 24) (v := ?_) rfl (by kernel_rfl) (by kernel_rfl) (by kernel_rfl) (fun _ _ _ h => h) (Or.inl ⟨by rfl, ?_⟩) (by assumption) ?_
                    rotate_left
                    · (intro wS hSw; have cz := cq _ hSw; have pz := hSw.2.2; go_simp; try with_reducible rfl)
                    change wpAnyH _ _ _ _ _ _ _ (Act.put _ (some 125) _) _
                    simp only [Act.put, List.setIfInBounds_toArray, List.set_cons_zero, List.set_cons_succ]
                    refine wpAnyH_take (i := 25) (v := ?_) rfl (by kernel_rfl) (by kernel_rfl) (by kernel_rfl) (fun _ _ _ h => h) (Or.inl ⟨by rfl, ?_⟩) (by assumption) ?_
                    rotate_left
                    · (intro wS hSw; have cz := cq _ hSw; have pz := hSw.2.2; go_simp; try with_reducible rfl)
                    change wpAnyH _ _ _ _ _ _ _ (Act.put _ (some 126) _) _
                    simp only [Act.put, List.setIfInBounds_toArray, List.set_cons_zero, List.set_cons_succ]
                    refine wpAnyH_take (i := 26) (v := ?_) rfl (by kernel_rfl) (by kernel_rfl) (by kernel_rfl) (fun _ _ _ h => h) (Or.inl ⟨by rfl, ?_⟩) (by assumption) ?_
                    rotate_left
                    · (intro wS hSw; have cz := cq _ hSw; have pz := hSw.2.2; go_simp; try with_reducible rfl)
                    change wpAnyH _ _ _ _ _ _ _ (Act.put _ (some 127) _) _
                    simp only [Act.put, List.setIfInBounds_toArray, List.set_cons_zero, List.set_cons_succ]
                    refine wpAnyH_take (i := 29) (v := ?_) rfl (by kernel_rfl) (by kernel_rfl) (by kernel_rfl) (fun _ _ _ h => h) (Or.inl ⟨by rfl, ?_⟩) (by assumption) ?_
                    rotate_left
                    · (intro wS hSw; have cz := cq _ hSw; have pz := hSw.2.2; go_simp; try with_reducible rfl)
                    change wpAnyH _ _ _ _ _ _ _ (Act.put _ (some 130) _) _
                    simp only [Act.put, List.setIfInBounds_toArray, List.set_cons_zero, List.set_cons_succ]
                    refine wpAnyH_take (i := 30) (v := ?_) rfl (by kernel_rfl) (by kernel_rfl) (by kernel_rfl) (fun _ _ _ h => h) (Or.inl ⟨by rfl, ?_⟩) (by assumption) ?_
                    rotate_left
                    · (intro wS hSw; have cz := cq _ hSw; have pz := hSw.2.2; go_simp; try with_reducible rfl)
                    change wpAnyH _ _ _ _ _ _ _ (Act.put _ (some 131) _) _
                    simp only [Act.put, List.setIfInBounds_toArray, List.set_cons_zero, List.set_cons_succ]
                    refine wpAnyH_take (i := 31) (v := ?_) rfl (by kernel_rfl) (by kernel_rfl) (by kernel_rfl) (fun _ _ _ h => h) (Or.inl ⟨by rfl, ?_⟩) (by assumption) ?_
                    rotate_left
                    · (intro wS hSw; have cz := cq _ hSw; have pz := hSw.2.2; go_simp; try with_reducible rfl)
                    change wpAnyH _ _ _ _ _ _ _ (Act.put _ (some 132) _) _
                    simp only [Act.put, List.setIfInBounds_toArray, List.set_cons_zero, List.set_cons_succ]
                    refine wpAnyH_ready (rs := [27]) (by kernel_rfl) (by simp) ?_
                    refine AllReadyH.cons rfl (fun K hK => ?_) AllReadyH.nil
                    go_simp
                    refine (CF.out _ BW.out).mono ?_
                    rintro e v2 ⟨rfl, hv2⟩
                    have BW' : Hid (Below W5.heap.size W5 v2) := BW.out.trans (hv2.mono BW.out.size)
                    clear hv2 BW
                    have BW := BW'
                    clear BW'
                    (try go_wp2_with (fail))
                    refine hK.out _ _ ?_ (fun hHeld => ?_)
                    · exact Cs.later BW.out qz
                    clear hK K
                    refine wpAnyH_take (i := 28) (v := ?_) rfl (by kernel_rfl) (by kernel_rfl) (by kernel_rfl) (fun _ _ _ h => h) (Or.inl ⟨by rfl, ?_⟩) (by assumption) ?_
                    rotate_left
                    · (intro wS hSw; have cz := cq _ hSw; have pz := hSw.2.2; go_simp; try with_reducible rfl)
                    change wpAnyH _ _ _ _ _ _ _ (Act.put _ (some 129) _) _
                    simp only [Act.put, List.setIfInBounds_toArray, List.set_cons_zero, List.set_cons_succ]
                    refine wpAnyH_ready (rs := [32]) (by kernel_rfl) (by simp) ?_
                    refine AllReadyH.cons rfl (fun K hK => ?_) AllReadyH.nil
                    go_simp
                    refine (CR.out _ BW.out).mono ?_
                    rintro e v3 ⟨rfl, hv3⟩
                    have BW' : Hid (Below W5.heap.size W5 v3) := BW.out.trans (hv3.mono BW.out.size)
                    clear hv3 BW
                    have BW := BW'
                    clear BW'
                    (try go_wp2_with (fail))
                    refine hK.out _ _ ?_ (fun hHeld => ?_)
                    · exact Cs.later BW.out qz
                    clear hK K
                    refine wpAnyH_take (i := 33) (v := ?_) rfl (by kernel_rfl) (by kernel_rfl) (by kernel_rfl) (fun _ _ _ h => h) (Or.inl ⟨by rfl, ?_⟩) (by assumption) ?_
                    rotate_left
                    · (intro wS hSw; have cz := cq _ hSw; have pz := hSw.2.2; go_simp; try with_reducible rfl)
                    change wpAnyH _ _ _ _ _ _ _ (Act.put _ (some 134) _) _
                    simp only [Act.put, List.setIfInBounds_toArray, List.set_cons_zero, List.set_cons_succ]
                    refine wpAnyH_take (i := 34) (v := ?_) rfl (by kernel_rfl) (by kernel_rfl) (by kernel_rfl) (fun _ _ _ h => h) (Or.inl ⟨by rfl, ?_⟩) (by assumption) ?_
                    rotate_left
                    · (intro wS hSw; have cz := cq _ hSw; have pz := hSw.2.2; go_simp; try with_reducible rfl)
                    change wpAnyH _ _ _ _ _ _ _ (Act.put _ (some 135) _) _
                    simp only [Act.put, List.setIfInBounds_toArray, List.set_cons_zero, List.set_cons_succ]
                    refine wpAnyH_done (by kernel_rfl) ?_ _
                    refine NoPanic.normal ?_
                    go_wp2
                    go_roundw
                    case rel => exact ⟨1 + 1, by go_num, by omega, BW.out⟩
                    case measure => simp [intOf]
                  · rw [show ((2 : Nat) : Int) = 2 from rfl]
                    go_wp2
                    go_roundw
                    case rel => exact ⟨i + 1, by go_num, by omega, BT5⟩
                    case measure => simp [intOf]; omega
              · obtain rfl : i = zs.length := by omega
                go_wp2
                go_ret
                exact ⟨rfl, HBT.out.trans (BT5.mono HBT.out.size)⟩


end Go.Proofs.Ytpefjcgccbfgbaa.Bk
