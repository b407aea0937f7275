/-
  The statement MaskTells as a contract at this program. Conditions: none.
-/
import Derived.Test.YtcendnbeiifobaaDoorMT
namespace Go.Proofs.YtcendnbeiifobaaDoor.Mk
open Go.RowKit

set_option maxHeartbeats 4000000 in
set_option maxRecDepth 100000 in
theorem maskTells_any (a b node : Int) (w : World) :
    Calls Tryd.prog 3 #[.int .i64 a, .int .i64 b, .int .i64 node] w fun e w' => e = .returned (.bool true) ∧ Below w.heap.size w w' := by
  obtain ⟨x, hx⟩ : ∃ x, x = low a := ⟨_, rfl⟩
  obtain ⟨y, hy⟩ : ∃ y, y = low b := ⟨_, rfl⟩
  have x8 : x < 256 := by rw [hx]; exact low_lt a
  have y8 : y < 256 := by rw [hy]; exact low_lt b
  obtain ⟨i0, hi0⟩ : ∃ i0, i0 = hasB x node := ⟨_, rfl⟩
  obtain ⟨wi, hwi⟩ : ∃ wi, wi = withB x node := ⟨_, rfl⟩
  obtain ⟨wo, hwo⟩ : ∃ wo, wo = lessB x node := ⟨_, rfl⟩
  have wi8 : wi < 256 := by rw [hwi]; exact withB_lt x8 node
  have wo8 : wo < 256 := by rw [hwo]; exact lessB_lt x8 node
  obtain ⟨u, hu⟩ : ∃ u, u = underB x y := ⟨_, rfl⟩
  obtain ⟨o, ho⟩ : ∃ o, o = aheadB x y := ⟨_, rfl⟩
  obtain ⟨tx, htx⟩ : ∃ tx, tx = (⟨(textL x).toArray⟩ : ByteArray) := ⟨_, rfl⟩
  have IN : Hid (∀ n : Nat, node = n → n < 8 → (setL x).set n (.bool true) = setL wi ∧ (setL x).set n (.bool false) = setL wo ∧ tb x n = i0) := fun n hn h8 => by
    subst hn
    exact ⟨by rw [hwi]; exact set_with x8 h8, by rw [hwo]; exact set_less x8 h8, by rw [hi0]; exact (setB_on ⟨x, x8⟩ ⟨n, h8⟩).2.2⟩
  have OUT : Hid (¬ (0 ≤ node ∧ node < 8) → wi = x ∧ wo = x ∧ i0 = false) := fun h => by
    refine ⟨by rw [hwi, withB, bitN_out h, Nat.or_zero], ?_, by rw [hi0, has_out h]⟩
    rw [hwo, lessB, bitN_out h, Nat.sub_zero]
    exact (Nat.and_two_pow_sub_one_eq_mod x 8).trans (Nat.mod_eq_of_lt x8)
  have UN : Hid (undT x y 8 = u) := by rw [hu]; exact und_is x8 y8
  have A1 : Hid (∀ w, Calls Tryd.prog 8 #[.int .i64 a] w fun e w' => e = .returned (setV x) ∧ Below w.heap.size w w') := fun w => by rw [hx]; exact rof_v a w
  have A2 : Hid (∀ w, Calls Tryd.prog 8 #[.int .i64 b] w fun e w' => e = .returned (setV y) ∧ Below w.heap.size w w') := fun w => by rw [hy]; exact rof_v b w
  have C70 : Hid (∀ w, Calls Tryd.prog 11 #[.int .i64 a, .int .i64 node] w fun e w' => e = .returned (.bool i0) ∧ Below w.heap.size w w') := fun w => by
    rw [hi0, hx]; exact (has_is a node w).mono fun _ _ h => ⟨h.1, h.2 ▸ Below.refl _ _⟩
  have C76 : Hid (∀ w, Calls Tryd.prog 12 #[.int .i64 a, .int .i64 node] w fun e w' => e = .returned (.int .i64 wi) ∧ Below w.heap.size w w') := fun w => by
    rw [hwi, hx]; exact (with_is a node w).mono fun _ _ h => ⟨h.1, h.2 ▸ Below.refl _ _⟩
  have C78 : Hid (∀ w, Calls Tryd.prog 13 #[setV wi] w fun e w' => e = .returned (.int .i64 wi) ∧ Below w.heap.size w w') := fun w => by
    exact rmask_is wi wi8 w
  have C84 : Hid (∀ w, Calls Tryd.prog 14 #[.int .i64 a, .int .i64 node] w fun e w' => e = .returned (.int .i64 wo) ∧ Below w.heap.size w w') := fun w => by
    rw [hwo, hx]; exact (less_is a node w).mono fun _ _ h => ⟨h.1, h.2 ▸ Below.refl _ _⟩
  have C86 : Hid (∀ w, Calls Tryd.prog 13 #[setV wo] w fun e w' => e = .returned (.int .i64 wo) ∧ Below w.heap.size w w') := fun w => by
    exact rmask_is wo wo8 w
  have C91 : Hid (∀ w, Calls Tryd.prog 15 #[.int .i64 a] w fun e w' => e = .returned (.int .i64 (ndI x).length) ∧ Below w.heap.size w w') := fun w => by
    rw [hx, show (ndI (low a)).length = cnt (low a) from List.length_map _]; exact (count_is a w).mono fun _ _ h => ⟨h.1, h.2 ▸ Below.refl _ _⟩
  have C111 : Hid (∀ w, Calls Tryd.prog 16 #[.int .i64 a, .int .i64 b] w fun e w' => e = .returned (.bool u) ∧ Below w.heap.size w w') := fun w => by
    rw [hu, hx, hy]; exact (under_is a b w).mono fun _ _ h => ⟨h.1, h.2 ▸ Below.refl _ _⟩
  have C118 : Hid (∀ w, Calls Tryd.prog 17 #[.int .i64 a, .int .i64 b] w fun e w' => e = .returned (.bool o) ∧ Below w.heap.size w w') := fun w => by
    rw [ho, hx, hy]; exact (ahead_is a b w).mono fun _ _ h => ⟨h.1, h.2 ▸ Below.refl _ _⟩
  have C121 : Hid (∀ w, Calls Tryd.prog 18 #[.int .i64 a, .int .i64 b] w fun e w' => e = .returned (.bool o) ∧ Below w.heap.size w w') := fun w => by
    rw [ho, hx, hy]; exact rahead_is a b w
  have C132 : Hid (∀ w, Calls Tryd.prog 21 #[.int .i64 a] w fun e w' => e = .returned (.string tx) ∧ Below w.heap.size w w') := fun w => by
    rw [htx, hx]; exact text_is a w
  have C134 : Hid (∀ w, Calls Tryd.prog 22 #[.int .i64 a] w fun e w' => e = .returned (.string tx) ∧ Below w.heap.size w w') := fun w => by
    rw [htx, hx]; exact rtext_is a w
  have C126 : Hid (∀ w, Calls Tryd.prog 20 #[.int .i64 a, .int .i64 9] w fun e w' => ∃ v, e = .returned v ∧ RdI w' v (ndI x) ∧ Below w.heap.size w w') := fun w => by
    have := lawnodes_read a 9 w
    rw [List.take_of_length_le (by rw [show (ndI (low a)).length = cnt (low a) from List.length_map _]; have := cnt_le (low a); omega), ← hx] at this
    exact this
  have C128 : Hid (∀ w u v, RdI w u (ndI x) → RdI w v (ndI x) → Calls Tryd.prog 19 #[u, v] w fun e w' => e = .returned (.bool true) ∧ Below w.heap.size w w') := fun w u v h1 h2 => by
    have := same_is w h1 h2
    rw [decide_eq_true rfl] at this
    exact this
  have C56 : Hid (∀ w, Calls Tryd.prog 9 #[setV x] w fun e w' => ∃ v, e = .returned v ∧ RdI w' v (ndI x) ∧ Below w.heap.size w w') := rnodes_read x
  obtain ⟨l0, hl0⟩ : ∃ l0, l0 = leastB x := ⟨_, rfl⟩
  obtain ⟨g, hg⟩ : ∃ g, g = (x != 0) := ⟨_, rfl⟩
  have C59 : Hid (∀ w, Calls Tryd.prog 10 #[.int .i64 a] w fun e w' => e = .returned (.tuple #[.int .i64 l0, .bool g]) ∧ Below w.heap.size w w') := fun w => by
    rw [hl0, hg, hx]; exact (least_is a w).mono fun _ _ h => ⟨h.1, h.2 ▸ Below.refl _ _⟩
  have WAY : Hid ((g = false ∧ l0 = 0 ∧ (ndI x).length = 0) ∨ (g = true ∧ 0 < (ndI x).length ∧ (ndI x)[0]? = some (l0 : Int))) := by
    show _ ∨ _
    by_cases e : x = 0
    · left
      subst e
      exact ⟨hg, hl0, rfl⟩
    · right
      cases hn : nd x with
      | nil => exact absurd hn (nd_some ⟨x, x8⟩ e)
      | cons h r =>
        refine ⟨by rw [hg]; simp [e], by rw [ndI, hn]; simp, ?_⟩
        rw [ndI, hn, hl0, leastB, hn]
        rfl
  have NL : Hid ((ndI x).length ≤ 8) := by show (ndI x).length ≤ 8; rw [show (ndI x).length = cnt x from List.length_map _]; exact cnt_le x
  clear hx hy hi0 hwi hwo hu ho htx hl0 hg x8 y8 wi8 wo8
  generalize ndI x = zs at *
  go_enter Tryd.func3, Tryd.ntmps3
  go_wp2_with (fail)
  refine (first_is _).mono ?_
  rintro e w1 ⟨rfl, hw1⟩
  go_wp2_with (fail)
  refine (A1.out _).mono ?_
  rintro e w2 ⟨rfl, hw2⟩
  go_wp2_with (fail)
  refine (A2.out _).mono ?_
  rintro e w3 ⟨rfl, hw3⟩
  have HB2 := hw1.trans (hw2.mono hw1.size)
  have HB3 : Below w.heap.size w w3 := HB2.trans (hw3.mono HB2.size)
  have hs3 := HB3.size
  clear A1 A2 hw1 hw2 hw3 HB2
  go_upto_region 4 with (fail)
  have qp : Cs ((w3.alloc (.cells #[.bool (tb x 0), .bool (tb x 1), .bool (tb x 2), .bool (tb x 3), .bool (tb x 4), .bool (tb x 5), .bool (tb x 6), .bool (tb x 7)] 24)).alloc (.cells #[.bool (tb y 0), .bool (tb y 1), .bool (tb y 2), .bool (tb y 3), .bool (tb y 4), .bool (tb y 5), .bool (tb y 6), .bool (tb y 7)] 24)) w3.heap.size (setL x) := Cs.alloc (Cs.new _ _ _ _ rfl) _
  have qq : Cs ((w3.alloc (.cells #[.bool (tb x 0), .bool (tb x 1), .bool (tb x 2), .bool (tb x 3), .bool (tb x 4), .bool (tb x 5), .bool (tb x 6), .bool (tb x 7)] 24)).alloc (.cells #[.bool (tb y 0), .bool (tb y 1), .bool (tb y 2), .bool (tb y 3), .bool (tb y 4), .bool (tb y 5), .bool (tb y 6), .bool (tb y 7)] 24)) (w3.heap.size + 1) (setL y) := Cs.new _ _ _ _ (by simp)
  have HB4 : Below w.heap.size w ((w3.alloc (.cells #[.bool (tb x 0), .bool (tb x 1), .bool (tb x 2), .bool (tb x 3), .bool (tb x 4), .bool (tb x 5), .bool (tb x 6), .bool (tb x 7)] 24)).alloc (.cells #[.bool (tb y 0), .bool (tb y 1), .bool (tb y 2), .bool (tb y 3), .bool (tb y 4), .bool (tb y 5), .bool (tb y 6), .bool (tb y 7)] 24)) := by go_grown
  have hz4 : ((w3.alloc (.cells #[.bool (tb x 0), .bool (tb x 1), .bool (tb x 2), .bool (tb x 3), .bool (tb x 4), .bool (tb x 5), .bool (tb x 6), .bool (tb x 7)] 24)).alloc (.cells #[.bool (tb y 0), .bool (tb y 1), .bool (tb y 2), .bool (tb y 3), .bool (tb y 4), .bool (tb y 5), .bool (tb y 6), .bool (tb y 7)] 24)).heap.size = w3.heap.size + 1 + 1 := by simp
  generalize (w3.alloc (.cells #[.bool (tb x 0), .bool (tb x 1), .bool (tb x 2), .bool (tb x 3), .bool (tb x 4), .bool (tb x 5), .bool (tb x 6), .bool (tb x 7)] 24)).alloc (.cells #[.bool (tb y 0), .bool (tb y 1), .bool (tb y 2), .bool (tb y 3), .bool (tb y 4), .bool (tb y 5), .bool (tb y 6), .bool (tb y 7)] 24) = w4 at *
  obtain ⟨p, hp⟩ : ∃ p, p = w3.heap.size := ⟨_, rfl⟩
  obtain ⟨q, hq⟩ : ∃ q, q = w3.heap.size + 1 := ⟨_, rfl⟩
  rw [← hp] at qp
  rw [← hq] at qq
  go_cut [0, 1, 2, 7, 8, 9, 10, 11] (fun s0 s1 s2 s7 s8 s9 s10 s11 wc => ∃ r s : Nat, s0 = .int .i64 a ∧ s1 = .int .i64 b ∧ s2 = .int .i64 node ∧ s7 = .pointer (some ⟨p, 0, none⟩) ∧ s8 = .pointer (some ⟨q, 0, none⟩) ∧ s9 = .pointer (some ⟨r, 0, none⟩) ∧ s10 = .pointer (some ⟨s, 0, none⟩) ∧ s11 = .bool true ∧ Cs wc p (setL x) ∧ Cs wc q (setL y) ∧ Cs wc r (setL x) ∧ Cs wc s (setL x) ∧ Hid (p < r ∧ q < r ∧ r ≠ s ∧ p < s ∧ q < s ∧ w.heap.size ≤ r ∧ w.heap.size ≤ s) ∧ Below w.heap.size w wc)
  case first =>
    clear C70 C76 C78 C84 C86 C91 C111 C118 C121 C132 C134 C126 C128 C56 C59 WAY NL IN OUT UN HB3
    rw [← hp] at hq hz4 ⊢
    rw [← hq] at hz4 ⊢
    have p0 := qp.1 0 _ rfl
    have p1 := qp.1 1 _ rfl
    have p2 := qp.1 2 _ rfl
    have p3 := qp.1 3 _ rfl
    have p4 := qp.1 4 _ rfl
    have p5 := qp.1 5 _ rfl
    have p6 := qp.1 6 _ rfl
    have p7 := qp.1 7 _ rfl
    have pz := qp.2.2
    have qz := qq.2.2
    have pz1 : p < w4.heap.size + 1 := by omega
    have qz1 : q < w4.heap.size + 1 := by omega
    clear hp hq hz4 hs3
    have hr3 := HB4.size
    have hr4 : w.heap.size ≤ w4.heap.size + 1 := by omega
    have k1 : Cs ((w4.alloc (.cells #[.bool (tb x 0), .bool (tb x 1), .bool (tb x 2), .bool (tb x 3), .bool (tb x 4), .bool (tb x 5), .bool (tb x 6), .bool (tb x 7)] 24)).alloc (.cells #[.bool (tb x 0), .bool (tb x 1), .bool (tb x 2), .bool (tb x 3), .bool (tb x 4), .bool (tb x 5), .bool (tb x 6), .bool (tb x 7)] 24)).drew w4.heap.size (setL x) := Cs.drew (Cs.alloc (Cs.new _ _ _ _ rfl) _)
    have k2 : Cs ((w4.alloc (.cells #[.bool (tb x 0), .bool (tb x 1), .bool (tb x 2), .bool (tb x 3), .bool (tb x 4), .bool (tb x 5), .bool (tb x 6), .bool (tb x 7)] 24)).alloc (.cells #[.bool (tb x 0), .bool (tb x 1), .bool (tb x 2), .bool (tb x 3), .bool (tb x 4), .bool (tb x 5), .bool (tb x 6), .bool (tb x 7)] 24)).drew (w4.heap.size + 1) (setL x) := Cs.drew (Cs.new _ _ _ _ (by simp))
    have k3 : Cs ((w4.alloc (.cells #[.bool (tb x 0), .bool (tb x 1), .bool (tb x 2), .bool (tb x 3), .bool (tb x 4), .bool (tb x 5), .bool (tb x 6), .bool (tb x 7)] 24)).alloc (.cells #[.bool (tb x 0), .bool (tb x 1), .bool (tb x 2), .bool (tb x 3), .bool (tb x 4), .bool (tb x 5), .bool (tb x 6), .bool (tb x 7)] 24)).drew p (setL x) := Cs.drew ((qp.alloc _).alloc _)
    have k4 : Cs ((w4.alloc (.cells #[.bool (tb x 0), .bool (tb x 1), .bool (tb x 2), .bool (tb x 3), .bool (tb x 4), .bool (tb x 5), .bool (tb x 6), .bool (tb x 7)] 24)).alloc (.cells #[.bool (tb x 0), .bool (tb x 1), .bool (tb x 2), .bool (tb x 3), .bool (tb x 4), .bool (tb x 5), .bool (tb x 6), .bool (tb x 7)] 24)).drew q (setL y) := Cs.drew ((qq.alloc _).alloc _)
    have k5 : Below w.heap.size w ((w4.alloc (.cells #[.bool (tb x 0), .bool (tb x 1), .bool (tb x 2), .bool (tb x 3), .bool (tb x 4), .bool (tb x 5), .bool (tb x 6), .bool (tb x 7)] 24)).alloc (.cells #[.bool (tb x 0), .bool (tb x 1), .bool (tb x 2), .bool (tb x 3), .bool (tb x 4), .bool (tb x 5), .bool (tb x 6), .bool (tb x 7)] 24)).drew := Below.drew ((HB4.alloc HB4.size _).alloc (by have := HB4.size; simp; omega) _)
    go_region
    all_goals
      go_wp2_with (fail)
      go_meet
      case rel =>
        first
          | exact ⟨w4.heap.size + 1, w4.heap.size, rfl, rfl, rfl, rfl, rfl, rfl, rfl, rfl, k3, k4, k2, k1, ⟨pz1, qz1, by omega, pz, qz, hr4, hr3⟩, k5⟩
          | exact ⟨w4.heap.size, w4.heap.size + 1, rfl, rfl, rfl, rfl, rfl, rfl, rfl, rfl, k3, k4, k1, k2, ⟨pz, qz, by omega, pz1, qz1, hr3, hr4⟩, k5⟩
  case rest =>
    clear qp qq HB4 HB3 hz4 hp hq hs3
    obtain ⟨r, s, rfl, rfl, rfl, rfl, rfl, rfl, rfl, rfl, qp, qq, qr, qs, hd, HB⟩ := hcut
    obtain ⟨z, hz⟩ : ∃ z, z = decide (0 ≤ node ∧ node < 8) := ⟨_, rfl⟩
    have Z1 : Hid (z = true → 0 ≤ node ∧ node < 8) := fun h => of_decide_eq_true (hz ▸ h)
    have Z0 : Hid (z = false → ¬ (0 ≤ node ∧ node < 8)) := fun h => of_decide_eq_false (hz ▸ h)
    go_upto_region 6 with (fail)
    go_cut [0, 1, 2, 7, 8, 9, 10, 11, 12, 31] (fun s0 s1 s2 s7 s8 s9 s10 s11 s12 s31 wc => s0 = .int .i64 a ∧ s1 = .int .i64 b ∧ s2 = .int .i64 node ∧ s7 = .pointer (some ⟨p, 0, none⟩) ∧ s8 = .pointer (some ⟨q, 0, none⟩) ∧ s9 = .pointer (some ⟨r, 0, none⟩) ∧ s10 = .pointer (some ⟨s, 0, none⟩) ∧ s11 = .bool true ∧ s12 = .bool false ∧ s31 = .bool z ∧ Cs wc p (setL x) ∧ Cs wc q (setL y) ∧ Cs wc r (setL x) ∧ Cs wc s (setL x) ∧ Below w.heap.size w wc)
    case first =>
      clear C70 C76 C78 C84 C86 C91 C111 C118 C121 C132 C134 C126 C128 C56 C59 WAY NL UN IN OUT hd
      have HZ : Hid (z = decide (0 ≤ node ∧ node < 8)) := hz
      clear hz Z1 Z0
      by_cases h1 : 0 ≤ node
      · by_cases h2 : node < 8
        · have E : Hid (z = true) := HZ.out.trans (decide_eq_true ⟨h1, h2⟩)
          go_wp2_with (fail)
          go_meet
          case rel => exact ⟨rfl, rfl, rfl, rfl, rfl, rfl, rfl, rfl, rfl, by rw [E.out], qp, qq, qr, qs, HB⟩
        · have E : Hid (z = false) := HZ.out.trans (decide_eq_false fun h => h2 h.2)
          go_wp2_with (fail)
          go_meet
          case rel => exact ⟨rfl, rfl, rfl, rfl, rfl, rfl, rfl, rfl, rfl, by first | rw [E.out] | (rw [E.out, decide_eq_false (by omega)]), qp, qq, qr, qs, HB⟩
      · have E : Hid (z = false) := HZ.out.trans (decide_eq_false fun h => h1 h.1)
        go_wp2_with (fail)
        go_meet
        case rel => exact ⟨rfl, rfl, rfl, rfl, rfl, rfl, rfl, rfl, rfl, by rw [E.out], qp, qq, qr, qs, HB⟩
    case rest =>
    clear qp qq qr qs HB hz
    obtain ⟨rfl, rfl, rfl, rfl, rfl, rfl, rfl, rfl, rfl, rfl, qp, qq, qr, qs, HB⟩ := hcut
    go_upto_if 31 with (fail)
    go_cut [0, 1, 2, 7, 8, 9, 10, 11, 12] (fun s0 s1 s2 s7 s8 s9 s10 s11 s12 wc => s0 = .int .i64 a ∧ s1 = .int .i64 b ∧ s2 = .int .i64 node ∧ s7 = .pointer (some ⟨p, 0, none⟩) ∧ s8 = .pointer (some ⟨q, 0, none⟩) ∧ s9 = .pointer (some ⟨r, 0, none⟩) ∧ s10 = .pointer (some ⟨s, 0, none⟩) ∧ s11 = .bool true ∧ s12 = .bool i0 ∧ Cs wc p (setL x) ∧ Cs wc q (setL y) ∧ Cs wc r (setL wi) ∧ Cs wc s (setL wo) ∧ Below w.heap.size w wc)
    case first =>
      clear C70 C76 C78 C84 C86 C91 C111 C118 C121 C132 C134 C126 C128 C56 C59 WAY NL UN
      obtain ⟨d1, d2, d3, d4, d5, d6, d7⟩ := hd.out
      cases z with
      | true =>
        have h := Z1.out rfl
        obtain ⟨n, hn⟩ : ∃ n : Nat, node = n := ⟨node.toNat, by omega⟩
        have n8 : n < 8 := by omega
        obtain ⟨I1, I2, I3⟩ := IN.out n hn n8
        have h1 : (0 : Int) ≤ (n : Int) := by omega
        have h2 : (n : Int) < 8 := by omega
        have cp := qp.1 n _ (setL_at x n8)
        rw [I3] at cp
        have cr := qr.1 n _ (setL_at x n8)
        have fr := qr.2.1 n n8
        have cs := qs.1 n _ (setL_at x n8)
        have fs := qs.2.1 n n8
        have m1 := (qr.set n (.bool true) n8).beside (b' := s) n (.bool false) d3
        rw [I1] at m1
        have m2 := (qs.beside (b' := r) n (.bool true) (Ne.symm d3)).set n (.bool false) n8
        rw [I2] at m2
        have m3 := (qp.beside (b' := r) n (.bool true) (by omega)).beside (b' := s) n (.bool false) (by omega)
        have m4 := (qq.beside (b' := r) n (.bool true) (by omega)).beside (b' := s) n (.bool false) (by omega)
        have m5 := (HB.setCell (p := ⟨r, n, none⟩) d6 (.bool true)).setCell (p := ⟨s, n, none⟩) d7 (.bool false)
        have J3 : Hid (tb x n = i0) := I3
        clear IN OUT I1 I2 I3 h qp qq qr qs hd Z1 Z0
        subst hn
        go_wp2_with (fail)
        go_meet
        case rel => exact ⟨rfl, rfl, rfl, rfl, rfl, rfl, rfl, rfl, rfl, m3, m4, m1, m2, m5⟩
      | false =>
        obtain ⟨O1, O2, O3⟩ := OUT.out (Z0.out rfl)
        have m1 := qr
        rw [← O1] at m1
        have m2 := qs
        rw [← O2] at m2
        have P3 : Hid (i0 = false) := O3
        clear IN OUT O1 O2 O3 Z1 Z0
        go_wp2_with (fail)
        go_meet
        case rel => exact ⟨rfl, rfl, rfl, rfl, rfl, rfl, rfl, rfl, by rw [P3.out], qp, qq, m1, m2, HB⟩
    case rest =>
      clear qp qq qr qs HB IN OUT Z1 Z0 hd
      obtain ⟨rfl, rfl, rfl, rfl, rfl, rfl, rfl, rfl, rfl, qp, qq, qr, qs, HB⟩ := hcut
      go_wp2
      go_loopw [11, 39] (fun st f wr => ∃ j : Nat, j ≤ 8 ∧ st = .bool (undT x y j) ∧ f = .int .i64 j ∧ wr = wc) (fun _ f _ => 8 - (intOf f).toNat)
      case atStart => exact ⟨0, by omega, rfl, rfl, rfl⟩
      case round =>
        obtain ⟨j, jl, rfl, rfl, hwr⟩ := hrel
        rw [hwr]
        clear hwr
        by_cases j8 : j < 8
        · have j0 : (0 : Int) ≤ (j : Int) := by omega
          have j1 : (j : Int) < 8 := by omega
          have cp := qp.1 j _ (setL_at x j8)
          have cq := qq.1 j _ (setL_at y j8)
          have HU : Hid (undT x y (j + 1) = (undT x y j && (!tb x j || tb y j))) := undT_succ x y j
          clear C70 C76 C78 C84 C86 C91 C111 C118 C121 C132 C134 C126 C128 C56 C59 WAY NL UN qp qq qr qs HB
          generalize undT x y j = t1 at *
          generalize tb x j = t2 at *
          generalize tb y j = t3 at *
          cases t1 <;> cases t2 <;> cases t3
          all_goals
            go_wp2
            go_roundw
            case rel => exact ⟨j + 1, by omega, by rw [HU.out]; rfl, by go_num, trivial⟩
            case measure => simp [intOf]; omega
        · obtain rfl : j = 8 := by omega
          rw [UN.out]
          have p0 := qp.1 0 _ rfl
          have p1 := qp.1 1 _ rfl
          have p2 := qp.1 2 _ rfl
          have p3 := qp.1 3 _ rfl
          have p4 := qp.1 4 _ rfl
          have p5 := qp.1 5 _ rfl
          have p6 := qp.1 6 _ rfl
          have p7 := qp.1 7 _ rfl
          go_wp2_with (fail)
          refine (C56.out _).mono ?_
          rintro e w6 ⟨v, rfl, hv, hw6⟩
          have HB6 := HB.trans (hw6.mono HB.size)
          have r6 := Cs.later hw6 qr
          have s6 := Cs.later hw6 qs
          obtain ⟨la, lcap, rfl, l1, l2, -⟩ := id hv
          have HV6 : Hid (RdI w6 (.slice la zs.length lcap) zs) := hv
          clear qp qq qr qs HB hw6 hv p0 p1 p2 p3 p4 p5 p6 p7 C56 jl j8
          go_wp2_with (fail)
          refine (C59.out _).mono ?_
          rintro e w7 ⟨rfl, hw7⟩
          have HB7 := HB6.trans (hw7.mono HB6.size)
          have qr := Cs.later hw7 r6
          have qs := Cs.later hw7 s6
          have HV7 : Hid (RdI w7 (.slice la zs.length lcap) zs) := HV6.out.later hw7
          clear HB6 r6 s6 HV6 hw7 C59
          rcases WAY.out with ⟨rfl, rfl, z0⟩ | ⟨rfl, z0, z1⟩
          · obtain rfl : zs = [] := List.length_eq_zero_iff.1 z0
            have HV8 : Hid (RdI w7 (.slice la 0 lcap) []) := HV7.out
            have D91 : Hid (∀ w, Calls Tryd.prog 15 #[.int .i64 a] w fun e w' => e = .returned (.int .i64 0) ∧ Below w.heap.size w w') := C91.out
            clear WAY z0 HV7 C91 NL
            go_upto_region 19 with (fail)
            have F_0 : Hid (Cs _ r (setL wi) ∧ Cs _ s (setL wo) ∧ RdI _ (.slice la 0 lcap) [] ∧ Below w.heap.size w _) := ⟨Cs.drew qr, Cs.drew qs, HV8.out.later (Below.drew (Below.refl _ _)), Below.drew HB7⟩
            refine wp_region_noPanic ?_
            refine wp_region_held_drew (S := fun w' => Cs w' r (setL wi) ∧ Cs w' s (setL wo)) (by kernel_rfl) ?_ (fun hHeld => ?_)
            · exact ⟨F_0.out.1, F_0.out.2.1⟩
            refine wpAnyH_take (i := 0) (v := ?_) rfl (by kernel_rfl) (by kernel_rfl) (by kernel_rfl) (fun _ _ _ h => h) (Or.inl ⟨by rfl, ?_⟩) (by assumption) ?_
            rotate_left
            · (intro wS hSw; have r0 := hSw.1.1 0 _ rfl; have r1 := hSw.1.1 1 _ rfl; have r2 := hSw.1.1 2 _ rfl; have r3 := hSw.1.1 3 _ rfl; have r4 := hSw.1.1 4 _ rfl; have r5 := hSw.1.1 5 _ rfl; have r6 := hSw.1.1 6 _ rfl; have r7 := hSw.1.1 7 _ rfl; have s0 := hSw.2.1 0 _ rfl; have s1 := hSw.2.1 1 _ rfl; have s2 := hSw.2.1 2 _ rfl; have s3 := hSw.2.1 3 _ rfl; have s4 := hSw.2.1 4 _ rfl; have s5 := hSw.2.1 5 _ rfl; have s6 := hSw.2.1 6 _ rfl; have s7 := hSw.2.1 7 _ rfl; go_simp; try with_reducible rfl)
            change wpAnyH _ _ _ _ _ _ _ (Act.put _ (some 68) _) _
            simp only [Act.put, List.setIfInBounds_toArray, List.set_cons_zero, List.set_cons_succ]
            refine wpAnyH_take (i := 1) (v := ?_) rfl (by kernel_rfl) (by kernel_rfl) (by kernel_rfl) (fun _ _ _ h => h) (Or.inl ⟨by rfl, ?_⟩) (by assumption) ?_
            rotate_left
            · (intro wS hSw; have r0 := hSw.1.1 0 _ rfl; have r1 := hSw.1.1 1 _ rfl; have r2 := hSw.1.1 2 _ rfl; have r3 := hSw.1.1 3 _ rfl; have r4 := hSw.1.1 4 _ rfl; have r5 := hSw.1.1 5 _ rfl; have r6 := hSw.1.1 6 _ rfl; have r7 := hSw.1.1 7 _ rfl; have s0 := hSw.2.1 0 _ rfl; have s1 := hSw.2.1 1 _ rfl; have s2 := hSw.2.1 2 _ rfl; have s3 := hSw.2.1 3 _ rfl; have s4 := hSw.2.1 4 _ rfl; have s5 := hSw.2.1 5 _ rfl; have s6 := hSw.2.1 6 _ rfl; have s7 := hSw.2.1 7 _ rfl; go_simp; try with_reducible rfl)
            change wpAnyH _ _ _ _ _ _ _ (Act.put _ (some 69) _) _
            simp only [Act.put, List.setIfInBounds_toArray, List.set_cons_zero, List.set_cons_succ]
            refine wpAnyH_take (i := 3) (v := ?_) rfl (by kernel_rfl) (by kernel_rfl) (by kernel_rfl) (fun _ _ _ h => h) (Or.inl ⟨by rfl, ?_⟩) (by assumption) ?_
            rotate_left
            · (intro wS hSw; have r0 := hSw.1.1 0 _ rfl; have r1 := hSw.1.1 1 _ rfl; have r2 := hSw.1.1 2 _ rfl; have r3 := hSw.1.1 3 _ rfl; have r4 := hSw.1.1 4 _ rfl; have r5 := hSw.1.1 5 _ rfl; have r6 := hSw.1.1 6 _ rfl; have r7 := hSw.1.1 7 _ rfl; have s0 := hSw.2.1 0 _ rfl; have s1 := hSw.2.1 1 _ rfl; have s2 := hSw.2.1 2 _ rfl; have s3 := hSw.2.1 3 _ rfl; have s4 := hSw.2.1 4 _ rfl; have s5 := hSw.2.1 5 _ rfl; have s6 := hSw.2.1 6 _ rfl; have s7 := hSw.2.1 7 _ rfl; go_simp; try with_reducible rfl)
            change wpAnyH _ _ _ _ _ _ _ (Act.put _ (some 71) _) _
            simp only [Act.put, List.setIfInBounds_toArray, List.set_cons_zero, List.set_cons_succ]
            refine wpAnyH_ready (rs := [2]) (by kernel_rfl) (by simp) ?_
            refine AllReadyH.cons rfl (fun K hK => ?_) AllReadyH.nil
            go_simp
            refine (C70.out _).mono ?_
            rintro e v1 ⟨rfl, hv1⟩
            have F_1 : Hid (Cs v1 r (setL wi) ∧ Cs v1 s (setL wo) ∧ RdI v1 (.slice la 0 lcap) [] ∧ Below w.heap.size w v1) := ⟨Cs.later hv1 F_0.out.1, Cs.later hv1 F_0.out.2.1, F_0.out.2.2.1.later hv1, F_0.out.2.2.2.trans (hv1.mono F_0.out.2.2.2.size)⟩
            clear hv1 F_0
            (try go_wp2_with (fail))
            refine hK.out _ _ ?_ (fun hHeld => ?_)
            · exact ⟨F_1.out.1, F_1.out.2.1⟩
            clear hK K
            refine wpAnyH_take (i := 4) (v := ?_) rfl (by kernel_rfl) (by kernel_rfl) (by kernel_rfl) (fun _ _ _ h => h) (Or.inl ⟨by rfl, ?_⟩) (by assumption) ?_
            rotate_left
            · (intro wS hSw; have r0 := hSw.1.1 0 _ rfl; have r1 := hSw.1.1 1 _ rfl; have r2 := hSw.1.1 2 _ rfl; have r3 := hSw.1.1 3 _ rfl; have r4 := hSw.1.1 4 _ rfl; have r5 := hSw.1.1 5 _ rfl; have r6 := hSw.1.1 6 _ rfl; have r7 := hSw.1.1 7 _ rfl; have s0 := hSw.2.1 0 _ rfl; have s1 := hSw.2.1 1 _ rfl; have s2 := hSw.2.1 2 _ rfl; have s3 := hSw.2.1 3 _ rfl; have s4 := hSw.2.1 4 _ rfl; have s5 := hSw.2.1 5 _ rfl; have s6 := hSw.2.1 6 _ rfl; have s7 := hSw.2.1 7 _ rfl; go_simp; try with_reducible rfl)
            change wpAnyH _ _ _ _ _ _ _ (Act.put _ (some 72) _) _
            simp only [Act.put, List.setIfInBounds_toArray, List.set_cons_zero, List.set_cons_succ]
            refine wpAnyH_take (i := 5) (v := ?_) rfl (by kernel_rfl) (by kernel_rfl) (by kernel_rfl) (fun _ _ _ h => h) (Or.inl ⟨by rfl, ?_⟩) (by assumption) ?_
            rotate_left
            · (intro wS hSw; have r0 := hSw.1.1 0 _ rfl; have r1 := hSw.1.1 1 _ rfl; have r2 := hSw.1.1 2 _ rfl; have r3 := hSw.1.1 3 _ rfl; have r4 := hSw.1.1 4 _ rfl; have r5 := hSw.1.1 5 _ rfl; have r6 := hSw.1.1 6 _ rfl; have r7 := hSw.1.1 7 _ rfl; have s0 := hSw.2.1 0 _ rfl; have s1 := hSw.2.1 1 _ rfl; have s2 := hSw.2.1 2 _ rfl; have s3 := hSw.2.1 3 _ rfl; have s4 := hSw.2.1 4 _ rfl; have s5 := hSw.2.1 5 _ rfl; have s6 := hSw.2.1 6 _ rfl; have s7 := hSw.2.1 7 _ rfl; go_simp; try with_reducible rfl)
            change wpAnyH _ _ _ _ _ _ _ (Act.put _ (some 73) _) _
            simp only [Act.put, List.setIfInBounds_toArray, List.set_cons_zero, List.set_cons_succ]
            refine wpAnyH_take (i := 6) (v := ?_) rfl (by kernel_rfl) (by kernel_rfl) (by kernel_rfl) (fun _ _ _ h => h) (Or.inl ⟨by rfl, ?_⟩) (by assumption) ?_
            rotate_left
            · (intro wS hSw; have r0 := hSw.1.1 0 _ rfl; have r1 := hSw.1.1 1 _ rfl; have r2 := hSw.1.1 2 _ rfl; have r3 := hSw.1.1 3 _ rfl; have r4 := hSw.1.1 4 _ rfl; have r5 := hSw.1.1 5 _ rfl; have r6 := hSw.1.1 6 _ rfl; have r7 := hSw.1.1 7 _ rfl; have s0 := hSw.2.1 0 _ rfl; have s1 := hSw.2.1 1 _ rfl; have s2 := hSw.2.1 2 _ rfl; have s3 := hSw.2.1 3 _ rfl; have s4 := hSw.2.1 4 _ rfl; have s5 := hSw.2.1 5 _ rfl; have s6 := hSw.2.1 6 _ rfl; have s7 := hSw.2.1 7 _ rfl; go_simp; try with_reducible rfl)
            change wpAnyH _ _ _ _ _ _ _ (Act.put _ (some 74) _) _
            simp only [Act.put, List.setIfInBounds_toArray, List.set_cons_zero, List.set_cons_succ]
            refine wpAnyH_take (i := 7) (v := ?_) rfl (by kernel_rfl) (by kernel_rfl) (by kernel_rfl) (fun _ _ _ h => h) (Or.inl ⟨by rfl, ?_⟩) (by assumption) ?_
            rotate_left
            · (intro wS hSw; have r0 := hSw.1.1 0 _ rfl; have r1 := hSw.1.1 1 _ rfl; have r2 := hSw.1.1 2 _ rfl; have r3 := hSw.1.1 3 _ rfl; have r4 := hSw.1.1 4 _ rfl; have r5 := hSw.1.1 5 _ rfl; have r6 := hSw.1.1 6 _ rfl; have r7 := hSw.1.1 7 _ rfl; have s0 := hSw.2.1 0 _ rfl; have s1 := hSw.2.1 1 _ rfl; have s2 := hSw.2.1 2 _ rfl; have s3 := hSw.2.1 3 _ rfl; have s4 := hSw.2.1 4 _ rfl; have s5 := hSw.2.1 5 _ rfl; have s6 := hSw.2.1 6 _ rfl; have s7 := hSw.2.1 7 _ rfl; go_simp; try with_reducible rfl)
            change wpAnyH _ _ _ _ _ _ _ (Act.put _ (some 75) _) _
            simp only [Act.put, List.setIfInBounds_toArray, List.set_cons_zero, List.set_cons_succ]
            refine wpAnyH_take (i := 9) (v := ?_) rfl (by kernel_rfl) (by kernel_rfl) (by kernel_rfl) (fun _ _ _ h => h) (Or.inl ⟨by rfl, ?_⟩) (by assumption) ?_
            rotate_left
            · (intro wS hSw; have r0 := hSw.1.1 0 _ rfl; have r1 := hSw.1.1 1 _ rfl; have r2 := hSw.1.1 2 _ rfl; have r3 := hSw.1.1 3 _ rfl; have r4 := hSw.1.1 4 _ rfl; have r5 := hSw.1.1 5 _ rfl; have r6 := hSw.1.1 6 _ rfl; have r7 := hSw.1.1 7 _ rfl; have s0 := hSw.2.1 0 _ rfl; have s1 := hSw.2.1 1 _ rfl; have s2 := hSw.2.1 2 _ rfl; have s3 := hSw.2.1 3 _ rfl; have s4 := hSw.2.1 4 _ rfl; have s5 := hSw.2.1 5 _ rfl; have s6 := hSw.2.1 6 _ rfl; have s7 := hSw.2.1 7 _ rfl; go_simp; try with_reducible rfl)
            change wpAnyH _ _ _ _ _ _ _ (Act.put _ (some 77) _) _
            simp only [Act.put, List.setIfInBounds_toArray, List.set_cons_zero, List.set_cons_succ]
            refine wpAnyH_ready (rs := [8]) (by kernel_rfl) (by simp) ?_
            refine AllReadyH.cons rfl (fun K hK => ?_) AllReadyH.nil
            go_simp
            refine (C76.out _).mono ?_
            rintro e v2 ⟨rfl, hv2⟩
            have F_2 : Hid (Cs v2 r (setL wi) ∧ Cs v2 s (setL wo) ∧ RdI v2 (.slice la 0 lcap) [] ∧ Below w.heap.size w v2) := ⟨Cs.later hv2 F_1.out.1, Cs.later hv2 F_1.out.2.1, F_1.out.2.2.1.later hv2, F_1.out.2.2.2.trans (hv2.mono F_1.out.2.2.2.size)⟩
            clear hv2 F_1
            (try go_wp2_with (fail))
            refine hK.out _ _ ?_ (fun hHeld => ?_)
            · exact ⟨F_2.out.1, F_2.out.2.1⟩
            clear hK K
            refine wpAnyH_ready (rs := [10]) (by kernel_rfl) (by simp) ?_
            refine AllReadyH.cons rfl (fun K hK => ?_) AllReadyH.nil
            go_simp
            refine (C78.out _).mono ?_
            rintro e v3 ⟨rfl, hv3⟩
            have F_3 : Hid (Cs v3 r (setL wi) ∧ Cs v3 s (setL wo) ∧ RdI v3 (.slice la 0 lcap) [] ∧ Below w.heap.size w v3) := ⟨Cs.later hv3 F_2.out.1, Cs.later hv3 F_2.out.2.1, F_2.out.2.2.1.later hv3, F_2.out.2.2.2.trans (hv3.mono F_2.out.2.2.2.size)⟩
            clear hv3 F_2
            (try go_wp2_with (fail))
            refine hK.out _ _ ?_ (fun hHeld => ?_)
            · exact ⟨F_3.out.1, F_3.out.2.1⟩
            clear hK K
            refine wpAnyH_take (i := 11) (v := ?_) rfl (by kernel_rfl) (by kernel_rfl) (by kernel_rfl) (fun _ _ _ h => h) (Or.inl ⟨by rfl, ?_⟩) (by assumption) ?_
            rotate_left
            · (intro wS hSw; have r0 := hSw.1.1 0 _ rfl; have r1 := hSw.1.1 1 _ rfl; have r2 := hSw.1.1 2 _ rfl; have r3 := hSw.1.1 3 _ rfl; have r4 := hSw.1.1 4 _ rfl; have r5 := hSw.1.1 5 _ rfl; have r6 := hSw.1.1 6 _ rfl; have r7 := hSw.1.1 7 _ rfl; have s0 := hSw.2.1 0 _ rfl; have s1 := hSw.2.1 1 _ rfl; have s2 := hSw.2.1 2 _ rfl; have s3 := hSw.2.1 3 _ rfl; have s4 := hSw.2.1 4 _ rfl; have s5 := hSw.2.1 5 _ rfl; have s6 := hSw.2.1 6 _ rfl; have s7 := hSw.2.1 7 _ rfl; go_simp; try with_reducible rfl)
            change wpAnyH _ _ _ _ _ _ _ (Act.put _ (some 79) _) _
            simp only [Act.put, List.setIfInBounds_toArray, List.set_cons_zero, List.set_cons_succ]
            refine wpAnyH_take (i := 12) (v := ?_) rfl (by kernel_rfl) (by kernel_rfl) (by kernel_rfl) (fun _ _ _ h => h) (Or.inl ⟨by rfl, ?_⟩) (by assumption) ?_
            rotate_left
            · (intro wS hSw; have r0 := hSw.1.1 0 _ rfl; have r1 := hSw.1.1 1 _ rfl; have r2 := hSw.1.1 2 _ rfl; have r3 := hSw.1.1 3 _ rfl; have r4 := hSw.1.1 4 _ rfl; have r5 := hSw.1.1 5 _ rfl; have r6 := hSw.1.1 6 _ rfl; have r7 := hSw.1.1 7 _ rfl; have s0 := hSw.2.1 0 _ rfl; have s1 := hSw.2.1 1 _ rfl; have s2 := hSw.2.1 2 _ rfl; have s3 := hSw.2.1 3 _ rfl; have s4 := hSw.2.1 4 _ rfl; have s5 := hSw.2.1 5 _ rfl; have s6 := hSw.2.1 6 _ rfl; have s7 := hSw.2.1 7 _ rfl; go_simp; try with_reducible rfl)
            change wpAnyH _ _ _ _ _ _ _ (Act.put _ (some 80) _) _
            simp only [Act.put, List.setIfInBounds_toArray, List.set_cons_zero, List.set_cons_succ]
            refine wpAnyH_take (i := 13) (v := ?_) rfl (by kernel_rfl) (by kernel_rfl) (by kernel_rfl) (fun _ _ _ h => h) (Or.inl ⟨by rfl, ?_⟩) (by assumption) ?_
            rotate_left
            · (intro wS hSw; have r0 := hSw.1.1 0 _ rfl; have r1 := hSw.1.1 1 _ rfl; have r2 := hSw.1.1 2 _ rfl; have r3 := hSw.1.1 3 _ rfl; have r4 := hSw.1.1 4 _ rfl; have r5 := hSw.1.1 5 _ rfl; have r6 := hSw.1.1 6 _ rfl; have r7 := hSw.1.1 7 _ rfl; have s0 := hSw.2.1 0 _ rfl; have s1 := hSw.2.1 1 _ rfl; have s2 := hSw.2.1 2 _ rfl; have s3 := hSw.2.1 3 _ rfl; have s4 := hSw.2.1 4 _ rfl; have s5 := hSw.2.1 5 _ rfl; have s6 := hSw.2.1 6 _ rfl; have s7 := hSw.2.1 7 _ rfl; go_simp; try with_reducible rfl)
            change wpAnyH _ _ _ _ _ _ _ (Act.put _ (some 81) _) _
            simp only [Act.put, List.setIfInBounds_toArray, List.set_cons_zero, List.set_cons_succ]
            refine wpAnyH_take (i := 14) (v := ?_) rfl (by kernel_rfl) (by kernel_rfl) (by kernel_rfl) (fun _ _ _ h => h) (Or.inl ⟨by rfl, ?_⟩) (by assumption) ?_
            rotate_left
            · (intro wS hSw; have r0 := hSw.1.1 0 _ rfl; have r1 := hSw.1.1 1 _ rfl; have r2 := hSw.1.1 2 _ rfl; have r3 := hSw.1.1 3 _ rfl; have r4 := hSw.1.1 4 _ rfl; have r5 := hSw.1.1 5 _ rfl; have r6 := hSw.1.1 6 _ rfl; have r7 := hSw.1.1 7 _ rfl; have s0 := hSw.2.1 0 _ rfl; have s1 := hSw.2.1 1 _ rfl; have s2 := hSw.2.1 2 _ rfl; have s3 := hSw.2.1 3 _ rfl; have s4 := hSw.2.1 4 _ rfl; have s5 := hSw.2.1 5 _ rfl; have s6 := hSw.2.1 6 _ rfl; have s7 := hSw.2.1 7 _ rfl; go_simp; try with_reducible rfl)
            change wpAnyH _ _ _ _ _ _ _ (Act.put _ (some 82) _) _
            simp only [Act.put, List.setIfInBounds_toArray, List.set_cons_zero, List.set_cons_succ]
            refine wpAnyH_take (i := 15) (v := ?_) rfl (by kernel_rfl) (by kernel_rfl) (by kernel_rfl) (fun _ _ _ h => h) (Or.inl ⟨by rfl, ?_⟩) (by assumption) ?_
            rotate_left
            · (intro wS hSw; have r0 := hSw.1.1 0 _ rfl; have r1 := hSw.1.1 1 _ rfl; have r2 := hSw.1.1 2 _ rfl; have r3 := hSw.1.1 3 _ rfl; have r4 := hSw.1.1 4 _ rfl; have r5 := hSw.1.1 5 _ rfl; have r6 := hSw.1.1 6 _ rfl; have r7 := hSw.1.1 7 _ rfl; have s0 := hSw.2.1 0 _ rfl; have s1 := hSw.2.1 1 _ rfl; have s2 := hSw.2.1 2 _ rfl; have s3 := hSw.2.1 3 _ rfl; have s4 := hSw.2.1 4 _ rfl; have s5 := hSw.2.1 5 _ rfl; have s6 := hSw.2.1 6 _ rfl; have s7 := hSw.2.1 7 _ rfl; go_simp; try with_reducible rfl)
            change wpAnyH _ _ _ _ _ _ _ (Act.put _ (some 83) _) _
            simp only [Act.put, List.setIfInBounds_toArray, List.set_cons_zero, List.set_cons_succ]
            refine wpAnyH_take (i := 17) (v := ?_) rfl (by kernel_rfl) (by kernel_rfl) (by kernel_rfl) (fun _ _ _ h => h) (Or.inl ⟨by rfl, ?_⟩) (by assumption) ?_
            rotate_left
            · (intro wS hSw; have r0 := hSw.1.1 0 _ rfl; have r1 := hSw.1.1 1 _ rfl; have r2 := hSw.1.1 2 _ rfl; have r3 := hSw.1.1 3 _ rfl; have r4 := hSw.1.1 4 _ rfl; have r5 := hSw.1.1 5 _ rfl; have r6 := hSw.1.1 6 _ rfl; have r7 := hSw.1.1 7 _ rfl; have s0 := hSw.2.1 0 _ rfl; have s1 := hSw.2.1 1 _ rfl; have s2 := hSw.2.1 2 _ rfl; have s3 := hSw.2.1 3 _ rfl; have s4 := hSw.2.1 4 _ rfl; have s5 := hSw.2.1 5 _ rfl; have s6 := hSw.2.1 6 _ rfl; have s7 := hSw.2.1 7 _ rfl; go_simp; try with_reducible rfl)
            change wpAnyH _ _ _ _ _ _ _ (Act.put _ (some 85) _) _
            simp only [Act.put, List.setIfInBounds_toArray, List.set_cons_zero, List.set_cons_succ]
            refine wpAnyH_ready (rs := [16]) (by kernel_rfl) (by simp) ?_
            refine AllReadyH.cons rfl (fun K hK => ?_) AllReadyH.nil
            go_simp
            refine (C84.out _).mono ?_
            rintro e v4 ⟨rfl, hv4⟩
            have F_4 : Hid (Cs v4 r (setL wi) ∧ Cs v4 s (setL wo) ∧ RdI v4 (.slice la 0 lcap) [] ∧ Below w.heap.size w v4) := ⟨Cs.later hv4 F_3.out.1, Cs.later hv4 F_3.out.2.1, F_3.out.2.2.1.later hv4, F_3.out.2.2.2.trans (hv4.mono F_3.out.2.2.2.size)⟩
            clear hv4 F_3
            (try go_wp2_with (fail))
            refine hK.out _ _ ?_ (fun hHeld => ?_)
            · exact ⟨F_4.out.1, F_4.out.2.1⟩
            clear hK K
            refine wpAnyH_ready (rs := [18]) (by kernel_rfl) (by simp) ?_
            refine AllReadyH.cons rfl (fun K hK => ?_) AllReadyH.nil
            go_simp
            refine (C86.out _).mono ?_
            rintro e v5 ⟨rfl, hv5⟩
            have F_5 : Hid (Cs v5 r (setL wi) ∧ Cs v5 s (setL wo) ∧ RdI v5 (.slice la 0 lcap) [] ∧ Below w.heap.size w v5) := ⟨Cs.later hv5 F_4.out.1, Cs.later hv5 F_4.out.2.1, F_4.out.2.2.1.later hv5, F_4.out.2.2.2.trans (hv5.mono F_4.out.2.2.2.size)⟩
            clear hv5 F_4
            (try go_wp2_with (fail))
            refine hK.out _ _ ?_ (fun hHeld => ?_)
            · exact ⟨F_5.out.1, F_5.out.2.1⟩
            clear hK K
            refine wpAnyH_take (i := 19) (v := ?_) rfl (by kernel_rfl) (by kernel_rfl) (by kernel_rfl) (fun _ _ _ h => h) (Or.inl ⟨by rfl, ?_⟩) (by assumption) ?_
            rotate_left
            · (intro wS hSw; have r0 := hSw.1.1 0 _ rfl; have r1 := hSw.1.1 1 _ rfl; have r2 := hSw.1.1 2 _ rfl; have r3 := hSw.1.1 3 _ rfl; have r4 := hSw.1.1 4 _ rfl; have r5 := hSw.1.1 5 _ rfl; have r6 := hSw.1.1 6 _ rfl; have r7 := hSw.1.1 7 _ rfl; have s0 := hSw.2.1 0 _ rfl; have s1 := hSw.2.1 1 _ rfl; have s2 := hSw.2.1 2 _ rfl; have s3 := hSw.2.1 3 _ rfl; have s4 := hSw.2.1 4 _ rfl; have s5 := hSw.2.1 5 _ rfl; have s6 := hSw.2.1 6 _ rfl; have s7 := hSw.2.1 7 _ rfl; go_simp; try with_reducible rfl)
            change wpAnyH _ _ _ _ _ _ _ (Act.put _ (some 87) _) _
            simp only [Act.put, List.setIfInBounds_toArray, List.set_cons_zero, List.set_cons_succ]
            refine wpAnyH_take (i := 20) (v := ?_) rfl (by kernel_rfl) (by kernel_rfl) (by kernel_rfl) (fun _ _ _ h => h) (Or.inl ⟨by rfl, ?_⟩) (by assumption) ?_
            rotate_left
            · (intro wS hSw; have r0 := hSw.1.1 0 _ rfl; have r1 := hSw.1.1 1 _ rfl; have r2 := hSw.1.1 2 _ rfl; have r3 := hSw.1.1 3 _ rfl; have r4 := hSw.1.1 4 _ rfl; have r5 := hSw.1.1 5 _ rfl; have r6 := hSw.1.1 6 _ rfl; have r7 := hSw.1.1 7 _ rfl; have s0 := hSw.2.1 0 _ rfl; have s1 := hSw.2.1 1 _ rfl; have s2 := hSw.2.1 2 _ rfl; have s3 := hSw.2.1 3 _ rfl; have s4 := hSw.2.1 4 _ rfl; have s5 := hSw.2.1 5 _ rfl; have s6 := hSw.2.1 6 _ rfl; have s7 := hSw.2.1 7 _ rfl; go_simp; try with_reducible rfl)
            change wpAnyH _ _ _ _ _ _ _ (Act.put _ (some 88) _) _
            simp only [Act.put, List.setIfInBounds_toArray, List.set_cons_zero, List.set_cons_succ]
            refine wpAnyH_take (i := 21) (v := ?_) rfl (by kernel_rfl) (by kernel_rfl) (by kernel_rfl) (fun _ _ _ h => h) (Or.inl ⟨by rfl, ?_⟩) (by assumption) ?_
            rotate_left
            · (intro wS hSw; have r0 := hSw.1.1 0 _ rfl; have r1 := hSw.1.1 1 _ rfl; have r2 := hSw.1.1 2 _ rfl; have r3 := hSw.1.1 3 _ rfl; have r4 := hSw.1.1 4 _ rfl; have r5 := hSw.1.1 5 _ rfl; have r6 := hSw.1.1 6 _ rfl; have r7 := hSw.1.1 7 _ rfl; have s0 := hSw.2.1 0 _ rfl; have s1 := hSw.2.1 1 _ rfl; have s2 := hSw.2.1 2 _ rfl; have s3 := hSw.2.1 3 _ rfl; have s4 := hSw.2.1 4 _ rfl; have s5 := hSw.2.1 5 _ rfl; have s6 := hSw.2.1 6 _ rfl; have s7 := hSw.2.1 7 _ rfl; go_simp; try with_reducible rfl)
            change wpAnyH _ _ _ _ _ _ _ (Act.put _ (some 89) _) _
            simp only [Act.put, List.setIfInBounds_toArray, List.set_cons_zero, List.set_cons_succ]
            refine wpAnyH_take (i := 22) (v := ?_) rfl (by kernel_rfl) (by kernel_rfl) (by kernel_rfl) (fun _ _ _ h => h) (Or.inl ⟨by rfl, ?_⟩) (by assumption) ?_
            rotate_left
            · (intro wS hSw; have r0 := hSw.1.1 0 _ rfl; have r1 := hSw.1.1 1 _ rfl; have r2 := hSw.1.1 2 _ rfl; have r3 := hSw.1.1 3 _ rfl; have r4 := hSw.1.1 4 _ rfl; have r5 := hSw.1.1 5 _ rfl; have r6 := hSw.1.1 6 _ rfl; have r7 := hSw.1.1 7 _ rfl; have s0 := hSw.2.1 0 _ rfl; have s1 := hSw.2.1 1 _ rfl; have s2 := hSw.2.1 2 _ rfl; have s3 := hSw.2.1 3 _ rfl; have s4 := hSw.2.1 4 _ rfl; have s5 := hSw.2.1 5 _ rfl; have s6 := hSw.2.1 6 _ rfl; have s7 := hSw.2.1 7 _ rfl; go_simp; try with_reducible rfl)
            change wpAnyH _ _ _ _ _ _ _ (Act.put _ (some 90) _) _
            simp only [Act.put, List.setIfInBounds_toArray, List.set_cons_zero, List.set_cons_succ]
            refine wpAnyH_take (i := 24) (v := ?_) rfl (by kernel_rfl) (by kernel_rfl) (by kernel_rfl) (fun _ _ _ h => h) (Or.inl ⟨by rfl, ?_⟩) (by assumption) ?_
            rotate_left
            · (intro wS hSw; have r0 := hSw.1.1 0 _ rfl; have r1 := hSw.1.1 1 _ rfl; have r2 := hSw.1.1 2 _ rfl; have r3 := hSw.1.1 3 _ rfl; have r4 := hSw.1.1 4 _ rfl; have r5 := hSw.1.1 5 _ rfl; have r6 := hSw.1.1 6 _ rfl; have r7 := hSw.1.1 7 _ rfl; have s0 := hSw.2.1 0 _ rfl; have s1 := hSw.2.1 1 _ rfl; have s2 := hSw.2.1 2 _ rfl; have s3 := hSw.2.1 3 _ rfl; have s4 := hSw.2.1 4 _ rfl; have s5 := hSw.2.1 5 _ rfl; have s6 := hSw.2.1 6 _ rfl; have s7 := hSw.2.1 7 _ rfl; go_simp; try with_reducible rfl)
            change wpAnyH _ _ _ _ _ _ _ (Act.put _ (some 92) _) _
            simp only [Act.put, List.setIfInBounds_toArray, List.set_cons_zero, List.set_cons_succ]
            refine wpAnyH_take (i := 25) (v := ?_) rfl (by kernel_rfl) (by kernel_rfl) (by kernel_rfl) (fun _ _ _ h => h) (Or.inl ⟨by rfl, ?_⟩) (by assumption) ?_
            rotate_left
            · (intro wS hSw; have r0 := hSw.1.1 0 _ rfl; have r1 := hSw.1.1 1 _ rfl; have r2 := hSw.1.1 2 _ rfl; have r3 := hSw.1.1 3 _ rfl; have r4 := hSw.1.1 4 _ rfl; have r5 := hSw.1.1 5 _ rfl; have r6 := hSw.1.1 6 _ rfl; have r7 := hSw.1.1 7 _ rfl; have s0 := hSw.2.1 0 _ rfl; have s1 := hSw.2.1 1 _ rfl; have s2 := hSw.2.1 2 _ rfl; have s3 := hSw.2.1 3 _ rfl; have s4 := hSw.2.1 4 _ rfl; have s5 := hSw.2.1 5 _ rfl; have s6 := hSw.2.1 6 _ rfl; have s7 := hSw.2.1 7 _ rfl; go_simp; try with_reducible rfl)
            change wpAnyH _ _ _ _ _ _ _ (Act.put _ (some 93) _) _
            simp only [Act.put, List.setIfInBounds_toArray, List.set_cons_zero, List.set_cons_succ]
            refine wpAnyH_ready (rs := [23]) (by kernel_rfl) (by simp) ?_
            refine AllReadyH.cons rfl (fun K hK => ?_) AllReadyH.nil
            go_simp
            refine (D91.out _).mono ?_
            rintro e v6 ⟨rfl, hv6⟩
            have F_6 : Hid (Cs v6 r (setL wi) ∧ Cs v6 s (setL wo) ∧ RdI v6 (.slice la 0 lcap) [] ∧ Below w.heap.size w v6) := ⟨Cs.later hv6 F_5.out.1, Cs.later hv6 F_5.out.2.1, F_5.out.2.2.1.later hv6, F_5.out.2.2.2.trans (hv6.mono F_5.out.2.2.2.size)⟩
            clear hv6 F_5
            (try go_wp2_with (fail))
            refine hK.out _ _ ?_ (fun hHeld => ?_)
            · exact ⟨F_6.out.1, F_6.out.2.1⟩
            clear hK K
            refine wpAnyH_take (i := 26) (v := ?_) rfl (by kernel_rfl) (by kernel_rfl) (by kernel_rfl) (fun _ _ _ h => h) (Or.inl ⟨by rfl, ?_⟩) (by assumption) ?_
            rotate_left
            · (intro wS hSw; have r0 := hSw.1.1 0 _ rfl; have r1 := hSw.1.1 1 _ rfl; have r2 := hSw.1.1 2 _ rfl; have r3 := hSw.1.1 3 _ rfl; have r4 := hSw.1.1 4 _ rfl; have r5 := hSw.1.1 5 _ rfl; have r6 := hSw.1.1 6 _ rfl; have r7 := hSw.1.1 7 _ rfl; have s0 := hSw.2.1 0 _ rfl; have s1 := hSw.2.1 1 _ rfl; have s2 := hSw.2.1 2 _ rfl; have s3 := hSw.2.1 3 _ rfl; have s4 := hSw.2.1 4 _ rfl; have s5 := hSw.2.1 5 _ rfl; have s6 := hSw.2.1 6 _ rfl; have s7 := hSw.2.1 7 _ rfl; go_simp; try with_reducible rfl)
            change wpAnyH _ _ _ _ _ _ _ (Act.put _ (some 94) _) _
            simp only [Act.put, List.setIfInBounds_toArray, List.set_cons_zero, List.set_cons_succ]
            refine wpAnyH_take (i := 27) (v := ?_) rfl (by kernel_rfl) (by kernel_rfl) (by kernel_rfl) (fun _ _ _ h => h) (Or.inl ⟨by rfl, ?_⟩) (by assumption) ?_
            rotate_left
            · (intro wS hSw; have r0 := hSw.1.1 0 _ rfl; have r1 := hSw.1.1 1 _ rfl; have r2 := hSw.1.1 2 _ rfl; have r3 := hSw.1.1 3 _ rfl; have r4 := hSw.1.1 4 _ rfl; have r5 := hSw.1.1 5 _ rfl; have r6 := hSw.1.1 6 _ rfl; have r7 := hSw.1.1 7 _ rfl; have s0 := hSw.2.1 0 _ rfl; have s1 := hSw.2.1 1 _ rfl; have s2 := hSw.2.1 2 _ rfl; have s3 := hSw.2.1 3 _ rfl; have s4 := hSw.2.1 4 _ rfl; have s5 := hSw.2.1 5 _ rfl; have s6 := hSw.2.1 6 _ rfl; have s7 := hSw.2.1 7 _ rfl; go_simp; try with_reducible rfl)
            change wpAnyH _ _ _ _ _ _ _ (Act.put _ (some 95) _) _
            simp only [Act.put, List.setIfInBounds_toArray, List.set_cons_zero, List.set_cons_succ]
            refine wpAnyH_take (i := 28) (v := ?_) rfl (by kernel_rfl) (by kernel_rfl) (by kernel_rfl) (fun _ _ _ h => h) (Or.inl ⟨by rfl, ?_⟩) (by assumption) ?_
            rotate_left
            · (intro wS hSw; have r0 := hSw.1.1 0 _ rfl; have r1 := hSw.1.1 1 _ rfl; have r2 := hSw.1.1 2 _ rfl; have r3 := hSw.1.1 3 _ rfl; have r4 := hSw.1.1 4 _ rfl; have r5 := hSw.1.1 5 _ rfl; have r6 := hSw.1.1 6 _ rfl; have r7 := hSw.1.1 7 _ rfl; have s0 := hSw.2.1 0 _ rfl; have s1 := hSw.2.1 1 _ rfl; have s2 := hSw.2.1 2 _ rfl; have s3 := hSw.2.1 3 _ rfl; have s4 := hSw.2.1 4 _ rfl; have s5 := hSw.2.1 5 _ rfl; have s6 := hSw.2.1 6 _ rfl; have s7 := hSw.2.1 7 _ rfl; go_simp; try with_reducible rfl)
            change wpAnyH _ _ _ _ _ _ _ (Act.put _ (some 96) _) _
            simp only [Act.put, List.setIfInBounds_toArray, List.set_cons_zero, List.set_cons_succ]
            refine wpAnyH_take (i := 29) (v := ?_) rfl (by kernel_rfl) (by kernel_rfl) (by kernel_rfl) (fun _ _ _ h => h) (Or.inl ⟨by rfl, ?_⟩) (by assumption) ?_
            rotate_left
            · (intro wS hSw; have r0 := hSw.1.1 0 _ rfl; have r1 := hSw.1.1 1 _ rfl; have r2 := hSw.1.1 2 _ rfl; have r3 := hSw.1.1 3 _ rfl; have r4 := hSw.1.1 4 _ rfl; have r5 := hSw.1.1 5 _ rfl; have r6 := hSw.1.1 6 _ rfl; have r7 := hSw.1.1 7 _ rfl; have s0 := hSw.2.1 0 _ rfl; have s1 := hSw.2.1 1 _ rfl; have s2 := hSw.2.1 2 _ rfl; have s3 := hSw.2.1 3 _ rfl; have s4 := hSw.2.1 4 _ rfl; have s5 := hSw.2.1 5 _ rfl; have s6 := hSw.2.1 6 _ rfl; have s7 := hSw.2.1 7 _ rfl; go_simp; try with_reducible rfl)
            change wpAnyH _ _ _ _ _ _ _ (Act.put _ (some 97) _) _
            simp only [Act.put, List.setIfInBounds_toArray, List.set_cons_zero, List.set_cons_succ]
            refine wpAnyH_take (i := 30) (v := ?_) rfl (by kernel_rfl) (by kernel_rfl) (by kernel_rfl) (fun _ _ _ h => h) (Or.inl ⟨by rfl, ?_⟩) (by assumption) ?_
            rotate_left
            · (intro wS hSw; have r0 := hSw.1.1 0 _ rfl; have r1 := hSw.1.1 1 _ rfl; have r2 := hSw.1.1 2 _ rfl; have r3 := hSw.1.1 3 _ rfl; have r4 := hSw.1.1 4 _ rfl; have r5 := hSw.1.1 5 _ rfl; have r6 := hSw.1.1 6 _ rfl; have r7 := hSw.1.1 7 _ rfl; have s0 := hSw.2.1 0 _ rfl; have s1 := hSw.2.1 1 _ rfl; have s2 := hSw.2.1 2 _ rfl; have s3 := hSw.2.1 3 _ rfl; have s4 := hSw.2.1 4 _ rfl; have s5 := hSw.2.1 5 _ rfl; have s6 := hSw.2.1 6 _ rfl; have s7 := hSw.2.1 7 _ rfl; go_simp; try with_reducible rfl)
            change wpAnyH _ _ _ _ _ _ _ (Act.put _ (some 98) _) _
            simp only [Act.put, List.setIfInBounds_toArray, List.set_cons_zero, List.set_cons_succ]
            refine wpAnyH_take (i := 31) (v := ?_) rfl (by kernel_rfl) (by kernel_rfl) (by kernel_rfl) (fun _ _ _ h => h) (Or.inl ⟨by rfl, ?_⟩) (by assumption) ?_
            rotate_left
            · (intro wS hSw; have r0 := hSw.1.1 0 _ rfl; have r1 := hSw.1.1 1 _ rfl; have r2 := hSw.1.1 2 _ rfl; have r3 := hSw.1.1 3 _ rfl; have r4 := hSw.1.1 4 _ rfl; have r5 := hSw.1.1 5 _ rfl; have r6 := hSw.1.1 6 _ rfl; have r7 := hSw.1.1 7 _ rfl; have s0 := hSw.2.1 0 _ rfl; have s1 := hSw.2.1 1 _ rfl; have s2 := hSw.2.1 2 _ rfl; have s3 := hSw.2.1 3 _ rfl; have s4 := hSw.2.1 4 _ rfl; have s5 := hSw.2.1 5 _ rfl; have s6 := hSw.2.1 6 _ rfl; have s7 := hSw.2.1 7 _ rfl; go_simp; try with_reducible rfl)
            change wpAnyH _ _ _ _ _ _ _ (Act.put _ (some 99) _) _
            simp only [Act.put, List.setIfInBounds_toArray, List.set_cons_zero, List.set_cons_succ]
            refine wpAnyH_take (i := 32) (v := ?_) rfl (by kernel_rfl) (by kernel_rfl) (by kernel_rfl) (fun _ _ _ h => h) (Or.inl ⟨by rfl, ?_⟩) (by assumption) ?_
            rotate_left
            · (intro wS hSw; have r0 := hSw.1.1 0 _ rfl; have r1 := hSw.1.1 1 _ rfl; have r2 := hSw.1.1 2 _ rfl; have r3 := hSw.1.1 3 _ rfl; have r4 := hSw.1.1 4 _ rfl; have r5 := hSw.1.1 5 _ rfl; have r6 := hSw.1.1 6 _ rfl; have r7 := hSw.1.1 7 _ rfl; have s0 := hSw.2.1 0 _ rfl; have s1 := hSw.2.1 1 _ rfl; have s2 := hSw.2.1 2 _ rfl; have s3 := hSw.2.1 3 _ rfl; have s4 := hSw.2.1 4 _ rfl; have s5 := hSw.2.1 5 _ rfl; have s6 := hSw.2.1 6 _ rfl; have s7 := hSw.2.1 7 _ rfl; go_simp; try with_reducible rfl)
            change wpAnyH _ _ _ _ _ _ _ (Act.put _ (some 100) _) _
            simp only [Act.put, List.setIfInBounds_toArray, List.set_cons_zero, List.set_cons_succ]
            refine wpAnyH_take (i := 33) (v := ?_) rfl (by kernel_rfl) (by kernel_rfl) (by kernel_rfl) (fun _ _ _ h => h) (Or.inl ⟨by rfl, ?_⟩) (by assumption) ?_
            rotate_left
            · (intro wS hSw; have r0 := hSw.1.1 0 _ rfl; have r1 := hSw.1.1 1 _ rfl; have r2 := hSw.1.1 2 _ rfl; have r3 := hSw.1.1 3 _ rfl; have r4 := hSw.1.1 4 _ rfl; have r5 := hSw.1.1 5 _ rfl; have r6 := hSw.1.1 6 _ rfl; have r7 := hSw.1.1 7 _ rfl; have s0 := hSw.2.1 0 _ rfl; have s1 := hSw.2.1 1 _ rfl; have s2 := hSw.2.1 2 _ rfl; have s3 := hSw.2.1 3 _ rfl; have s4 := hSw.2.1 4 _ rfl; have s5 := hSw.2.1 5 _ rfl; have s6 := hSw.2.1 6 _ rfl; have s7 := hSw.2.1 7 _ rfl; go_simp; try with_reducible rfl)
            change wpAnyH _ _ _ _ _ _ _ (Act.put _ (some 101) _) _
            simp only [Act.put, List.setIfInBounds_toArray, List.set_cons_zero, List.set_cons_succ]
            refine wpAnyH_take (i := 34) (v := ?_) rfl (by kernel_rfl) (by kernel_rfl) (by kernel_rfl) (fun _ _ _ h => h) (Or.inl ⟨by rfl, ?_⟩) (by assumption) ?_
            rotate_left
            · (intro wS hSw; have r0 := hSw.1.1 0 _ rfl; have r1 := hSw.1.1 1 _ rfl; have r2 := hSw.1.1 2 _ rfl; have r3 := hSw.1.1 3 _ rfl; have r4 := hSw.1.1 4 _ rfl; have r5 := hSw.1.1 5 _ rfl; have r6 := hSw.1.1 6 _ rfl; have r7 := hSw.1.1 7 _ rfl; have s0 := hSw.2.1 0 _ rfl; have s1 := hSw.2.1 1 _ rfl; have s2 := hSw.2.1 2 _ rfl; have s3 := hSw.2.1 3 _ rfl; have s4 := hSw.2.1 4 _ rfl; have s5 := hSw.2.1 5 _ rfl; have s6 := hSw.2.1 6 _ rfl; have s7 := hSw.2.1 7 _ rfl; go_simp; try with_reducible rfl)
            change wpAnyH _ _ _ _ _ _ _ (Act.put _ (some 102) _) _
            simp only [Act.put, List.setIfInBounds_toArray, List.set_cons_zero, List.set_cons_succ]
            refine wpAnyH_take (i := 35) (v := ?_) rfl (by kernel_rfl) (by kernel_rfl) (by kernel_rfl) (fun _ _ _ h => h) (Or.inl ⟨by rfl, ?_⟩) (by assumption) ?_
            rotate_left
            · (intro wS hSw; have r0 := hSw.1.1 0 _ rfl; have r1 := hSw.1.1 1 _ rfl; have r2 := hSw.1.1 2 _ rfl; have r3 := hSw.1.1 3 _ rfl; have r4 := hSw.1.1 4 _ rfl; have r5 := hSw.1.1 5 _ rfl; have r6 := hSw.1.1 6 _ rfl; have r7 := hSw.1.1 7 _ rfl; have s0 := hSw.2.1 0 _ rfl; have s1 := hSw.2.1 1 _ rfl; have s2 := hSw.2.1 2 _ rfl; have s3 := hSw.2.1 3 _ rfl; have s4 := hSw.2.1 4 _ rfl; have s5 := hSw.2.1 5 _ rfl; have s6 := hSw.2.1 6 _ rfl; have s7 := hSw.2.1 7 _ rfl; go_simp; try with_reducible rfl)
            change wpAnyH _ _ _ _ _ _ _ (Act.put _ (some 103) _) _
            simp only [Act.put, List.setIfInBounds_toArray, List.set_cons_zero, List.set_cons_succ]
            refine wpAnyH_take (i := 36) (v := ?_) rfl (by kernel_rfl) (by kernel_rfl) (by kernel_rfl) (fun _ _ _ h => h) (Or.inl ⟨by rfl, ?_⟩) (by assumption) ?_
            rotate_left
            · (intro wS hSw; have r0 := hSw.1.1 0 _ rfl; have r1 := hSw.1.1 1 _ rfl; have r2 := hSw.1.1 2 _ rfl; have r3 := hSw.1.1 3 _ rfl; have r4 := hSw.1.1 4 _ rfl; have r5 := hSw.1.1 5 _ rfl; have r6 := hSw.1.1 6 _ rfl; have r7 := hSw.1.1 7 _ rfl; have s0 := hSw.2.1 0 _ rfl; have s1 := hSw.2.1 1 _ rfl; have s2 := hSw.2.1 2 _ rfl; have s3 := hSw.2.1 3 _ rfl; have s4 := hSw.2.1 4 _ rfl; have s5 := hSw.2.1 5 _ rfl; have s6 := hSw.2.1 6 _ rfl; have s7 := hSw.2.1 7 _ rfl; go_simp; try with_reducible rfl)
            change wpAnyH _ _ _ _ _ _ _ (Act.put _ (some 104) _) _
            simp only [Act.put, List.setIfInBounds_toArray, List.set_cons_zero, List.set_cons_succ]
            refine wpAnyH_take (i := 37) (v := ?_) rfl (by kernel_rfl) (by kernel_rfl) (by kernel_rfl) (fun _ _ _ h => h) (Or.inl ⟨by rfl, ?_⟩) (by assumption) ?_
            rotate_left
            · (intro wS hSw; have r0 := hSw.1.1 0 _ rfl; have r1 := hSw.1.1 1 _ rfl; have r2 := hSw.1.1 2 _ rfl; have r3 := hSw.1.1 3 _ rfl; have r4 := hSw.1.1 4 _ rfl; have r5 := hSw.1.1 5 _ rfl; have r6 := hSw.1.1 6 _ rfl; have r7 := hSw.1.1 7 _ rfl; have s0 := hSw.2.1 0 _ rfl; have s1 := hSw.2.1 1 _ rfl; have s2 := hSw.2.1 2 _ rfl; have s3 := hSw.2.1 3 _ rfl; have s4 := hSw.2.1 4 _ rfl; have s5 := hSw.2.1 5 _ rfl; have s6 := hSw.2.1 6 _ rfl; have s7 := hSw.2.1 7 _ rfl; go_simp; try with_reducible rfl)
            change wpAnyH _ _ _ _ _ _ _ (Act.put _ (some 105) _) _
            simp only [Act.put, List.setIfInBounds_toArray, List.set_cons_zero, List.set_cons_succ]
            refine wpAnyH_take (i := 38) (v := ?_) rfl (by kernel_rfl) (by kernel_rfl) (by kernel_rfl) (fun _ _ _ h => h) (Or.inl ⟨by rfl, ?_⟩) (by assumption) ?_
            rotate_left
            · (intro wS hSw; have r0 := hSw.1.1 0 _ rfl; have r1 := hSw.1.1 1 _ rfl; have r2 := hSw.1.1 2 _ rfl; have r3 := hSw.1.1 3 _ rfl; have r4 := hSw.1.1 4 _ rfl; have r5 := hSw.1.1 5 _ rfl; have r6 := hSw.1.1 6 _ rfl; have r7 := hSw.1.1 7 _ rfl; have s0 := hSw.2.1 0 _ rfl; have s1 := hSw.2.1 1 _ rfl; have s2 := hSw.2.1 2 _ rfl; have s3 := hSw.2.1 3 _ rfl; have s4 := hSw.2.1 4 _ rfl; have s5 := hSw.2.1 5 _ rfl; have s6 := hSw.2.1 6 _ rfl; have s7 := hSw.2.1 7 _ rfl; go_simp; try with_reducible rfl)
            change wpAnyH _ _ _ _ _ _ _ (Act.put _ (some 106) _) _
            simp only [Act.put, List.setIfInBounds_toArray, List.set_cons_zero, List.set_cons_succ]
            refine wpAnyH_take (i := 39) (v := ?_) rfl (by kernel_rfl) (by kernel_rfl) (by kernel_rfl) (fun _ _ _ h => h) (Or.inl ⟨by rfl, ?_⟩) (by assumption) ?_
            rotate_left
            · (intro wS hSw; have r0 := hSw.1.1 0 _ rfl; have r1 := hSw.1.1 1 _ rfl; have r2 := hSw.1.1 2 _ rfl; have r3 := hSw.1.1 3 _ rfl; have r4 := hSw.1.1 4 _ rfl; have r5 := hSw.1.1 5 _ rfl; have r6 := hSw.1.1 6 _ rfl; have r7 := hSw.1.1 7 _ rfl; have s0 := hSw.2.1 0 _ rfl; have s1 := hSw.2.1 1 _ rfl; have s2 := hSw.2.1 2 _ rfl; have s3 := hSw.2.1 3 _ rfl; have s4 := hSw.2.1 4 _ rfl; have s5 := hSw.2.1 5 _ rfl; have s6 := hSw.2.1 6 _ rfl; have s7 := hSw.2.1 7 _ rfl; go_simp; try with_reducible rfl)
            change wpAnyH _ _ _ _ _ _ _ (Act.put _ (some 107) _) _
            simp only [Act.put, List.setIfInBounds_toArray, List.set_cons_zero, List.set_cons_succ]
            refine wpAnyH_take (i := 40) (v := ?_) rfl (by kernel_rfl) (by kernel_rfl) (by kernel_rfl) (fun _ _ _ h => h) (Or.inl ⟨by rfl, ?_⟩) (by assumption) ?_
            rotate_left
            · (intro wS hSw; have r0 := hSw.1.1 0 _ rfl; have r1 := hSw.1.1 1 _ rfl; have r2 := hSw.1.1 2 _ rfl; have r3 := hSw.1.1 3 _ rfl; have r4 := hSw.1.1 4 _ rfl; have r5 := hSw.1.1 5 _ rfl; have r6 := hSw.1.1 6 _ rfl; have r7 := hSw.1.1 7 _ rfl; have s0 := hSw.2.1 0 _ rfl; have s1 := hSw.2.1 1 _ rfl; have s2 := hSw.2.1 2 _ rfl; have s3 := hSw.2.1 3 _ rfl; have s4 := hSw.2.1 4 _ rfl; have s5 := hSw.2.1 5 _ rfl; have s6 := hSw.2.1 6 _ rfl; have s7 := hSw.2.1 7 _ rfl; go_simp; try with_reducible rfl)
            change wpAnyH _ _ _ _ _ _ _ (Act.put _ (some 108) _) _
            simp only [Act.put, List.setIfInBounds_toArray, List.set_cons_zero, List.set_cons_succ]
            refine wpAnyH_take (i := 41) (v := ?_) rfl (by kernel_rfl) (by kernel_rfl) (by kernel_rfl) (fun _ _ _ h => h) (Or.inl ⟨by rfl, ?_⟩) (by assumption) ?_
            rotate_left
            · (intro wS hSw; have r0 := hSw.1.1 0 _ rfl; have r1 := hSw.1.1 1 _ rfl; have r2 := hSw.1.1 2 _ rfl; have r3 := hSw.1.1 3 _ rfl; have r4 := hSw.1.1 4 _ rfl; have r5 := hSw.1.1 5 _ rfl; have r6 := hSw.1.1 6 _ rfl; have r7 := hSw.1.1 7 _ rfl; have s0 := hSw.2.1 0 _ rfl; have s1 := hSw.2.1 1 _ rfl; have s2 := hSw.2.1 2 _ rfl; have s3 := hSw.2.1 3 _ rfl; have s4 := hSw.2.1 4 _ rfl; have s5 := hSw.2.1 5 _ rfl; have s6 := hSw.2.1 6 _ rfl; have s7 := hSw.2.1 7 _ rfl; go_simp; try with_reducible rfl)
            change wpAnyH _ _ _ _ _ _ _ (Act.put _ (some 109) _) _
            simp only [Act.put, List.setIfInBounds_toArray, List.set_cons_zero, List.set_cons_succ]
            refine wpAnyH_take (i := 42) (v := ?_) rfl (by kernel_rfl) (by kernel_rfl) (by kernel_rfl) (fun _ _ _ h => h) (Or.inl ⟨by rfl, ?_⟩) (by assumption) ?_
            rotate_left
            · (intro wS hSw; have r0 := hSw.1.1 0 _ rfl; have r1 := hSw.1.1 1 _ rfl; have r2 := hSw.1.1 2 _ rfl; have r3 := hSw.1.1 3 _ rfl; have r4 := hSw.1.1 4 _ rfl; have r5 := hSw.1.1 5 _ rfl; have r6 := hSw.1.1 6 _ rfl; have r7 := hSw.1.1 7 _ rfl; have s0 := hSw.2.1 0 _ rfl; have s1 := hSw.2.1 1 _ rfl; have s2 := hSw.2.1 2 _ rfl; have s3 := hSw.2.1 3 _ rfl; have s4 := hSw.2.1 4 _ rfl; have s5 := hSw.2.1 5 _ rfl; have s6 := hSw.2.1 6 _ rfl; have s7 := hSw.2.1 7 _ rfl; go_simp; try with_reducible rfl)
            change wpAnyH _ _ _ _ _ _ _ (Act.put _ (some 110) _) _
            simp only [Act.put, List.setIfInBounds_toArray, List.set_cons_zero, List.set_cons_succ]
            refine wpAnyH_take (i := 44) (v := ?_) rfl (by kernel_rfl) (by kernel_rfl) (by kernel_rfl) (fun _ _ _ h => h) (Or.inl ⟨by rfl, ?_⟩) (by assumption) ?_
            rotate_left
            · (intro wS hSw; have r0 := hSw.1.1 0 _ rfl; have r1 := hSw.1.1 1 _ rfl; have r2 := hSw.1.1 2 _ rfl; have r3 := hSw.1.1 3 _ rfl; have r4 := hSw.1.1 4 _ rfl; have r5 := hSw.1.1 5 _ rfl; have r6 := hSw.1.1 6 _ rfl; have r7 := hSw.1.1 7 _ rfl; have s0 := hSw.2.1 0 _ rfl; have s1 := hSw.2.1 1 _ rfl; have s2 := hSw.2.1 2 _ rfl; have s3 := hSw.2.1 3 _ rfl; have s4 := hSw.2.1 4 _ rfl; have s5 := hSw.2.1 5 _ rfl; have s6 := hSw.2.1 6 _ rfl; have s7 := hSw.2.1 7 _ rfl; go_simp; try with_reducible rfl)
            change wpAnyH _ _ _ _ _ _ _ (Act.put _ (some 112) _) _
            simp only [Act.put, List.setIfInBounds_toArray, List.set_cons_zero, List.set_cons_succ]
            refine wpAnyH_ready (rs := [43]) (by kernel_rfl) (by simp) ?_
            refine AllReadyH.cons rfl (fun K hK => ?_) AllReadyH.nil
            go_simp
            refine (C111.out _).mono ?_
            rintro e v7 ⟨rfl, hv7⟩
            have F_7 : Hid (Cs v7 r (setL wi) ∧ Cs v7 s (setL wo) ∧ RdI v7 (.slice la 0 lcap) [] ∧ Below w.heap.size w v7) := ⟨Cs.later hv7 F_6.out.1, Cs.later hv7 F_6.out.2.1, F_6.out.2.2.1.later hv7, F_6.out.2.2.2.trans (hv7.mono F_6.out.2.2.2.size)⟩
            clear hv7 F_6
            (try go_wp2_with (fail))
            refine hK.out _ _ ?_ (fun hHeld => ?_)
            · exact ⟨F_7.out.1, F_7.out.2.1⟩
            clear hK K
            refine wpAnyH_take (i := 45) (v := ?_) rfl (by kernel_rfl) (by kernel_rfl) (by kernel_rfl) (fun _ _ _ h => h) (Or.inl ⟨by rfl, ?_⟩) (by assumption) ?_
            rotate_left
            · (intro wS hSw; have r0 := hSw.1.1 0 _ rfl; have r1 := hSw.1.1 1 _ rfl; have r2 := hSw.1.1 2 _ rfl; have r3 := hSw.1.1 3 _ rfl; have r4 := hSw.1.1 4 _ rfl; have r5 := hSw.1.1 5 _ rfl; have r6 := hSw.1.1 6 _ rfl; have r7 := hSw.1.1 7 _ rfl; have s0 := hSw.2.1 0 _ rfl; have s1 := hSw.2.1 1 _ rfl; have s2 := hSw.2.1 2 _ rfl; have s3 := hSw.2.1 3 _ rfl; have s4 := hSw.2.1 4 _ rfl; have s5 := hSw.2.1 5 _ rfl; have s6 := hSw.2.1 6 _ rfl; have s7 := hSw.2.1 7 _ rfl; go_simp; try with_reducible rfl)
            change wpAnyH _ _ _ _ _ _ _ (Act.put _ (some 113) _) _
            simp only [Act.put, List.setIfInBounds_toArray, List.set_cons_zero, List.set_cons_succ]
            refine wpAnyH_take (i := 46) (v := ?_) rfl (by kernel_rfl) (by kernel_rfl) (by kernel_rfl) (fun _ _ _ h => h) (Or.inl ⟨by rfl, ?_⟩) (by assumption) ?_
            rotate_left
            · (intro wS hSw; have r0 := hSw.1.1 0 _ rfl; have r1 := hSw.1.1 1 _ rfl; have r2 := hSw.1.1 2 _ rfl; have r3 := hSw.1.1 3 _ rfl; have r4 := hSw.1.1 4 _ rfl; have r5 := hSw.1.1 5 _ rfl; have r6 := hSw.1.1 6 _ rfl; have r7 := hSw.1.1 7 _ rfl; have s0 := hSw.2.1 0 _ rfl; have s1 := hSw.2.1 1 _ rfl; have s2 := hSw.2.1 2 _ rfl; have s3 := hSw.2.1 3 _ rfl; have s4 := hSw.2.1 4 _ rfl; have s5 := hSw.2.1 5 _ rfl; have s6 := hSw.2.1 6 _ rfl; have s7 := hSw.2.1 7 _ rfl; go_simp; try with_reducible rfl)
            change wpAnyH _ _ _ _ _ _ _ (Act.put _ (some 114) _) _
            simp only [Act.put, List.setIfInBounds_toArray, List.set_cons_zero, List.set_cons_succ]
            refine wpAnyH_take (i := 47) (v := ?_) rfl (by kernel_rfl) (by kernel_rfl) (by kernel_rfl) (fun _ _ _ h => h) (Or.inl ⟨by rfl, ?_⟩) (by assumption) ?_
            rotate_left
            · (intro wS hSw; have r0 := hSw.1.1 0 _ rfl; have r1 := hSw.1.1 1 _ rfl; have r2 := hSw.1.1 2 _ rfl; have r3 := hSw.1.1 3 _ rfl; have r4 := hSw.1.1 4 _ rfl; have r5 := hSw.1.1 5 _ rfl; have r6 := hSw.1.1 6 _ rfl; have r7 := hSw.1.1 7 _ rfl; have s0 := hSw.2.1 0 _ rfl; have s1 := hSw.2.1 1 _ rfl; have s2 := hSw.2.1 2 _ rfl; have s3 := hSw.2.1 3 _ rfl; have s4 := hSw.2.1 4 _ rfl; have s5 := hSw.2.1 5 _ rfl; have s6 := hSw.2.1 6 _ rfl; have s7 := hSw.2.1 7 _ rfl; go_simp; try with_reducible rfl)
            change wpAnyH _ _ _ _ _ _ _ (Act.put _ (some 115) _) _
            simp only [Act.put, List.setIfInBounds_toArray, List.set_cons_zero, List.set_cons_succ]
            refine wpAnyH_take (i := 48) (v := ?_) rfl (by kernel_rfl) (by kernel_rfl) (by kernel_rfl) (fun _ _ _ h => h) (Or.inl ⟨by rfl, ?_⟩) (by assumption) ?_
            rotate_left
            · (intro wS hSw; have r0 := hSw.1.1 0 _ rfl; have r1 := hSw.1.1 1 _ rfl; have r2 := hSw.1.1 2 _ rfl; have r3 := hSw.1.1 3 _ rfl; have r4 := hSw.1.1 4 _ rfl; have r5 := hSw.1.1 5 _ rfl; have r6 := hSw.1.1 6 _ rfl; have r7 := hSw.1.1 7 _ rfl; have s0 := hSw.2.1 0 _ rfl; have s1 := hSw.2.1 1 _ rfl; have s2 := hSw.2.1 2 _ rfl; have s3 := hSw.2.1 3 _ rfl; have s4 := hSw.2.1 4 _ rfl; have s5 := hSw.2.1 5 _ rfl; have s6 := hSw.2.1 6 _ rfl; have s7 := hSw.2.1 7 _ rfl; go_simp; try with_reducible rfl)
            change wpAnyH _ _ _ _ _ _ _ (Act.put _ (some 116) _) _
            simp only [Act.put, List.setIfInBounds_toArray, List.set_cons_zero, List.set_cons_succ]
            refine wpAnyH_take (i := 49) (v := ?_) rfl (by kernel_rfl) (by kernel_rfl) (by kernel_rfl) (fun _ _ _ h => h) (Or.inl ⟨by rfl, ?_⟩) (by assumption) ?_
            rotate_left
            · (intro wS hSw; have r0 := hSw.1.1 0 _ rfl; have r1 := hSw.1.1 1 _ rfl; have r2 := hSw.1.1 2 _ rfl; have r3 := hSw.1.1 3 _ rfl; have r4 := hSw.1.1 4 _ rfl; have r5 := hSw.1.1 5 _ rfl; have r6 := hSw.1.1 6 _ rfl; have r7 := hSw.1.1 7 _ rfl; have s0 := hSw.2.1 0 _ rfl; have s1 := hSw.2.1 1 _ rfl; have s2 := hSw.2.1 2 _ rfl; have s3 := hSw.2.1 3 _ rfl; have s4 := hSw.2.1 4 _ rfl; have s5 := hSw.2.1 5 _ rfl; have s6 := hSw.2.1 6 _ rfl; have s7 := hSw.2.1 7 _ rfl; go_simp; try with_reducible rfl)
            change wpAnyH _ _ _ _ _ _ _ (Act.put _ (some 117) _) _
            simp only [Act.put, List.setIfInBounds_toArray, List.set_cons_zero, List.set_cons_succ]
            refine wpAnyH_take (i := 51) (v := ?_) rfl (by kernel_rfl) (by kernel_rfl) (by kernel_rfl) (fun _ _ _ h => h) (Or.inl ⟨by rfl, ?_⟩) (by assumption) ?_
            rotate_left
            · (intro wS hSw; have r0 := hSw.1.1 0 _ rfl; have r1 := hSw.1.1 1 _ rfl; have r2 := hSw.1.1 2 _ rfl; have r3 := hSw.1.1 3 _ rfl; have r4 := hSw.1.1 4 _ rfl; have r5 := hSw.1.1 5 _ rfl; have r6 := hSw.1.1 6 _ rfl; have r7 := hSw.1.1 7 _ rfl; have s0 := hSw.2.1 0 _ rfl; have s1 := hSw.2.1 1 _ rfl; have s2 := hSw.2.1 2 _ rfl; have s3 := hSw.2.1 3 _ rfl; have s4 := hSw.2.1 4 _ rfl; have s5 := hSw.2.1 5 _ rfl; have s6 := hSw.2.1 6 _ rfl; have s7 := hSw.2.1 7 _ rfl; go_simp; try with_reducible rfl)
            change wpAnyH _ _ _ _ _ _ _ (Act.put _ (some 119) _) _
            simp only [Act.put, List.setIfInBounds_toArray, List.set_cons_zero, List.set_cons_succ]
            refine wpAnyH_take (i := 52) (v := ?_) rfl (by kernel_rfl) (by kernel_rfl) (by kernel_rfl) (fun _ _ _ h => h) (Or.inl ⟨by rfl, ?_⟩) (by assumption) ?_
            rotate_left
            · (intro wS hSw; have r0 := hSw.1.1 0 _ rfl; have r1 := hSw.1.1 1 _ rfl; have r2 := hSw.1.1 2 _ rfl; have r3 := hSw.1.1 3 _ rfl; have r4 := hSw.1.1 4 _ rfl; have r5 := hSw.1.1 5 _ rfl; have r6 := hSw.1.1 6 _ rfl; have r7 := hSw.1.1 7 _ rfl; have s0 := hSw.2.1 0 _ rfl; have s1 := hSw.2.1 1 _ rfl; have s2 := hSw.2.1 2 _ rfl; have s3 := hSw.2.1 3 _ rfl; have s4 := hSw.2.1 4 _ rfl; have s5 := hSw.2.1 5 _ rfl; have s6 := hSw.2.1 6 _ rfl; have s7 := hSw.2.1 7 _ rfl; go_simp; try with_reducible rfl)
            change wpAnyH _ _ _ _ _ _ _ (Act.put _ (some 120) _) _
            simp only [Act.put, List.setIfInBounds_toArray, List.set_cons_zero, List.set_cons_succ]
            refine wpAnyH_ready (rs := [50]) (by kernel_rfl) (by simp) ?_
            refine AllReadyH.cons rfl (fun K hK => ?_) AllReadyH.nil
            go_simp
            refine (C118.out _).mono ?_
            rintro e v8 ⟨rfl, hv8⟩
            have F_8 : Hid (Cs v8 r (setL wi) ∧ Cs v8 s (setL wo) ∧ RdI v8 (.slice la 0 lcap) [] ∧ Below w.heap.size w v8) := ⟨Cs.later hv8 F_7.out.1, Cs.later hv8 F_7.out.2.1, F_7.out.2.2.1.later hv8, F_7.out.2.2.2.trans (hv8.mono F_7.out.2.2.2.size)⟩
            clear hv8 F_7
            (try go_wp2_with (fail))
            refine hK.out _ _ ?_ (fun hHeld => ?_)
            · exact ⟨F_8.out.1, F_8.out.2.1⟩
            clear hK K
            refine wpAnyH_ready (rs := [53]) (by kernel_rfl) (by simp) ?_
            refine AllReadyH.cons rfl (fun K hK => ?_) AllReadyH.nil
            go_simp
            refine (C121.out _).mono ?_
            rintro e v9 ⟨rfl, hv9⟩
            have F_9 : Hid (Cs v9 r (setL wi) ∧ Cs v9 s (setL wo) ∧ RdI v9 (.slice la 0 lcap) [] ∧ Below w.heap.size w v9) := ⟨Cs.later hv9 F_8.out.1, Cs.later hv9 F_8.out.2.1, F_8.out.2.2.1.later hv9, F_8.out.2.2.2.trans (hv9.mono F_8.out.2.2.2.size)⟩
            clear hv9 F_8
            (try go_wp2_with (fail))
            refine hK.out _ _ ?_ (fun hHeld => ?_)
            · exact ⟨F_9.out.1, F_9.out.2.1⟩
            clear hK K
            refine wpAnyH_take (i := 54) (v := ?_) rfl (by kernel_rfl) (by kernel_rfl) (by kernel_rfl) (fun _ _ _ h => h) (Or.inl ⟨by rfl, ?_⟩) (by assumption) ?_
            rotate_left
            · (intro wS hSw; have r0 := hSw.1.1 0 _ rfl; have r1 := hSw.1.1 1 _ rfl; have r2 := hSw.1.1 2 _ rfl; have r3 := hSw.1.1 3 _ rfl; have r4 := hSw.1.1 4 _ rfl; have r5 := hSw.1.1 5 _ rfl; have r6 := hSw.1.1 6 _ rfl; have r7 := hSw.1.1 7 _ rfl; have s0 := hSw.2.1 0 _ rfl; have s1 := hSw.2.1 1 _ rfl; have s2 := hSw.2.1 2 _ rfl; have s3 := hSw.2.1 3 _ rfl; have s4 := hSw.2.1 4 _ rfl; have s5 := hSw.2.1 5 _ rfl; have s6 := hSw.2.1 6 _ rfl; have s7 := hSw.2.1 7 _ rfl; go_simp; try with_reducible rfl)
            change wpAnyH _ _ _ _ _ _ _ (Act.put _ (some 122) _) _
            simp only [Act.put, List.setIfInBounds_toArray, List.set_cons_zero, List.set_cons_succ]
            refine wpAnyH_take (i := 55) (v := ?_) rfl (by kernel_rfl) (by kernel_rfl) (by kernel_rfl) (fun _ _ _ h => h) (Or.inl ⟨by rfl, ?_⟩) (by assumption) ?_
            rotate_left
            · (intro wS hSw; have r0 := hSw.1.1 0 _ rfl; have r1 := hSw.1.1 1 _ rfl; have r2 := hSw.1.1 2 _ rfl; have r3 := hSw.1.1 3 _ rfl; have r4 := hSw.1.1 4 _ rfl; have r5 := hSw.1.1 5 _ rfl; have r6 := hSw.1.1 6 _ rfl; have r7 := hSw.1.1 7 _ rfl; have s0 := hSw.2.1 0 _ rfl; have s1 := hSw.2.1 1 _ rfl; have s2 := hSw.2.1 2 _ rfl; have s3 := hSw.2.1 3 _ rfl; have s4 := hSw.2.1 4 _ rfl; have s5 := hSw.2.1 5 _ rfl; have s6 := hSw.2.1 6 _ rfl; have s7 := hSw.2.1 7 _ rfl; go_simp; try with_reducible rfl)
            change wpAnyH _ _ _ _ _ _ _ (Act.put _ (some 123) _) _
            simp only [Act.put, List.setIfInBounds_toArray, List.set_cons_zero, List.set_cons_succ]
            refine wpAnyH_take (i := 56) (v := ?_) rfl (by kernel_rfl) (by kernel_rfl) (by kernel_rfl) (fun _ _ _ h => h) (Or.inl ⟨by rfl, ?_⟩) (by assumption) ?_
            rotate_left
            · (intro wS hSw; have r0 := hSw.1.1 0 _ rfl; have r1 := hSw.1.1 1 _ rfl; have r2 := hSw.1.1 2 _ rfl; have r3 := hSw.1.1 3 _ rfl; have r4 := hSw.1.1 4 _ rfl; have r5 := hSw.1.1 5 _ rfl; have r6 := hSw.1.1 6 _ rfl; have r7 := hSw.1.1 7 _ rfl; have s0 := hSw.2.1 0 _ rfl; have s1 := hSw.2.1 1 _ rfl; have s2 := hSw.2.1 2 _ rfl; have s3 := hSw.2.1 3 _ rfl; have s4 := hSw.2.1 4 _ rfl; have s5 := hSw.2.1 5 _ rfl; have s6 := hSw.2.1 6 _ rfl; have s7 := hSw.2.1 7 _ rfl; go_simp; try with_reducible rfl)
            change wpAnyH _ _ _ _ _ _ _ (Act.put _ (some 124) _) _
            simp only [Act.put, List.setIfInBounds_toArray, List.set_cons_zero, List.set_cons_succ]
            refine wpAnyH_take (i := 57) (v := ?_) rfl (by kernel_rfl) (by kernel_rfl) (by kernel_rfl) (fun _ _ _ h => h) (Or.inl ⟨by rfl, ?_⟩) (by assumption) ?_
            rotate_left
            · (intro wS hSw; have r0 := hSw.1.1 0 _ rfl; have r1 := hSw.1.1 1 _ rfl; have r2 := hSw.1.1 2 _ rfl; have r3 := hSw.1.1 3 _ rfl; have r4 := hSw.1.1 4 _ rfl; have r5 := hSw.1.1 5 _ rfl; have r6 := hSw.1.1 6 _ rfl; have r7 := hSw.1.1 7 _ rfl; have s0 := hSw.2.1 0 _ rfl; have s1 := hSw.2.1 1 _ rfl; have s2 := hSw.2.1 2 _ rfl; have s3 := hSw.2.1 3 _ rfl; have s4 := hSw.2.1 4 _ rfl; have s5 := hSw.2.1 5 _ rfl; have s6 := hSw.2.1 6 _ rfl; have s7 := hSw.2.1 7 _ rfl; go_simp; try with_reducible rfl)
            change wpAnyH _ _ _ _ _ _ _ (Act.put _ (some 125) _) _
            simp only [Act.put, List.setIfInBounds_toArray, List.set_cons_zero, List.set_cons_succ]
            refine wpAnyH_take (i := 59) (v := ?_) rfl (by kernel_rfl) (by kernel_rfl) (by kernel_rfl) (fun _ _ _ h => h) (Or.inl ⟨by rfl, ?_⟩) (by assumption) ?_
            rotate_left
            · (intro wS hSw; have r0 := hSw.1.1 0 _ rfl; have r1 := hSw.1.1 1 _ rfl; have r2 := hSw.1.1 2 _ rfl; have r3 := hSw.1.1 3 _ rfl; have r4 := hSw.1.1 4 _ rfl; have r5 := hSw.1.1 5 _ rfl; have r6 := hSw.1.1 6 _ rfl; have r7 := hSw.1.1 7 _ rfl; have s0 := hSw.2.1 0 _ rfl; have s1 := hSw.2.1 1 _ rfl; have s2 := hSw.2.1 2 _ rfl; have s3 := hSw.2.1 3 _ rfl; have s4 := hSw.2.1 4 _ rfl; have s5 := hSw.2.1 5 _ rfl; have s6 := hSw.2.1 6 _ rfl; have s7 := hSw.2.1 7 _ rfl; go_simp; try with_reducible rfl)
            change wpAnyH _ _ _ _ _ _ _ (Act.put _ (some 127) _) _
            simp only [Act.put, List.setIfInBounds_toArray, List.set_cons_zero, List.set_cons_succ]
            refine wpAnyH_ready (rs := [58]) (by kernel_rfl) (by simp) ?_
            refine AllReadyH.cons rfl (fun K hK => ?_) AllReadyH.nil
            go_simp
            refine (C126.out _).mono ?_
            rintro e v10 ⟨v1, rfl, hv9, hv10⟩
            have F_10 : Hid (Cs v10 r (setL wi) ∧ Cs v10 s (setL wo) ∧ RdI v10 (.slice la 0 lcap) [] ∧ RdI v10 v1 [] ∧ Below w.heap.size w v10) := ⟨Cs.later hv10 F_9.out.1, Cs.later hv10 F_9.out.2.1, F_9.out.2.2.1.later hv10, hv9, F_9.out.2.2.2.trans (hv10.mono F_9.out.2.2.2.size)⟩
            clear hv10 F_9
            (try go_wp2_with (fail))
            refine hK.out _ _ ?_ (fun hHeld => ?_)
            · exact ⟨F_10.out.1, F_10.out.2.1⟩
            clear hK K
            refine wpAnyH_ready (rs := [60]) (by kernel_rfl) (by simp) ?_
            refine AllReadyH.cons rfl (fun K hK => ?_) AllReadyH.nil
            go_simp
            refine (C128.out _ _ _ F_10.out.2.2.2.1 F_10.out.2.2.1).mono ?_
            rintro e v11 ⟨rfl, hv11⟩
            have F_11 : Hid (Cs v11 r (setL wi) ∧ Cs v11 s (setL wo) ∧ RdI v11 (.slice la 0 lcap) [] ∧ RdI v11 v1 [] ∧ Below w.heap.size w v11) := ⟨Cs.later hv11 F_10.out.1, Cs.later hv11 F_10.out.2.1, F_10.out.2.2.1.later hv11, F_10.out.2.2.2.1.later hv11, F_10.out.2.2.2.2.trans (hv11.mono F_10.out.2.2.2.2.size)⟩
            clear hv11 F_10
            (try go_wp2_with (fail))
            refine hK.out _ _ ?_ (fun hHeld => ?_)
            · exact ⟨F_11.out.1, F_11.out.2.1⟩
            clear hK K
            refine wpAnyH_take (i := 61) (v := ?_) rfl (by kernel_rfl) (by kernel_rfl) (by kernel_rfl) (fun _ _ _ h => h) (Or.inl ⟨by rfl, ?_⟩) (by assumption) ?_
            rotate_left
            · (intro wS hSw; have r0 := hSw.1.1 0 _ rfl; have r1 := hSw.1.1 1 _ rfl; have r2 := hSw.1.1 2 _ rfl; have r3 := hSw.1.1 3 _ rfl; have r4 := hSw.1.1 4 _ rfl; have r5 := hSw.1.1 5 _ rfl; have r6 := hSw.1.1 6 _ rfl; have r7 := hSw.1.1 7 _ rfl; have s0 := hSw.2.1 0 _ rfl; have s1 := hSw.2.1 1 _ rfl; have s2 := hSw.2.1 2 _ rfl; have s3 := hSw.2.1 3 _ rfl; have s4 := hSw.2.1 4 _ rfl; have s5 := hSw.2.1 5 _ rfl; have s6 := hSw.2.1 6 _ rfl; have s7 := hSw.2.1 7 _ rfl; go_simp; try with_reducible rfl)
            change wpAnyH _ _ _ _ _ _ _ (Act.put _ (some 129) _) _
            simp only [Act.put, List.setIfInBounds_toArray, List.set_cons_zero, List.set_cons_succ]
            refine wpAnyH_take (i := 62) (v := ?_) rfl (by kernel_rfl) (by kernel_rfl) (by kernel_rfl) (fun _ _ _ h => h) (Or.inl ⟨by rfl, ?_⟩) (by assumption) ?_
            rotate_left
            · (intro wS hSw; have r0 := hSw.1.1 0 _ rfl; have r1 := hSw.1.1 1 _ rfl; have r2 := hSw.1.1 2 _ rfl; have r3 := hSw.1.1 3 _ rfl; have r4 := hSw.1.1 4 _ rfl; have r5 := hSw.1.1 5 _ rfl; have r6 := hSw.1.1 6 _ rfl; have r7 := hSw.1.1 7 _ rfl; have s0 := hSw.2.1 0 _ rfl; have s1 := hSw.2.1 1 _ rfl; have s2 := hSw.2.1 2 _ rfl; have s3 := hSw.2.1 3 _ rfl; have s4 := hSw.2.1 4 _ rfl; have s5 := hSw.2.1 5 _ rfl; have s6 := hSw.2.1 6 _ rfl; have s7 := hSw.2.1 7 _ rfl; go_simp; try with_reducible rfl)
            change wpAnyH _ _ _ _ _ _ _ (Act.put _ (some 130) _) _
            simp only [Act.put, List.setIfInBounds_toArray, List.set_cons_zero, List.set_cons_succ]
            refine wpAnyH_take (i := 63) (v := ?_) rfl (by kernel_rfl) (by kernel_rfl) (by kernel_rfl) (fun _ _ _ h => h) (Or.inl ⟨by rfl, ?_⟩) (by assumption) ?_
            rotate_left
            · (intro wS hSw; have r0 := hSw.1.1 0 _ rfl; have r1 := hSw.1.1 1 _ rfl; have r2 := hSw.1.1 2 _ rfl; have r3 := hSw.1.1 3 _ rfl; have r4 := hSw.1.1 4 _ rfl; have r5 := hSw.1.1 5 _ rfl; have r6 := hSw.1.1 6 _ rfl; have r7 := hSw.1.1 7 _ rfl; have s0 := hSw.2.1 0 _ rfl; have s1 := hSw.2.1 1 _ rfl; have s2 := hSw.2.1 2 _ rfl; have s3 := hSw.2.1 3 _ rfl; have s4 := hSw.2.1 4 _ rfl; have s5 := hSw.2.1 5 _ rfl; have s6 := hSw.2.1 6 _ rfl; have s7 := hSw.2.1 7 _ rfl; go_simp; try with_reducible rfl)
            change wpAnyH _ _ _ _ _ _ _ (Act.put _ (some 131) _) _
            simp only [Act.put, List.setIfInBounds_toArray, List.set_cons_zero, List.set_cons_succ]
            refine wpAnyH_take (i := 65) (v := ?_) rfl (by kernel_rfl) (by kernel_rfl) (by kernel_rfl) (fun _ _ _ h => h) (Or.inl ⟨by rfl, ?_⟩) (by assumption) ?_
            rotate_left
            · (intro wS hSw; have r0 := hSw.1.1 0 _ rfl; have r1 := hSw.1.1 1 _ rfl; have r2 := hSw.1.1 2 _ rfl; have r3 := hSw.1.1 3 _ rfl; have r4 := hSw.1.1 4 _ rfl; have r5 := hSw.1.1 5 _ rfl; have r6 := hSw.1.1 6 _ rfl; have r7 := hSw.1.1 7 _ rfl; have s0 := hSw.2.1 0 _ rfl; have s1 := hSw.2.1 1 _ rfl; have s2 := hSw.2.1 2 _ rfl; have s3 := hSw.2.1 3 _ rfl; have s4 := hSw.2.1 4 _ rfl; have s5 := hSw.2.1 5 _ rfl; have s6 := hSw.2.1 6 _ rfl; have s7 := hSw.2.1 7 _ rfl; go_simp; try with_reducible rfl)
            change wpAnyH _ _ _ _ _ _ _ (Act.put _ (some 133) _) _
            simp only [Act.put, List.setIfInBounds_toArray, List.set_cons_zero, List.set_cons_succ]
            refine wpAnyH_ready (rs := [64]) (by kernel_rfl) (by simp) ?_
            refine AllReadyH.cons rfl (fun K hK => ?_) AllReadyH.nil
            go_simp
            refine (C132.out _).mono ?_
            rintro e v12 ⟨rfl, hv12⟩
            have F_12 : Hid (Cs v12 r (setL wi) ∧ Cs v12 s (setL wo) ∧ RdI v12 (.slice la 0 lcap) [] ∧ RdI v12 v1 [] ∧ Below w.heap.size w v12) := ⟨Cs.later hv12 F_11.out.1, Cs.later hv12 F_11.out.2.1, F_11.out.2.2.1.later hv12, F_11.out.2.2.2.1.later hv12, F_11.out.2.2.2.2.trans (hv12.mono F_11.out.2.2.2.2.size)⟩
            clear hv12 F_11
            (try go_wp2_with (fail))
            refine hK.out _ _ ?_ (fun hHeld => ?_)
            · exact ⟨F_12.out.1, F_12.out.2.1⟩
            clear hK K
            refine wpAnyH_ready (rs := [66]) (by kernel_rfl) (by simp) ?_
            refine AllReadyH.cons rfl (fun K hK => ?_) AllReadyH.nil
            go_simp
            refine (C134.out _).mono ?_
            rintro e v13 ⟨rfl, hv13⟩
            have F_13 : Hid (Cs v13 r (setL wi) ∧ Cs v13 s (setL wo) ∧ RdI v13 (.slice la 0 lcap) [] ∧ RdI v13 v1 [] ∧ Below w.heap.size w v13) := ⟨Cs.later hv13 F_12.out.1, Cs.later hv13 F_12.out.2.1, F_12.out.2.2.1.later hv13, F_12.out.2.2.2.1.later hv13, F_12.out.2.2.2.2.trans (hv13.mono F_12.out.2.2.2.2.size)⟩
            clear hv13 F_12
            (try go_wp2_with (fail))
            refine hK.out _ _ ?_ (fun hHeld => ?_)
            · exact ⟨F_13.out.1, F_13.out.2.1⟩
            clear hK K
            refine wpAnyH_take (i := 67) (v := ?_) rfl (by kernel_rfl) (by kernel_rfl) (by kernel_rfl) (fun _ _ _ h => h) (Or.inl ⟨by rfl, ?_⟩) (by assumption) ?_
            rotate_left
            · (intro wS hSw; have r0 := hSw.1.1 0 _ rfl; have r1 := hSw.1.1 1 _ rfl; have r2 := hSw.1.1 2 _ rfl; have r3 := hSw.1.1 3 _ rfl; have r4 := hSw.1.1 4 _ rfl; have r5 := hSw.1.1 5 _ rfl; have r6 := hSw.1.1 6 _ rfl; have r7 := hSw.1.1 7 _ rfl; have s0 := hSw.2.1 0 _ rfl; have s1 := hSw.2.1 1 _ rfl; have s2 := hSw.2.1 2 _ rfl; have s3 := hSw.2.1 3 _ rfl; have s4 := hSw.2.1 4 _ rfl; have s5 := hSw.2.1 5 _ rfl; have s6 := hSw.2.1 6 _ rfl; have s7 := hSw.2.1 7 _ rfl; go_simp; try with_reducible rfl)
            change wpAnyH _ _ _ _ _ _ _ (Act.put _ (some 135) _) _
            simp only [Act.put, List.setIfInBounds_toArray, List.set_cons_zero, List.set_cons_succ]
            refine wpAnyH_take (i := 68) (v := ?_) rfl (by kernel_rfl) (by kernel_rfl) (by kernel_rfl) (fun _ _ _ h => h) (Or.inl ⟨by rfl, ?_⟩) (by assumption) ?_
            rotate_left
            · (intro wS hSw; have r0 := hSw.1.1 0 _ rfl; have r1 := hSw.1.1 1 _ rfl; have r2 := hSw.1.1 2 _ rfl; have r3 := hSw.1.1 3 _ rfl; have r4 := hSw.1.1 4 _ rfl; have r5 := hSw.1.1 5 _ rfl; have r6 := hSw.1.1 6 _ rfl; have r7 := hSw.1.1 7 _ rfl; have s0 := hSw.2.1 0 _ rfl; have s1 := hSw.2.1 1 _ rfl; have s2 := hSw.2.1 2 _ rfl; have s3 := hSw.2.1 3 _ rfl; have s4 := hSw.2.1 4 _ rfl; have s5 := hSw.2.1 5 _ rfl; have s6 := hSw.2.1 6 _ rfl; have s7 := hSw.2.1 7 _ rfl; go_simp; try with_reducible rfl)
            change wpAnyH _ _ _ _ _ _ _ (Act.put _ (some 136) _) _
            simp only [Act.put, List.setIfInBounds_toArray, List.set_cons_zero, List.set_cons_succ]
            refine wpAnyH_take (i := 69) (v := ?_) rfl (by kernel_rfl) (by kernel_rfl) (by kernel_rfl) (fun _ _ _ h => h) (Or.inl ⟨by rfl, ?_⟩) (by assumption) ?_
            rotate_left
            · (intro wS hSw; have r0 := hSw.1.1 0 _ rfl; have r1 := hSw.1.1 1 _ rfl; have r2 := hSw.1.1 2 _ rfl; have r3 := hSw.1.1 3 _ rfl; have r4 := hSw.1.1 4 _ rfl; have r5 := hSw.1.1 5 _ rfl; have r6 := hSw.1.1 6 _ rfl; have r7 := hSw.1.1 7 _ rfl; have s0 := hSw.2.1 0 _ rfl; have s1 := hSw.2.1 1 _ rfl; have s2 := hSw.2.1 2 _ rfl; have s3 := hSw.2.1 3 _ rfl; have s4 := hSw.2.1 4 _ rfl; have s5 := hSw.2.1 5 _ rfl; have s6 := hSw.2.1 6 _ rfl; have s7 := hSw.2.1 7 _ rfl; go_simp; try with_reducible rfl)
            change wpAnyH _ _ _ _ _ _ _ (Act.put _ (some 6) _) _
            simp only [Act.put, List.setIfInBounds_toArray, List.set_cons_zero, List.set_cons_succ]
            refine wpAnyH_done (by kernel_rfl) ?_ _
            refine NoPanic.normal ?_
            have F9 := F_13.out.2.2.2.2
            go_wp2_with (fail)
            go_ret
            exact ⟨rfl, F9⟩
          · obtain ⟨b', off, rfl, c⟩ : ∃ b' off : Nat, la = some ⟨b', off, none⟩ ∧ w7.cell? ⟨b', off, none⟩ = some (.int .i64 (l0 : Int)) := by
              obtain ⟨a', cap', e, -, -, k3⟩ := HV7.out
              injection e with e1 e2 e3
              subst e1
              obtain ⟨b', off, e4, c⟩ := k3 0 _ z1
              exact ⟨b', off, e4, by simpa using c⟩
            have z2 : (0 : Int) < (zs.length : Int) := by omega
            have HV8 := HV7
            have D91 := C91
            have z3 : zs.length ≤ maxLen := by omega
            unfold maxLen at z3
            clear WAY z1 HV7 C91
            go_upto_region 19 with (fail)
            have F_0 : Hid (Cs _ r (setL wi) ∧ Cs _ s (setL wo) ∧ RdI _ (.slice (some ⟨b', off, none⟩) zs.length lcap) zs ∧ Below w.heap.size w _) := ⟨Cs.drew qr, Cs.drew qs, HV8.out.later (Below.drew (Below.refl _ _)), Below.drew HB7⟩
            refine wp_region_noPanic ?_
            refine wp_region_held_drew (S := fun w' => Cs w' r (setL wi) ∧ Cs w' s (setL wo)) (by kernel_rfl) ?_ (fun hHeld => ?_)
            · exact ⟨F_0.out.1, F_0.out.2.1⟩
            refine wpAnyH_take (i := 0) (v := ?_) rfl (by kernel_rfl) (by kernel_rfl) (by kernel_rfl) (fun _ _ _ h => h) (Or.inl ⟨by rfl, ?_⟩) (by assumption) ?_
            rotate_left
            · (intro wS hSw; have r0 := hSw.1.1 0 _ rfl; have r1 := hSw.1.1 1 _ rfl; have r2 := hSw.1.1 2 _ rfl; have r3 := hSw.1.1 3 _ rfl; have r4 := hSw.1.1 4 _ rfl; have r5 := hSw.1.1 5 _ rfl; have r6 := hSw.1.1 6 _ rfl; have r7 := hSw.1.1 7 _ rfl; have s0 := hSw.2.1 0 _ rfl; have s1 := hSw.2.1 1 _ rfl; have s2 := hSw.2.1 2 _ rfl; have s3 := hSw.2.1 3 _ rfl; have s4 := hSw.2.1 4 _ rfl; have s5 := hSw.2.1 5 _ rfl; have s6 := hSw.2.1 6 _ rfl; have s7 := hSw.2.1 7 _ rfl; go_simp; try with_reducible rfl)
            change wpAnyH _ _ _ _ _ _ _ (Act.put _ (some 68) _) _
            simp only [Act.put, List.setIfInBounds_toArray, List.set_cons_zero, List.set_cons_succ]
            refine wpAnyH_take (i := 1) (v := ?_) rfl (by kernel_rfl) (by kernel_rfl) (by kernel_rfl) (fun _ _ _ h => h) (Or.inl ⟨by rfl, ?_⟩) (by assumption) ?_
            rotate_left
            · (intro wS hSw; have r0 := hSw.1.1 0 _ rfl; have r1 := hSw.1.1 1 _ rfl; have r2 := hSw.1.1 2 _ rfl; have r3 := hSw.1.1 3 _ rfl; have r4 := hSw.1.1 4 _ rfl; have r5 := hSw.1.1 5 _ rfl; have r6 := hSw.1.1 6 _ rfl; have r7 := hSw.1.1 7 _ rfl; have s0 := hSw.2.1 0 _ rfl; have s1 := hSw.2.1 1 _ rfl; have s2 := hSw.2.1 2 _ rfl; have s3 := hSw.2.1 3 _ rfl; have s4 := hSw.2.1 4 _ rfl; have s5 := hSw.2.1 5 _ rfl; have s6 := hSw.2.1 6 _ rfl; have s7 := hSw.2.1 7 _ rfl; go_simp; try with_reducible rfl)
            change wpAnyH _ _ _ _ _ _ _ (Act.put _ (some 69) _) _
            simp only [Act.put, List.setIfInBounds_toArray, List.set_cons_zero, List.set_cons_succ]
            refine wpAnyH_take (i := 3) (v := ?_) rfl (by kernel_rfl) (by kernel_rfl) (by kernel_rfl) (fun _ _ _ h => h) (Or.inl ⟨by rfl, ?_⟩) (by assumption) ?_
            rotate_left
            · (intro wS hSw; have r0 := hSw.1.1 0 _ rfl; have r1 := hSw.1.1 1 _ rfl; have r2 := hSw.1.1 2 _ rfl; have r3 := hSw.1.1 3 _ rfl; have r4 := hSw.1.1 4 _ rfl; have r5 := hSw.1.1 5 _ rfl; have r6 := hSw.1.1 6 _ rfl; have r7 := hSw.1.1 7 _ rfl; have s0 := hSw.2.1 0 _ rfl; have s1 := hSw.2.1 1 _ rfl; have s2 := hSw.2.1 2 _ rfl; have s3 := hSw.2.1 3 _ rfl; have s4 := hSw.2.1 4 _ rfl; have s5 := hSw.2.1 5 _ rfl; have s6 := hSw.2.1 6 _ rfl; have s7 := hSw.2.1 7 _ rfl; go_simp; try with_reducible rfl)
            change wpAnyH _ _ _ _ _ _ _ (Act.put _ (some 71) _) _
            simp only [Act.put, List.setIfInBounds_toArray, List.set_cons_zero, List.set_cons_succ]
            refine wpAnyH_ready (rs := [2]) (by kernel_rfl) (by simp) ?_
            refine AllReadyH.cons rfl (fun K hK => ?_) AllReadyH.nil
            go_simp
            refine (C70.out _).mono ?_
            rintro e v1 ⟨rfl, hv1⟩
            have F_1 : Hid (Cs v1 r (setL wi) ∧ Cs v1 s (setL wo) ∧ RdI v1 (.slice (some ⟨b', off, none⟩) zs.length lcap) zs ∧ Below w.heap.size w v1) := ⟨Cs.later hv1 F_0.out.1, Cs.later hv1 F_0.out.2.1, F_0.out.2.2.1.later hv1, F_0.out.2.2.2.trans (hv1.mono F_0.out.2.2.2.size)⟩
            clear hv1 F_0
            (try go_wp2_with (fail))
            refine hK.out _ _ ?_ (fun hHeld => ?_)
            · exact ⟨F_1.out.1, F_1.out.2.1⟩
            clear hK K
            refine wpAnyH_take (i := 4) (v := ?_) rfl (by kernel_rfl) (by kernel_rfl) (by kernel_rfl) (fun _ _ _ h => h) (Or.inl ⟨by rfl, ?_⟩) (by assumption) ?_
            rotate_left
            · (intro wS hSw; have r0 := hSw.1.1 0 _ rfl; have r1 := hSw.1.1 1 _ rfl; have r2 := hSw.1.1 2 _ rfl; have r3 := hSw.1.1 3 _ rfl; have r4 := hSw.1.1 4 _ rfl; have r5 := hSw.1.1 5 _ rfl; have r6 := hSw.1.1 6 _ rfl; have r7 := hSw.1.1 7 _ rfl; have s0 := hSw.2.1 0 _ rfl; have s1 := hSw.2.1 1 _ rfl; have s2 := hSw.2.1 2 _ rfl; have s3 := hSw.2.1 3 _ rfl; have s4 := hSw.2.1 4 _ rfl; have s5 := hSw.2.1 5 _ rfl; have s6 := hSw.2.1 6 _ rfl; have s7 := hSw.2.1 7 _ rfl; go_simp; try with_reducible rfl)
            change wpAnyH _ _ _ _ _ _ _ (Act.put _ (some 72) _) _
            simp only [Act.put, List.setIfInBounds_toArray, List.set_cons_zero, List.set_cons_succ]
            refine wpAnyH_take (i := 5) (v := ?_) rfl (by kernel_rfl) (by kernel_rfl) (by kernel_rfl) (fun _ _ _ h => h) (Or.inl ⟨by rfl, ?_⟩) (by assumption) ?_
            rotate_left
            · (intro wS hSw; have r0 := hSw.1.1 0 _ rfl; have r1 := hSw.1.1 1 _ rfl; have r2 := hSw.1.1 2 _ rfl; have r3 := hSw.1.1 3 _ rfl; have r4 := hSw.1.1 4 _ rfl; have r5 := hSw.1.1 5 _ rfl; have r6 := hSw.1.1 6 _ rfl; have r7 := hSw.1.1 7 _ rfl; have s0 := hSw.2.1 0 _ rfl; have s1 := hSw.2.1 1 _ rfl; have s2 := hSw.2.1 2 _ rfl; have s3 := hSw.2.1 3 _ rfl; have s4 := hSw.2.1 4 _ rfl; have s5 := hSw.2.1 5 _ rfl; have s6 := hSw.2.1 6 _ rfl; have s7 := hSw.2.1 7 _ rfl; go_simp; try with_reducible rfl)
            change wpAnyH _ _ _ _ _ _ _ (Act.put _ (some 73) _) _
            simp only [Act.put, List.setIfInBounds_toArray, List.set_cons_zero, List.set_cons_succ]
            refine wpAnyH_take (i := 6) (v := ?_) rfl (by kernel_rfl) (by kernel_rfl) (by kernel_rfl) (fun _ _ _ h => h) (Or.inl ⟨by rfl, ?_⟩) (by assumption) ?_
            rotate_left
            · (intro wS hSw; have r0 := hSw.1.1 0 _ rfl; have r1 := hSw.1.1 1 _ rfl; have r2 := hSw.1.1 2 _ rfl; have r3 := hSw.1.1 3 _ rfl; have r4 := hSw.1.1 4 _ rfl; have r5 := hSw.1.1 5 _ rfl; have r6 := hSw.1.1 6 _ rfl; have r7 := hSw.1.1 7 _ rfl; have s0 := hSw.2.1 0 _ rfl; have s1 := hSw.2.1 1 _ rfl; have s2 := hSw.2.1 2 _ rfl; have s3 := hSw.2.1 3 _ rfl; have s4 := hSw.2.1 4 _ rfl; have s5 := hSw.2.1 5 _ rfl; have s6 := hSw.2.1 6 _ rfl; have s7 := hSw.2.1 7 _ rfl; go_simp; try with_reducible rfl)
            change wpAnyH _ _ _ _ _ _ _ (Act.put _ (some 74) _) _
            simp only [Act.put, List.setIfInBounds_toArray, List.set_cons_zero, List.set_cons_succ]
            refine wpAnyH_take (i := 7) (v := ?_) rfl (by kernel_rfl) (by kernel_rfl) (by kernel_rfl) (fun _ _ _ h => h) (Or.inl ⟨by rfl, ?_⟩) (by assumption) ?_
            rotate_left
            · (intro wS hSw; have r0 := hSw.1.1 0 _ rfl; have r1 := hSw.1.1 1 _ rfl; have r2 := hSw.1.1 2 _ rfl; have r3 := hSw.1.1 3 _ rfl; have r4 := hSw.1.1 4 _ rfl; have r5 := hSw.1.1 5 _ rfl; have r6 := hSw.1.1 6 _ rfl; have r7 := hSw.1.1 7 _ rfl; have s0 := hSw.2.1 0 _ rfl; have s1 := hSw.2.1 1 _ rfl; have s2 := hSw.2.1 2 _ rfl; have s3 := hSw.2.1 3 _ rfl; have s4 := hSw.2.1 4 _ rfl; have s5 := hSw.2.1 5 _ rfl; have s6 := hSw.2.1 6 _ rfl; have s7 := hSw.2.1 7 _ rfl; go_simp; try with_reducible rfl)
            change wpAnyH _ _ _ _ _ _ _ (Act.put _ (some 75) _) _
            simp only [Act.put, List.setIfInBounds_toArray, List.set_cons_zero, List.set_cons_succ]
            refine wpAnyH_take (i := 9) (v := ?_) rfl (by kernel_rfl) (by kernel_rfl) (by kernel_rfl) (fun _ _ _ h => h) (Or.inl ⟨by rfl, ?_⟩) (by assumption) ?_
            rotate_left
            · (intro wS hSw; have r0 := hSw.1.1 0 _ rfl; have r1 := hSw.1.1 1 _ rfl; have r2 := hSw.1.1 2 _ rfl; have r3 := hSw.1.1 3 _ rfl; have r4 := hSw.1.1 4 _ rfl; have r5 := hSw.1.1 5 _ rfl; have r6 := hSw.1.1 6 _ rfl; have r7 := hSw.1.1 7 _ rfl; have s0 := hSw.2.1 0 _ rfl; have s1 := hSw.2.1 1 _ rfl; have s2 := hSw.2.1 2 _ rfl; have s3 := hSw.2.1 3 _ rfl; have s4 := hSw.2.1 4 _ rfl; have s5 := hSw.2.1 5 _ rfl; have s6 := hSw.2.1 6 _ rfl; have s7 := hSw.2.1 7 _ rfl; go_simp; try with_reducible rfl)
            change wpAnyH _ _ _ _ _ _ _ (Act.put _ (some 77) _) _
            simp only [Act.put, List.setIfInBounds_toArray, List.set_cons_zero, List.set_cons_succ]
            refine wpAnyH_ready (rs := [8]) (by kernel_rfl) (by simp) ?_
            refine AllReadyH.cons rfl (fun K hK => ?_) AllReadyH.nil
            go_simp
            refine (C76.out _).mono ?_
            rintro e v2 ⟨rfl, hv2⟩
            have F_2 : Hid (Cs v2 r (setL wi) ∧ Cs v2 s (setL wo) ∧ RdI v2 (.slice (some ⟨b', off, none⟩) zs.length lcap) zs ∧ Below w.heap.size w v2) := ⟨Cs.later hv2 F_1.out.1, Cs.later hv2 F_1.out.2.1, F_1.out.2.2.1.later hv2, F_1.out.2.2.2.trans (hv2.mono F_1.out.2.2.2.size)⟩
            clear hv2 F_1
            (try go_wp2_with (fail))
            refine hK.out _ _ ?_ (fun hHeld => ?_)
            · exact ⟨F_2.out.1, F_2.out.2.1⟩
            clear hK K
            refine wpAnyH_ready (rs := [10]) (by kernel_rfl) (by simp) ?_
            refine AllReadyH.cons rfl (fun K hK => ?_) AllReadyH.nil
            go_simp
            refine (C78.out _).mono ?_
            rintro e v3 ⟨rfl, hv3⟩
            have F_3 : Hid (Cs v3 r (setL wi) ∧ Cs v3 s (setL wo) ∧ RdI v3 (.slice (some ⟨b', off, none⟩) zs.length lcap) zs ∧ Below w.heap.size w v3) := ⟨Cs.later hv3 F_2.out.1, Cs.later hv3 F_2.out.2.1, F_2.out.2.2.1.later hv3, F_2.out.2.2.2.trans (hv3.mono F_2.out.2.2.2.size)⟩
            clear hv3 F_2
            (try go_wp2_with (fail))
            refine hK.out _ _ ?_ (fun hHeld => ?_)
            · exact ⟨F_3.out.1, F_3.out.2.1⟩
            clear hK K
            refine wpAnyH_take (i := 11) (v := ?_) rfl (by kernel_rfl) (by kernel_rfl) (by kernel_rfl) (fun _ _ _ h => h) (Or.inl ⟨by rfl, ?_⟩) (by assumption) ?_
            rotate_left
            · (intro wS hSw; have r0 := hSw.1.1 0 _ rfl; have r1 := hSw.1.1 1 _ rfl; have r2 := hSw.1.1 2 _ rfl; have r3 := hSw.1.1 3 _ rfl; have r4 := hSw.1.1 4 _ rfl; have r5 := hSw.1.1 5 _ rfl; have r6 := hSw.1.1 6 _ rfl; have r7 := hSw.1.1 7 _ rfl; have s0 := hSw.2.1 0 _ rfl; have s1 := hSw.2.1 1 _ rfl; have s2 := hSw.2.1 2 _ rfl; have s3 := hSw.2.1 3 _ rfl; have s4 := hSw.2.1 4 _ rfl; have s5 := hSw.2.1 5 _ rfl; have s6 := hSw.2.1 6 _ rfl; have s7 := hSw.2.1 7 _ rfl; go_simp; try with_reducible rfl)
            change wpAnyH _ _ _ _ _ _ _ (Act.put _ (some 79) _) _
            simp only [Act.put, List.setIfInBounds_toArray, List.set_cons_zero, List.set_cons_succ]
            refine wpAnyH_take (i := 12) (v := ?_) rfl (by kernel_rfl) (by kernel_rfl) (by kernel_rfl) (fun _ _ _ h => h) (Or.inl ⟨by rfl, ?_⟩) (by assumption) ?_
            rotate_left
            · (intro wS hSw; have r0 := hSw.1.1 0 _ rfl; have r1 := hSw.1.1 1 _ rfl; have r2 := hSw.1.1 2 _ rfl; have r3 := hSw.1.1 3 _ rfl; have r4 := hSw.1.1 4 _ rfl; have r5 := hSw.1.1 5 _ rfl; have r6 := hSw.1.1 6 _ rfl; have r7 := hSw.1.1 7 _ rfl; have s0 := hSw.2.1 0 _ rfl; have s1 := hSw.2.1 1 _ rfl; have s2 := hSw.2.1 2 _ rfl; have s3 := hSw.2.1 3 _ rfl; have s4 := hSw.2.1 4 _ rfl; have s5 := hSw.2.1 5 _ rfl; have s6 := hSw.2.1 6 _ rfl; have s7 := hSw.2.1 7 _ rfl; go_simp; try with_reducible rfl)
            change wpAnyH _ _ _ _ _ _ _ (Act.put _ (some 80) _) _
            simp only [Act.put, List.setIfInBounds_toArray, List.set_cons_zero, List.set_cons_succ]
            refine wpAnyH_take (i := 13) (v := ?_) rfl (by kernel_rfl) (by kernel_rfl) (by kernel_rfl) (fun _ _ _ h => h) (Or.inl ⟨by rfl, ?_⟩) (by assumption) ?_
            rotate_left
            · (intro wS hSw; have r0 := hSw.1.1 0 _ rfl; have r1 := hSw.1.1 1 _ rfl; have r2 := hSw.1.1 2 _ rfl; have r3 := hSw.1.1 3 _ rfl; have r4 := hSw.1.1 4 _ rfl; have r5 := hSw.1.1 5 _ rfl; have r6 := hSw.1.1 6 _ rfl; have r7 := hSw.1.1 7 _ rfl; have s0 := hSw.2.1 0 _ rfl; have s1 := hSw.2.1 1 _ rfl; have s2 := hSw.2.1 2 _ rfl; have s3 := hSw.2.1 3 _ rfl; have s4 := hSw.2.1 4 _ rfl; have s5 := hSw.2.1 5 _ rfl; have s6 := hSw.2.1 6 _ rfl; have s7 := hSw.2.1 7 _ rfl; go_simp; try with_reducible rfl)
            change wpAnyH _ _ _ _ _ _ _ (Act.put _ (some 81) _) _
            simp only [Act.put, List.setIfInBounds_toArray, List.set_cons_zero, List.set_cons_succ]
            refine wpAnyH_take (i := 14) (v := ?_) rfl (by kernel_rfl) (by kernel_rfl) (by kernel_rfl) (fun _ _ _ h => h) (Or.inl ⟨by rfl, ?_⟩) (by assumption) ?_
            rotate_left
            · (intro wS hSw; have r0 := hSw.1.1 0 _ rfl; have r1 := hSw.1.1 1 _ rfl; have r2 := hSw.1.1 2 _ rfl; have r3 := hSw.1.1 3 _ rfl; have r4 := hSw.1.1 4 _ rfl; have r5 := hSw.1.1 5 _ rfl; have r6 := hSw.1.1 6 _ rfl; have r7 := hSw.1.1 7 _ rfl; have s0 := hSw.2.1 0 _ rfl; have s1 := hSw.2.1 1 _ rfl; have s2 := hSw.2.1 2 _ rfl; have s3 := hSw.2.1 3 _ rfl; have s4 := hSw.2.1 4 _ rfl; have s5 := hSw.2.1 5 _ rfl; have s6 := hSw.2.1 6 _ rfl; have s7 := hSw.2.1 7 _ rfl; go_simp; try with_reducible rfl)
            change wpAnyH _ _ _ _ _ _ _ (Act.put _ (some 82) _) _
            simp only [Act.put, List.setIfInBounds_toArray, List.set_cons_zero, List.set_cons_succ]
            refine wpAnyH_take (i := 15) (v := ?_) rfl (by kernel_rfl) (by kernel_rfl) (by kernel_rfl) (fun _ _ _ h => h) (Or.inl ⟨by rfl, ?_⟩) (by assumption) ?_
            rotate_left
            · (intro wS hSw; have r0 := hSw.1.1 0 _ rfl; have r1 := hSw.1.1 1 _ rfl; have r2 := hSw.1.1 2 _ rfl; have r3 := hSw.1.1 3 _ rfl; have r4 := hSw.1.1 4 _ rfl; have r5 := hSw.1.1 5 _ rfl; have r6 := hSw.1.1 6 _ rfl; have r7 := hSw.1.1 7 _ rfl; have s0 := hSw.2.1 0 _ rfl; have s1 := hSw.2.1 1 _ rfl; have s2 := hSw.2.1 2 _ rfl; have s3 := hSw.2.1 3 _ rfl; have s4 := hSw.2.1 4 _ rfl; have s5 := hSw.2.1 5 _ rfl; have s6 := hSw.2.1 6 _ rfl; have s7 := hSw.2.1 7 _ rfl; go_simp; try with_reducible rfl)
            change wpAnyH _ _ _ _ _ _ _ (Act.put _ (some 83) _) _
            simp only [Act.put, List.setIfInBounds_toArray, List.set_cons_zero, List.set_cons_succ]
            refine wpAnyH_take (i := 17) (v := ?_) rfl (by kernel_rfl) (by kernel_rfl) (by kernel_rfl) (fun _ _ _ h => h) (Or.inl ⟨by rfl, ?_⟩) (by assumption) ?_
            rotate_left
            · (intro wS hSw; have r0 := hSw.1.1 0 _ rfl; have r1 := hSw.1.1 1 _ rfl; have r2 := hSw.1.1 2 _ rfl; have r3 := hSw.1.1 3 _ rfl; have r4 := hSw.1.1 4 _ rfl; have r5 := hSw.1.1 5 _ rfl; have r6 := hSw.1.1 6 _ rfl; have r7 := hSw.1.1 7 _ rfl; have s0 := hSw.2.1 0 _ rfl; have s1 := hSw.2.1 1 _ rfl; have s2 := hSw.2.1 2 _ rfl; have s3 := hSw.2.1 3 _ rfl; have s4 := hSw.2.1 4 _ rfl; have s5 := hSw.2.1 5 _ rfl; have s6 := hSw.2.1 6 _ rfl; have s7 := hSw.2.1 7 _ rfl; go_simp; try with_reducible rfl)
            change wpAnyH _ _ _ _ _ _ _ (Act.put _ (some 85) _) _
            simp only [Act.put, List.setIfInBounds_toArray, List.set_cons_zero, List.set_cons_succ]
            refine wpAnyH_ready (rs := [16]) (by kernel_rfl) (by simp) ?_
            refine AllReadyH.cons rfl (fun K hK => ?_) AllReadyH.nil
            go_simp
            refine (C84.out _).mono ?_
            rintro e v4 ⟨rfl, hv4⟩
            have F_4 : Hid (Cs v4 r (setL wi) ∧ Cs v4 s (setL wo) ∧ RdI v4 (.slice (some ⟨b', off, none⟩) zs.length lcap) zs ∧ Below w.heap.size w v4) := ⟨Cs.later hv4 F_3.out.1, Cs.later hv4 F_3.out.2.1, F_3.out.2.2.1.later hv4, F_3.out.2.2.2.trans (hv4.mono F_3.out.2.2.2.size)⟩
            clear hv4 F_3
            (try go_wp2_with (fail))
            refine hK.out _ _ ?_ (fun hHeld => ?_)
            · exact ⟨F_4.out.1, F_4.out.2.1⟩
            clear hK K
            refine wpAnyH_ready (rs := [18]) (by kernel_rfl) (by simp) ?_
            refine AllReadyH.cons rfl (fun K hK => ?_) AllReadyH.nil
            go_simp
            refine (C86.out _).mono ?_
            rintro e v5 ⟨rfl, hv5⟩
            have F_5 : Hid (Cs v5 r (setL wi) ∧ Cs v5 s (setL wo) ∧ RdI v5 (.slice (some ⟨b', off, none⟩) zs.length lcap) zs ∧ Below w.heap.size w v5) := ⟨Cs.later hv5 F_4.out.1, Cs.later hv5 F_4.out.2.1, F_4.out.2.2.1.later hv5, F_4.out.2.2.2.trans (hv5.mono F_4.out.2.2.2.size)⟩
            clear hv5 F_4
            (try go_wp2_with (fail))
            refine hK.out _ _ ?_ (fun hHeld => ?_)
            · exact ⟨F_5.out.1, F_5.out.2.1⟩
            clear hK K
            refine wpAnyH_take (i := 19) (v := ?_) rfl (by kernel_rfl) (by kernel_rfl) (by kernel_rfl) (fun _ _ _ h => h) (Or.inl ⟨by rfl, ?_⟩) (by assumption) ?_
            rotate_left
            · (intro wS hSw; have r0 := hSw.1.1 0 _ rfl; have r1 := hSw.1.1 1 _ rfl; have r2 := hSw.1.1 2 _ rfl; have r3 := hSw.1.1 3 _ rfl; have r4 := hSw.1.1 4 _ rfl; have r5 := hSw.1.1 5 _ rfl; have r6 := hSw.1.1 6 _ rfl; have r7 := hSw.1.1 7 _ rfl; have s0 := hSw.2.1 0 _ rfl; have s1 := hSw.2.1 1 _ rfl; have s2 := hSw.2.1 2 _ rfl; have s3 := hSw.2.1 3 _ rfl; have s4 := hSw.2.1 4 _ rfl; have s5 := hSw.2.1 5 _ rfl; have s6 := hSw.2.1 6 _ rfl; have s7 := hSw.2.1 7 _ rfl; go_simp; try with_reducible rfl)
            change wpAnyH _ _ _ _ _ _ _ (Act.put _ (some 87) _) _
            simp only [Act.put, List.setIfInBounds_toArray, List.set_cons_zero, List.set_cons_succ]
            refine wpAnyH_take (i := 20) (v := ?_) rfl (by kernel_rfl) (by kernel_rfl) (by kernel_rfl) (fun _ _ _ h => h) (Or.inl ⟨by rfl, ?_⟩) (by assumption) ?_
            rotate_left
            · (intro wS hSw; have r0 := hSw.1.1 0 _ rfl; have r1 := hSw.1.1 1 _ rfl; have r2 := hSw.1.1 2 _ rfl; have r3 := hSw.1.1 3 _ rfl; have r4 := hSw.1.1 4 _ rfl; have r5 := hSw.1.1 5 _ rfl; have r6 := hSw.1.1 6 _ rfl; have r7 := hSw.1.1 7 _ rfl; have s0 := hSw.2.1 0 _ rfl; have s1 := hSw.2.1 1 _ rfl; have s2 := hSw.2.1 2 _ rfl; have s3 := hSw.2.1 3 _ rfl; have s4 := hSw.2.1 4 _ rfl; have s5 := hSw.2.1 5 _ rfl; have s6 := hSw.2.1 6 _ rfl; have s7 := hSw.2.1 7 _ rfl; go_simp; try with_reducible rfl)
            change wpAnyH _ _ _ _ _ _ _ (Act.put _ (some 88) _) _
            simp only [Act.put, List.setIfInBounds_toArray, List.set_cons_zero, List.set_cons_succ]
            refine wpAnyH_take (i := 21) (v := ?_) rfl (by kernel_rfl) (by kernel_rfl) (by kernel_rfl) (fun _ _ _ h => h) (Or.inl ⟨by rfl, ?_⟩) (by assumption) ?_
            rotate_left
            · (intro wS hSw; have r0 := hSw.1.1 0 _ rfl; have r1 := hSw.1.1 1 _ rfl; have r2 := hSw.1.1 2 _ rfl; have r3 := hSw.1.1 3 _ rfl; have r4 := hSw.1.1 4 _ rfl; have r5 := hSw.1.1 5 _ rfl; have r6 := hSw.1.1 6 _ rfl; have r7 := hSw.1.1 7 _ rfl; have s0 := hSw.2.1 0 _ rfl; have s1 := hSw.2.1 1 _ rfl; have s2 := hSw.2.1 2 _ rfl; have s3 := hSw.2.1 3 _ rfl; have s4 := hSw.2.1 4 _ rfl; have s5 := hSw.2.1 5 _ rfl; have s6 := hSw.2.1 6 _ rfl; have s7 := hSw.2.1 7 _ rfl; go_simp; try with_reducible rfl)
            change wpAnyH _ _ _ _ _ _ _ (Act.put _ (some 89) _) _
            simp only [Act.put, List.setIfInBounds_toArray, List.set_cons_zero, List.set_cons_succ]
            refine wpAnyH_take (i := 22) (v := ?_) rfl (by kernel_rfl) (by kernel_rfl) (by kernel_rfl) (fun _ _ _ h => h) (Or.inl ⟨by rfl, ?_⟩) (by assumption) ?_
            rotate_left
            · (intro wS hSw; have r0 := hSw.1.1 0 _ rfl; have r1 := hSw.1.1 1 _ rfl; have r2 := hSw.1.1 2 _ rfl; have r3 := hSw.1.1 3 _ rfl; have r4 := hSw.1.1 4 _ rfl; have r5 := hSw.1.1 5 _ rfl; have r6 := hSw.1.1 6 _ rfl; have r7 := hSw.1.1 7 _ rfl; have s0 := hSw.2.1 0 _ rfl; have s1 := hSw.2.1 1 _ rfl; have s2 := hSw.2.1 2 _ rfl; have s3 := hSw.2.1 3 _ rfl; have s4 := hSw.2.1 4 _ rfl; have s5 := hSw.2.1 5 _ rfl; have s6 := hSw.2.1 6 _ rfl; have s7 := hSw.2.1 7 _ rfl; go_simp; try with_reducible rfl)
            change wpAnyH _ _ _ _ _ _ _ (Act.put _ (some 90) _) _
            simp only [Act.put, List.setIfInBounds_toArray, List.set_cons_zero, List.set_cons_succ]
            refine wpAnyH_take (i := 24) (v := ?_) rfl (by kernel_rfl) (by kernel_rfl) (by kernel_rfl) (fun _ _ _ h => h) (Or.inl ⟨by rfl, ?_⟩) (by assumption) ?_
            rotate_left
            · (intro wS hSw; have r0 := hSw.1.1 0 _ rfl; have r1 := hSw.1.1 1 _ rfl; have r2 := hSw.1.1 2 _ rfl; have r3 := hSw.1.1 3 _ rfl; have r4 := hSw.1.1 4 _ rfl; have r5 := hSw.1.1 5 _ rfl; have r6 := hSw.1.1 6 _ rfl; have r7 := hSw.1.1 7 _ rfl; have s0 := hSw.2.1 0 _ rfl; have s1 := hSw.2.1 1 _ rfl; have s2 := hSw.2.1 2 _ rfl; have s3 := hSw.2.1 3 _ rfl; have s4 := hSw.2.1 4 _ rfl; have s5 := hSw.2.1 5 _ rfl; have s6 := hSw.2.1 6 _ rfl; have s7 := hSw.2.1 7 _ rfl; go_simp; try with_reducible rfl)
            change wpAnyH _ _ _ _ _ _ _ (Act.put _ (some 92) _) _
            simp only [Act.put, List.setIfInBounds_toArray, List.set_cons_zero, List.set_cons_succ]
            refine wpAnyH_take (i := 25) (v := ?_) rfl (by kernel_rfl) (by kernel_rfl) (by kernel_rfl) (fun _ _ _ h => h) (Or.inl ⟨by rfl, ?_⟩) (by assumption) ?_
            rotate_left
            · (intro wS hSw; have r0 := hSw.1.1 0 _ rfl; have r1 := hSw.1.1 1 _ rfl; have r2 := hSw.1.1 2 _ rfl; have r3 := hSw.1.1 3 _ rfl; have r4 := hSw.1.1 4 _ rfl; have r5 := hSw.1.1 5 _ rfl; have r6 := hSw.1.1 6 _ rfl; have r7 := hSw.1.1 7 _ rfl; have s0 := hSw.2.1 0 _ rfl; have s1 := hSw.2.1 1 _ rfl; have s2 := hSw.2.1 2 _ rfl; have s3 := hSw.2.1 3 _ rfl; have s4 := hSw.2.1 4 _ rfl; have s5 := hSw.2.1 5 _ rfl; have s6 := hSw.2.1 6 _ rfl; have s7 := hSw.2.1 7 _ rfl; go_simp; try with_reducible rfl)
            change wpAnyH _ _ _ _ _ _ _ (Act.put _ (some 93) _) _
            simp only [Act.put, List.setIfInBounds_toArray, List.set_cons_zero, List.set_cons_succ]
            refine wpAnyH_ready (rs := [23]) (by kernel_rfl) (by simp) ?_
            refine AllReadyH.cons rfl (fun K hK => ?_) AllReadyH.nil
            go_simp
            refine (D91.out _).mono ?_
            rintro e v6 ⟨rfl, hv6⟩
            have F_6 : Hid (Cs v6 r (setL wi) ∧ Cs v6 s (setL wo) ∧ RdI v6 (.slice (some ⟨b', off, none⟩) zs.length lcap) zs ∧ Below w.heap.size w v6) := ⟨Cs.later hv6 F_5.out.1, Cs.later hv6 F_5.out.2.1, F_5.out.2.2.1.later hv6, F_5.out.2.2.2.trans (hv6.mono F_5.out.2.2.2.size)⟩
            clear hv6 F_5
            (try go_wp2_with (fail))
            refine hK.out _ _ ?_ (fun hHeld => ?_)
            · exact ⟨F_6.out.1, F_6.out.2.1⟩
            clear hK K
            refine wpAnyH_take (i := 26) (v := ?_) rfl (by kernel_rfl) (by kernel_rfl) (by kernel_rfl) (fun _ _ _ h => h) (Or.inl ⟨by rfl, ?_⟩) (by assumption) ?_
            rotate_left
            · (intro wS hSw; have r0 := hSw.1.1 0 _ rfl; have r1 := hSw.1.1 1 _ rfl; have r2 := hSw.1.1 2 _ rfl; have r3 := hSw.1.1 3 _ rfl; have r4 := hSw.1.1 4 _ rfl; have r5 := hSw.1.1 5 _ rfl; have r6 := hSw.1.1 6 _ rfl; have r7 := hSw.1.1 7 _ rfl; have s0 := hSw.2.1 0 _ rfl; have s1 := hSw.2.1 1 _ rfl; have s2 := hSw.2.1 2 _ rfl; have s3 := hSw.2.1 3 _ rfl; have s4 := hSw.2.1 4 _ rfl; have s5 := hSw.2.1 5 _ rfl; have s6 := hSw.2.1 6 _ rfl; have s7 := hSw.2.1 7 _ rfl; go_simp; try with_reducible rfl)
            change wpAnyH _ _ _ _ _ _ _ (Act.put _ (some 94) _) _
            simp only [Act.put, List.setIfInBounds_toArray, List.set_cons_zero, List.set_cons_succ]
            refine wpAnyH_take (i := 27) (v := ?_) rfl (by kernel_rfl) (by kernel_rfl) (by kernel_rfl) (fun _ _ _ h => h) (Or.inl ⟨by rfl, ?_⟩) (by assumption) ?_
            rotate_left
            · (intro wS hSw; have r0 := hSw.1.1 0 _ rfl; have r1 := hSw.1.1 1 _ rfl; have r2 := hSw.1.1 2 _ rfl; have r3 := hSw.1.1 3 _ rfl; have r4 := hSw.1.1 4 _ rfl; have r5 := hSw.1.1 5 _ rfl; have r6 := hSw.1.1 6 _ rfl; have r7 := hSw.1.1 7 _ rfl; have s0 := hSw.2.1 0 _ rfl; have s1 := hSw.2.1 1 _ rfl; have s2 := hSw.2.1 2 _ rfl; have s3 := hSw.2.1 3 _ rfl; have s4 := hSw.2.1 4 _ rfl; have s5 := hSw.2.1 5 _ rfl; have s6 := hSw.2.1 6 _ rfl; have s7 := hSw.2.1 7 _ rfl; go_simp; try with_reducible rfl)
            change wpAnyH _ _ _ _ _ _ _ (Act.put _ (some 95) _) _
            simp only [Act.put, List.setIfInBounds_toArray, List.set_cons_zero, List.set_cons_succ]
            refine wpAnyH_take (i := 28) (v := ?_) rfl (by kernel_rfl) (by kernel_rfl) (by kernel_rfl) (fun _ _ _ h => h) (Or.inl ⟨by rfl, ?_⟩) (by assumption) ?_
            rotate_left
            · (intro wS hSw; have r0 := hSw.1.1 0 _ rfl; have r1 := hSw.1.1 1 _ rfl; have r2 := hSw.1.1 2 _ rfl; have r3 := hSw.1.1 3 _ rfl; have r4 := hSw.1.1 4 _ rfl; have r5 := hSw.1.1 5 _ rfl; have r6 := hSw.1.1 6 _ rfl; have r7 := hSw.1.1 7 _ rfl; have s0 := hSw.2.1 0 _ rfl; have s1 := hSw.2.1 1 _ rfl; have s2 := hSw.2.1 2 _ rfl; have s3 := hSw.2.1 3 _ rfl; have s4 := hSw.2.1 4 _ rfl; have s5 := hSw.2.1 5 _ rfl; have s6 := hSw.2.1 6 _ rfl; have s7 := hSw.2.1 7 _ rfl; go_simp; try with_reducible rfl)
            change wpAnyH _ _ _ _ _ _ _ (Act.put _ (some 96) _) _
            simp only [Act.put, List.setIfInBounds_toArray, List.set_cons_zero, List.set_cons_succ]
            refine wpAnyH_take (i := 29) (v := ?_) rfl (by kernel_rfl) (by kernel_rfl) (by kernel_rfl) (fun _ _ _ h => h) (Or.inl ⟨by rfl, ?_⟩) (by assumption) ?_
            rotate_left
            · (intro wS hSw; have r0 := hSw.1.1 0 _ rfl; have r1 := hSw.1.1 1 _ rfl; have r2 := hSw.1.1 2 _ rfl; have r3 := hSw.1.1 3 _ rfl; have r4 := hSw.1.1 4 _ rfl; have r5 := hSw.1.1 5 _ rfl; have r6 := hSw.1.1 6 _ rfl; have r7 := hSw.1.1 7 _ rfl; have s0 := hSw.2.1 0 _ rfl; have s1 := hSw.2.1 1 _ rfl; have s2 := hSw.2.1 2 _ rfl; have s3 := hSw.2.1 3 _ rfl; have s4 := hSw.2.1 4 _ rfl; have s5 := hSw.2.1 5 _ rfl; have s6 := hSw.2.1 6 _ rfl; have s7 := hSw.2.1 7 _ rfl; go_simp; try with_reducible rfl)
            change wpAnyH _ _ _ _ _ _ _ (Act.put _ (some 97) _) _
            simp only [Act.put, List.setIfInBounds_toArray, List.set_cons_zero, List.set_cons_succ]
            refine wpAnyH_take (i := 30) (v := ?_) rfl (by kernel_rfl) (by kernel_rfl) (by kernel_rfl) (fun _ _ _ h => h) (Or.inl ⟨by rfl, ?_⟩) (by assumption) ?_
            rotate_left
            · (intro wS hSw; have r0 := hSw.1.1 0 _ rfl; have r1 := hSw.1.1 1 _ rfl; have r2 := hSw.1.1 2 _ rfl; have r3 := hSw.1.1 3 _ rfl; have r4 := hSw.1.1 4 _ rfl; have r5 := hSw.1.1 5 _ rfl; have r6 := hSw.1.1 6 _ rfl; have r7 := hSw.1.1 7 _ rfl; have s0 := hSw.2.1 0 _ rfl; have s1 := hSw.2.1 1 _ rfl; have s2 := hSw.2.1 2 _ rfl; have s3 := hSw.2.1 3 _ rfl; have s4 := hSw.2.1 4 _ rfl; have s5 := hSw.2.1 5 _ rfl; have s6 := hSw.2.1 6 _ rfl; have s7 := hSw.2.1 7 _ rfl; go_simp; try with_reducible rfl)
            change wpAnyH _ _ _ _ _ _ _ (Act.put _ (some 98) _) _
            simp only [Act.put, List.setIfInBounds_toArray, List.set_cons_zero, List.set_cons_succ]
            refine wpAnyH_take (i := 31) (v := ?_) rfl (by kernel_rfl) (by kernel_rfl) (by kernel_rfl) (fun _ _ _ h => h) (Or.inl ⟨by rfl, ?_⟩) (by assumption) ?_
            rotate_left
            · (intro wS hSw; have r0 := hSw.1.1 0 _ rfl; have r1 := hSw.1.1 1 _ rfl; have r2 := hSw.1.1 2 _ rfl; have r3 := hSw.1.1 3 _ rfl; have r4 := hSw.1.1 4 _ rfl; have r5 := hSw.1.1 5 _ rfl; have r6 := hSw.1.1 6 _ rfl; have r7 := hSw.1.1 7 _ rfl; have s0 := hSw.2.1 0 _ rfl; have s1 := hSw.2.1 1 _ rfl; have s2 := hSw.2.1 2 _ rfl; have s3 := hSw.2.1 3 _ rfl; have s4 := hSw.2.1 4 _ rfl; have s5 := hSw.2.1 5 _ rfl; have s6 := hSw.2.1 6 _ rfl; have s7 := hSw.2.1 7 _ rfl; go_simp; try with_reducible rfl)
            change wpAnyH _ _ _ _ _ _ _ (Act.put _ (some 99) _) _
            simp only [Act.put, List.setIfInBounds_toArray, List.set_cons_zero, List.set_cons_succ]
            refine wpAnyH_take (i := 32) (v := ?_) rfl (by kernel_rfl) (by kernel_rfl) (by kernel_rfl) (fun _ _ _ h => h) (Or.inl ⟨by rfl, ?_⟩) (by assumption) ?_
            rotate_left
            · (intro wS hSw; have r0 := hSw.1.1 0 _ rfl; have r1 := hSw.1.1 1 _ rfl; have r2 := hSw.1.1 2 _ rfl; have r3 := hSw.1.1 3 _ rfl; have r4 := hSw.1.1 4 _ rfl; have r5 := hSw.1.1 5 _ rfl; have r6 := hSw.1.1 6 _ rfl; have r7 := hSw.1.1 7 _ rfl; have s0 := hSw.2.1 0 _ rfl; have s1 := hSw.2.1 1 _ rfl; have s2 := hSw.2.1 2 _ rfl; have s3 := hSw.2.1 3 _ rfl; have s4 := hSw.2.1 4 _ rfl; have s5 := hSw.2.1 5 _ rfl; have s6 := hSw.2.1 6 _ rfl; have s7 := hSw.2.1 7 _ rfl; go_simp; try with_reducible rfl)
            change wpAnyH _ _ _ _ _ _ _ (Act.put _ (some 100) _) _
            simp only [Act.put, List.setIfInBounds_toArray, List.set_cons_zero, List.set_cons_succ]
            refine wpAnyH_take (i := 33) (v := ?_) rfl (by kernel_rfl) (by kernel_rfl) (by kernel_rfl) (fun _ _ _ h => h) (Or.inl ⟨by rfl, ?_⟩) (by assumption) ?_
            rotate_left
            · (intro wS hSw; have r0 := hSw.1.1 0 _ rfl; have r1 := hSw.1.1 1 _ rfl; have r2 := hSw.1.1 2 _ rfl; have r3 := hSw.1.1 3 _ rfl; have r4 := hSw.1.1 4 _ rfl; have r5 := hSw.1.1 5 _ rfl; have r6 := hSw.1.1 6 _ rfl; have r7 := hSw.1.1 7 _ rfl; have s0 := hSw.2.1 0 _ rfl; have s1 := hSw.2.1 1 _ rfl; have s2 := hSw.2.1 2 _ rfl; have s3 := hSw.2.1 3 _ rfl; have s4 := hSw.2.1 4 _ rfl; have s5 := hSw.2.1 5 _ rfl; have s6 := hSw.2.1 6 _ rfl; have s7 := hSw.2.1 7 _ rfl; go_simp; try with_reducible rfl)
            change wpAnyH _ _ _ _ _ _ _ (Act.put _ (some 101) _) _
            simp only [Act.put, List.setIfInBounds_toArray, List.set_cons_zero, List.set_cons_succ]
            refine wpAnyH_take (i := 34) (v := ?_) rfl (by kernel_rfl) (by kernel_rfl) (by kernel_rfl) (fun _ _ _ h => h) (Or.inl ⟨by rfl, ?_⟩) (by assumption) ?_
            rotate_left
            · (intro wS hSw; have r0 := hSw.1.1 0 _ rfl; have r1 := hSw.1.1 1 _ rfl; have r2 := hSw.1.1 2 _ rfl; have r3 := hSw.1.1 3 _ rfl; have r4 := hSw.1.1 4 _ rfl; have r5 := hSw.1.1 5 _ rfl; have r6 := hSw.1.1 6 _ rfl; have r7 := hSw.1.1 7 _ rfl; have s0 := hSw.2.1 0 _ rfl; have s1 := hSw.2.1 1 _ rfl; have s2 := hSw.2.1 2 _ rfl; have s3 := hSw.2.1 3 _ rfl; have s4 := hSw.2.1 4 _ rfl; have s5 := hSw.2.1 5 _ rfl; have s6 := hSw.2.1 6 _ rfl; have s7 := hSw.2.1 7 _ rfl; go_simp; try with_reducible rfl)
            change wpAnyH _ _ _ _ _ _ _ (Act.put _ (some 102) _) _
            simp only [Act.put, List.setIfInBounds_toArray, List.set_cons_zero, List.set_cons_succ]
            refine wpAnyH_take (i := 35) (v := ?_) rfl (by kernel_rfl) (by kernel_rfl) (by kernel_rfl) (fun _ _ _ h => h) (Or.inl ⟨by rfl, ?_⟩) (by assumption) ?_
            rotate_left
            · (intro wS hSw; have r0 := hSw.1.1 0 _ rfl; have r1 := hSw.1.1 1 _ rfl; have r2 := hSw.1.1 2 _ rfl; have r3 := hSw.1.1 3 _ rfl; have r4 := hSw.1.1 4 _ rfl; have r5 := hSw.1.1 5 _ rfl; have r6 := hSw.1.1 6 _ rfl; have r7 := hSw.1.1 7 _ rfl; have s0 := hSw.2.1 0 _ rfl; have s1 := hSw.2.1 1 _ rfl; have s2 := hSw.2.1 2 _ rfl; have s3 := hSw.2.1 3 _ rfl; have s4 := hSw.2.1 4 _ rfl; have s5 := hSw.2.1 5 _ rfl; have s6 := hSw.2.1 6 _ rfl; have s7 := hSw.2.1 7 _ rfl; go_simp; try with_reducible rfl)
            change wpAnyH _ _ _ _ _ _ _ (Act.put _ (some 103) _) _
            simp only [Act.put, List.setIfInBounds_toArray, List.set_cons_zero, List.set_cons_succ]
            refine wpAnyH_take (i := 36) (v := ?_) rfl (by kernel_rfl) (by kernel_rfl) (by kernel_rfl) (fun _ _ _ h => h) (Or.inl ⟨by rfl, ?_⟩) (by assumption) ?_
            rotate_left
            · (intro wS hSw; have r0 := hSw.1.1 0 _ rfl; have r1 := hSw.1.1 1 _ rfl; have r2 := hSw.1.1 2 _ rfl; have r3 := hSw.1.1 3 _ rfl; have r4 := hSw.1.1 4 _ rfl; have r5 := hSw.1.1 5 _ rfl; have r6 := hSw.1.1 6 _ rfl; have r7 := hSw.1.1 7 _ rfl; have s0 := hSw.2.1 0 _ rfl; have s1 := hSw.2.1 1 _ rfl; have s2 := hSw.2.1 2 _ rfl; have s3 := hSw.2.1 3 _ rfl; have s4 := hSw.2.1 4 _ rfl; have s5 := hSw.2.1 5 _ rfl; have s6 := hSw.2.1 6 _ rfl; have s7 := hSw.2.1 7 _ rfl; go_simp; try with_reducible rfl)
            change wpAnyH _ _ _ _ _ _ _ (Act.put _ (some 104) _) _
            simp only [Act.put, List.setIfInBounds_toArray, List.set_cons_zero, List.set_cons_succ]
            refine wpAnyH_take (i := 37) (v := ?_) rfl (by kernel_rfl) (by kernel_rfl) (by kernel_rfl) (fun _ _ _ h => h) (Or.inl ⟨by rfl, ?_⟩) (by assumption) ?_
            rotate_left
            · (intro wS hSw; have r0 := hSw.1.1 0 _ rfl; have r1 := hSw.1.1 1 _ rfl; have r2 := hSw.1.1 2 _ rfl; have r3 := hSw.1.1 3 _ rfl; have r4 := hSw.1.1 4 _ rfl; have r5 := hSw.1.1 5 _ rfl; have r6 := hSw.1.1 6 _ rfl; have r7 := hSw.1.1 7 _ rfl; have s0 := hSw.2.1 0 _ rfl; have s1 := hSw.2.1 1 _ rfl; have s2 := hSw.2.1 2 _ rfl; have s3 := hSw.2.1 3 _ rfl; have s4 := hSw.2.1 4 _ rfl; have s5 := hSw.2.1 5 _ rfl; have s6 := hSw.2.1 6 _ rfl; have s7 := hSw.2.1 7 _ rfl; go_simp; try with_reducible rfl)
            change wpAnyH _ _ _ _ _ _ _ (Act.put _ (some 105) _) _
            simp only [Act.put, List.setIfInBounds_toArray, List.set_cons_zero, List.set_cons_succ]
            refine wpAnyH_take (i := 38) (v := ?_) rfl (by kernel_rfl) (by kernel_rfl) (by kernel_rfl) (fun _ _ _ h => h) (Or.inl ⟨by rfl, ?_⟩) (by assumption) ?_
            rotate_left
            · (intro wS hSw; have r0 := hSw.1.1 0 _ rfl; have r1 := hSw.1.1 1 _ rfl; have r2 := hSw.1.1 2 _ rfl; have r3 := hSw.1.1 3 _ rfl; have r4 := hSw.1.1 4 _ rfl; have r5 := hSw.1.1 5 _ rfl; have r6 := hSw.1.1 6 _ rfl; have r7 := hSw.1.1 7 _ rfl; have s0 := hSw.2.1 0 _ rfl; have s1 := hSw.2.1 1 _ rfl; have s2 := hSw.2.1 2 _ rfl; have s3 := hSw.2.1 3 _ rfl; have s4 := hSw.2.1 4 _ rfl; have s5 := hSw.2.1 5 _ rfl; have s6 := hSw.2.1 6 _ rfl; have s7 := hSw.2.1 7 _ rfl; go_simp; try with_reducible rfl)
            change wpAnyH _ _ _ _ _ _ _ (Act.put _ (some 106) _) _
            simp only [Act.put, List.setIfInBounds_toArray, List.set_cons_zero, List.set_cons_succ]
            refine wpAnyH_take (i := 39) (v := ?_) rfl (by kernel_rfl) (by kernel_rfl) (by kernel_rfl) (fun _ _ _ h => h) (Or.inl ⟨by rfl, ?_⟩) (by assumption) ?_
            rotate_left
            · (intro wS hSw; have r0 := hSw.1.1 0 _ rfl; have r1 := hSw.1.1 1 _ rfl; have r2 := hSw.1.1 2 _ rfl; have r3 := hSw.1.1 3 _ rfl; have r4 := hSw.1.1 4 _ rfl; have r5 := hSw.1.1 5 _ rfl; have r6 := hSw.1.1 6 _ rfl; have r7 := hSw.1.1 7 _ rfl; have s0 := hSw.2.1 0 _ rfl; have s1 := hSw.2.1 1 _ rfl; have s2 := hSw.2.1 2 _ rfl; have s3 := hSw.2.1 3 _ rfl; have s4 := hSw.2.1 4 _ rfl; have s5 := hSw.2.1 5 _ rfl; have s6 := hSw.2.1 6 _ rfl; have s7 := hSw.2.1 7 _ rfl; go_simp; try with_reducible rfl)
            change wpAnyH _ _ _ _ _ _ _ (Act.put _ (some 107) _) _
            simp only [Act.put, List.setIfInBounds_toArray, List.set_cons_zero, List.set_cons_succ]
            refine wpAnyH_take (i := 40) (v := ?_) rfl (by kernel_rfl) (by kernel_rfl) (by kernel_rfl) (fun _ _ _ h => h) (Or.inl ⟨by rfl, ?_⟩) (by assumption) ?_
            rotate_left
            · (intro wS hSw; have r0 := hSw.1.1 0 _ rfl; have r1 := hSw.1.1 1 _ rfl; have r2 := hSw.1.1 2 _ rfl; have r3 := hSw.1.1 3 _ rfl; have r4 := hSw.1.1 4 _ rfl; have r5 := hSw.1.1 5 _ rfl; have r6 := hSw.1.1 6 _ rfl; have r7 := hSw.1.1 7 _ rfl; have s0 := hSw.2.1 0 _ rfl; have s1 := hSw.2.1 1 _ rfl; have s2 := hSw.2.1 2 _ rfl; have s3 := hSw.2.1 3 _ rfl; have s4 := hSw.2.1 4 _ rfl; have s5 := hSw.2.1 5 _ rfl; have s6 := hSw.2.1 6 _ rfl; have s7 := hSw.2.1 7 _ rfl; go_simp; try with_reducible rfl)
            change wpAnyH _ _ _ _ _ _ _ (Act.put _ (some 108) _) _
            simp only [Act.put, List.setIfInBounds_toArray, List.set_cons_zero, List.set_cons_succ]
            refine wpAnyH_take (i := 41) (v := ?_) rfl (by kernel_rfl) (by kernel_rfl) (by kernel_rfl) (fun _ _ _ h => h) (Or.inl ⟨by rfl, ?_⟩) (by assumption) ?_
            rotate_left
            · (intro wS hSw; have r0 := hSw.1.1 0 _ rfl; have r1 := hSw.1.1 1 _ rfl; have r2 := hSw.1.1 2 _ rfl; have r3 := hSw.1.1 3 _ rfl; have r4 := hSw.1.1 4 _ rfl; have r5 := hSw.1.1 5 _ rfl; have r6 := hSw.1.1 6 _ rfl; have r7 := hSw.1.1 7 _ rfl; have s0 := hSw.2.1 0 _ rfl; have s1 := hSw.2.1 1 _ rfl; have s2 := hSw.2.1 2 _ rfl; have s3 := hSw.2.1 3 _ rfl; have s4 := hSw.2.1 4 _ rfl; have s5 := hSw.2.1 5 _ rfl; have s6 := hSw.2.1 6 _ rfl; have s7 := hSw.2.1 7 _ rfl; go_simp; try with_reducible rfl)
            change wpAnyH _ _ _ _ _ _ _ (Act.put _ (some 109) _) _
            simp only [Act.put, List.setIfInBounds_toArray, List.set_cons_zero, List.set_cons_succ]
            refine wpAnyH_take (i := 42) (v := ?_) rfl (by kernel_rfl) (by kernel_rfl) (by kernel_rfl) (fun _ _ _ h => h) (Or.inl ⟨by rfl, ?_⟩) (by assumption) ?_
            rotate_left
            · (intro wS hSw; have r0 := hSw.1.1 0 _ rfl; have r1 := hSw.1.1 1 _ rfl; have r2 := hSw.1.1 2 _ rfl; have r3 := hSw.1.1 3 _ rfl; have r4 := hSw.1.1 4 _ rfl; have r5 := hSw.1.1 5 _ rfl; have r6 := hSw.1.1 6 _ rfl; have r7 := hSw.1.1 7 _ rfl; have s0 := hSw.2.1 0 _ rfl; have s1 := hSw.2.1 1 _ rfl; have s2 := hSw.2.1 2 _ rfl; have s3 := hSw.2.1 3 _ rfl; have s4 := hSw.2.1 4 _ rfl; have s5 := hSw.2.1 5 _ rfl; have s6 := hSw.2.1 6 _ rfl; have s7 := hSw.2.1 7 _ rfl; go_simp; try with_reducible rfl)
            change wpAnyH _ _ _ _ _ _ _ (Act.put _ (some 110) _) _
            simp only [Act.put, List.setIfInBounds_toArray, List.set_cons_zero, List.set_cons_succ]
            refine wpAnyH_take (i := 44) (v := ?_) rfl (by kernel_rfl) (by kernel_rfl) (by kernel_rfl) (fun _ _ _ h => h) (Or.inl ⟨by rfl, ?_⟩) (by assumption) ?_
            rotate_left
            · (intro wS hSw; have r0 := hSw.1.1 0 _ rfl; have r1 := hSw.1.1 1 _ rfl; have r2 := hSw.1.1 2 _ rfl; have r3 := hSw.1.1 3 _ rfl; have r4 := hSw.1.1 4 _ rfl; have r5 := hSw.1.1 5 _ rfl; have r6 := hSw.1.1 6 _ rfl; have r7 := hSw.1.1 7 _ rfl; have s0 := hSw.2.1 0 _ rfl; have s1 := hSw.2.1 1 _ rfl; have s2 := hSw.2.1 2 _ rfl; have s3 := hSw.2.1 3 _ rfl; have s4 := hSw.2.1 4 _ rfl; have s5 := hSw.2.1 5 _ rfl; have s6 := hSw.2.1 6 _ rfl; have s7 := hSw.2.1 7 _ rfl; go_simp; try with_reducible rfl)
            change wpAnyH _ _ _ _ _ _ _ (Act.put _ (some 112) _) _
            simp only [Act.put, List.setIfInBounds_toArray, List.set_cons_zero, List.set_cons_succ]
            refine wpAnyH_ready (rs := [43]) (by kernel_rfl) (by simp) ?_
            refine AllReadyH.cons rfl (fun K hK => ?_) AllReadyH.nil
            go_simp
            refine (C111.out _).mono ?_
            rintro e v7 ⟨rfl, hv7⟩
            have F_7 : Hid (Cs v7 r (setL wi) ∧ Cs v7 s (setL wo) ∧ RdI v7 (.slice (some ⟨b', off, none⟩) zs.length lcap) zs ∧ Below w.heap.size w v7) := ⟨Cs.later hv7 F_6.out.1, Cs.later hv7 F_6.out.2.1, F_6.out.2.2.1.later hv7, F_6.out.2.2.2.trans (hv7.mono F_6.out.2.2.2.size)⟩
            clear hv7 F_6
            (try go_wp2_with (fail))
            refine hK.out _ _ ?_ (fun hHeld => ?_)
            · exact ⟨F_7.out.1, F_7.out.2.1⟩
            clear hK K
            refine wpAnyH_take (i := 45) (v := ?_) rfl (by kernel_rfl) (by kernel_rfl) (by kernel_rfl) (fun _ _ _ h => h) (Or.inl ⟨by rfl, ?_⟩) (by assumption) ?_
            rotate_left
            · (intro wS hSw; have r0 := hSw.1.1 0 _ rfl; have r1 := hSw.1.1 1 _ rfl; have r2 := hSw.1.1 2 _ rfl; have r3 := hSw.1.1 3 _ rfl; have r4 := hSw.1.1 4 _ rfl; have r5 := hSw.1.1 5 _ rfl; have r6 := hSw.1.1 6 _ rfl; have r7 := hSw.1.1 7 _ rfl; have s0 := hSw.2.1 0 _ rfl; have s1 := hSw.2.1 1 _ rfl; have s2 := hSw.2.1 2 _ rfl; have s3 := hSw.2.1 3 _ rfl; have s4 := hSw.2.1 4 _ rfl; have s5 := hSw.2.1 5 _ rfl; have s6 := hSw.2.1 6 _ rfl; have s7 := hSw.2.1 7 _ rfl; go_simp; try with_reducible rfl)
            change wpAnyH _ _ _ _ _ _ _ (Act.put _ (some 113) _) _
            simp only [Act.put, List.setIfInBounds_toArray, List.set_cons_zero, List.set_cons_succ]
            refine wpAnyH_take (i := 46) (v := ?_) rfl (by kernel_rfl) (by kernel_rfl) (by kernel_rfl) (fun _ _ _ h => h) (Or.inl ⟨by rfl, ?_⟩) (by assumption) ?_
            rotate_left
            · (intro wS hSw; have r0 := hSw.1.1 0 _ rfl; have r1 := hSw.1.1 1 _ rfl; have r2 := hSw.1.1 2 _ rfl; have r3 := hSw.1.1 3 _ rfl; have r4 := hSw.1.1 4 _ rfl; have r5 := hSw.1.1 5 _ rfl; have r6 := hSw.1.1 6 _ rfl; have r7 := hSw.1.1 7 _ rfl; have s0 := hSw.2.1 0 _ rfl; have s1 := hSw.2.1 1 _ rfl; have s2 := hSw.2.1 2 _ rfl; have s3 := hSw.2.1 3 _ rfl; have s4 := hSw.2.1 4 _ rfl; have s5 := hSw.2.1 5 _ rfl; have s6 := hSw.2.1 6 _ rfl; have s7 := hSw.2.1 7 _ rfl; go_simp; try with_reducible rfl)
            change wpAnyH _ _ _ _ _ _ _ (Act.put _ (some 114) _) _
            simp only [Act.put, List.setIfInBounds_toArray, List.set_cons_zero, List.set_cons_succ]
            refine wpAnyH_take (i := 47) (v := ?_) rfl (by kernel_rfl) (by kernel_rfl) (by kernel_rfl) (fun _ _ _ h => h) (Or.inl ⟨by rfl, ?_⟩) (by assumption) ?_
            rotate_left
            · (intro wS hSw; have r0 := hSw.1.1 0 _ rfl; have r1 := hSw.1.1 1 _ rfl; have r2 := hSw.1.1 2 _ rfl; have r3 := hSw.1.1 3 _ rfl; have r4 := hSw.1.1 4 _ rfl; have r5 := hSw.1.1 5 _ rfl; have r6 := hSw.1.1 6 _ rfl; have r7 := hSw.1.1 7 _ rfl; have s0 := hSw.2.1 0 _ rfl; have s1 := hSw.2.1 1 _ rfl; have s2 := hSw.2.1 2 _ rfl; have s3 := hSw.2.1 3 _ rfl; have s4 := hSw.2.1 4 _ rfl; have s5 := hSw.2.1 5 _ rfl; have s6 := hSw.2.1 6 _ rfl; have s7 := hSw.2.1 7 _ rfl; go_simp; try with_reducible rfl)
            change wpAnyH _ _ _ _ _ _ _ (Act.put _ (some 115) _) _
            simp only [Act.put, List.setIfInBounds_toArray, List.set_cons_zero, List.set_cons_succ]
            refine wpAnyH_take (i := 48) (v := ?_) rfl (by kernel_rfl) (by kernel_rfl) (by kernel_rfl) (fun _ _ _ h => h) (Or.inl ⟨by rfl, ?_⟩) (by assumption) ?_
            rotate_left
            · (intro wS hSw; have r0 := hSw.1.1 0 _ rfl; have r1 := hSw.1.1 1 _ rfl; have r2 := hSw.1.1 2 _ rfl; have r3 := hSw.1.1 3 _ rfl; have r4 := hSw.1.1 4 _ rfl; have r5 := hSw.1.1 5 _ rfl; have r6 := hSw.1.1 6 _ rfl; have r7 := hSw.1.1 7 _ rfl; have s0 := hSw.2.1 0 _ rfl; have s1 := hSw.2.1 1 _ rfl; have s2 := hSw.2.1 2 _ rfl; have s3 := hSw.2.1 3 _ rfl; have s4 := hSw.2.1 4 _ rfl; have s5 := hSw.2.1 5 _ rfl; have s6 := hSw.2.1 6 _ rfl; have s7 := hSw.2.1 7 _ rfl; go_simp; try with_reducible rfl)
            change wpAnyH _ _ _ _ _ _ _ (Act.put _ (some 116) _) _
            simp only [Act.put, List.setIfInBounds_toArray, List.set_cons_zero, List.set_cons_succ]
            refine wpAnyH_take (i := 49) (v := ?_) rfl (by kernel_rfl) (by kernel_rfl) (by kernel_rfl) (fun _ _ _ h => h) (Or.inl ⟨by rfl, ?_⟩) (by assumption) ?_
            rotate_left
            · (intro wS hSw; have r0 := hSw.1.1 0 _ rfl; have r1 := hSw.1.1 1 _ rfl; have r2 := hSw.1.1 2 _ rfl; have r3 := hSw.1.1 3 _ rfl; have r4 := hSw.1.1 4 _ rfl; have r5 := hSw.1.1 5 _ rfl; have r6 := hSw.1.1 6 _ rfl; have r7 := hSw.1.1 7 _ rfl; have s0 := hSw.2.1 0 _ rfl; have s1 := hSw.2.1 1 _ rfl; have s2 := hSw.2.1 2 _ rfl; have s3 := hSw.2.1 3 _ rfl; have s4 := hSw.2.1 4 _ rfl; have s5 := hSw.2.1 5 _ rfl; have s6 := hSw.2.1 6 _ rfl; have s7 := hSw.2.1 7 _ rfl; go_simp; try with_reducible rfl)
            change wpAnyH _ _ _ _ _ _ _ (Act.put _ (some 117) _) _
            simp only [Act.put, List.setIfInBounds_toArray, List.set_cons_zero, List.set_cons_succ]
            refine wpAnyH_take (i := 51) (v := ?_) rfl (by kernel_rfl) (by kernel_rfl) (by kernel_rfl) (fun _ _ _ h => h) (Or.inl ⟨by rfl, ?_⟩) (by assumption) ?_
            rotate_left
            · (intro wS hSw; have r0 := hSw.1.1 0 _ rfl; have r1 := hSw.1.1 1 _ rfl; have r2 := hSw.1.1 2 _ rfl; have r3 := hSw.1.1 3 _ rfl; have r4 := hSw.1.1 4 _ rfl; have r5 := hSw.1.1 5 _ rfl; have r6 := hSw.1.1 6 _ rfl; have r7 := hSw.1.1 7 _ rfl; have s0 := hSw.2.1 0 _ rfl; have s1 := hSw.2.1 1 _ rfl; have s2 := hSw.2.1 2 _ rfl; have s3 := hSw.2.1 3 _ rfl; have s4 := hSw.2.1 4 _ rfl; have s5 := hSw.2.1 5 _ rfl; have s6 := hSw.2.1 6 _ rfl; have s7 := hSw.2.1 7 _ rfl; go_simp; try with_reducible rfl)
            change wpAnyH _ _ _ _ _ _ _ (Act.put _ (some 119) _) _
            simp only [Act.put, List.setIfInBounds_toArray, List.set_cons_zero, List.set_cons_succ]
            refine wpAnyH_take (i := 52) (v := ?_) rfl (by kernel_rfl) (by kernel_rfl) (by kernel_rfl) (fun _ _ _ h => h) (Or.inl ⟨by rfl, ?_⟩) (by assumption) ?_
            rotate_left
            · (intro wS hSw; have r0 := hSw.1.1 0 _ rfl; have r1 := hSw.1.1 1 _ rfl; have r2 := hSw.1.1 2 _ rfl; have r3 := hSw.1.1 3 _ rfl; have r4 := hSw.1.1 4 _ rfl; have r5 := hSw.1.1 5 _ rfl; have r6 := hSw.1.1 6 _ rfl; have r7 := hSw.1.1 7 _ rfl; have s0 := hSw.2.1 0 _ rfl; have s1 := hSw.2.1 1 _ rfl; have s2 := hSw.2.1 2 _ rfl; have s3 := hSw.2.1 3 _ rfl; have s4 := hSw.2.1 4 _ rfl; have s5 := hSw.2.1 5 _ rfl; have s6 := hSw.2.1 6 _ rfl; have s7 := hSw.2.1 7 _ rfl; go_simp; try with_reducible rfl)
            change wpAnyH _ _ _ _ _ _ _ (Act.put _ (some 120) _) _
            simp only [Act.put, List.setIfInBounds_toArray, List.set_cons_zero, List.set_cons_succ]
            refine wpAnyH_ready (rs := [50]) (by kernel_rfl) (by simp) ?_
            refine AllReadyH.cons rfl (fun K hK => ?_) AllReadyH.nil
            go_simp
            refine (C118.out _).mono ?_
            rintro e v8 ⟨rfl, hv8⟩
            have F_8 : Hid (Cs v8 r (setL wi) ∧ Cs v8 s (setL wo) ∧ RdI v8 (.slice (some ⟨b', off, none⟩) zs.length lcap) zs ∧ Below w.heap.size w v8) := ⟨Cs.later hv8 F_7.out.1, Cs.later hv8 F_7.out.2.1, F_7.out.2.2.1.later hv8, F_7.out.2.2.2.trans (hv8.mono F_7.out.2.2.2.size)⟩
            clear hv8 F_7
            (try go_wp2_with (fail))
            refine hK.out _ _ ?_ (fun hHeld => ?_)
            · exact ⟨F_8.out.1, F_8.out.2.1⟩
            clear hK K
            refine wpAnyH_ready (rs := [53]) (by kernel_rfl) (by simp) ?_
            refine AllReadyH.cons rfl (fun K hK => ?_) AllReadyH.nil
            go_simp
            refine (C121.out _).mono ?_
            rintro e v9 ⟨rfl, hv9⟩
            have F_9 : Hid (Cs v9 r (setL wi) ∧ Cs v9 s (setL wo) ∧ RdI v9 (.slice (some ⟨b', off, none⟩) zs.length lcap) zs ∧ Below w.heap.size w v9) := ⟨Cs.later hv9 F_8.out.1, Cs.later hv9 F_8.out.2.1, F_8.out.2.2.1.later hv9, F_8.out.2.2.2.trans (hv9.mono F_8.out.2.2.2.size)⟩
            clear hv9 F_8
            (try go_wp2_with (fail))
            refine hK.out _ _ ?_ (fun hHeld => ?_)
            · exact ⟨F_9.out.1, F_9.out.2.1⟩
            clear hK K
            refine wpAnyH_take (i := 54) (v := ?_) rfl (by kernel_rfl) (by kernel_rfl) (by kernel_rfl) (fun _ _ _ h => h) (Or.inl ⟨by rfl, ?_⟩) (by assumption) ?_
            rotate_left
            · (intro wS hSw; have r0 := hSw.1.1 0 _ rfl; have r1 := hSw.1.1 1 _ rfl; have r2 := hSw.1.1 2 _ rfl; have r3 := hSw.1.1 3 _ rfl; have r4 := hSw.1.1 4 _ rfl; have r5 := hSw.1.1 5 _ rfl; have r6 := hSw.1.1 6 _ rfl; have r7 := hSw.1.1 7 _ rfl; have s0 := hSw.2.1 0 _ rfl; have s1 := hSw.2.1 1 _ rfl; have s2 := hSw.2.1 2 _ rfl; have s3 := hSw.2.1 3 _ rfl; have s4 := hSw.2.1 4 _ rfl; have s5 := hSw.2.1 5 _ rfl; have s6 := hSw.2.1 6 _ rfl; have s7 := hSw.2.1 7 _ rfl; go_simp; try with_reducible rfl)
            change wpAnyH _ _ _ _ _ _ _ (Act.put _ (some 122) _) _
            simp only [Act.put, List.setIfInBounds_toArray, List.set_cons_zero, List.set_cons_succ]
            refine wpAnyH_take (i := 55) (v := ?_) rfl (by kernel_rfl) (by kernel_rfl) (by kernel_rfl) (fun _ _ _ h => h) (Or.inl ⟨by rfl, ?_⟩) (by assumption) ?_
            rotate_left
            · (intro wS hSw; have r0 := hSw.1.1 0 _ rfl; have r1 := hSw.1.1 1 _ rfl; have r2 := hSw.1.1 2 _ rfl; have r3 := hSw.1.1 3 _ rfl; have r4 := hSw.1.1 4 _ rfl; have r5 := hSw.1.1 5 _ rfl; have r6 := hSw.1.1 6 _ rfl; have r7 := hSw.1.1 7 _ rfl; have s0 := hSw.2.1 0 _ rfl; have s1 := hSw.2.1 1 _ rfl; have s2 := hSw.2.1 2 _ rfl; have s3 := hSw.2.1 3 _ rfl; have s4 := hSw.2.1 4 _ rfl; have s5 := hSw.2.1 5 _ rfl; have s6 := hSw.2.1 6 _ rfl; have s7 := hSw.2.1 7 _ rfl; go_simp; try with_reducible rfl)
            change wpAnyH _ _ _ _ _ _ _ (Act.put _ (some 123) _) _
            simp only [Act.put, List.setIfInBounds_toArray, List.set_cons_zero, List.set_cons_succ]
            refine wpAnyH_take (i := 56) (v := ?_) rfl (by kernel_rfl) (by kernel_rfl) (by kernel_rfl) (fun _ _ _ h => h) (Or.inl ⟨by rfl, ?_⟩) (by assumption) ?_
            rotate_left
            · (intro wS hSw; have r0 := hSw.1.1 0 _ rfl; have r1 := hSw.1.1 1 _ rfl; have r2 := hSw.1.1 2 _ rfl; have r3 := hSw.1.1 3 _ rfl; have r4 := hSw.1.1 4 _ rfl; have r5 := hSw.1.1 5 _ rfl; have r6 := hSw.1.1 6 _ rfl; have r7 := hSw.1.1 7 _ rfl; have s0 := hSw.2.1 0 _ rfl; have s1 := hSw.2.1 1 _ rfl; have s2 := hSw.2.1 2 _ rfl; have s3 := hSw.2.1 3 _ rfl; have s4 := hSw.2.1 4 _ rfl; have s5 := hSw.2.1 5 _ rfl; have s6 := hSw.2.1 6 _ rfl; have s7 := hSw.2.1 7 _ rfl; go_simp; try with_reducible rfl)
            change wpAnyH _ _ _ _ _ _ _ (Act.put _ (some 124) _) _
            simp only [Act.put, List.setIfInBounds_toArray, List.set_cons_zero, List.set_cons_succ]
            refine wpAnyH_take (i := 57) (v := ?_) rfl (by kernel_rfl) (by kernel_rfl) (by kernel_rfl) (fun _ _ _ h => h) (Or.inl ⟨by rfl, ?_⟩) (by assumption) ?_
            rotate_left
            · (intro wS hSw; have r0 := hSw.1.1 0 _ rfl; have r1 := hSw.1.1 1 _ rfl; have r2 := hSw.1.1 2 _ rfl; have r3 := hSw.1.1 3 _ rfl; have r4 := hSw.1.1 4 _ rfl; have r5 := hSw.1.1 5 _ rfl; have r6 := hSw.1.1 6 _ rfl; have r7 := hSw.1.1 7 _ rfl; have s0 := hSw.2.1 0 _ rfl; have s1 := hSw.2.1 1 _ rfl; have s2 := hSw.2.1 2 _ rfl; have s3 := hSw.2.1 3 _ rfl; have s4 := hSw.2.1 4 _ rfl; have s5 := hSw.2.1 5 _ rfl; have s6 := hSw.2.1 6 _ rfl; have s7 := hSw.2.1 7 _ rfl; go_simp; try with_reducible rfl)
            change wpAnyH _ _ _ _ _ _ _ (Act.put _ (some 125) _) _
            simp only [Act.put, List.setIfInBounds_toArray, List.set_cons_zero, List.set_cons_succ]
            refine wpAnyH_take (i := 59) (v := ?_) rfl (by kernel_rfl) (by kernel_rfl) (by kernel_rfl) (fun _ _ _ h => h) (Or.inl ⟨by rfl, ?_⟩) (by assumption) ?_
            rotate_left
            · (intro wS hSw; have r0 := hSw.1.1 0 _ rfl; have r1 := hSw.1.1 1 _ rfl; have r2 := hSw.1.1 2 _ rfl; have r3 := hSw.1.1 3 _ rfl; have r4 := hSw.1.1 4 _ rfl; have r5 := hSw.1.1 5 _ rfl; have r6 := hSw.1.1 6 _ rfl; have r7 := hSw.1.1 7 _ rfl; have s0 := hSw.2.1 0 _ rfl; have s1 := hSw.2.1 1 _ rfl; have s2 := hSw.2.1 2 _ rfl; have s3 := hSw.2.1 3 _ rfl; have s4 := hSw.2.1 4 _ rfl; have s5 := hSw.2.1 5 _ rfl; have s6 := hSw.2.1 6 _ rfl; have s7 := hSw.2.1 7 _ rfl; go_simp; try with_reducible rfl)
            change wpAnyH _ _ _ _ _ _ _ (Act.put _ (some 127) _) _
            simp only [Act.put, List.setIfInBounds_toArray, List.set_cons_zero, List.set_cons_succ]
            refine wpAnyH_ready (rs := [58]) (by kernel_rfl) (by simp) ?_
            refine AllReadyH.cons rfl (fun K hK => ?_) AllReadyH.nil
            go_simp
            refine (C126.out _).mono ?_
            rintro e v10 ⟨v1, rfl, hv9, hv10⟩
            have F_10 : Hid (Cs v10 r (setL wi) ∧ Cs v10 s (setL wo) ∧ RdI v10 (.slice (some ⟨b', off, none⟩) zs.length lcap) zs ∧ RdI v10 v1 zs ∧ Below w.heap.size w v10) := ⟨Cs.later hv10 F_9.out.1, Cs.later hv10 F_9.out.2.1, F_9.out.2.2.1.later hv10, hv9, F_9.out.2.2.2.trans (hv10.mono F_9.out.2.2.2.size)⟩
            clear hv10 F_9
            (try go_wp2_with (fail))
            refine hK.out _ _ ?_ (fun hHeld => ?_)
            · exact ⟨F_10.out.1, F_10.out.2.1⟩
            clear hK K
            refine wpAnyH_ready (rs := [60]) (by kernel_rfl) (by simp) ?_
            refine AllReadyH.cons rfl (fun K hK => ?_) AllReadyH.nil
            go_simp
            refine (C128.out _ _ _ F_10.out.2.2.2.1 F_10.out.2.2.1).mono ?_
            rintro e v11 ⟨rfl, hv11⟩
            have F_11 : Hid (Cs v11 r (setL wi) ∧ Cs v11 s (setL wo) ∧ RdI v11 (.slice (some ⟨b', off, none⟩) zs.length lcap) zs ∧ RdI v11 v1 zs ∧ Below w.heap.size w v11) := ⟨Cs.later hv11 F_10.out.1, Cs.later hv11 F_10.out.2.1, F_10.out.2.2.1.later hv11, F_10.out.2.2.2.1.later hv11, F_10.out.2.2.2.2.trans (hv11.mono F_10.out.2.2.2.2.size)⟩
            clear hv11 F_10
            (try go_wp2_with (fail))
            refine hK.out _ _ ?_ (fun hHeld => ?_)
            · exact ⟨F_11.out.1, F_11.out.2.1⟩
            clear hK K
            refine wpAnyH_take (i := 61) (v := ?_) rfl (by kernel_rfl) (by kernel_rfl) (by kernel_rfl) (fun _ _ _ h => h) (Or.inl ⟨by rfl, ?_⟩) (by assumption) ?_
            rotate_left
            · (intro wS hSw; have r0 := hSw.1.1 0 _ rfl; have r1 := hSw.1.1 1 _ rfl; have r2 := hSw.1.1 2 _ rfl; have r3 := hSw.1.1 3 _ rfl; have r4 := hSw.1.1 4 _ rfl; have r5 := hSw.1.1 5 _ rfl; have r6 := hSw.1.1 6 _ rfl; have r7 := hSw.1.1 7 _ rfl; have s0 := hSw.2.1 0 _ rfl; have s1 := hSw.2.1 1 _ rfl; have s2 := hSw.2.1 2 _ rfl; have s3 := hSw.2.1 3 _ rfl; have s4 := hSw.2.1 4 _ rfl; have s5 := hSw.2.1 5 _ rfl; have s6 := hSw.2.1 6 _ rfl; have s7 := hSw.2.1 7 _ rfl; go_simp; try with_reducible rfl)
            change wpAnyH _ _ _ _ _ _ _ (Act.put _ (some 129) _) _
            simp only [Act.put, List.setIfInBounds_toArray, List.set_cons_zero, List.set_cons_succ]
            refine wpAnyH_take (i := 62) (v := ?_) rfl (by kernel_rfl) (by kernel_rfl) (by kernel_rfl) (fun _ _ _ h => h) (Or.inl ⟨by rfl, ?_⟩) (by assumption) ?_
            rotate_left
            · (intro wS hSw; have r0 := hSw.1.1 0 _ rfl; have r1 := hSw.1.1 1 _ rfl; have r2 := hSw.1.1 2 _ rfl; have r3 := hSw.1.1 3 _ rfl; have r4 := hSw.1.1 4 _ rfl; have r5 := hSw.1.1 5 _ rfl; have r6 := hSw.1.1 6 _ rfl; have r7 := hSw.1.1 7 _ rfl; have s0 := hSw.2.1 0 _ rfl; have s1 := hSw.2.1 1 _ rfl; have s2 := hSw.2.1 2 _ rfl; have s3 := hSw.2.1 3 _ rfl; have s4 := hSw.2.1 4 _ rfl; have s5 := hSw.2.1 5 _ rfl; have s6 := hSw.2.1 6 _ rfl; have s7 := hSw.2.1 7 _ rfl; go_simp; try with_reducible rfl)
            change wpAnyH _ _ _ _ _ _ _ (Act.put _ (some 130) _) _
            simp only [Act.put, List.setIfInBounds_toArray, List.set_cons_zero, List.set_cons_succ]
            refine wpAnyH_take (i := 63) (v := ?_) rfl (by kernel_rfl) (by kernel_rfl) (by kernel_rfl) (fun _ _ _ h => h) (Or.inl ⟨by rfl, ?_⟩) (by assumption) ?_
            rotate_left
            · (intro wS hSw; have r0 := hSw.1.1 0 _ rfl; have r1 := hSw.1.1 1 _ rfl; have r2 := hSw.1.1 2 _ rfl; have r3 := hSw.1.1 3 _ rfl; have r4 := hSw.1.1 4 _ rfl; have r5 := hSw.1.1 5 _ rfl; have r6 := hSw.1.1 6 _ rfl; have r7 := hSw.1.1 7 _ rfl; have s0 := hSw.2.1 0 _ rfl; have s1 := hSw.2.1 1 _ rfl; have s2 := hSw.2.1 2 _ rfl; have s3 := hSw.2.1 3 _ rfl; have s4 := hSw.2.1 4 _ rfl; have s5 := hSw.2.1 5 _ rfl; have s6 := hSw.2.1 6 _ rfl; have s7 := hSw.2.1 7 _ rfl; go_simp; try with_reducible rfl)
            change wpAnyH _ _ _ _ _ _ _ (Act.put _ (some 131) _) _
            simp only [Act.put, List.setIfInBounds_toArray, List.set_cons_zero, List.set_cons_succ]
            refine wpAnyH_take (i := 65) (v := ?_) rfl (by kernel_rfl) (by kernel_rfl) (by kernel_rfl) (fun _ _ _ h => h) (Or.inl ⟨by rfl, ?_⟩) (by assumption) ?_
            rotate_left
            · (intro wS hSw; have r0 := hSw.1.1 0 _ rfl; have r1 := hSw.1.1 1 _ rfl; have r2 := hSw.1.1 2 _ rfl; have r3 := hSw.1.1 3 _ rfl; have r4 := hSw.1.1 4 _ rfl; have r5 := hSw.1.1 5 _ rfl; have r6 := hSw.1.1 6 _ rfl; have r7 := hSw.1.1 7 _ rfl; have s0 := hSw.2.1 0 _ rfl; have s1 := hSw.2.1 1 _ rfl; have s2 := hSw.2.1 2 _ rfl; have s3 := hSw.2.1 3 _ rfl; have s4 := hSw.2.1 4 _ rfl; have s5 := hSw.2.1 5 _ rfl; have s6 := hSw.2.1 6 _ rfl; have s7 := hSw.2.1 7 _ rfl; go_simp; try with_reducible rfl)
            change wpAnyH _ _ _ _ _ _ _ (Act.put _ (some 133) _) _
            simp only [Act.put, List.setIfInBounds_toArray, List.set_cons_zero, List.set_cons_succ]
            refine wpAnyH_ready (rs := [64]) (by kernel_rfl) (by simp) ?_
            refine AllReadyH.cons rfl (fun K hK => ?_) AllReadyH.nil
            go_simp
            refine (C132.out _).mono ?_
            rintro e v12 ⟨rfl, hv12⟩
            have F_12 : Hid (Cs v12 r (setL wi) ∧ Cs v12 s (setL wo) ∧ RdI v12 (.slice (some ⟨b', off, none⟩) zs.length lcap) zs ∧ RdI v12 v1 zs ∧ Below w.heap.size w v12) := ⟨Cs.later hv12 F_11.out.1, Cs.later hv12 F_11.out.2.1, F_11.out.2.2.1.later hv12, F_11.out.2.2.2.1.later hv12, F_11.out.2.2.2.2.trans (hv12.mono F_11.out.2.2.2.2.size)⟩
            clear hv12 F_11
            (try go_wp2_with (fail))
            refine hK.out _ _ ?_ (fun hHeld => ?_)
            · exact ⟨F_12.out.1, F_12.out.2.1⟩
            clear hK K
            refine wpAnyH_ready (rs := [66]) (by kernel_rfl) (by simp) ?_
            refine AllReadyH.cons rfl (fun K hK => ?_) AllReadyH.nil
            go_simp
            refine (C134.out _).mono ?_
            rintro e v13 ⟨rfl, hv13⟩
            have F_13 : Hid (Cs v13 r (setL wi) ∧ Cs v13 s (setL wo) ∧ RdI v13 (.slice (some ⟨b', off, none⟩) zs.length lcap) zs ∧ RdI v13 v1 zs ∧ Below w.heap.size w v13) := ⟨Cs.later hv13 F_12.out.1, Cs.later hv13 F_12.out.2.1, F_12.out.2.2.1.later hv13, F_12.out.2.2.2.1.later hv13, F_12.out.2.2.2.2.trans (hv13.mono F_12.out.2.2.2.2.size)⟩
            clear hv13 F_12
            (try go_wp2_with (fail))
            refine hK.out _ _ ?_ (fun hHeld => ?_)
            · exact ⟨F_13.out.1, F_13.out.2.1⟩
            clear hK K
            refine wpAnyH_take (i := 67) (v := ?_) rfl (by kernel_rfl) (by kernel_rfl) (by kernel_rfl) (fun _ _ _ h => h) (Or.inl ⟨by rfl, ?_⟩) (by assumption) ?_
            rotate_left
            · (intro wS hSw; have r0 := hSw.1.1 0 _ rfl; have r1 := hSw.1.1 1 _ rfl; have r2 := hSw.1.1 2 _ rfl; have r3 := hSw.1.1 3 _ rfl; have r4 := hSw.1.1 4 _ rfl; have r5 := hSw.1.1 5 _ rfl; have r6 := hSw.1.1 6 _ rfl; have r7 := hSw.1.1 7 _ rfl; have s0 := hSw.2.1 0 _ rfl; have s1 := hSw.2.1 1 _ rfl; have s2 := hSw.2.1 2 _ rfl; have s3 := hSw.2.1 3 _ rfl; have s4 := hSw.2.1 4 _ rfl; have s5 := hSw.2.1 5 _ rfl; have s6 := hSw.2.1 6 _ rfl; have s7 := hSw.2.1 7 _ rfl; go_simp; try with_reducible rfl)
            change wpAnyH _ _ _ _ _ _ _ (Act.put _ (some 135) _) _
            simp only [Act.put, List.setIfInBounds_toArray, List.set_cons_zero, List.set_cons_succ]
            refine wpAnyH_take (i := 68) (v := ?_) rfl (by kernel_rfl) (by kernel_rfl) (by kernel_rfl) (fun _ _ _ h => h) (Or.inl ⟨by rfl, ?_⟩) (by assumption) ?_
            rotate_left
            · (intro wS hSw; have r0 := hSw.1.1 0 _ rfl; have r1 := hSw.1.1 1 _ rfl; have r2 := hSw.1.1 2 _ rfl; have r3 := hSw.1.1 3 _ rfl; have r4 := hSw.1.1 4 _ rfl; have r5 := hSw.1.1 5 _ rfl; have r6 := hSw.1.1 6 _ rfl; have r7 := hSw.1.1 7 _ rfl; have s0 := hSw.2.1 0 _ rfl; have s1 := hSw.2.1 1 _ rfl; have s2 := hSw.2.1 2 _ rfl; have s3 := hSw.2.1 3 _ rfl; have s4 := hSw.2.1 4 _ rfl; have s5 := hSw.2.1 5 _ rfl; have s6 := hSw.2.1 6 _ rfl; have s7 := hSw.2.1 7 _ rfl; go_simp; try with_reducible rfl)
            change wpAnyH _ _ _ _ _ _ _ (Act.put _ (some 136) _) _
            simp only [Act.put, List.setIfInBounds_toArray, List.set_cons_zero, List.set_cons_succ]
            refine wpAnyH_take (i := 69) (v := ?_) rfl (by kernel_rfl) (by kernel_rfl) (by kernel_rfl) (fun _ _ _ h => h) (Or.inl ⟨by rfl, ?_⟩) (by assumption) ?_
            rotate_left
            · (intro wS hSw; have r0 := hSw.1.1 0 _ rfl; have r1 := hSw.1.1 1 _ rfl; have r2 := hSw.1.1 2 _ rfl; have r3 := hSw.1.1 3 _ rfl; have r4 := hSw.1.1 4 _ rfl; have r5 := hSw.1.1 5 _ rfl; have r6 := hSw.1.1 6 _ rfl; have r7 := hSw.1.1 7 _ rfl; have s0 := hSw.2.1 0 _ rfl; have s1 := hSw.2.1 1 _ rfl; have s2 := hSw.2.1 2 _ rfl; have s3 := hSw.2.1 3 _ rfl; have s4 := hSw.2.1 4 _ rfl; have s5 := hSw.2.1 5 _ rfl; have s6 := hSw.2.1 6 _ rfl; have s7 := hSw.2.1 7 _ rfl; go_simp; try with_reducible rfl)
            change wpAnyH _ _ _ _ _ _ _ (Act.put _ (some 6) _) _
            simp only [Act.put, List.setIfInBounds_toArray, List.set_cons_zero, List.set_cons_succ]
            refine wpAnyH_done (by kernel_rfl) ?_ _
            refine NoPanic.normal ?_
            have F9 := F_13.out.2.2.2.2
            go_wp2_with (fail)
            go_ret
            exact ⟨rfl, F9⟩

end Go.Proofs.YtcendnbeiifobaaDoor.Mk
