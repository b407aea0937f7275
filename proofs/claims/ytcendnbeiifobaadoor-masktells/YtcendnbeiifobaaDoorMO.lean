/-
  The statement MaskOnce as a contract at this program. Conditions: none.
-/
import Derived.Test.YtcendnbeiifobaaDoorML
namespace Go.Proofs.YtcendnbeiifobaaDoor.Mk
open Go.RowKit

def chain : List Nat → Bool
  | x :: y :: r => aheadF x y && chain (y :: r)
  | _ => true
theorem chain_at : ∀ (L : List Nat) (j : Nat) {x y : Nat}, chain L = true → L[j]? = some x → L[j + 1]? = some y → aheadF x y = true
  | [], _, _, _, _, h, _ => by simp at h
  | [_], _, _, _, _, _, h => by simp at h
  | x :: y :: r, 0, a, b, hc, h1, h2 => by
    simp at h1 h2
    subst h1 h2
    unfold chain at hc
    exact (Bool.and_eq_true_iff.1 hc).1
  | x :: y :: r, j + 1, a, b, hc, h1, h2 => by
    unfold chain at hc
    exact chain_at (y :: r) j (Bool.and_eq_true_iff.1 hc).2 (by simpa using h1) (by simpa using h2)
theorem chain_full : ∀ k : Fin 9, (chain (fullM k.1) && (fullM k.1).all fun x => decide (1 ≤ x) && decide (x < 2 ^ k.1)) = true := by decide +kernel
theorem has_less : ∀ b : Fin 256, ∀ n : Fin 8, hasB (lessB b.1 (n.1 : Int)) (n.1 : Int) = false := by decide +kernel
theorem has_with : ∀ b : Fin 256, ∀ n : Fin 8, hasB (withB b.1 (n.1 : Int)) (n.1 : Int) = true := by decide +kernel
theorem has_out {i : Int} (h : ¬ (0 ≤ i ∧ i < 8)) (b : Nat) : hasB b i = false := by unfold hasB; rw [decide_eq_false h]; rfl
theorem not_less {b : Nat} (hb : b < 256) (i : Int) : hasB (lessB b i) i = false := by
  by_cases h : 0 ≤ i ∧ i < 8
  · obtain ⟨n, hn, rfl⟩ : ∃ n : Nat, n < 8 ∧ i = n := ⟨i.toNat, by omega, by omega⟩
    exact has_less ⟨b, hb⟩ ⟨n, hn⟩
  · exact has_out h _
theorem is_with {b : Nat} (hb : b < 256) {i : Int} (h : 0 ≤ i ∧ i < 8) : hasB (withB b i) i = true := by
  obtain ⟨n, hn, rfl⟩ : ∃ n : Nat, n < 8 ∧ i = n := ⟨i.toNat, by omega, by omega⟩
  exact has_with ⟨b, hb⟩ ⟨n, hn⟩
/-- All masks, as they are read. -/
theorem all_masks (n : Int) (L : List Nat) (N : Nat) (hL : fullM (held n) = L) (hN : L.length = N) (h3 : N ≤ 300) (w : World) :
    Calls Tryd.prog 25 #[.int .i64 n, .int .i64 300] w fun e W' => ∃ a cap, e = .returned (.slice a N cap) ∧
      (∀ (j d : Nat), L[j]? = some d → ∃ g : Nat, a = some ⟨g, 0, none⟩ ∧ W'.cell? ⟨g, j, none⟩ = some (.int .i64 (d : Int))) ∧ Below w.heap.size w W' :=
  (lawmasks_own n 300 w).mono fun e w' ⟨v, he, own, hb⟩ => by
    rw [hL, List.take_of_length_le (by omega), hN] at own
    obtain ⟨a, cap, rfl⟩ := own_slice own
    refine ⟨a, cap, he, fun j d hj => ?_, hb⟩
    have hl : 0 < N := by have := (List.getElem?_eq_some_iff.1 hj).1; omega
    obtain ⟨g, cap', e, -⟩ := own_form own hl
    injection e with e1 e2 e3
    subst e1
    exact ⟨g, rfl, own_cell own (by rw [List.getElem?_map, hj]; rfl)⟩

set_option maxHeartbeats 4000000 in
set_option maxRecDepth 100000 in
theorem maskOnce_any (n m node : Int) (w : World) :
    Calls Tryd.prog 5 #[.int .i64 n, .int .i64 m, .int .i64 node] w fun e w' => e = .returned (.bool true) ∧ Below w.heap.size w w' := by
  obtain ⟨k, hk⟩ : ∃ k, k = held n := ⟨_, rfl⟩
  have k8 : k ≤ 8 := by rw [hk]; exact held_le n
  have KI : max 0 (min n 8) = (k : Int) := by rw [hk]; unfold held; omega
  obtain ⟨L, hL⟩ : ∃ L, L = fullM k := ⟨_, rfl⟩
  have LL : L.length = 2 ^ k - 1 := by rw [hL]; exact fullM_len ⟨k, by omega⟩
  have CH := chain_full ⟨k, by omega⟩
  rw [← hL] at CH
  have CH1 : Hid (∀ j x y, L[j]? = some x → L[j + 1]? = some y → aheadB x y = true) := fun j x y h1 h2 => by
    have c := Bool.and_eq_true_iff.1 CH
    have lx : ∀ z ∈ L, z < 256 := fun z hz => by
      have := List.all_eq_true.1 c.2 z hz
      have p := Nat.pow_le_pow_right (show 0 < 2 by omega) k8
      simp at this
      omega
    rw [aheadF_is (lx x (List.mem_of_getElem? h1)) (lx y (List.mem_of_getElem? h2))]
    exact chain_at L j c.1 h1 h2
  have CH2 : ∀ j x, L[j]? = some x → 1 ≤ x ∧ x < 2 ^ k := fun j x h => by
    have := List.all_eq_true.1 (Bool.and_eq_true_iff.1 CH).2 x (List.mem_of_getElem? h)
    simpa using this
  have CM : ∀ N, N = 2 ^ k - 1 → Hid (∀ w, Calls Tryd.prog 25 #[.int .i64 n, .int .i64 300] w fun e W' => ∃ a cap, e = .returned (.slice a N cap) ∧ (∀ (j d : Nat), L[j]? = some d → ∃ g : Nat, a = some ⟨g, 0, none⟩ ∧ W'.cell? ⟨g, j, none⟩ = some (.int .i64 (d : Int))) ∧ Below w.heap.size w W') := fun N hN w =>
    all_masks n L N (by rw [hL, hk]) (by rw [LL, hN]) (by have p := Nat.pow_le_pow_right (show 0 < 2 by omega) k8; omega) w
  obtain ⟨N, hN⟩ : ∃ N, N = 2 ^ k - 1 := ⟨_, rfl⟩
  obtain ⟨E, hE⟩ : ∃ E, E = 2 ^ k := ⟨_, rfl⟩
  have C1 := CM N hN
  have CH3 : Hid (∀ j x, L[j]? = some x → 1 ≤ x ∧ x < E) := fun j x h => by rw [hE]; exact CH2 j x h
  have LN : L.length = N := by rw [LL, hN]
  have NE : N = E - 1 := by rw [hN, hE]
  have AH : Hid (∀ (x y : Nat) w, x < 256 → y < 256 → aheadB x y = true → Calls Tryd.prog 17 #[.int .i64 x, .int .i64 y] w fun e w' => e = .returned (.bool true) ∧ w' = w) := fun x y w hx hy h => by
    have := ahead_is x y w
    rwa [low_of hx, low_of hy, h] at this
  obtain ⟨p, hp⟩ : ∃ p, p = lessB (low m) node := ⟨_, rfl⟩
  obtain ⟨q, hq⟩ : ∃ q, q = withB (low m) node := ⟨_, rfl⟩
  have p8 : p < 256 := by rw [hp]; exact lessB_lt (low_lt m) node
  have q8 : q < 256 := by rw [hq]; exact withB_lt (low_lt m) node
  have D1 : Hid (∀ w, Calls Tryd.prog 14 #[.int .i64 m, .int .i64 node] w fun e w' => e = .returned (.int .i64 p) ∧ w' = w) := fun w => by rw [hp]; exact less_is m node w
  have D2 : Hid (∀ w, Calls Tryd.prog 11 #[.int .i64 p, .int .i64 node] w fun e w' => e = .returned (.bool false) ∧ w' = w) := fun w => by
    have := has_is p node w
    rwa [low_of p8, hp, not_less (low_lt m) node, ← hp] at this
  have D3 : Hid (∀ w, Calls Tryd.prog 12 #[.int .i64 m, .int .i64 node] w fun e w' => e = .returned (.int .i64 q) ∧ w' = w) := fun w => by rw [hq]; exact with_is m node w
  have D4 : Hid (∀ w, Calls Tryd.prog 11 #[.int .i64 q, .int .i64 node] w fun e w' => e = .returned (.bool (decide (0 ≤ node ∧ node < 8))) ∧ w' = w) := fun w => by
    have := has_is q node w
    rw [low_of q8, hq] at this
    by_cases h : 0 ≤ node ∧ node < 8
    · rw [is_with (low_lt m) h] at this
      rwa [decide_eq_true h, hq]
    · rw [has_out h] at this
      rwa [decide_eq_false h, hq]
  clear hp hq hk hL CH CH2 CM hN LL
  rcases (show k = 0 ∨ k = 1 ∨ k = 2 ∨ k = 3 ∨ k = 4 ∨ k = 5 ∨ k = 6 ∨ k = 7 ∨ k = 8 by omega) with rfl | rfl | rfl | rfl | rfl | rfl | rfl | rfl | rfl
  · obtain rfl : E = 1 := hE
    obtain rfl : N = 0 := NE
    clear k8
    have HLN : Hid (L.length = 0) := LN
    clear LN
    go_enter Tryd.func5, Tryd.ntmps5
    go_wp2_with (fail)
    refine (first_is _).mono ?_
    rintro e w1 ⟨rfl, hw1⟩
    go_wp2_with (fail)
    refine (C1.out _).mono ?_
    rintro e w2 ⟨a, cap, rfl, hc, hw2⟩
    have HC : Hid (∀ (j d : Nat), L[j]? = some d → ∃ g : Nat, a = some ⟨g, 0, none⟩ ∧ w2.cell? ⟨g, j, none⟩ = some (.int .i64 (d : Int))) := hc
    have HB2 : Below w.heap.size w w2 := hw1.trans (hw2.mono hw1.size)
    clear C1 hw1 hw2 hc
    go_wp2
    go_loopw [26] (fun f wr => ∃ j : Nat, f = .int .i64 j ∧ j ≤ 0 ∧ wr = w2) (fun f _ => 0 - (intOf f).toNat)
    case atStart => exact ⟨0, rfl, by omega, rfl⟩
    case round =>
      obtain ⟨j, rfl, jl, hwr⟩ := hrel
      rw [hwr]
      clear hwr
      by_cases cj : j < 0
      · omega
      · obtain rfl : j = 0 := by omega
        go_wp2_with (fail)
        refine (D1.out _).mono ?_
        rintro e w3 ⟨rfl, hw⟩
        rw [hw]
        clear hw
        go_wp2_with (fail)
        refine (D2.out _).mono ?_
        rintro e w3 ⟨rfl, hw⟩
        rw [hw]
        clear hw
        go_wp2_with (fail)
        refine (D3.out _).mono ?_
        rintro e w3 ⟨rfl, hw⟩
        rw [hw]
        clear hw
        by_cases h : 0 ≤ node ∧ node < 8
        · have D5 : Hid (∀ w, Calls Tryd.prog 11 #[.int .i64 q, .int .i64 node] w fun e w' => e = .returned (.bool true) ∧ w' = w) := fun w => by
            have := D4.out w
            rwa [decide_eq_true h] at this
          obtain ⟨h1, h2⟩ := h
          go_wp2_with (fail)
          refine (D5.out _).mono ?_
          rintro e w3 ⟨rfl, hw⟩
          rw [hw]
          clear hw
          go_wp2
          go_ret
          exact ⟨rfl, HB2⟩
        · have D5 : Hid (∀ w, Calls Tryd.prog 11 #[.int .i64 q, .int .i64 node] w fun e w' => e = .returned (.bool false) ∧ w' = w) := fun w => by
            have := D4.out w
            rwa [decide_eq_false h] at this
          go_wp2_with (fail)
          refine (D5.out _).mono ?_
          rintro e w3 ⟨rfl, hw⟩
          rw [hw]
          clear hw
          by_cases h1 : node < 0
          · have h2 : ¬ (0 ≤ node) := by omega
            clear h
            go_wp2
            go_ret
            exact ⟨rfl, HB2⟩
          · have h2 : 0 ≤ node := by omega
            have h3 : ¬ node < 8 := by omega
            clear h h1
            go_wp2
            go_ret
            refine ⟨?_, HB2⟩
            show Ending.returned (Value.bool (!decide (node < 8))) = _
            rw [decide_eq_false (by omega)]
            rfl
  · obtain rfl : E = 2 := hE
    obtain rfl : N = 1 := NE
    clear k8
    have HLN : Hid (L.length = 1) := LN
    clear LN
    go_enter Tryd.func5, Tryd.ntmps5
    go_wp2_with (fail)
    refine (first_is _).mono ?_
    rintro e w1 ⟨rfl, hw1⟩
    go_wp2_with (fail)
    refine (C1.out _).mono ?_
    rintro e w2 ⟨a, cap, rfl, hc, hw2⟩
    have HC : Hid (∀ (j d : Nat), L[j]? = some d → ∃ g : Nat, a = some ⟨g, 0, none⟩ ∧ w2.cell? ⟨g, j, none⟩ = some (.int .i64 (d : Int))) := hc
    have HB2 : Below w.heap.size w w2 := hw1.trans (hw2.mono hw1.size)
    clear C1 hw1 hw2 hc
    go_wp2
    go_loopw [26] (fun f wr => ∃ j : Nat, f = .int .i64 j ∧ j ≤ 1 ∧ wr = w2) (fun f _ => 1 - (intOf f).toNat)
    case atStart => exact ⟨0, rfl, by omega, rfl⟩
    case round =>
      obtain ⟨j, rfl, jl, hwr⟩ := hrel
      rw [hwr]
      clear hwr
      by_cases cj : j < 1
      · obtain ⟨x, hx⟩ : ∃ x, L[j]? = some x := ⟨L[j]'(by rw [HLN.out]; exact cj), List.getElem?_eq_getElem _⟩
        obtain ⟨x1, x2⟩ := CH3.out j x hx
        obtain ⟨g, rfl, cx⟩ := HC.out j x hx
        have j0 : (0 : Int) ≤ (j : Int) := by omega
        have j1 : (j : Int) < 1 := by omega
        have x3 : ¬ (x : Int) < 1 := by omega
        have x4 : (x : Int) < 2 := by omega
        rcases Nat.eq_zero_or_pos j with e | e
        · subst e
          clear hx
          go_wp2
          go_roundw
          case rel => exact ⟨1, rfl, by omega, trivial⟩
          case measure => simp [intOf]
        · omega
      · obtain rfl : j = 1 := by omega
        go_wp2_with (fail)
        refine (D1.out _).mono ?_
        rintro e w3 ⟨rfl, hw⟩
        rw [hw]
        clear hw
        go_wp2_with (fail)
        refine (D2.out _).mono ?_
        rintro e w3 ⟨rfl, hw⟩
        rw [hw]
        clear hw
        go_wp2_with (fail)
        refine (D3.out _).mono ?_
        rintro e w3 ⟨rfl, hw⟩
        rw [hw]
        clear hw
        by_cases h : 0 ≤ node ∧ node < 8
        · have D5 : Hid (∀ w, Calls Tryd.prog 11 #[.int .i64 q, .int .i64 node] w fun e w' => e = .returned (.bool true) ∧ w' = w) := fun w => by
            have := D4.out w
            rwa [decide_eq_true h] at this
          obtain ⟨h1, h2⟩ := h
          go_wp2_with (fail)
          refine (D5.out _).mono ?_
          rintro e w3 ⟨rfl, hw⟩
          rw [hw]
          clear hw
          go_wp2
          go_ret
          exact ⟨rfl, HB2⟩
        · have D5 : Hid (∀ w, Calls Tryd.prog 11 #[.int .i64 q, .int .i64 node] w fun e w' => e = .returned (.bool false) ∧ w' = w) := fun w => by
            have := D4.out w
            rwa [decide_eq_false h] at this
          go_wp2_with (fail)
          refine (D5.out _).mono ?_
          rintro e w3 ⟨rfl, hw⟩
          rw [hw]
          clear hw
          by_cases h1 : node < 0
          · have h2 : ¬ (0 ≤ node) := by omega
            clear h
            go_wp2
            go_ret
            exact ⟨rfl, HB2⟩
          · have h2 : 0 ≤ node := by omega
            have h3 : ¬ node < 8 := by omega
            clear h h1
            go_wp2
            go_ret
            refine ⟨?_, HB2⟩
            show Ending.returned (Value.bool (!decide (node < 8))) = _
            rw [decide_eq_false (by omega)]
            rfl
  · obtain rfl : E = 4 := hE
    obtain rfl : N = 3 := NE
    clear k8
    have HLN : Hid (L.length = 3) := LN
    clear LN
    go_enter Tryd.func5, Tryd.ntmps5
    go_wp2_with (fail)
    refine (first_is _).mono ?_
    rintro e w1 ⟨rfl, hw1⟩
    go_wp2_with (fail)
    refine (C1.out _).mono ?_
    rintro e w2 ⟨a, cap, rfl, hc, hw2⟩
    have HC : Hid (∀ (j d : Nat), L[j]? = some d → ∃ g : Nat, a = some ⟨g, 0, none⟩ ∧ w2.cell? ⟨g, j, none⟩ = some (.int .i64 (d : Int))) := hc
    have HB2 : Below w.heap.size w w2 := hw1.trans (hw2.mono hw1.size)
    clear C1 hw1 hw2 hc
    go_wp2
    go_loopw [26] (fun f wr => ∃ j : Nat, f = .int .i64 j ∧ j ≤ 3 ∧ wr = w2) (fun f _ => 3 - (intOf f).toNat)
    case atStart => exact ⟨0, rfl, by omega, rfl⟩
    case round =>
      obtain ⟨j, rfl, jl, hwr⟩ := hrel
      rw [hwr]
      clear hwr
      by_cases cj : j < 3
      · obtain ⟨x, hx⟩ : ∃ x, L[j]? = some x := ⟨L[j]'(by rw [HLN.out]; exact cj), List.getElem?_eq_getElem _⟩
        obtain ⟨x1, x2⟩ := CH3.out j x hx
        obtain ⟨g, rfl, cx⟩ := HC.out j x hx
        have j0 : (0 : Int) ≤ (j : Int) := by omega
        have j1 : (j : Int) < 3 := by omega
        have x3 : ¬ (x : Int) < 1 := by omega
        have x4 : (x : Int) < 4 := by omega
        rcases Nat.eq_zero_or_pos j with e | e
        · subst e
          clear hx
          go_wp2
          go_roundw
          case rel => exact ⟨1, rfl, by omega, trivial⟩
          case measure => simp [intOf]
        · obtain ⟨j', ej⟩ : ∃ j', j = j' + 1 := ⟨j - 1, by omega⟩
          obtain ⟨y, hy⟩ : ∃ y, L[j']? = some y := ⟨L[j']'(by rw [HLN.out]; omega), List.getElem?_eq_getElem _⟩
          obtain ⟨y1, y2⟩ := CH3.out j' y hy
          obtain ⟨g', eg, cy⟩ := HC.out j' y hy
          injection eg with eg
          injection eg with eg
          subst eg
          have A : Hid (∀ w, Calls Tryd.prog 17 #[.int .i64 y, .int .i64 x] w fun e w' => e = .returned (.bool true) ∧ w' = w) := fun w => AH.out y x w (by omega) (by omega) (CH1.out j' y x hy (by rw [← ej]; exact hx))
          have e0 : (0 : Int) < (j : Int) := by omega
          have e1 : (j : Int) - 1 = (j' : Int) := by omega
          have i3 : (j' : Int) < 256 := by omega
          have i4 : (0 : Int) ≤ (j' : Int) := by omega
          have i5 : (j' : Int) < 3 := by omega
          clear hx hy ej
          go_wp2_with (fail)
          refine (A.out _).mono ?_
          rintro e w3 ⟨rfl, hw⟩
          rw [hw]
          clear hw A
          go_wp2
          go_roundw
          case rel => exact ⟨j + 1, by go_num, by omega, trivial⟩
          case measure => simp [intOf]; omega
      · obtain rfl : j = 3 := by omega
        go_wp2_with (fail)
        refine (D1.out _).mono ?_
        rintro e w3 ⟨rfl, hw⟩
        rw [hw]
        clear hw
        go_wp2_with (fail)
        refine (D2.out _).mono ?_
        rintro e w3 ⟨rfl, hw⟩
        rw [hw]
        clear hw
        go_wp2_with (fail)
        refine (D3.out _).mono ?_
        rintro e w3 ⟨rfl, hw⟩
        rw [hw]
        clear hw
        by_cases h : 0 ≤ node ∧ node < 8
        · have D5 : Hid (∀ w, Calls Tryd.prog 11 #[.int .i64 q, .int .i64 node] w fun e w' => e = .returned (.bool true) ∧ w' = w) := fun w => by
            have := D4.out w
            rwa [decide_eq_true h] at this
          obtain ⟨h1, h2⟩ := h
          go_wp2_with (fail)
          refine (D5.out _).mono ?_
          rintro e w3 ⟨rfl, hw⟩
          rw [hw]
          clear hw
          go_wp2
          go_ret
          exact ⟨rfl, HB2⟩
        · have D5 : Hid (∀ w, Calls Tryd.prog 11 #[.int .i64 q, .int .i64 node] w fun e w' => e = .returned (.bool false) ∧ w' = w) := fun w => by
            have := D4.out w
            rwa [decide_eq_false h] at this
          go_wp2_with (fail)
          refine (D5.out _).mono ?_
          rintro e w3 ⟨rfl, hw⟩
          rw [hw]
          clear hw
          by_cases h1 : node < 0
          · have h2 : ¬ (0 ≤ node) := by omega
            clear h
            go_wp2
            go_ret
            exact ⟨rfl, HB2⟩
          · have h2 : 0 ≤ node := by omega
            have h3 : ¬ node < 8 := by omega
            clear h h1
            go_wp2
            go_ret
            refine ⟨?_, HB2⟩
            show Ending.returned (Value.bool (!decide (node < 8))) = _
            rw [decide_eq_false (by omega)]
            rfl
  · obtain rfl : E = 8 := hE
    obtain rfl : N = 7 := NE
    clear k8
    have HLN : Hid (L.length = 7) := LN
    clear LN
    go_enter Tryd.func5, Tryd.ntmps5
    go_wp2_with (fail)
    refine (first_is _).mono ?_
    rintro e w1 ⟨rfl, hw1⟩
    go_wp2_with (fail)
    refine (C1.out _).mono ?_
    rintro e w2 ⟨a, cap, rfl, hc, hw2⟩
    have HC : Hid (∀ (j d : Nat), L[j]? = some d → ∃ g : Nat, a = some ⟨g, 0, none⟩ ∧ w2.cell? ⟨g, j, none⟩ = some (.int .i64 (d : Int))) := hc
    have HB2 : Below w.heap.size w w2 := hw1.trans (hw2.mono hw1.size)
    clear C1 hw1 hw2 hc
    go_wp2
    go_loopw [26] (fun f wr => ∃ j : Nat, f = .int .i64 j ∧ j ≤ 7 ∧ wr = w2) (fun f _ => 7 - (intOf f).toNat)
    case atStart => exact ⟨0, rfl, by omega, rfl⟩
    case round =>
      obtain ⟨j, rfl, jl, hwr⟩ := hrel
      rw [hwr]
      clear hwr
      by_cases cj : j < 7
      · obtain ⟨x, hx⟩ : ∃ x, L[j]? = some x := ⟨L[j]'(by rw [HLN.out]; exact cj), List.getElem?_eq_getElem _⟩
        obtain ⟨x1, x2⟩ := CH3.out j x hx
        obtain ⟨g, rfl, cx⟩ := HC.out j x hx
        have j0 : (0 : Int) ≤ (j : Int) := by omega
        have j1 : (j : Int) < 7 := by omega
        have x3 : ¬ (x : Int) < 1 := by omega
        have x4 : (x : Int) < 8 := by omega
        rcases Nat.eq_zero_or_pos j with e | e
        · subst e
          clear hx
          go_wp2
          go_roundw
          case rel => exact ⟨1, rfl, by omega, trivial⟩
          case measure => simp [intOf]
        · obtain ⟨j', ej⟩ : ∃ j', j = j' + 1 := ⟨j - 1, by omega⟩
          obtain ⟨y, hy⟩ : ∃ y, L[j']? = some y := ⟨L[j']'(by rw [HLN.out]; omega), List.getElem?_eq_getElem _⟩
          obtain ⟨y1, y2⟩ := CH3.out j' y hy
          obtain ⟨g', eg, cy⟩ := HC.out j' y hy
          injection eg with eg
          injection eg with eg
          subst eg
          have A : Hid (∀ w, Calls Tryd.prog 17 #[.int .i64 y, .int .i64 x] w fun e w' => e = .returned (.bool true) ∧ w' = w) := fun w => AH.out y x w (by omega) (by omega) (CH1.out j' y x hy (by rw [← ej]; exact hx))
          have e0 : (0 : Int) < (j : Int) := by omega
          have e1 : (j : Int) - 1 = (j' : Int) := by omega
          have i3 : (j' : Int) < 256 := by omega
          have i4 : (0 : Int) ≤ (j' : Int) := by omega
          have i5 : (j' : Int) < 7 := by omega
          clear hx hy ej
          go_wp2_with (fail)
          refine (A.out _).mono ?_
          rintro e w3 ⟨rfl, hw⟩
          rw [hw]
          clear hw A
          go_wp2
          go_roundw
          case rel => exact ⟨j + 1, by go_num, by omega, trivial⟩
          case measure => simp [intOf]; omega
      · obtain rfl : j = 7 := by omega
        go_wp2_with (fail)
        refine (D1.out _).mono ?_
        rintro e w3 ⟨rfl, hw⟩
        rw [hw]
        clear hw
        go_wp2_with (fail)
        refine (D2.out _).mono ?_
        rintro e w3 ⟨rfl, hw⟩
        rw [hw]
        clear hw
        go_wp2_with (fail)
        refine (D3.out _).mono ?_
        rintro e w3 ⟨rfl, hw⟩
        rw [hw]
        clear hw
        by_cases h : 0 ≤ node ∧ node < 8
        · have D5 : Hid (∀ w, Calls Tryd.prog 11 #[.int .i64 q, .int .i64 node] w fun e w' => e = .returned (.bool true) ∧ w' = w) := fun w => by
            have := D4.out w
            rwa [decide_eq_true h] at this
          obtain ⟨h1, h2⟩ := h
          go_wp2_with (fail)
          refine (D5.out _).mono ?_
          rintro e w3 ⟨rfl, hw⟩
          rw [hw]
          clear hw
          go_wp2
          go_ret
          exact ⟨rfl, HB2⟩
        · have D5 : Hid (∀ w, Calls Tryd.prog 11 #[.int .i64 q, .int .i64 node] w fun e w' => e = .returned (.bool false) ∧ w' = w) := fun w => by
            have := D4.out w
            rwa [decide_eq_false h] at this
          go_wp2_with (fail)
          refine (D5.out _).mono ?_
          rintro e w3 ⟨rfl, hw⟩
          rw [hw]
          clear hw
          by_cases h1 : node < 0
          · have h2 : ¬ (0 ≤ node) := by omega
            clear h
            go_wp2
            go_ret
            exact ⟨rfl, HB2⟩
          · have h2 : 0 ≤ node := by omega
            have h3 : ¬ node < 8 := by omega
            clear h h1
            go_wp2
            go_ret
            refine ⟨?_, HB2⟩
            show Ending.returned (Value.bool (!decide (node < 8))) = _
            rw [decide_eq_false (by omega)]
            rfl
  · obtain rfl : E = 16 := hE
    obtain rfl : N = 15 := NE
    clear k8
    have HLN : Hid (L.length = 15) := LN
    clear LN
    go_enter Tryd.func5, Tryd.ntmps5
    go_wp2_with (fail)
    refine (first_is _).mono ?_
    rintro e w1 ⟨rfl, hw1⟩
    go_wp2_with (fail)
    refine (C1.out _).mono ?_
    rintro e w2 ⟨a, cap, rfl, hc, hw2⟩
    have HC : Hid (∀ (j d : Nat), L[j]? = some d → ∃ g : Nat, a = some ⟨g, 0, none⟩ ∧ w2.cell? ⟨g, j, none⟩ = some (.int .i64 (d : Int))) := hc
    have HB2 : Below w.heap.size w w2 := hw1.trans (hw2.mono hw1.size)
    clear C1 hw1 hw2 hc
    go_wp2
    go_loopw [26] (fun f wr => ∃ j : Nat, f = .int .i64 j ∧ j ≤ 15 ∧ wr = w2) (fun f _ => 15 - (intOf f).toNat)
    case atStart => exact ⟨0, rfl, by omega, rfl⟩
    case round =>
      obtain ⟨j, rfl, jl, hwr⟩ := hrel
      rw [hwr]
      clear hwr
      by_cases cj : j < 15
      · obtain ⟨x, hx⟩ : ∃ x, L[j]? = some x := ⟨L[j]'(by rw [HLN.out]; exact cj), List.getElem?_eq_getElem _⟩
        obtain ⟨x1, x2⟩ := CH3.out j x hx
        obtain ⟨g, rfl, cx⟩ := HC.out j x hx
        have j0 : (0 : Int) ≤ (j : Int) := by omega
        have j1 : (j : Int) < 15 := by omega
        have x3 : ¬ (x : Int) < 1 := by omega
        have x4 : (x : Int) < 16 := by omega
        rcases Nat.eq_zero_or_pos j with e | e
        · subst e
          clear hx
          go_wp2
          go_roundw
          case rel => exact ⟨1, rfl, by omega, trivial⟩
          case measure => simp [intOf]
        · obtain ⟨j', ej⟩ : ∃ j', j = j' + 1 := ⟨j - 1, by omega⟩
          obtain ⟨y, hy⟩ : ∃ y, L[j']? = some y := ⟨L[j']'(by rw [HLN.out]; omega), List.getElem?_eq_getElem _⟩
          obtain ⟨y1, y2⟩ := CH3.out j' y hy
          obtain ⟨g', eg, cy⟩ := HC.out j' y hy
          injection eg with eg
          injection eg with eg
          subst eg
          have A : Hid (∀ w, Calls Tryd.prog 17 #[.int .i64 y, .int .i64 x] w fun e w' => e = .returned (.bool true) ∧ w' = w) := fun w => AH.out y x w (by omega) (by omega) (CH1.out j' y x hy (by rw [← ej]; exact hx))
          have e0 : (0 : Int) < (j : Int) := by omega
          have e1 : (j : Int) - 1 = (j' : Int) := by omega
          have i3 : (j' : Int) < 256 := by omega
          have i4 : (0 : Int) ≤ (j' : Int) := by omega
          have i5 : (j' : Int) < 15 := by omega
          clear hx hy ej
          go_wp2_with (fail)
          refine (A.out _).mono ?_
          rintro e w3 ⟨rfl, hw⟩
          rw [hw]
          clear hw A
          go_wp2
          go_roundw
          case rel => exact ⟨j + 1, by go_num, by omega, trivial⟩
          case measure => simp [intOf]; omega
      · obtain rfl : j = 15 := by omega
        go_wp2_with (fail)
        refine (D1.out _).mono ?_
        rintro e w3 ⟨rfl, hw⟩
        rw [hw]
        clear hw
        go_wp2_with (fail)
        refine (D2.out _).mono ?_
        rintro e w3 ⟨rfl, hw⟩
        rw [hw]
        clear hw
        go_wp2_with (fail)
        refine (D3.out _).mono ?_
        rintro e w3 ⟨rfl, hw⟩
        rw [hw]
        clear hw
        by_cases h : 0 ≤ node ∧ node < 8
        · have D5 : Hid (∀ w, Calls Tryd.prog 11 #[.int .i64 q, .int .i64 node] w fun e w' => e = .returned (.bool true) ∧ w' = w) := fun w => by
            have := D4.out w
            rwa [decide_eq_true h] at this
          obtain ⟨h1, h2⟩ := h
          go_wp2_with (fail)
          refine (D5.out _).mono ?_
          rintro e w3 ⟨rfl, hw⟩
          rw [hw]
          clear hw
          go_wp2
          go_ret
          exact ⟨rfl, HB2⟩
        · have D5 : Hid (∀ w, Calls Tryd.prog 11 #[.int .i64 q, .int .i64 node] w fun e w' => e = .returned (.bool false) ∧ w' = w) := fun w => by
            have := D4.out w
            rwa [decide_eq_false h] at this
          go_wp2_with (fail)
          refine (D5.out _).mono ?_
          rintro e w3 ⟨rfl, hw⟩
          rw [hw]
          clear hw
          by_cases h1 : node < 0
          · have h2 : ¬ (0 ≤ node) := by omega
            clear h
            go_wp2
            go_ret
            exact ⟨rfl, HB2⟩
          · have h2 : 0 ≤ node := by omega
            have h3 : ¬ node < 8 := by omega
            clear h h1
            go_wp2
            go_ret
            refine ⟨?_, HB2⟩
            show Ending.returned (Value.bool (!decide (node < 8))) = _
            rw [decide_eq_false (by omega)]
            rfl
  · obtain rfl : E = 32 := hE
    obtain rfl : N = 31 := NE
    clear k8
    have HLN : Hid (L.length = 31) := LN
    clear LN
    go_enter Tryd.func5, Tryd.ntmps5
    go_wp2_with (fail)
    refine (first_is _).mono ?_
    rintro e w1 ⟨rfl, hw1⟩
    go_wp2_with (fail)
    refine (C1.out _).mono ?_
    rintro e w2 ⟨a, cap, rfl, hc, hw2⟩
    have HC : Hid (∀ (j d : Nat), L[j]? = some d → ∃ g : Nat, a = some ⟨g, 0, none⟩ ∧ w2.cell? ⟨g, j, none⟩ = some (.int .i64 (d : Int))) := hc
    have HB2 : Below w.heap.size w w2 := hw1.trans (hw2.mono hw1.size)
    clear C1 hw1 hw2 hc
    go_wp2
    go_loopw [26] (fun f wr => ∃ j : Nat, f = .int .i64 j ∧ j ≤ 31 ∧ wr = w2) (fun f _ => 31 - (intOf f).toNat)
    case atStart => exact ⟨0, rfl, by omega, rfl⟩
    case round =>
      obtain ⟨j, rfl, jl, hwr⟩ := hrel
      rw [hwr]
      clear hwr
      by_cases cj : j < 31
      · obtain ⟨x, hx⟩ : ∃ x, L[j]? = some x := ⟨L[j]'(by rw [HLN.out]; exact cj), List.getElem?_eq_getElem _⟩
        obtain ⟨x1, x2⟩ := CH3.out j x hx
        obtain ⟨g, rfl, cx⟩ := HC.out j x hx
        have j0 : (0 : Int) ≤ (j : Int) := by omega
        have j1 : (j : Int) < 31 := by omega
        have x3 : ¬ (x : Int) < 1 := by omega
        have x4 : (x : Int) < 32 := by omega
        rcases Nat.eq_zero_or_pos j with e | e
        · subst e
          clear hx
          go_wp2
          go_roundw
          case rel => exact ⟨1, rfl, by omega, trivial⟩
          case measure => simp [intOf]
        · obtain ⟨j', ej⟩ : ∃ j', j = j' + 1 := ⟨j - 1, by omega⟩
          obtain ⟨y, hy⟩ : ∃ y, L[j']? = some y := ⟨L[j']'(by rw [HLN.out]; omega), List.getElem?_eq_getElem _⟩
          obtain ⟨y1, y2⟩ := CH3.out j' y hy
          obtain ⟨g', eg, cy⟩ := HC.out j' y hy
          injection eg with eg
          injection eg with eg
          subst eg
          have A : Hid (∀ w, Calls Tryd.prog 17 #[.int .i64 y, .int .i64 x] w fun e w' => e = .returned (.bool true) ∧ w' = w) := fun w => AH.out y x w (by omega) (by omega) (CH1.out j' y x hy (by rw [← ej]; exact hx))
          have e0 : (0 : Int) < (j : Int) := by omega
          have e1 : (j : Int) - 1 = (j' : Int) := by omega
          have i3 : (j' : Int) < 256 := by omega
          have i4 : (0 : Int) ≤ (j' : Int) := by omega
          have i5 : (j' : Int) < 31 := by omega
          clear hx hy ej
          go_wp2_with (fail)
          refine (A.out _).mono ?_
          rintro e w3 ⟨rfl, hw⟩
          rw [hw]
          clear hw A
          go_wp2
          go_roundw
          case rel => exact ⟨j + 1, by go_num, by omega, trivial⟩
          case measure => simp [intOf]; omega
      · obtain rfl : j = 31 := by omega
        go_wp2_with (fail)
        refine (D1.out _).mono ?_
        rintro e w3 ⟨rfl, hw⟩
        rw [hw]
        clear hw
        go_wp2_with (fail)
        refine (D2.out _).mono ?_
        rintro e w3 ⟨rfl, hw⟩
        rw [hw]
        clear hw
        go_wp2_with (fail)
        refine (D3.out _).mono ?_
        rintro e w3 ⟨rfl, hw⟩
        rw [hw]
        clear hw
        by_cases h : 0 ≤ node ∧ node < 8
        · have D5 : Hid (∀ w, Calls Tryd.prog 11 #[.int .i64 q, .int .i64 node] w fun e w' => e = .returned (.bool true) ∧ w' = w) := fun w => by
            have := D4.out w
            rwa [decide_eq_true h] at this
          obtain ⟨h1, h2⟩ := h
          go_wp2_with (fail)
          refine (D5.out _).mono ?_
          rintro e w3 ⟨rfl, hw⟩
          rw [hw]
          clear hw
          go_wp2
          go_ret
          exact ⟨rfl, HB2⟩
        · have D5 : Hid (∀ w, Calls Tryd.prog 11 #[.int .i64 q, .int .i64 node] w fun e w' => e = .returned (.bool false) ∧ w' = w) := fun w => by
            have := D4.out w
            rwa [decide_eq_false h] at this
          go_wp2_with (fail)
          refine (D5.out _).mono ?_
          rintro e w3 ⟨rfl, hw⟩
          rw [hw]
          clear hw
          by_cases h1 : node < 0
          · have h2 : ¬ (0 ≤ node) := by omega
            clear h
            go_wp2
            go_ret
            exact ⟨rfl, HB2⟩
          · have h2 : 0 ≤ node := by omega
            have h3 : ¬ node < 8 := by omega
            clear h h1
            go_wp2
            go_ret
            refine ⟨?_, HB2⟩
            show Ending.returned (Value.bool (!decide (node < 8))) = _
            rw [decide_eq_false (by omega)]
            rfl
  · obtain rfl : E = 64 := hE
    obtain rfl : N = 63 := NE
    clear k8
    have HLN : Hid (L.length = 63) := LN
    clear LN
    go_enter Tryd.func5, Tryd.ntmps5
    go_wp2_with (fail)
    refine (first_is _).mono ?_
    rintro e w1 ⟨rfl, hw1⟩
    go_wp2_with (fail)
    refine (C1.out _).mono ?_
    rintro e w2 ⟨a, cap, rfl, hc, hw2⟩
    have HC : Hid (∀ (j d : Nat), L[j]? = some d → ∃ g : Nat, a = some ⟨g, 0, none⟩ ∧ w2.cell? ⟨g, j, none⟩ = some (.int .i64 (d : Int))) := hc
    have HB2 : Below w.heap.size w w2 := hw1.trans (hw2.mono hw1.size)
    clear C1 hw1 hw2 hc
    go_wp2
    go_loopw [26] (fun f wr => ∃ j : Nat, f = .int .i64 j ∧ j ≤ 63 ∧ wr = w2) (fun f _ => 63 - (intOf f).toNat)
    case atStart => exact ⟨0, rfl, by omega, rfl⟩
    case round =>
      obtain ⟨j, rfl, jl, hwr⟩ := hrel
      rw [hwr]
      clear hwr
      by_cases cj : j < 63
      · obtain ⟨x, hx⟩ : ∃ x, L[j]? = some x := ⟨L[j]'(by rw [HLN.out]; exact cj), List.getElem?_eq_getElem _⟩
        obtain ⟨x1, x2⟩ := CH3.out j x hx
        obtain ⟨g, rfl, cx⟩ := HC.out j x hx
        have j0 : (0 : Int) ≤ (j : Int) := by omega
        have j1 : (j : Int) < 63 := by omega
        have x3 : ¬ (x : Int) < 1 := by omega
        have x4 : (x : Int) < 64 := by omega
        rcases Nat.eq_zero_or_pos j with e | e
        · subst e
          clear hx
          go_wp2
          go_roundw
          case rel => exact ⟨1, rfl, by omega, trivial⟩
          case measure => simp [intOf]
        · obtain ⟨j', ej⟩ : ∃ j', j = j' + 1 := ⟨j - 1, by omega⟩
          obtain ⟨y, hy⟩ : ∃ y, L[j']? = some y := ⟨L[j']'(by rw [HLN.out]; omega), List.getElem?_eq_getElem _⟩
          obtain ⟨y1, y2⟩ := CH3.out j' y hy
          obtain ⟨g', eg, cy⟩ := HC.out j' y hy
          injection eg with eg
          injection eg with eg
          subst eg
          have A : Hid (∀ w, Calls Tryd.prog 17 #[.int .i64 y, .int .i64 x] w fun e w' => e = .returned (.bool true) ∧ w' = w) := fun w => AH.out y x w (by omega) (by omega) (CH1.out j' y x hy (by rw [← ej]; exact hx))
          have e0 : (0 : Int) < (j : Int) := by omega
          have e1 : (j : Int) - 1 = (j' : Int) := by omega
          have i3 : (j' : Int) < 256 := by omega
          have i4 : (0 : Int) ≤ (j' : Int) := by omega
          have i5 : (j' : Int) < 63 := by omega
          clear hx hy ej
          go_wp2_with (fail)
          refine (A.out _).mono ?_
          rintro e w3 ⟨rfl, hw⟩
          rw [hw]
          clear hw A
          go_wp2
          go_roundw
          case rel => exact ⟨j + 1, by go_num, by omega, trivial⟩
          case measure => simp [intOf]; omega
      · obtain rfl : j = 63 := by omega
        go_wp2_with (fail)
        refine (D1.out _).mono ?_
        rintro e w3 ⟨rfl, hw⟩
        rw [hw]
        clear hw
        go_wp2_with (fail)
        refine (D2.out _).mono ?_
        rintro e w3 ⟨rfl, hw⟩
        rw [hw]
        clear hw
        go_wp2_with (fail)
        refine (D3.out _).mono ?_
        rintro e w3 ⟨rfl, hw⟩
        rw [hw]
        clear hw
        by_cases h : 0 ≤ node ∧ node < 8
        · have D5 : Hid (∀ w, Calls Tryd.prog 11 #[.int .i64 q, .int .i64 node] w fun e w' => e = .returned (.bool true) ∧ w' = w) := fun w => by
            have := D4.out w
            rwa [decide_eq_true h] at this
          obtain ⟨h1, h2⟩ := h
          go_wp2_with (fail)
          refine (D5.out _).mono ?_
          rintro e w3 ⟨rfl, hw⟩
          rw [hw]
          clear hw
          go_wp2
          go_ret
          exact ⟨rfl, HB2⟩
        · have D5 : Hid (∀ w, Calls Tryd.prog 11 #[.int .i64 q, .int .i64 node] w fun e w' => e = .returned (.bool false) ∧ w' = w) := fun w => by
            have := D4.out w
            rwa [decide_eq_false h] at this
          go_wp2_with (fail)
          refine (D5.out _).mono ?_
          rintro e w3 ⟨rfl, hw⟩
          rw [hw]
          clear hw
          by_cases h1 : node < 0
          · have h2 : ¬ (0 ≤ node) := by omega
            clear h
            go_wp2
            go_ret
            exact ⟨rfl, HB2⟩
          · have h2 : 0 ≤ node := by omega
            have h3 : ¬ node < 8 := by omega
            clear h h1
            go_wp2
            go_ret
            refine ⟨?_, HB2⟩
            show Ending.returned (Value.bool (!decide (node < 8))) = _
            rw [decide_eq_false (by omega)]
            rfl
  · obtain rfl : E = 128 := hE
    obtain rfl : N = 127 := NE
    clear k8
    have HLN : Hid (L.length = 127) := LN
    clear LN
    go_enter Tryd.func5, Tryd.ntmps5
    go_wp2_with (fail)
    refine (first_is _).mono ?_
    rintro e w1 ⟨rfl, hw1⟩
    go_wp2_with (fail)
    refine (C1.out _).mono ?_
    rintro e w2 ⟨a, cap, rfl, hc, hw2⟩
    have HC : Hid (∀ (j d : Nat), L[j]? = some d → ∃ g : Nat, a = some ⟨g, 0, none⟩ ∧ w2.cell? ⟨g, j, none⟩ = some (.int .i64 (d : Int))) := hc
    have HB2 : Below w.heap.size w w2 := hw1.trans (hw2.mono hw1.size)
    clear C1 hw1 hw2 hc
    go_wp2
    go_loopw [26] (fun f wr => ∃ j : Nat, f = .int .i64 j ∧ j ≤ 127 ∧ wr = w2) (fun f _ => 127 - (intOf f).toNat)
    case atStart => exact ⟨0, rfl, by omega, rfl⟩
    case round =>
      obtain ⟨j, rfl, jl, hwr⟩ := hrel
      rw [hwr]
      clear hwr
      by_cases cj : j < 127
      · obtain ⟨x, hx⟩ : ∃ x, L[j]? = some x := ⟨L[j]'(by rw [HLN.out]; exact cj), List.getElem?_eq_getElem _⟩
        obtain ⟨x1, x2⟩ := CH3.out j x hx
        obtain ⟨g, rfl, cx⟩ := HC.out j x hx
        have j0 : (0 : Int) ≤ (j : Int) := by omega
        have j1 : (j : Int) < 127 := by omega
        have x3 : ¬ (x : Int) < 1 := by omega
        have x4 : (x : Int) < 128 := by omega
        rcases Nat.eq_zero_or_pos j with e | e
        · subst e
          clear hx
          go_wp2
          go_roundw
          case rel => exact ⟨1, rfl, by omega, trivial⟩
          case measure => simp [intOf]
        · obtain ⟨j', ej⟩ : ∃ j', j = j' + 1 := ⟨j - 1, by omega⟩
          obtain ⟨y, hy⟩ : ∃ y, L[j']? = some y := ⟨L[j']'(by rw [HLN.out]; omega), List.getElem?_eq_getElem _⟩
          obtain ⟨y1, y2⟩ := CH3.out j' y hy
          obtain ⟨g', eg, cy⟩ := HC.out j' y hy
          injection eg with eg
          injection eg with eg
          subst eg
          have A : Hid (∀ w, Calls Tryd.prog 17 #[.int .i64 y, .int .i64 x] w fun e w' => e = .returned (.bool true) ∧ w' = w) := fun w => AH.out y x w (by omega) (by omega) (CH1.out j' y x hy (by rw [← ej]; exact hx))
          have e0 : (0 : Int) < (j : Int) := by omega
          have e1 : (j : Int) - 1 = (j' : Int) := by omega
          have i3 : (j' : Int) < 256 := by omega
          have i4 : (0 : Int) ≤ (j' : Int) := by omega
          have i5 : (j' : Int) < 127 := by omega
          clear hx hy ej
          go_wp2_with (fail)
          refine (A.out _).mono ?_
          rintro e w3 ⟨rfl, hw⟩
          rw [hw]
          clear hw A
          go_wp2
          go_roundw
          case rel => exact ⟨j + 1, by go_num, by omega, trivial⟩
          case measure => simp [intOf]; omega
      · obtain rfl : j = 127 := by omega
        go_wp2_with (fail)
        refine (D1.out _).mono ?_
        rintro e w3 ⟨rfl, hw⟩
        rw [hw]
        clear hw
        go_wp2_with (fail)
        refine (D2.out _).mono ?_
        rintro e w3 ⟨rfl, hw⟩
        rw [hw]
        clear hw
        go_wp2_with (fail)
        refine (D3.out _).mono ?_
        rintro e w3 ⟨rfl, hw⟩
        rw [hw]
        clear hw
        by_cases h : 0 ≤ node ∧ node < 8
        · have D5 : Hid (∀ w, Calls Tryd.prog 11 #[.int .i64 q, .int .i64 node] w fun e w' => e = .returned (.bool true) ∧ w' = w) := fun w => by
            have := D4.out w
            rwa [decide_eq_true h] at this
          obtain ⟨h1, h2⟩ := h
          go_wp2_with (fail)
          refine (D5.out _).mono ?_
          rintro e w3 ⟨rfl, hw⟩
          rw [hw]
          clear hw
          go_wp2
          go_ret
          exact ⟨rfl, HB2⟩
        · have D5 : Hid (∀ w, Calls Tryd.prog 11 #[.int .i64 q, .int .i64 node] w fun e w' => e = .returned (.bool false) ∧ w' = w) := fun w => by
            have := D4.out w
            rwa [decide_eq_false h] at this
          go_wp2_with (fail)
          refine (D5.out _).mono ?_
          rintro e w3 ⟨rfl, hw⟩
          rw [hw]
          clear hw
          by_cases h1 : node < 0
          · have h2 : ¬ (0 ≤ node) := by omega
            clear h
            go_wp2
            go_ret
            exact ⟨rfl, HB2⟩
          · have h2 : 0 ≤ node := by omega
            have h3 : ¬ node < 8 := by omega
            clear h h1
            go_wp2
            go_ret
            refine ⟨?_, HB2⟩
            show Ending.returned (Value.bool (!decide (node < 8))) = _
            rw [decide_eq_false (by omega)]
            rfl
  · obtain rfl : E = 256 := hE
    obtain rfl : N = 255 := NE
    clear k8
    have HLN : Hid (L.length = 255) := LN
    clear LN
    go_enter Tryd.func5, Tryd.ntmps5
    go_wp2_with (fail)
    refine (first_is _).mono ?_
    rintro e w1 ⟨rfl, hw1⟩
    go_wp2_with (fail)
    refine (C1.out _).mono ?_
    rintro e w2 ⟨a, cap, rfl, hc, hw2⟩
    have HC : Hid (∀ (j d : Nat), L[j]? = some d → ∃ g : Nat, a = some ⟨g, 0, none⟩ ∧ w2.cell? ⟨g, j, none⟩ = some (.int .i64 (d : Int))) := hc
    have HB2 : Below w.heap.size w w2 := hw1.trans (hw2.mono hw1.size)
    clear C1 hw1 hw2 hc
    go_wp2
    go_loopw [26] (fun f wr => ∃ j : Nat, f = .int .i64 j ∧ j ≤ 255 ∧ wr = w2) (fun f _ => 255 - (intOf f).toNat)
    case atStart => exact ⟨0, rfl, by omega, rfl⟩
    case round =>
      obtain ⟨j, rfl, jl, hwr⟩ := hrel
      rw [hwr]
      clear hwr
      by_cases cj : j < 255
      · obtain ⟨x, hx⟩ : ∃ x, L[j]? = some x := ⟨L[j]'(by rw [HLN.out]; exact cj), List.getElem?_eq_getElem _⟩
        obtain ⟨x1, x2⟩ := CH3.out j x hx
        obtain ⟨g, rfl, cx⟩ := HC.out j x hx
        have j0 : (0 : Int) ≤ (j : Int) := by omega
        have j1 : (j : Int) < 255 := by omega
        have x3 : ¬ (x : Int) < 1 := by omega
        have x4 : (x : Int) < 256 := by omega
        rcases Nat.eq_zero_or_pos j with e | e
        · subst e
          clear hx
          go_wp2
          go_roundw
          case rel => exact ⟨1, rfl, by omega, trivial⟩
          case measure => simp [intOf]
        · obtain ⟨j', ej⟩ : ∃ j', j = j' + 1 := ⟨j - 1, by omega⟩
          obtain ⟨y, hy⟩ : ∃ y, L[j']? = some y := ⟨L[j']'(by rw [HLN.out]; omega), List.getElem?_eq_getElem _⟩
          obtain ⟨y1, y2⟩ := CH3.out j' y hy
          obtain ⟨g', eg, cy⟩ := HC.out j' y hy
          injection eg with eg
          injection eg with eg
          subst eg
          have A : Hid (∀ w, Calls Tryd.prog 17 #[.int .i64 y, .int .i64 x] w fun e w' => e = .returned (.bool true) ∧ w' = w) := fun w => AH.out y x w (by omega) (by omega) (CH1.out j' y x hy (by rw [← ej]; exact hx))
          have e0 : (0 : Int) < (j : Int) := by omega
          have e1 : (j : Int) - 1 = (j' : Int) := by omega
          have i3 : (j' : Int) < 256 := by omega
          have i4 : (0 : Int) ≤ (j' : Int) := by omega
          have i5 : (j' : Int) < 255 := by omega
          clear hx hy ej
          go_wp2_with (fail)
          refine (A.out _).mono ?_
          rintro e w3 ⟨rfl, hw⟩
          rw [hw]
          clear hw A
          go_wp2
          go_roundw
          case rel => exact ⟨j + 1, by go_num, by omega, trivial⟩
          case measure => simp [intOf]; omega
      · obtain rfl : j = 255 := by omega
        go_wp2_with (fail)
        refine (D1.out _).mono ?_
        rintro e w3 ⟨rfl, hw⟩
        rw [hw]
        clear hw
        go_wp2_with (fail)
        refine (D2.out _).mono ?_
        rintro e w3 ⟨rfl, hw⟩
        rw [hw]
        clear hw
        go_wp2_with (fail)
        refine (D3.out _).mono ?_
        rintro e w3 ⟨rfl, hw⟩
        rw [hw]
        clear hw
        by_cases h : 0 ≤ node ∧ node < 8
        · have D5 : Hid (∀ w, Calls Tryd.prog 11 #[.int .i64 q, .int .i64 node] w fun e w' => e = .returned (.bool true) ∧ w' = w) := fun w => by
            have := D4.out w
            rwa [decide_eq_true h] at this
          obtain ⟨h1, h2⟩ := h
          go_wp2_with (fail)
          refine (D5.out _).mono ?_
          rintro e w3 ⟨rfl, hw⟩
          rw [hw]
          clear hw
          go_wp2
          go_ret
          exact ⟨rfl, HB2⟩
        · have D5 : Hid (∀ w, Calls Tryd.prog 11 #[.int .i64 q, .int .i64 node] w fun e w' => e = .returned (.bool false) ∧ w' = w) := fun w => by
            have := D4.out w
            rwa [decide_eq_false h] at this
          go_wp2_with (fail)
          refine (D5.out _).mono ?_
          rintro e w3 ⟨rfl, hw⟩
          rw [hw]
          clear hw
          by_cases h1 : node < 0
          · have h2 : ¬ (0 ≤ node) := by omega
            clear h
            go_wp2
            go_ret
            exact ⟨rfl, HB2⟩
          · have h2 : 0 ≤ node := by omega
            have h3 : ¬ node < 8 := by omega
            clear h h1
            go_wp2
            go_ret
            refine ⟨?_, HB2⟩
            show Ending.returned (Value.bool (!decide (node < 8))) = _
            rw [decide_eq_false (by omega)]
            rfl

end Go.Proofs.YtcendnbeiifobaaDoor.Mk
