/-
  A table's room at this program. Conditions: the table is one.
-/
import Derived.Test.YtpefjcgccbfgbaaNE
namespace Go.Proofs.Ytpefjcgccbfgbaa.Bk
open Go.RowKit

theorem roomV_at (zs : List Zn) (i k : Int) : roomV zs i k = if isZ zs i = true ∧ 0 ≤ k ∧ k ≤ 1 then roomZ (zoneAt zs i) k else 0 := by
  unfold roomV isZ zoneAt
  by_cases h0 : 0 ≤ i
  · by_cases h1 : i < zs.length
    · rw [List.getElem?_eq_getElem (by omega)]
      simp [h0, h1]
    · rw [List.getElem?_eq_none (by omega)]
      simp [h0, h1]
  · simp [h0]

set_option maxHeartbeats 2000000 in
set_option maxRecDepth 100000 in
theorem troom_gen (tv : Value) (i k : Int) (z : Zn) (g : Bool) (hz : Fit z) (w : World)
    (ZZ : ∀ w1, Below w.heap.size w w1 → Calls Try.prog 10 #[tv, .int .i64 i] w1 fun e w' => e = .returned (.tuple #[zoneV z, .bool g]) ∧ Below w1.heap.size w1 w') :
    Calls Try.prog 12 #[tv, .int .i64 i, .int .i64 k] w fun e w' => e = .returned (.int .i64 (if g = true ∧ 0 ≤ k ∧ k ≤ 1 then roomZ z k else 0)) ∧ Below w.heap.size w w' := by
  obtain ⟨R, hR⟩ : ∃ R, R = (if g = true ∧ 0 ≤ k ∧ k ≤ 1 then roomZ z k else 0) := ⟨_, rfl⟩
  have HR : Hid (R = (if g = true ∧ 0 ≤ k ∧ k ≤ 1 then roomZ z k else 0)) := hR
  rw [← hR]
  clear hR
  have Z1 : Hid (Calls Try.prog 10 #[tv, .int .i64 i] w fun e w' => e = .returned (.tuple #[zoneV z, .bool g]) ∧ Below w.heap.size w w') := ZZ w (Below.refl _ _)
  obtain ⟨kb, hkb⟩ : ∃ kb, kb = decide (0 ≤ k ∧ k ≤ 1) := ⟨_, rfl⟩
  have KB : Hid (kb = decide (0 ≤ k ∧ k ≤ 1)) := hkb
  have RK : Hid (∀ w1, Calls Try.prog 30 #[.int .i64 k] w1 fun e w' => e = .returned (.bool kb) ∧ Below w1.heap.size w1 w') := fun w1 => by rw [hkb]; exact rightKind_is k w1
  clear hkb ZZ
  obtain ⟨⟨f1, f2, f3⟩, f4, f5, f6⟩ := hz
  go_enter Try.func12, Try.ntmps12
  go_wp2_with (fail)
  refine (Z1.out).mono ?_
  rintro e w1 ⟨rfl, hw1⟩
  cases g with
  | false =>
    have X : R = 0 := by rw [HR.out, if_neg (by simp)]
    subst X
    clear HR Z1 RK
    go_wp2
    go_ret
    exact ⟨rfl, hw1.alloc hw1.size _⟩
  | true =>
    go_wp2_with (fail)
    refine (RK.out _).mono ?_
    rintro e w2 ⟨rfl, hw2⟩
    have q1 : Cs w2 w1.heap.size (znL z) := Cs.later hw2 (Cs.new _ _ _ _ rfl)
    have HB : Below w.heap.size w w2 := Below.trans (hw1.alloc hw1.size _) (hw2.mono (by have := hw1.size; simp; omega))
    clear Z1 RK hw1 hw2
    cases kb with
    | false =>
      have X : R = 0 := by
        have := of_decide_eq_false KB.out.symm
        rw [HR.out, if_neg (by simpa using this)]
      subst X
      clear HR KB
      go_wp2
      go_ret
      exact ⟨rfl, HB⟩
    | true =>
      have hk := of_decide_eq_true KB.out.symm
      have X : Hid (R = roomZ z k) := by unfold Hid; rw [HR.out, if_pos (by simpa using hk)]
      clear HR KB
      have b0 := q1.1 0 _ rfl
      have b1 := q1.1 1 _ rfl
      have b2 := q1.1 2 _ rfl
      have b3 := q1.1 3 _ rfl
      rcases (show k = 0 ∨ k = 1 by omega) with rfl | rfl
      · clear hk
        go_wp2_with (fail)
        go_quiet (fail)
        go_wp2
        go_ret
        exact ⟨by rw [X.out]; rfl, below_drewN HB _⟩
      · clear hk
        go_wp2_with (fail)
        go_quiet (fail)
        go_wp2
        go_ret
        exact ⟨by rw [X.out]; rfl, below_drewN HB _⟩

theorem zoneAt_fit {zs : List Zn} (h : ∀ z ∈ zs, Fit z) (i : Int) : Fit (zoneAt zs i) := by
  have z0 : Fit zn0 := ⟨⟨by decide, by decide, by decide⟩, by decide, by decide, by decide⟩
  unfold zoneAt
  split
  · cases e : zs[i.toNat]? with
    | none => exact z0
    | some z => exact h z (List.mem_of_getElem? e)
  · exact z0
theorem troom_is {b m : Nat} {zs : List Zn} {ls : List Rw} (i k : Int) (w : World) (h : Tb w b m zs ls) : Calls Try.prog 12 #[tbV b, .int .i64 i, .int .i64 k] w fun e w' => e = .returned (.int .i64 (roomV zs i k)) ∧ Below w.heap.size w w' := by
  rw [roomV_at]
  exact troom_gen (tbV b) i k (zoneAt zs i) (isZ zs i) (zoneAt_fit (fits_all h.fit) i) w fun w1 hb => zone_is i w1 (Tb.later hb h)
theorem troom_nil (w : World) : Calls Try.prog 12 #[.pointer none, .int .i64 0, .int .i64 0] w fun e w' => e = .returned (.int .i64 0) ∧ Below w.heap.size w w' :=
  troom_gen (.pointer none) 0 0 zn0 false ⟨⟨by decide, by decide, by decide⟩, by decide, by decide, by decide⟩ w fun w1 _ => zone_nil w1

/-- What is left to be held against the bounds of a zone from a kind on. -/
theorem fitL_drop {zs : List Zn} {j : Nat} {z : Zn} (h : zs[j]? = some z) : fitL (zs.drop j) = (fitB z && fitL (zs.drop (j + 1))) := by
  obtain ⟨hl, e⟩ := List.getElem?_eq_some_iff.1 h
  rw [List.drop_eq_getElem_cons hl, e, fitL]
theorem ways {r b : Int} (R S : Bool) (E : (okZ r b && S) = R) : ((0 ≤ r ∧ r ≤ b ∧ b ≤ 1073741824) ∧ S = R) ∨ (R = false ∧ (r < 0 ∨ (0 ≤ r ∧ b < r) ∨ (0 ≤ r ∧ r ≤ b ∧ 1073741824 < b))) := by
  cases h : okZ r b with
  | true =>
    rw [h, Bool.true_and] at E
    exact .inl ⟨ok_yes h, E⟩
  | false =>
    rw [h, Bool.false_and] at E
    have := ok_no h
    exact .inr ⟨E.symm, by omega⟩

set_option maxHeartbeats 4000000 in
set_option maxRecDepth 100000 in
theorem rfits_is {v : Value} {zs : List Zn} (w : World) (h : RdZ w v zs) : Calls Try.prog 9 #[v] w fun e w' => e = .returned (.bool (fits zs)) ∧ Below w.heap.size w w' := by
  obtain ⟨R, hR⟩ : ∃ R, R = fits zs := ⟨_, rfl⟩
  rw [← hR]
  obtain ⟨T, hT⟩ : ∃ T, T = fitL zs := ⟨_, rfl⟩
  have HR : Hid (R = (T && decide (0 < zs.length ∧ zs.length < 9))) := by rw [hR, hT]; rfl
  have HT : Hid (fitL (zs.drop 0) = T) := hT.symm
  clear hR hT
  obtain ⟨a, cap, rfl, h1, h2, h3⟩ := h
  have H3 : Hid (∀ (j : Nat) (z : Zn), zs[j]? = some z → ∃ b off : Nat, a = some ⟨b, off, none⟩ ∧ ElZ w b (off + j * 4) z) := h3
  have zl : zs.length ≤ maxLen := by omega
  unfold maxLen at zl
  clear h3
  go_enter Try.func9, Try.ntmps9
  go_wp2
  go_loopw [8] (fun f wr => ∃ j : Nat, f = .int .i64 j ∧ j ≤ zs.length ∧ Hid (fitL (zs.drop j) = T) ∧ Below w.heap.size w wr) (fun f _ => zs.length - (intOf f).toNat)
  case atStart => exact ⟨0, rfl, by omega, HT, by go_grown⟩
  case round =>
    clear HT
    obtain ⟨j, rfl, jl, HO, HB⟩ := hrel
    by_cases cj : j < zs.length
    · obtain ⟨z, hz⟩ : ∃ z, zs[j]? = some z := ⟨zs[j], List.getElem?_eq_getElem cj⟩
      obtain ⟨b, off, rfl, E⟩ := H3.out j z hz
      obtain ⟨t0, t1, t2, t3⟩ := E.later HB
      have F := HO.out
      rw [fitL_drop hz] at F
      obtain ⟨S, hS⟩ : ∃ S, S = fitL (zs.drop (j + 1)) := ⟨_, rfl⟩
      have HS : Hid (fitL (zs.drop (j + 1)) = S) := hS.symm
      rw [← hS] at F
      have HF : Hid ((restZ z 0 && S) = T) := F
      have j0 : (0 : Int) ≤ (j : Int) := by omega
      have j1 : (j : Int) < (zs.length : Int) := by omega
      clear E F hS hz HO H3
      go_wp2
      have q0 : Cs (wr.alloc (.cells #[.int .i64 z.b0, .int .i64 z.b1, .int .i64 z.r0, .int .i64 z.r1] 35)) wr.heap.size (znL z) := Cs.new _ _ _ _ rfl
      have HB0 : Below w.heap.size w (wr.alloc (.cells #[.int .i64 z.b0, .int .i64 z.b1, .int .i64 z.r0, .int .i64 z.r1] 35)) := HB.alloc HB.size _
      clear t0 t1 t2 t3 HB
      obtain ⟨q, hq⟩ : ∃ q, q = wr.heap.size := ⟨_, rfl⟩
      rw [← hq] at q0 ⊢
      clear hq
      generalize wr.alloc (.cells #[.int .i64 z.b0, .int .i64 z.b1, .int .i64 z.r0, .int .i64 z.r1] 35) = W0 at *
      go_loopw [5] (fun f wr => ∃ k : Nat, f = .int .i64 k ∧ k ≤ 2 ∧ Hid ((restZ z k && S) = T) ∧ Cs wr q (znL z) ∧ Below w.heap.size w wr) (fun f _ => 2 - (intOf f).toNat)
      case atStart => exact ⟨0, rfl, by omega, HF, q0, HB0⟩
      case round =>
        clear q0 HB0 HF
        obtain ⟨k, rfl, kl, HK, q0, HB⟩ := hrel
        by_cases ck : k < 2
        · have E := HK.out
          rw [restZ_at z ck, Bool.and_assoc] at E
          have c1 := q0.1 _ _ (znL_r z ck)
          have c0 := q0.1 _ _ (znL_b z ck)
          have k0 : (0 : Int) ≤ (k : Int) := by omega
          have k1 : (k : Int) < 2 := by omega
          have qz := q0.2.2
          generalize bZ z k = b' at *
          generalize rZ z k = r' at *
          have WAY := ways T _ E
          clear E HK
          rcases WAY with ⟨⟨y1, y2, y3⟩, X⟩ | ⟨rfl, WAY⟩
          · have HX : Hid ((restZ z (k + 1) && S) = T) := X
            clear X
            go_wp2_with (fail)
            go_quiet (fail)
            go_wp2
            go_roundw
            case rel => exact ⟨k + 1, by go_num, by omega, HX, q0.later (below_drewN (Below.refl _ _) _), below_drewN HB _⟩
            case measure => simp [intOf]; omega
          · have X : R = false := by rw [HR.out]; rfl
            subst X
            clear HR HS
            rcases WAY with y1 | ⟨y1, y2⟩ | ⟨y1, y2, y3⟩
            all_goals
              go_wp2_with (fail)
              go_quiet (fail)
              go_wp2
              go_ret
              exact ⟨rfl, below_drewN HB _⟩
        · obtain rfl : k = 2 := by omega
          have X : Hid (fitL (zs.drop (j + 1)) = T) := by have := HK.out; rw [show restZ z 2 = true from rfl, Bool.true_and] at this; exact HS.out.trans this
          clear HK HS
          go_wp2
          go_roundw
          case rel => exact ⟨j + 1, by go_num, by omega, X, HB⟩
          case measure => simp [intOf]; omega
    · obtain rfl : j = zs.length := by omega
      have X : T = true := by rw [← HO.out, List.drop_length]; rfl
      subst X
      have Y := HR.out
      rw [Bool.true_and] at Y
      have HY : Hid (R = decide (0 < zs.length ∧ zs.length < 9)) := Y
      clear HO HR H3 Y
      by_cases l0 : (0 : Int) < zs.length
      · by_cases l9 : (zs.length : Int) < 9
        · have X : R = true := by rw [HY.out]; exact decide_eq_true (by omega)
          subst X
          clear HY
          go_wp2
          go_ret
          exact ⟨rfl, HB⟩
        · have X : R = false := by rw [HY.out]; exact decide_eq_false (by omega)
          subst X
          clear HY
          go_wp2
          go_ret
          exact ⟨rfl, HB⟩
      · have X : R = false := by rw [HY.out]; exact decide_eq_false (by omega)
        subst X
        clear HY
        go_wp2
        go_ret
        exact ⟨rfl, HB⟩

end Go.Proofs.Ytpefjcgccbfgbaa.Bk
