/-
  The walk of the statement WideBack: it returns true. Conditions: all words lie below 2^64, n is an int.
-/
import Derived.Test.YtahmgbaonldlfaaK
import Derived.Test.YtahmgbaonldlfaaP
import Derived.Deep.RegionHeld3
import Derived.Deep.RegionWith
import Derived.Deep.CutRange
import Derived.Deep.DeepCutAuto
namespace Go.Proofs.Ytahmgbaonldlfaa
open Go.RowKit

/-- The two numbers' cells, and that nothing old has turned. -/
def Kept (w : World) (pa pb : Nat) (ah al bh bl : Int) (wc : World) : Prop :=
  wc.cell? ⟨pa, 0, none⟩ = some (.int .u64 ah) ∧ wc.cell? ⟨pa, 1, none⟩ = some (.int .u64 al) ∧ wc.cell? ⟨pb, 0, none⟩ = some (.int .u64 bh) ∧ wc.cell? ⟨pb, 1, none⟩ = some (.int .u64 bl) ∧
  pa < wc.heap.size ∧ pb < wc.heap.size ∧ w.heap.size ≤ wc.heap.size ∧ Below w.heap.size w wc

theorem Kept.later {w W w1 : World} {pa pb : Nat} {ah al bh bl : Int} (K : Kept w pa pb ah al bh bl W) (hb : Below W.heap.size W w1) : Kept w pa pb ah al bh bl w1 := by
  obtain ⟨p0, p1, q0, q1, pz, qz, sz, HB⟩ := K
  have := hb.size
  exact ⟨cell_later hb p0, cell_later hb p1, cell_later hb q0, cell_later hb q1, by omega, by omega, by omega, HB.trans (hb.mono sz)⟩
theorem Kept.alloc {w W : World} {pa pb : Nat} {ah al bh bl : Int} (K : Kept w pa pb ah al bh bl W) (o : Obj) : Kept w pa pb ah al bh bl (W.alloc o) := by
  obtain ⟨p0, p1, q0, q1, pz, qz, sz, HB⟩ := K
  exact ⟨(World.cell?_alloc_past _ _ _ pz).trans p0, (World.cell?_alloc_past _ _ _ pz).trans p1, (World.cell?_alloc_past _ _ _ qz).trans q0, (World.cell?_alloc_past _ _ _ qz).trans q1, by simp; omega, by simp; omega, by simp; omega, HB.alloc sz o⟩
theorem Kept.drew {w W : World} {pa pb : Nat} {ah al bh bl : Int} (K : Kept w pa pb ah al bh bl W) : Kept w pa pb ah al bh bl W.drew := by
  obtain ⟨p0, p1, q0, q1, pz, qz, sz, HB⟩ := K
  exact ⟨p0, p1, q0, q1, pz, qz, sz, HB.drew⟩

theorem Kept.setCell {w W : World} {pa pb : Nat} {ah al bh bl : Int} (K : Kept w pa pb ah al bh bl W) (p : Addr) (v : Value) (h1 : p.block ≠ pa) (h2 : p.block ≠ pb) (h3 : w.heap.size ≤ p.block) : Kept w pa pb ah al bh bl (W.setCell p v) := by
  obtain ⟨p0, p1, q0, q1, pz, qz, sz, HB⟩ := K
  have na : ∀ o, p ≠ ⟨pa, o, none⟩ := fun o h => h1 (by rw [h])
  have nb : ∀ o, p ≠ ⟨pb, o, none⟩ := fun o h => h2 (by rw [h])
  exact ⟨(World.cell?_setCell_other _ _ _ _ (na 0)).trans p0, (World.cell?_setCell_other _ _ _ _ (na 1)).trans p1, (World.cell?_setCell_other _ _ _ _ (nb 0)).trans q0, (World.cell?_setCell_other _ _ _ _ (nb 1)).trans q1, by simpa using pz, by simpa using qz, by simpa using sz, HB.setCell h3 v⟩

theorem left_both (ah al n : Int) (w : World) (a0 : 0 ≤ al) (a1 : al < 18446744073709551616) (a2 : 0 ≤ ah) (a3 : ah < 18446744073709551616) (n1 : n ≤ 9223372036854775807) :
    Calls Try.prog 29 #[.agg #[.int .u64 ah, .int .u64 al], .int .i64 n] w fun e w' =>
      ∃ (h l : Int) (t : Bool), e = .returned (.tuple #[.agg #[.int .u64 h, .int .u64 l], .bool t]) ∧
        ((t = true ∧ Ret 30 #[.agg #[.int .u64 h, .int .u64 l], .int .i64 n] (.agg #[.int .u64 ah, .int .u64 al])) ∨ t = false) ∧ Below w.heap.size w w' := by
  by_cases hn : n < 0
  · refine (left_neg ah al n w hn).mono ?_
    rintro e w' ⟨rfl, hb⟩
    exact ⟨_, _, _, rfl, Or.inr rfl, hb⟩
  · refine (left_any ah al n w a0 a1 a2 a3 (by omega) n1).mono ?_
    rintro e w' ⟨h, l, b, rfl, m, f, hb⟩
    rcases f with ⟨rfl, f⟩ | ⟨rfl, _, _, f⟩
    · exact ⟨_, _, _, rfl, Or.inl ⟨rfl, right_back h l ah al n m a0 a1 (by omega) n1 f⟩, hb⟩
    · exact ⟨_, _, _, rfl, Or.inr rfl, hb⟩

theorem right_all (ah al : Int) (a0 : 0 ≤ al) (a1 : al < 18446744073709551616) (a2 : 0 ≤ ah) (a3 : ah < 18446744073709551616) :
    Ret 30 #[.agg #[.int .u64 ah, .int .u64 al], .int .i64 (bitLen (ah * 18446744073709551616 + al).toNat : Int)] (.agg #[.int .u64 0, .int .u64 0]) := fun w => by
  have hb := bitLen_le128 (ah * 18446744073709551616 + al).toNat (by omega)
  refine (right_any ah al _ w a0 a1 a2 a3 (by omega) (by omega)).mono ?_
  rintro e w' ⟨h, l, rfl, ⟨k0, k1, k2, k3⟩, f, hw⟩
  have z : (ah * 18446744073709551616 + al) / 2 ^ ((bitLen (ah * 18446744073709551616 + al).toNat : Int)).toNat = 0 := by
    rw [Int.toNat_natCast]
    obtain ⟨v, hv⟩ := Int.eq_ofNat_of_zero_le (show 0 ≤ ah * 18446744073709551616 + al by omega)
    rw [hv, Int.toNat_natCast, show ((2 : Int) ^ bitLen v) = ((2 ^ bitLen v : Nat) : Int) by simp]
    exact Int.ediv_eq_zero_of_lt (by omega) (by have := (bitLen_spec v).1; omega)
  rw [z] at f
  obtain ⟨rfl, rfl⟩ : h = 0 ∧ l = 0 := ⟨by omega, by omega⟩
  exact ⟨rfl, hw⟩

theorem by_both (ah al u : Int) (w : World) (a0 : 0 ≤ al) (a1 : al < 18446744073709551616) (a2 : 0 ≤ ah) (a3 : ah < 18446744073709551616) (u0 : 0 ≤ u) (u1 : u < 18446744073709551616) :
    Calls Try.prog 27 #[.agg #[.int .u64 ah, .int .u64 al], .int .u64 u] w fun e w' =>
      ∃ (h l r : Int) (t : Bool), e = .returned (.tuple #[.agg #[.int .u64 h, .int .u64 l], .int .u64 r, .bool t]) ∧
        ((t = true ∧ 0 < u ∧ Wok h l ∧ h * 18446744073709551616 + l = (ah * 18446744073709551616 + al) / u ∧ r = (ah * 18446744073709551616 + al) % u) ∨ t = false) ∧ Below w.heap.size w w' := by
  by_cases hu : u = 0
  · subst hu
    refine (by_zero ah al w).mono ?_
    rintro e w' ⟨rfl, hb⟩
    exact ⟨_, _, _, _, rfl, Or.inr rfl, hb⟩
  · refine (by_any ah al u w a0 a1 a2 a3 (by omega) u1).mono ?_
    rintro e w' ⟨h, l, r, rfl, m, f, g, hb⟩
    exact ⟨_, _, _, _, rfl, Or.inl ⟨rfl, by omega, m, f, g⟩, hb⟩

set_option maxHeartbeats 4000000 in
set_option maxRecDepth 100000 in
theorem back_any (ah al bh bl u n : Int) (w : World) (a0 : 0 ≤ al) (a1 : al < 18446744073709551616) (a2 : 0 ≤ ah) (a3 : ah < 18446744073709551616) (b0 : 0 ≤ bl) (b1 : bl < 18446744073709551616) (b2 : 0 ≤ bh) (b3 : bh < 18446744073709551616)
    (u0 : 0 ≤ u) (u1 : u < 18446744073709551616) (n1 : n ≤ 9223372036854775807) :
    Calls Try.prog 6 #[.agg #[.int .u64 ah, .int .u64 al, .int .u64 bh, .int .u64 bl, .int .u64 u, .int .i64 n]] w fun e w' => e = .returned (.bool true) ∧ Below w.heap.size w w' := by
  go_enter Try.func6, Try.ntmps6
  go_wp2_with (fail)
  refine (first_any _).mono ?_
  rintro e w1 ⟨rfl, hw1⟩
  have C0 := cell_later hw1 (a := ⟨w.heap.size, 0, none⟩) (v := .int .u64 ah) (by simp)
  have C1 := cell_later hw1 (a := ⟨w.heap.size, 1, none⟩) (v := .int .u64 al) (by simp)
  have C2 := cell_later hw1 (a := ⟨w.heap.size, 2, none⟩) (v := .int .u64 bh) (by simp)
  have C3 := cell_later hw1 (a := ⟨w.heap.size, 3, none⟩) (v := .int .u64 bl) (by simp)
  have C4 := cell_later hw1 (a := ⟨w.heap.size, 4, none⟩) (v := .int .u64 u) (by simp)
  have C5 := cell_later hw1 (a := ⟨w.heap.size, 5, none⟩) (v := .int .i64 n) (by simp)
  obtain ⟨HB1, -, -, s1⟩ := aft hw1 (B := w.heap.size) (W0 := w) (by go_grown) (by first | omega | (simp; done) | (simp; omega))
  clear hw1
  (try simp at s1)
  go_wp2_with (fail)
  go_cut [3, 4, 5, 6] (fun s3 s4 s5 s6 wc => ∃ pa pb : Nat, s3 = .pointer (some ⟨pa, 0, none⟩) ∧ s4 = .pointer (some ⟨pb, 0, none⟩) ∧ s5 = .int .u64 u ∧ s6 = .int .i64 n ∧ Kept w pa pb ah al bh bl wc)
  case first =>
    go_region_held3 (fun w' => w'.cell? ⟨w.heap.size, 0, none⟩ = some (.int .u64 ah) ∧ w'.cell? ⟨w.heap.size, 1, none⟩ = some (.int .u64 al) ∧ w'.cell? ⟨w.heap.size, 2, none⟩ = some (.int .u64 bh) ∧ w'.cell? ⟨w.heap.size, 3, none⟩ = some (.int .u64 bl) ∧ w'.cell? ⟨w.heap.size, 4, none⟩ = some (.int .u64 u) ∧ w'.cell? ⟨w.heap.size, 5, none⟩ = some (.int .i64 n)) (go_keep) (fail)
    all_goals go_wp2_with (fail)
    all_goals go_meet
    case rel => go_light; exact ⟨_, _, rfl, rfl, rfl, rfl, by simp, by simp, by simp [go_sem], by simp [go_sem], by simp; omega, by simp, by simp; omega, by go_grown⟩
    case rel => go_light; exact ⟨_, _, rfl, rfl, rfl, rfl, by simp [go_sem], by simp [go_sem], by simp, by simp, by simp, by simp; omega, by simp; omega, by go_grown⟩
  case rest =>
    obtain ⟨pa, pb, rfl, rfl, rfl, rfl, K⟩ := hcut
    clear C0 C1 C2 C3 C4 C5 HB1 s1
    -- what was added is taken off again
    have K' : Hid (Kept w pa pb ah al bh bl wc) := K
    obtain ⟨p0, p1, q0, q1, pz, qz, -, -⟩ := K
    go_upto_if 43 with (go_at_call 20; refine (add_any ah al bh bl _ a0 a1 a2 a3 b0 b1 b2 b3).mono ?_; rintro e w2 ⟨h2, l2, t2, rfl, m2, f2, hw2⟩; have K2 : Hid (Kept w pa pb ah al bh bl w2) := (Kept.later K'.out hw2); obtain ⟨x0, x1, y0, y1, xz, yz, -, -⟩ := K2.out; clear hw2)
    go_cut [] (fun wc => Kept w pa pb ah al bh bl wc)
    case first =>
      rcases f2 with ⟨rfl, f⟩ | ⟨rfl, rfl, rfl, f⟩
      · have S := sub_back h2 l2 ah al bh bl m2 a0 a1 a2 b0 b1 b2 b3 f
        clear f
        go_wp2_with (fail)
        refine (S _).mono ?_
        rintro e w3 ⟨rfl, hw3⟩
        have K3 : Hid (Kept w pa pb ah al bh bl w3) := (K2.out.alloc _).later hw3
        obtain ⟨x30, x31, y30, y31, xz3, yz3, -, -⟩ := K3.out
        clear hw3
        go_wp2
        go_meet
        case rel => exact K3.out.alloc _
      · clear f
        go_wp2
        go_meet
        case rel => exact K2.out.alloc _
    case rest =>
      clear K'
      have K' : Hid (Kept w pa pb ah al bh bl wc) := hcut
      obtain ⟨p0, p1, q0, q1, pz, qz, -, -⟩ := hcut
      -- a product, by the same word
      go_upto_region 10 with (go_at_call 23; refine (times_any ah al u _ a0 a1 a2 a3 u0 u1).mono ?_; rintro e w2 ⟨h2, l2, t2, rfl, m2, f2, hw2⟩; have K2 : Hid (Kept w pa pb ah al bh bl w2) := (Kept.later K'.out hw2); obtain ⟨x0, x1, y0, y1, xz, yz, -, -⟩ := K2.out; clear hw2)
      go_cut [67] (fun s67 wc => s67 = .bool (t2 && decide (0 < u)) ∧ wc = w2.alloc (.cells #[.int .u64 h2, .int .u64 l2] 24))
      case first =>
        cases t2
        all_goals
          go_wp2
          go_meet
          case rel => exact ⟨by simp, rfl⟩
      case rest =>
        obtain ⟨rfl, rfl⟩ := hcut
        go_upto_if 67 with (fail)
        go_cut [] (fun wc => Kept w pa pb ah al bh bl wc)
        case first =>
          by_cases hu : t2 = true ∧ 0 < u
          · obtain ⟨rfl, hu⟩ := hu
            rcases f2 with ⟨_, f⟩ | ⟨hf, -⟩
            · have S := by_back h2 l2 ah al u m2 a0 a1 hu u1 f
              clear f
              rw [show (true && decide (0 < u)) = true from by simp [hu]]
              go_wp2_with (fail)
              refine (S _).mono ?_
              rintro e w3 ⟨rfl, hw3⟩
              have K3 : Hid (Kept w pa pb ah al bh bl w3) := (K2.out.alloc _).later hw3
              obtain ⟨x30, x31, y30, y31, xz3, yz3, -, -⟩ := K3.out
              clear hw3
              go_wp2
              go_meet
              case rel => exact K3.out.alloc _
            · exact absurd hf (by simp)
          · have hb : (t2 && decide (0 < u)) = false := by
              cases t2
              · rfl
              · simp at hu ⊢; omega
            clear f2
            rw [hb]
            go_wp2
            go_meet
            case rel => exact K2.out.alloc _
        case rest =>
          clear K' K2 x0 x1 y0 y1 xz yz p0 p1 q0 q1 pz qz f2 m2
          have K' : Hid (Kept w pa pb ah al bh bl wc) := hcut
          obtain ⟨p0, p1, q0, q1, pz, qz, -, -⟩ := hcut
          -- a number by a word, times it, and the rest
          go_upto_if 93 with (go_at_call 27; refine (by_both ah al u _ a0 a1 a2 a3 u0 u1).mono ?_; rintro e w2 ⟨h2, l2, r2, t2, rfl, f2, hw2⟩; have K2 : Hid (Kept w pa pb ah al bh bl w2) := (Kept.later K'.out hw2); obtain ⟨x0, x1, y0, y1, xz, yz, -, -⟩ := K2.out; clear hw2)
          go_cut [] (fun wc => Kept w pa pb ah al bh bl wc)
          case first =>
            rcases f2 with ⟨rfl, up, m2, f, g⟩ | rfl
            · have T := times_by ah al u h2 l2 m2 (by omega) (by omega) up u1 f
              have T' : Hid (∀ w, Calls Try.prog 23 #[.agg #[.int .u64 h2, .int .u64 l2], .int .u64 u] w fun e w' =>
                ∃ (x y : Int), e = .returned (.tuple #[.agg #[.int .u64 x, .int .u64 y], .bool true]) ∧ Wok x y ∧ x * 18446744073709551616 + y = (ah * 18446744073709551616 + al) / u * u ∧ Below w.heap.size w w') := T
              have G : Hid (r2 = (ah * 18446744073709551616 + al) % u) := g
              clear f g T m2
              go_wp2_with (fail)
              refine (T'.out _).mono ?_
              rintro e w3 ⟨x3, y3, rfl, m3, f3, hw3⟩
              obtain ⟨r0, r1, AR⟩ := add_rest ah al u x3 y3 r2 m3 a0 a1 a2 a3 up u1 f3 G.out
              have K3 : Hid (Kept w pa pb ah al bh bl w3) := (K2.out.alloc _).later hw3
              obtain ⟨x30, x31, y30, y31, xz3, yz3, -, HB3⟩ := K3.out
              have s3 := HB3.size
              clear hw3 f3 m3 T'
              go_wp2_with (fail)
              go_cut [21, 22] (fun s21 s22 wc => ∃ ps : Nat, s21 = .pointer (some ⟨ps, 0, none⟩) ∧ s22 = .bool true ∧ wc.cell? ⟨ps, 0, none⟩ = some (.int .u64 ah) ∧ wc.cell? ⟨ps, 1, none⟩ = some (.int .u64 al) ∧ Kept w pa pb ah al bh bl wc)
              case first =>
                go_region_held3 (fun w' => w'.cell? ⟨w3.heap.size, 0, none⟩ = some (.int .u64 x3) ∧ w'.cell? ⟨w3.heap.size, 1, none⟩ = some (.int .u64 y3)) (first | go_keep | (exact ⟨by assumption, by assumption⟩)) (first
                  | (go_at_call 17; refine (of_any _ _).mono ?_; rintro e w4 ⟨rfl, hw4⟩; have g40 := cell_later hw4 (a := ⟨w3.heap.size, 0, none⟩) (v := .int .u64 x3) (by go_split_ands; assumption); have g41 := cell_later hw4 (a := ⟨w3.heap.size, 1, none⟩) (v := .int .u64 y3) (by go_split_ands; assumption); have K4 := Kept.later (by first | exact K3.out.alloc _ | exact (K3.out.alloc _).drew | exact ((K3.out.alloc _).alloc _).drew | exact ((K3.out.alloc _).drew).alloc _) hw4; have s4 := hw4.size; (try simp at s4); obtain ⟨hc4, hf4⟩ := bcell hw4; clear hw4; have v4 : w3.heap.size < w4.heap.size := (by omega); (try (have v5 : w3.heap.size + 1 < w4.heap.size := (by omega))); have ne4 : ¬ w4.heap.size = w3.heap.size := (by omega); have ne4' : ¬ w3.heap.size = w4.heap.size := (by omega))
                  | (go_at_call 20; refine (AR _).mono ?_; rintro e w5 ⟨rfl, hw5⟩; have g50 := cell_later hw5 (a := ⟨w3.heap.size, 0, none⟩) (v := .int .u64 x3) (by go_split_ands; assumption); have g51 := cell_later hw5 (a := ⟨w3.heap.size, 1, none⟩) (v := .int .u64 y3) (by go_split_ands; assumption); have K5 := Kept.later (by first | exact K4 | exact K4.alloc _ | exact K4.drew) hw5; have s5 := hw5.size; (try simp at s5); obtain ⟨hc5, hf5⟩ := bcell hw5; clear hw5; have v6 : w3.heap.size < w5.heap.size := (by omega); have ne5 : ¬ w5.heap.size = w3.heap.size := (by omega); have ne5' : ¬ w3.heap.size = w5.heap.size := (by omega)))
                all_goals go_wp2_with (fail)
                all_goals go_meet
                case rel => go_light; exact ⟨_, rfl, rfl, by simp, by simp, K5.alloc _⟩
                case rel => go_light; exact ⟨_, rfl, rfl, by simp [go_sem, hc5], by simp [go_sem, hc5], (K5.setCell _ _ (by simp; omega) (by simp; omega) (by simp; omega)).setCell _ _ (by simp; omega) (by simp; omega) (by simp; omega)⟩
                case rel => go_light; exact ⟨_, rfl, rfl, by simp [go_sem, hc5, hc4, v5], by simp [go_sem, hc5, hc4, v5], (K5.setCell _ _ (by simp; omega) (by simp; omega) (by simp; omega)).setCell _ _ (by simp; omega) (by simp; omega) (by simp; omega)⟩
              case rest =>
                obtain ⟨ps, rfl, rfl, g0, g1, K6⟩ := hcut
                have K7 : Hid (Kept w pa pb ah al bh bl wc) := K6
                obtain ⟨x60, x61, -, -, -, -, -, -⟩ := K6
                have nr : decide (u ≤ r2) = false := by simpa using r1
                go_wp2
                go_meet
                case rel => exact K7.out
            · go_wp2
              go_meet
              case rel => exact K2.out.alloc _
          case rest =>
            clear K' K2 x0 x1 y0 y1 xz yz p0 p1 q0 q1 pz qz f2
            have K' : Hid (Kept w pa pb ah al bh bl wc) := hcut
            obtain ⟨p0, p1, q0, q1, pz, qz, -, -⟩ := hcut
            -- up and down again
            go_upto_region 21 with (go_at_call 29; refine (left_both ah al n _ a0 a1 a2 a3 n1).mono ?_; rintro e w2 ⟨h2, l2, t2, rfl, f2, hw2⟩; have K2 : Hid (Kept w pa pb ah al bh bl w2) := (Kept.later K'.out hw2); obtain ⟨x0, x1, y0, y1, xz, yz, -, -⟩ := K2.out; clear hw2)
            go_cut [136] (fun s136 wc => s136 = .bool false ∧ Kept w pa pb ah al bh bl wc)
            case first =>
              rcases f2 with ⟨rfl, RB⟩ | rfl
              ·
                have A20 := (K2.out.alloc (.cells #[.int .u64 h2, .int .u64 l2] 24)).1
                have A21 := (K2.out.alloc (.cells #[.int .u64 h2, .int .u64 l2] 24)).2.1
                refine wp_region_noPanic ?_
                refine wp_region_held_drew (S := (fun w' => w'.cell? ⟨pa, 0, none⟩ = some (.int .u64 ah) ∧ w'.cell? ⟨pa, 1, none⟩ = some (.int .u64 al) ∧ w'.cell? ⟨w2.heap.size, 0, none⟩ = some (.int .u64 h2) ∧ w'.cell? ⟨w2.heap.size, 1, none⟩ = some (.int .u64 l2))) (by kernel_rfl) ?_ (fun hHeld => ?_)
                · exact ⟨A20, A21, by simp, by simp⟩
                refine wpAnyH_take (i := 0) (v := ?_) rfl (by kernel_rfl) (by kernel_rfl) (by kernel_rfl) (fun _ _ _ h => h) (Or.inl ⟨by rfl, ?_⟩) (by assumption) ?_
                rotate_left
                · (intro wS hSw; (try dsimp only at hSw); go_simp; try with_reducible rfl)
                change wpAnyH _ _ _ _ _ _ _ (Act.put _ (some 129) _) _
                simp only [Act.put, List.setIfInBounds_toArray, List.set_cons_zero, List.set_cons_succ]
                refine wpAnyH_take (i := 1) (v := ?_) rfl (by kernel_rfl) (by kernel_rfl) (by kernel_rfl) (fun _ _ _ h => h) (Or.inl ⟨by rfl, ?_⟩) (by assumption) ?_
                rotate_left
                · (intro wS hSw; (try dsimp only at hSw); go_simp; try with_reducible rfl)
                change wpAnyH _ _ _ _ _ _ _ (Act.put _ (some 130) _) _
                simp only [Act.put, List.setIfInBounds_toArray, List.set_cons_zero, List.set_cons_succ]
                refine wpAnyH_take (i := 2) (v := ?_) rfl (by kernel_rfl) (by kernel_rfl) (by kernel_rfl) (fun _ _ _ h => h) (Or.inl ⟨by rfl, ?_⟩) (by assumption) ?_
                rotate_left
                · (intro wS hSw; (try dsimp only at hSw); go_simp; try with_reducible rfl)
                change wpAnyH _ _ _ _ _ _ _ (Act.put _ (some 131) _) _
                simp only [Act.put, List.setIfInBounds_toArray, List.set_cons_zero, List.set_cons_succ]
                refine wpAnyH_take (i := 3) (v := ?_) rfl (by kernel_rfl) (by kernel_rfl) (by kernel_rfl) (fun _ _ _ h => h) (Or.inl ⟨by rfl, ?_⟩) (by assumption) ?_
                rotate_left
                · (intro wS hSw; (try dsimp only at hSw); go_simp; try with_reducible rfl)
                change wpAnyH _ _ _ _ _ _ _ (Act.put _ (some 132) _) _
                simp only [Act.put, List.setIfInBounds_toArray, List.set_cons_zero, List.set_cons_succ]
                refine wpAnyH_take (i := 5) (v := ?_) rfl (by kernel_rfl) (by kernel_rfl) (by kernel_rfl) (fun _ _ _ h => h) (Or.inl ⟨by rfl, ?_⟩) (by assumption) ?_
                rotate_left
                · (intro wS hSw; (try dsimp only at hSw); go_simp; try with_reducible rfl)
                change wpAnyH _ _ _ _ _ _ _ (Act.put _ (some 134) _) _
                simp only [Act.put, List.setIfInBounds_toArray, List.set_cons_zero, List.set_cons_succ]
                refine wpAnyH_ready (rs := [4]) (by kernel_rfl) (by simp) ?_
                refine AllReadyH.cons rfl (fun K hK => ?_) AllReadyH.nil
                go_simp
                refine (RB _).mono ?_
                rintro e w3 ⟨rfl, hw3⟩
                have K3 : Hid (Kept w pa pb ah al bh bl w3) := ((K2.out.alloc _).drew).later hw3
                have L0 := cell_later hw3 (a := ⟨w2.heap.size, 0, none⟩) (v := .int .u64 h2) (by simp)
                have L1 := cell_later hw3 (a := ⟨w2.heap.size, 1, none⟩) (v := .int .u64 l2) (by simp)
                clear hw3
                (try go_wp2_with (fail))
                refine hK.out _ _ ?_ (fun hHeld => ?_)
                · exact ⟨K3.out.1, K3.out.2.1, L0, L1⟩
                clear hK K
                refine wpAnyH_take (i := 6) (v := ?_) rfl (by kernel_rfl) (by kernel_rfl) (by kernel_rfl) (fun _ _ _ h => h) (Or.inl ⟨by rfl, ?_⟩) (by assumption) ?_
                rotate_left
                · (intro wS hSw; (try dsimp only at hSw); go_simp; try with_reducible rfl)
                change wpAnyH _ _ _ _ _ _ _ (Act.put _ (some 135) _) _
                simp only [Act.put, List.setIfInBounds_toArray, List.set_cons_zero, List.set_cons_succ]
                refine wpAnyH_take (i := 7) (v := ?_) rfl (by kernel_rfl) (by kernel_rfl) (by kernel_rfl) (fun _ _ _ h => h) (Or.inl ⟨by rfl, ?_⟩) (by assumption) ?_
                rotate_left
                · (intro wS hSw; (try dsimp only at hSw); go_simp; try with_reducible rfl)
                change wpAnyH _ _ _ _ _ _ _ (Act.put _ (some 136) _) _
                simp only [Act.put, List.setIfInBounds_toArray, List.set_cons_zero, List.set_cons_succ]
                refine wpAnyH_done (by kernel_rfl) ?_ _
                refine NoPanic.normal ?_
                go_wp2_with (fail)
                go_meet
                case rel => exact ⟨rfl, K3.out⟩
              ·
                have A20 := (K2.out.alloc (.cells #[.int .u64 h2, .int .u64 l2] 24)).1
                have A21 := (K2.out.alloc (.cells #[.int .u64 h2, .int .u64 l2] 24)).2.1
                refine wp_region_noPanic ?_
                refine wp_region_held_drew (S := (fun w' => w'.cell? ⟨pa, 0, none⟩ = some (.int .u64 ah) ∧ w'.cell? ⟨pa, 1, none⟩ = some (.int .u64 al) ∧ w'.cell? ⟨w2.heap.size, 0, none⟩ = some (.int .u64 h2) ∧ w'.cell? ⟨w2.heap.size, 1, none⟩ = some (.int .u64 l2))) (by kernel_rfl) ?_ (fun hHeld => ?_)
                · exact ⟨A20, A21, by simp, by simp⟩
                refine wpAnyH_take (i := 0) (v := ?_) rfl (by kernel_rfl) (by kernel_rfl) (by kernel_rfl) (fun _ _ _ h => h) (Or.inl ⟨by rfl, ?_⟩) (by assumption) ?_
                rotate_left
                · (intro wS hSw; (try dsimp only at hSw); go_simp; try with_reducible rfl)
                change wpAnyH _ _ _ _ _ _ _ (Act.put _ (some 129) _) _
                simp only [Act.put, List.setIfInBounds_toArray, List.set_cons_zero, List.set_cons_succ]
                refine wpAnyH_take (i := 1) (v := ?_) rfl (by kernel_rfl) (by kernel_rfl) (by kernel_rfl) (fun _ _ _ h => h) (Or.inl ⟨by rfl, ?_⟩) (by assumption) ?_
                rotate_left
                · (intro wS hSw; (try dsimp only at hSw); go_simp; try with_reducible rfl)
                change wpAnyH _ _ _ _ _ _ _ (Act.put _ (some 130) _) _
                simp only [Act.put, List.setIfInBounds_toArray, List.set_cons_zero, List.set_cons_succ]
                refine wpAnyH_take (i := 2) (v := undef) rfl (by kernel_rfl) (by kernel_rfl) (by kernel_rfl) (fun _ _ _ h => h) (Or.inr ⟨by rfl, rfl⟩) (by assumption) ?_
                change wpAnyH _ _ _ _ _ _ _ (Act.put _ (some 131) _) _
                simp only [Act.put, List.setIfInBounds_toArray, List.set_cons_zero, List.set_cons_succ]
                refine wpAnyH_take (i := 3) (v := undef) rfl (by kernel_rfl) (by kernel_rfl) (by kernel_rfl) (fun _ _ _ h => h) (Or.inr ⟨by rfl, rfl⟩) (by assumption) ?_
                change wpAnyH _ _ _ _ _ _ _ (Act.put _ (some 132) _) _
                simp only [Act.put, List.setIfInBounds_toArray, List.set_cons_zero, List.set_cons_succ]
                refine wpAnyH_take (i := 5) (v := undef) rfl (by kernel_rfl) (by kernel_rfl) (by kernel_rfl) (fun _ _ _ h => h) (Or.inr ⟨by rfl, rfl⟩) (by assumption) ?_
                change wpAnyH _ _ _ _ _ _ _ (Act.put _ (some 134) _) _
                simp only [Act.put, List.setIfInBounds_toArray, List.set_cons_zero, List.set_cons_succ]
                refine wpAnyH_ready (rs := [4]) (by kernel_rfl) (by simp) ?_
                refine AllReadyH.cons rfl (fun K hK => ?_) AllReadyH.nil
                go_simp
                refine hK.out _ _ (by assumption) (fun hHeld => ?_)
                clear hK K
                refine wpAnyH_take (i := 6) (v := undef) rfl (by kernel_rfl) (by kernel_rfl) (by kernel_rfl) (fun _ _ _ h => h) (Or.inr ⟨by rfl, rfl⟩) (by assumption) ?_
                change wpAnyH _ _ _ _ _ _ _ (Act.put _ (some 135) _) _
                simp only [Act.put, List.setIfInBounds_toArray, List.set_cons_zero, List.set_cons_succ]
                refine wpAnyH_take (i := 7) (v := ?_) rfl (by kernel_rfl) (by kernel_rfl) (by kernel_rfl) (fun _ _ _ h => h) (Or.inl ⟨by rfl, ?_⟩) (by assumption) ?_
                rotate_left
                · (intro wS hSw; (try dsimp only at hSw); go_simp; try with_reducible rfl)
                change wpAnyH _ _ _ _ _ _ _ (Act.put _ (some 136) _) _
                simp only [Act.put, List.setIfInBounds_toArray, List.set_cons_zero, List.set_cons_succ]
                refine wpAnyH_done (by kernel_rfl) ?_ _
                refine NoPanic.normal ?_
                go_wp2_with (fail)
                go_meet
                case rel => exact ⟨rfl, (K2.out.alloc _).drew⟩
            case rest =>
              obtain ⟨rfl, K3⟩ := hcut
              clear K' K2 x0 x1 y0 y1 xz yz p0 p1 q0 q1 pz qz f2
              have K' : Hid (Kept w pa pb ah al bh bl wc) := K3
              obtain ⟨p0, p1, q0, q1, pz, qz, -, -⟩ := K3
              -- its text is parsed to it
              go_wp2_with (fail)
              refine (text_any ah al _ a0 a1 a2 a3).mono ?_
              rintro e w2 ⟨nn, rfl, h1, h39, hn, hz, hw2⟩
              have PB := parse_back ah al nn a0 a1 a2 a3 h1 h39 hn hz
              have K2 : Hid (Kept w pa pb ah al bh bl w2) := K'.out.later hw2
              obtain ⟨x0, x1, y0, y1, xz, yz, -, -⟩ := K2.out
              clear hw2 h1 h39 hn hz
              go_wp2_with (fail)
              refine (PB _).mono ?_
              rintro e w3 ⟨rfl, hw3⟩
              have K3 : Hid (Kept w pa pb ah al bh bl w3) := K2.out.later hw3
              obtain ⟨x30, x31, y30, y31, xz3, yz3, -, HB3⟩ := K3.out
              have s3 := HB3.size
              have A20 := (K3.out.alloc (.cells #[.int .u64 ah, .int .u64 al] 24)).1
              have A21 := (K3.out.alloc (.cells #[.int .u64 ah, .int .u64 al] 24)).2.1
              have BA := bits_any ah al
              have RA := right_all ah al a0 a1 a2 a3
              have BA' : Hid (∀ w, Calls Try.prog 16 #[.agg #[.int .u64 ah, .int .u64 al]] w fun e w' => e = .returned (.int .i64 (bitLen (ah * 18446744073709551616 + al).toNat)) ∧ Below w.heap.size w w') := fun w => bits_any ah al w a2 a3 a0 a1
              clear hw3 BA PB
              generalize bitLen (ah * 18446744073709551616 + al).toNat = kk at RA BA'
              go_wp2_with (fail)
              refine wp_region_noPanic ?_
              refine wp_region_held_drew (S := (fun w' => w'.cell? ⟨pa, 0, none⟩ = some (.int .u64 ah) ∧ w'.cell? ⟨pa, 1, none⟩ = some (.int .u64 al) ∧ w'.cell? ⟨w3.heap.size, 0, none⟩ = some (.int .u64 ah) ∧ w'.cell? ⟨w3.heap.size, 1, none⟩ = some (.int .u64 al))) (by kernel_rfl) ?_ (fun hHeld => ?_)
              · exact ⟨A20, A21, by simp, by simp⟩
              refine wpAnyH_take (i := 0) (v := ?_) rfl (by kernel_rfl) (by kernel_rfl) (by kernel_rfl) (fun _ _ _ h => h) (Or.inl ⟨by rfl, ?_⟩) (by assumption) ?_
              rotate_left
              · (intro wS hSw; (try dsimp only at hSw); go_simp; try with_reducible rfl)
              change wpAnyH _ _ _ _ _ _ _ (Act.put _ (some 143) _) _
              simp only [Act.put, List.setIfInBounds_toArray, List.set_cons_zero, List.set_cons_succ]
              refine wpAnyH_take (i := 1) (v := ?_) rfl (by kernel_rfl) (by kernel_rfl) (by kernel_rfl) (fun _ _ _ h => h) (Or.inl ⟨by rfl, ?_⟩) (by assumption) ?_
              rotate_left
              · (intro wS hSw; (try dsimp only at hSw); go_simp; try with_reducible rfl)
              change wpAnyH _ _ _ _ _ _ _ (Act.put _ (some 144) _) _
              simp only [Act.put, List.setIfInBounds_toArray, List.set_cons_zero, List.set_cons_succ]
              refine wpAnyH_take (i := 2) (v := ?_) rfl (by kernel_rfl) (by kernel_rfl) (by kernel_rfl) (fun _ _ _ h => h) (Or.inl ⟨by rfl, ?_⟩) (by assumption) ?_
              rotate_left
              · (intro wS hSw; (try dsimp only at hSw); go_simp; try with_reducible rfl)
              change wpAnyH _ _ _ _ _ _ _ (Act.put _ (some 145) _) _
              simp only [Act.put, List.setIfInBounds_toArray, List.set_cons_zero, List.set_cons_succ]
              refine wpAnyH_take (i := 3) (v := ?_) rfl (by kernel_rfl) (by kernel_rfl) (by kernel_rfl) (fun _ _ _ h => h) (Or.inl ⟨by rfl, ?_⟩) (by assumption) ?_
              rotate_left
              · (intro wS hSw; (try dsimp only at hSw); go_simp; try with_reducible rfl)
              change wpAnyH _ _ _ _ _ _ _ (Act.put _ (some 146) _) _
              simp only [Act.put, List.setIfInBounds_toArray, List.set_cons_zero, List.set_cons_succ]
              refine wpAnyH_take (i := 4) (v := ?_) rfl (by kernel_rfl) (by kernel_rfl) (by kernel_rfl) (fun _ _ _ h => h) (Or.inl ⟨by rfl, ?_⟩) (by assumption) ?_
              rotate_left
              · (intro wS hSw; (try dsimp only at hSw); go_simp; try with_reducible rfl)
              change wpAnyH _ _ _ _ _ _ _ (Act.put _ (some 147) _) _
              simp only [Act.put, List.setIfInBounds_toArray, List.set_cons_zero, List.set_cons_succ]
              refine wpAnyH_take (i := 5) (v := ?_) rfl (by kernel_rfl) (by kernel_rfl) (by kernel_rfl) (fun _ _ _ h => h) (Or.inl ⟨by rfl, ?_⟩) (by assumption) ?_
              rotate_left
              · (intro wS hSw; (try dsimp only at hSw); go_simp; try with_reducible rfl)
              change wpAnyH _ _ _ _ _ _ _ (Act.put _ (some 148) _) _
              simp only [Act.put, List.setIfInBounds_toArray, List.set_cons_zero, List.set_cons_succ]
              refine wpAnyH_take (i := 6) (v := ?_) rfl (by kernel_rfl) (by kernel_rfl) (by kernel_rfl) (fun _ _ _ h => h) (Or.inl ⟨by rfl, ?_⟩) (by assumption) ?_
              rotate_left
              · (intro wS hSw; (try dsimp only at hSw); go_simp; try with_reducible rfl)
              change wpAnyH _ _ _ _ _ _ _ (Act.put _ (some 149) _) _
              simp only [Act.put, List.setIfInBounds_toArray, List.set_cons_zero, List.set_cons_succ]
              refine wpAnyH_take (i := 7) (v := ?_) rfl (by kernel_rfl) (by kernel_rfl) (by kernel_rfl) (fun _ _ _ h => h) (Or.inl ⟨by rfl, ?_⟩) (by assumption) ?_
              rotate_left
              · (intro wS hSw; (try dsimp only at hSw); go_simp; try with_reducible rfl)
              change wpAnyH _ _ _ _ _ _ _ (Act.put _ (some 150) _) _
              simp only [Act.put, List.setIfInBounds_toArray, List.set_cons_zero, List.set_cons_succ]
              refine wpAnyH_take (i := 8) (v := ?_) rfl (by kernel_rfl) (by kernel_rfl) (by kernel_rfl) (fun _ _ _ h => h) (Or.inl ⟨by rfl, ?_⟩) (by assumption) ?_
              rotate_left
              · (intro wS hSw; (try dsimp only at hSw); go_simp; try with_reducible rfl)
              change wpAnyH _ _ _ _ _ _ _ (Act.put _ (some 151) _) _
              simp only [Act.put, List.setIfInBounds_toArray, List.set_cons_zero, List.set_cons_succ]
              refine wpAnyH_take (i := 11) (v := ?_) rfl (by kernel_rfl) (by kernel_rfl) (by kernel_rfl) (fun _ _ _ h => h) (Or.inl ⟨by rfl, ?_⟩) (by assumption) ?_
              rotate_left
              · (intro wS hSw; (try dsimp only at hSw); go_simp; try with_reducible rfl)
              change wpAnyH _ _ _ _ _ _ _ (Act.put _ (some 154) _) _
              simp only [Act.put, List.setIfInBounds_toArray, List.set_cons_zero, List.set_cons_succ]
              refine wpAnyH_ready (rs := [9]) (by kernel_rfl) (by simp) ?_
              refine AllReadyH.cons rfl (fun K hK => ?_) AllReadyH.nil
              go_simp
              refine (BA'.out _).mono ?_
              rintro e w4 ⟨rfl, hw4⟩
              have K4 : Hid (Kept w pa pb ah al bh bl w4) := ((K3.out.alloc _).drew).later hw4
              have L40 := cell_later hw4 (a := ⟨w3.heap.size, 0, none⟩) (v := .int .u64 ah) (by simp)
              have L41 := cell_later hw4 (a := ⟨w3.heap.size, 1, none⟩) (v := .int .u64 al) (by simp)
              clear hw4
              (try go_wp2_with (fail))
              refine hK.out _ _ ?_ (fun hHeld => ?_)
              · exact ⟨K4.out.1, K4.out.2.1, L40, L41⟩
              clear hK K
              refine wpAnyH_ready (rs := [10]) (by kernel_rfl) (by simp) ?_
              refine AllReadyH.cons rfl (fun K hK => ?_) AllReadyH.nil
              go_simp
              refine (RA _).mono ?_
              rintro e w5 ⟨rfl, hw5⟩
              have K5 : Hid (Kept w pa pb ah al bh bl w5) := (K4.out).later hw5
              have L50 := cell_later hw5 (a := ⟨w3.heap.size, 0, none⟩) (v := .int .u64 ah) L40
              have L51 := cell_later hw5 (a := ⟨w3.heap.size, 1, none⟩) (v := .int .u64 al) L41
              clear hw5
              (try go_wp2_with (fail))
              refine hK.out _ _ ?_ (fun hHeld => ?_)
              · exact ⟨K5.out.1, K5.out.2.1, L50, L51⟩
              clear hK K
              refine wpAnyH_take (i := 12) (v := ?_) rfl (by kernel_rfl) (by kernel_rfl) (by kernel_rfl) (fun _ _ _ h => h) (Or.inl ⟨by rfl, ?_⟩) (by assumption) ?_
              rotate_left
              · (intro wS hSw; (try dsimp only at hSw); go_simp; try with_reducible rfl)
              change wpAnyH _ _ _ _ _ _ _ (Act.put _ (some 155) _) _
              simp only [Act.put, List.setIfInBounds_toArray, List.set_cons_zero, List.set_cons_succ]
              refine wpAnyH_take (i := 13) (v := ?_) rfl (by kernel_rfl) (by kernel_rfl) (by kernel_rfl) (fun _ _ _ h => h) (Or.inl ⟨by rfl, ?_⟩) (by assumption) ?_
              rotate_left
              · (intro wS hSw; (try dsimp only at hSw); go_simp; try with_reducible rfl)
              change wpAnyH _ _ _ _ _ _ _ (Act.put _ (some 156) _) _
              simp only [Act.put, List.setIfInBounds_toArray, List.set_cons_zero, List.set_cons_succ]
              refine wpAnyH_take (i := 14) (v := ?_) rfl (by kernel_rfl) (by kernel_rfl) (by kernel_rfl) (fun _ _ _ h => h) (Or.inl ⟨by rfl, ?_⟩) (by assumption) ?_
              rotate_left
              · (intro wS hSw; (try dsimp only at hSw); go_simp; try with_reducible rfl)
              change wpAnyH _ _ _ _ _ _ _ (Act.put _ (some 2) _) _
              simp only [Act.put, List.setIfInBounds_toArray, List.set_cons_zero, List.set_cons_succ]
              refine wpAnyH_done (by kernel_rfl) ?_ _
              refine NoPanic.normal ?_
              go_wp2
              go_ret
              exact ⟨rfl, K5.out.2.2.2.2.2.2.2⟩

end Go.Proofs.Ytahmgbaonldlfaa
