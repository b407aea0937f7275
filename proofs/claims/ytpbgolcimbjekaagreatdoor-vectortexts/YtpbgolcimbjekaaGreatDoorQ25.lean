/-
  The contract of the document's own product for layer 1 (twenty digits of sixteen bits) at this program: Times. Conditions: digits lie below 2^16; the eight least digits of each count.
  Contracts of the document's own answers for layer 1 at this program, over the numbers themselves: digits are those of one number. Conditions: numbers lie below 2^320 (products: both below 2^128).
  Plain facts: what is known of a world (pairs of words, digits of numbers), kept along a walk. No condition.
-/
import Derived.Test.YtpbgolcimbjekaaGreatDoorQ24
import Derived.Test.YtpbgolcimbjekaaGreatDoorQ04
namespace Go.Proofs.YtpbgolcimbjekaaGreatDoor
open Go.RowKit

theorem sv_upd (F : Nat → Int) (p : Nat) (v : Int) (n : Nat) : sv (upd F p v) n = sv F n + (if p < n then (v - F p) * 65536 ^ p else 0) := by
  induction n with
  | zero => simp [sv]
  | succ n ih =>
    simp only [sv]
    rw [ih]
    by_cases e : n = p
    · subst e
      rw [if_neg (by omega), if_pos (by omega)]
      have : upd F n v n = v := by simp [upd]
      rw [this]; grind
    · have : upd F p v n = F n := by simp [upd, e]
      rw [this]
      by_cases c : p < n
      · rw [if_pos c, if_pos (by omega)]; omega
      · rw [if_neg c, if_neg (by omega)]; omega
theorem upd_digs (F : Nat → Int) (h : Digs F) (p : Nat) (v : Int) (v0 : 0 ≤ v) (v1 : v < 65536) : Digs (upd F p v) := by
  intro i; unfold upd; split
  · exact ⟨v0, v1⟩
  · exact h i
theorem zero_digs : Digs (fun _ => 0) := fun _ => ⟨Int.le_refl 0, (by decide : (0 : Int) < 65536)⟩
theorem prod_bd (a b : Int) (a0 : 0 ≤ a) (a1 : a < 65536) (b0 : 0 ≤ b) (b1 : b < 65536) : 0 ≤ a * b ∧ a * b ≤ 4294836225 := by
  refine ⟨Int.mul_nonneg a0 b0, ?_⟩
  have : a * b ≤ 65535 * 65535 := Int.mul_le_mul (by omega) (by omega) b0 (by omega)
  omega

/-- One step of a row: what is carried, what is added. -/
theorem row_step (F : Nat → Int) (S0 di c t x : Int) (e : Nat → Int) (i k : Nat) (hik : i + k < 20) (hx : x = F (i + k) + c + t) (ht : (k < 8 ∧ t = di * e k) ∨ (8 ≤ k ∧ t = 0))
    (h : sv F 20 + c * 65536 ^ (i + k) = S0 + di * 65536 ^ i * sv e (min k 8)) :
    sv (upd F (i + k) (x % 65536)) 20 + x / 65536 * 65536 ^ (i + (k + 1)) = S0 + di * 65536 ^ i * sv e (min (k + 1) 8) := by
  rw [sv_upd, if_pos hik, show i + (k + 1) = (i + k) + 1 by omega, Int.pow_succ]
  have q := Int.mul_ediv_add_emod x 65536
  have e1 : (x % 65536 - F (i + k)) * 65536 ^ (i + k) + x / 65536 * (65536 ^ (i + k) * 65536) = (c + t) * 65536 ^ (i + k) := by
    have : (x % 65536 - F (i + k)) * 65536 ^ (i + k) + x / 65536 * (65536 ^ (i + k) * 65536) = (65536 * (x / 65536) + x % 65536 - F (i + k)) * 65536 ^ (i + k) := by grind
    rw [this, q, hx]; grind
  have e2 : (c + t) * 65536 ^ (i + k) = c * 65536 ^ (i + k) + t * 65536 ^ (i + k) := by grind
  rcases ht with ⟨h8, rfl⟩ | ⟨h8, rfl⟩
  · rw [Nat.min_eq_left (by omega)] at h
    rw [Nat.min_eq_left (by omega)]
    have e3 : di * 65536 ^ i * sv e (k + 1) = di * 65536 ^ i * sv e k + di * e k * 65536 ^ (i + k) := by
      simp only [sv, Int.pow_add]; grind
    rw [e3]
    omega
  · rw [Nat.min_eq_right (by omega)] at h
    rw [Nat.min_eq_right (by omega)]
    omega
theorem row_end (F : Nat → Int) (d e : Nat → Int) (i : Nat) (h : sv F 20 + 0 * 65536 ^ (i + 12) = sv d i * sv e 8 + d i * 65536 ^ i * sv e (min 12 8)) : sv F 20 = sv d (i + 1) * sv e 8 := by
  rw [show min 12 8 = 8 from rfl] at h
  have e1 : sv d (i + 1) = sv d i + d i * 65536 ^ i := rfl
  rw [e1, Int.add_mul]
  generalize sv e 8 = E at *
  omega

set_option maxHeartbeats 4000000 in
set_option maxRecDepth 100000 in
theorem rtimes_any (d e : Nat → Int) (w : World) (hd : Digs d) (he : Digs e) :
    Calls Tryz.prog 30 #[.agg (dl d).toArray, .agg (dl e).toArray] w fun x w' => ∃ F, x = .returned (.agg (dl F).toArray) ∧ Digs F ∧ sv F 20 = sv d 8 * sv e 8 ∧ Below w.heap.size w w' := by
  go_enter Tryz.func30, Tryz.ntmps30
  go_wp2
  go_loopw [6] (fun s6 wr => ∃ (i : Nat) (F : Nat → Int), i ≤ 8 ∧ s6 = .int .i64 i ∧ Digs F ∧ Hid (sv F 20 = sv d i * sv e 8) ∧ Hid (∀ j, i + 8 ≤ j → F j = 0) ∧
      Tab wr (w.heap.size + 1 + 1 + 1) F ∧ Tab wr w.heap.size d ∧ Tab wr (w.heap.size + 1) e ∧ (∃ G, Tab wr (w.heap.size + 1 + 1) G) ∧ w.heap.size + 4 ≤ wr.heap.size ∧ Below w.heap.size w wr) (fun s6 _ => 8 - (intOf s6).toNat)
  case atStart =>
    refine ⟨0, fun _ => 0, by omega, rfl, zero_digs, ?_, fun _ _ => rfl, Tab.zeros _ _ _ (by simp), ?_, ?_, ⟨_, (Tab.zeros _ _ _ (by simp)).alloc _ (by simp)⟩, by simp, by go_grown⟩
    · unfold Hid; simp [sv]
    · exact (((Tab.new w d _).alloc _ (by simp)).alloc _ (by first | (simp; done) | (simp; omega))).alloc _ (by first | (simp; done) | (simp; omega))
    · exact ((Tab.new_at _ e _ _ (by simp)).alloc _ (by simp)).alloc _ (by first | (simp; done) | (simp; omega))
  case round =>
    obtain ⟨i, F, hi, rfl, hF, HS0, HZ, HF, HD, HE, ⟨G, HG⟩, hsz, HB⟩ := hrel
    by_cases hlt : i < 8
    · have m0 : (0 : Int) ≤ (i : Int) := by omega
      have m1 : (i : Int) < 8 := by omega
      go_wp2
      go_loopw [7, 8] (fun s7 s8 wq => ∃ (k : Nat) (c : Int) (F' : Nat → Int), k ≤ 12 ∧ s7 = .int .u64 c ∧ s8 = .int .i64 k ∧ 0 ≤ c ∧ c < 65536 ∧ Digs F' ∧ Hid (9 ≤ k → c = 0) ∧
          Hid (∀ j, i + 9 ≤ j → F' j = 0) ∧ Hid (k ≤ 8 → F' (i + 8) = 0) ∧ Hid (sv F' 20 + c * 65536 ^ (i + k) = sv d i * sv e 8 + d i * 65536 ^ i * sv e (min k 8)) ∧
          Tab wq (w.heap.size + 1 + 1 + 1) F' ∧ Tab wq w.heap.size d ∧ Tab wq (w.heap.size + 1) e ∧ (∃ G, Tab wq (w.heap.size + 1 + 1) G) ∧ w.heap.size + 4 ≤ wq.heap.size ∧ Below w.heap.size w wq) (fun _ s8 _ => 12 - (intOf s8).toNat)
      case atStart =>
        refine ⟨0, 0, F, by omega, rfl, rfl, by omega, by omega, hF, fun h => rfl, fun j hj => HZ.out j (by omega), fun _ => HZ.out (i + 8) (by omega), ?_, HF, HD, HE, ⟨G, HG⟩, hsz, HB⟩
        unfold Hid; rw [HS0.out]; simp [sv]
      case round =>
        obtain ⟨k, c, F', hk, rfl, rfl, c0, c1, hF', HC, HZ9, HZ8, HS, HT, HD', HE', ⟨G', HG'⟩, hsz', HB'⟩ := hrel
        have n0 : (0 : Int) ≤ (k : Int) := by omega
        by_cases hk12 : k < 12
        · have n1 : (k : Int) < 12 := by omega
          have n2 : (i : Int) + (k : Int) < 20 := by omega
          have n3 : (0 : Int) ≤ (i : Int) + (k : Int) := by omega
          have cf := (HT (i + k) (by omega)).1
          have ff := (HT (i + k) (by omega)).2
          have fb := hF' (i + k)
          by_cases h8 : k < 8
          · have n4 : (k : Int) < 8 := by omega
            have m20 : (i : Int) < 20 := by omega
            have k20 : (k : Int) < 20 := by omega
            have cd := (HD' i (by omega)).1
            have ce := (HE' k (by omega)).1
            have pb := prod_bd (d i) (e k) (hd i).1 (hd i).2 (he k).1 (he k).2
            go_wp2_with (fail)
            go_quiet (fail)
            go_wp2
            go_roundw
            case rel =>
              go_light
              exact ⟨k + 1, _, upd F' (i + k) ((F' (i + k) + c + d i * e k) % 65536), by omega, rfl, by go_num, by omega, by omega, upd_digs F' hF' _ _ (by omega) (by omega), fun h => by omega,
                fun j hj => (by unfold upd; rw [if_neg (by omega)]; exact HZ9.out j hj), fun _ => (by unfold upd; rw [if_neg (by omega)]; exact HZ8.out (by omega)),
                row_step F' _ (d i) c (d i * e k) _ e i k (by omega) rfl (Or.inl ⟨h8, rfl⟩) HS.out, (HT.drewN _).set (by omega) _, (HD'.drewN _).other _ _ (by first | (simp; done) | (simp; omega)), (HE'.drewN _).other _ _ (by first | (simp; done) | (simp; omega)), ⟨G', (HG'.drewN _).other _ _ (by first | (simp; done) | (simp; omega))⟩, by simp; omega, (below_drewN HB' _).setCell (by first | (simp; done) | (simp; omega)) _⟩
            case measure => simp [intOf]; omega
          · have n4 : ¬ (k : Int) < 8 := by omega
            go_wp2
            go_roundw
            case rel =>
              go_light
              have z : k = 8 ∧ F' (i + k) = 0 ∨ c = 0 ∧ F' (i + k) = 0 := by
                by_cases e8 : k = 8
                · subst e8; exact Or.inl ⟨rfl, HZ8.out (by omega)⟩
                · exact Or.inr ⟨HC.out (by omega), HZ9.out (i + k) (by omega)⟩
              exact ⟨k + 1, _, upd F' (i + k) ((F' (i + k) + c) % 65536), by omega, rfl, by go_num, by omega, by omega, upd_digs F' hF' _ _ (by omega) (by omega), fun h => (by omega),
                fun j hj => (by
                  unfold upd
                  by_cases ej : j = i + k
                  · rw [if_pos ej]; omega
                  · rw [if_neg ej]; exact HZ9.out j hj), fun h => (by omega),
                row_step F' _ (d i) c 0 _ e i k (by omega) (by omega) (Or.inr ⟨by omega, rfl⟩) HS.out, HT.set (by omega) _, HD'.other _ _ (by first | (simp; done) | (simp; omega)), HE'.other _ _ (by first | (simp; done) | (simp; omega)), ⟨G', HG'.other _ _ (by first | (simp; done) | (simp; omega))⟩, by simp; omega, HB'.setCell (by first | (simp; done) | (simp; omega)) _⟩
            case measure => simp [intOf]; omega
        · obtain rfl : k = 12 := by omega
          go_wp2
          go_roundw
          case rel =>
            go_light
            have cz : c = 0 := HC.out (by omega)
            subst cz
            exact ⟨i + 1, F', by omega, by go_num, hF', row_end F' d e i HS.out, fun j hj => HZ9.out j (by omega), HT, HD', HE', ⟨G', HG'⟩, hsz', HB'⟩
          case measure => simp [intOf]; omega
    · obtain rfl : i = 8 := by omega
      have HF8 := HF
      clear HD HE HZ HF
      have HR := Tab.range (HF8)
      have HT' : World.there wr (w.heap.size + 1 + 1) 0 (dl (F)).toArray.size := by rw [dl_size]; exact Tab.there (HG)
      have HS := World.rangeAt_setCells_same wr (w.heap.size + 1 + 1) 0 (dl (F)) (by rw [dl_len]; exact Tab.there (HG))
      go_upto_region 14 with (fail)
      refine wp_region_lit ?_
      refine wpList_load_mid rfl _ _ rfl (w.heap.size + 1 + 1 + 1) 0 rfl (dl (F)) _ HR Tryz.underlying63 rfl (by rw [dl_len]; exact dig_info) ?_
      simp only [Act.put, List.setIfInBounds_toArray, List.set_cons_zero, List.set_cons_succ]
      refine wpList_store_mid rfl _ _ _ rfl (w.heap.size + 1 + 1) 0 (dl (F)).toArray rfl rfl HT' (by rw [dl_size]; exact dig_info) (dl_one _) ?_
      have HB' := below_setCells (w.heap.size + 1 + 1) (by omega) (dl (F)).toArray.toList 0 HB
      rw [List.toList_toArray] at HB' ⊢
      generalize World.setCells wr (w.heap.size + 1 + 1) 0 (dl (F)) = W' at HS HB' ⊢
      go_wp2
      refine bodyPost_ret (v := .agg (dl (F)).toArray) ?_ rfl ⟨F, rfl, hF, HS0.out, HB'⟩
      have hl := run_loadVar_mid W' (w.heap.size + 1 + 1) 0 63 (dl (F)) _ HS Tryz.underlying63 rfl (by rw [dl_len]; exact dig_info)
      simp [results, Tryz.results30, Act.put, asAddr, hl]

end Go.Proofs.YtpbgolcimbjekaaGreatDoor

namespace Go.Proofs.YtpbgolcimbjekaaGreatDoor
open Go.RowKit

/-- The digits of a number. -/
def wd (V : Int) (i : Nat) : Int := V / 65536 ^ i % 65536
/-- A number's digits, as a value. -/
def dv (V : Int) : Value := .agg (dl (wd V)).toArray
theorem wd_digs (V : Int) : Digs (wd V) := fun _ => ⟨Int.emod_nonneg _ (by omega), Int.emod_lt_of_pos _ (by omega)⟩
theorem sv_wd (V : Int) (n : Nat) : sv (wd V) n = V % 65536 ^ n := by
  induction n with
  | zero => simp [sv, Int.emod_one]
  | succ n ih =>
    simp only [sv, wd]
    rw [ih, Int.pow_succ]
    have p := pow_pos16 n
    have q1 := Int.mul_ediv_add_emod V (65536 ^ n)
    have q2 := Int.mul_ediv_add_emod (V / 65536 ^ n) 65536
    have q3 := Int.mul_ediv_add_emod V (65536 ^ n * 65536)
    rw [Int.ediv_ediv_of_nonneg (by omega)] at q2
    generalize V / (65536 ^ n * 65536) = x at *
    generalize V / 65536 ^ n % 65536 = y at *
    generalize V / 65536 ^ n = z at *
    generalize V % (65536 ^ n * 65536) = r at *
    generalize V % 65536 ^ n = t at *
    subst q2
    generalize (65536 : Int) ^ n = P at *
    have : P * (65536 * x + y) = P * 65536 * x + y * P := by grind
    rw [this] at q1
    omega
theorem sv_wd20 (V : Int) (h0 : 0 ≤ V) (h1 : V < 65536 ^ 20) : sv (wd V) 20 = V := by rw [sv_wd, Int.emod_eq_of_lt h0 h1]
theorem sv_wd8 (V : Int) (h0 : 0 ≤ V) (h1 : V < 340282366920938463463374607431768211456) : sv (wd V) 8 = V := by rw [sv_wd, Int.emod_eq_of_lt h0 (by simpa using h1)]
theorem dl_congr {F G : Nat → Int} (h : ∀ i, i < 20 → F i = G i) : dl F = dl G := by
  unfold dl
  exact List.map_congr_left (fun i hi => by rw [h i (List.mem_range.1 hi)])
/-- Digits are those of their number. -/
theorem dl_of (F : Nat → Int) (hF : Digs F) : dl F = dl (wd (sv F 20)) := by
  have h0 := sv_nonneg F hF 20
  have h1 := sv_lt F hF 20
  exact dl_congr (sv_inj F _ hF (wd_digs _) 20 (sv_wd20 _ h0 h1).symm)
theorem dl_is (F : Nat → Int) (hF : Digs F) (V : Int) (h : sv F 20 = V) : (.agg (dl F).toArray : Value) = dv V := by rw [dl_of F hF, h]; rfl

theorem pow20 : (65536 : Int) ^ 20 = 2135987035920910082395021706169552114602704522356652769947041607822219725780640550022962086936576 := by decide

/-- A number's two words; too great: none. -/
def wh (V : Int) : Int := if V < 340282366920938463463374607431768211456 then V / 18446744073709551616 else 0
def wl (V : Int) : Int := if V < 340282366920938463463374607431768211456 then V % 18446744073709551616 else 0
def wt (V : Int) : Bool := decide (V < 340282366920938463463374607431768211456)
theorem fits_can {h l V : Int} {b : Bool} (m : Wok h l) (f : Fits h l b V) : h = wh V ∧ l = wl V ∧ b = wt V := by
  obtain ⟨m0, m1, m2, m3⟩ := m
  rcases f with ⟨rfl, rfl⟩ | ⟨rfl, rfl, rfl, f⟩
  · have e : h * 18446744073709551616 + l < 340282366920938463463374607431768211456 := by omega
    refine ⟨?_, ?_, ?_⟩
    · unfold wh; rw [if_pos e]; omega
    · unfold wl; rw [if_pos e]; omega
    · unfold wt; simp [e]
  · have e : ¬ V < 340282366920938463463374607431768211456 := by omega
    refine ⟨?_, ?_, ?_⟩
    · unfold wh; rw [if_neg e]
    · unfold wl; rw [if_neg e]
    · unfold wt; simp [e]
theorem wok_can (V : Int) (h : 0 ≤ V) : Wok (wh V) (wl V) := by
  unfold Wok wh wl
  by_cases e : V < 340282366920938463463374607431768211456
  · rw [if_pos e, if_pos e]; refine ⟨?_, ?_, ?_, ?_⟩ <;> omega
  · rw [if_neg e, if_neg e]; omega

set_option maxRecDepth 4000 in
theorem rof_dv (ah al : Int) (w : World) (a0 : 0 ≤ al) (a1 : al < 18446744073709551616) (a2 : 0 ≤ ah) (a3 : ah < 18446744073709551616) :
    Calls Tryz.prog 29 #[.agg #[.int .u64 ah, .int .u64 al]] w fun x w' => x = .returned (dv (ah * 18446744073709551616 + al)) ∧ Below w.heap.size w w' := by
  refine (rof_any ah al w a0 a1 a2 a3).mono ?_
  rintro e w' ⟨rfl, hb⟩
  exact ⟨by rw [dl_is _ (od_digs ah al) _ (od_sv ah al a0 a1 a2 a3)], hb⟩
theorem plus_dv (V U : Int) (w : World) (v0 : 0 ≤ V) (u0 : 0 ≤ U) (h : V + U < 65536 ^ 20) :
    Calls Tryz.prog 45 #[dv V, dv U] w fun x w' => x = .returned (dv (V + U)) ∧ Below w.heap.size w w' := by
  refine (plus_any (wd V) (wd U) w (wd_digs _) (wd_digs _)).mono ?_
  rintro e w' ⟨rfl, hb⟩
  refine ⟨?_, hb⟩
  rw [dl_is _ (psum_digs _ _) (V + U)]
  have a := psum_sv (wd V) (wd U) 20
  have c := carry_bd (wd V) (wd U) (wd_digs _) (wd_digs _) 20
  have s := sv_nonneg (psum (wd V) (wd U)) (psum_digs _ _) 20
  rw [sv_wd20 V v0 (by omega), sv_wd20 U u0 (by omega)] at a
  generalize carry (wd V) (wd U) 20 = k at *
  have hk : k = 0 := by
    rcases (by omega : k = 0 ∨ k = 1) with e | e
    · exact e
    · subst e; rw [Int.one_mul] at a; omega
  subst hk
  rw [Int.zero_mul] at a
  omega
theorem minus_dv (V U : Int) (w : World) (u0 : 0 ≤ U) (uv : U ≤ V) (h : V < 65536 ^ 20) :
    Calls Tryz.prog 49 #[dv V, dv U] w fun x w' => x = .returned (dv (V - U)) ∧ Below w.heap.size w w' := by
  refine (minus_any (wd V) (wd U) w (wd_digs _) (wd_digs _)).mono ?_
  rintro e w' ⟨rfl, hb⟩
  refine ⟨?_, hb⟩
  rw [dl_is _ (pdif_digs _ _) (V - U)]
  have e1 := sv_wd20 V (by omega) h
  have e2 := sv_wd20 U u0 (by omega)
  rw [pdif_sv _ _ (wd_digs _) (wd_digs _) 20 (by omega), e1, e2]
theorem less_dv (V U : Int) (w : World) (v0 : 0 ≤ V) (v1 : V < 65536 ^ 20) (u0 : 0 ≤ U) (u1 : U < 65536 ^ 20) :
    Calls Tryz.prog 48 #[dv V, dv U] w fun x w' => x = .returned (.bool (decide (V < U))) ∧ Below w.heap.size w w' := by
  refine (less_any (wd V) (wd U) w (wd_digs _) (wd_digs _)).mono ?_
  rintro e w' ⟨rfl, hb⟩
  refine ⟨?_, hb⟩
  rw [sv_wd20 V v0 v1, sv_wd20 U u0 u1]
theorem times_dv (V U : Int) (w : World) (v0 : 0 ≤ V) (v1 : V < 340282366920938463463374607431768211456) (u0 : 0 ≤ U) (u1 : U < 340282366920938463463374607431768211456) :
    Calls Tryz.prog 30 #[dv V, dv U] w fun x w' => x = .returned (dv (V * U)) ∧ Below w.heap.size w w' := by
  refine (rtimes_any (wd V) (wd U) w (wd_digs _) (wd_digs _)).mono ?_
  rintro e w' ⟨F, rfl, hF, h, hb⟩
  exact ⟨by rw [dl_is F hF (V * U) (by rw [h, sv_wd8 V v0 v1, sv_wd8 U u0 u1])], hb⟩
theorem wide_dv (V : Int) (w : World) (v0 : 0 ≤ V) (v1 : V < 65536 ^ 20) :
    Calls Tryz.prog 31 #[dv V] w fun x w' => x = .returned (.tuple #[.agg #[.int .u64 (wh V), .int .u64 (wl V)], .bool (wt V)]) ∧ Below w.heap.size w w' := by
  refine (rwide_any (wd V) w (wd_digs _)).mono ?_
  rintro e w' ⟨h, l, b, rfl, m, f, hb⟩
  rw [sv_wd20 V v0 v1] at f
  obtain ⟨rfl, rfl, rfl⟩ := fits_can m f
  exact ⟨rfl, hb⟩

end Go.Proofs.YtpbgolcimbjekaaGreatDoor

namespace Go.Proofs.YtpbgolcimbjekaaGreatDoor
open Go.RowKit

theorem dl_each (F : Nat → Int) : ∀ v ∈ dl F, v.oneCell' = true := by
  intro v hv
  obtain ⟨i, _, rfl⟩ := List.mem_map.1 hv
  rfl
theorem two_each (a b : Int) : ∀ v ∈ [Value.int .u64 a, .int .u64 b], v.oneCell' = true := by
  intro v hv
  simp at hv
  rcases hv with rfl | rfl <;> rfl
theorem wide_info : (Tryz.prog.info? 42).map (·.size) = some 2 := by kernel_rfl

/-- Two words lie there. -/
def Pair (W : World) (p : Nat) (h l : Int) : Prop := W.cell? ⟨p, 0, none⟩ = some (.int .u64 h) ∧ W.cell? ⟨p, 1, none⟩ = some (.int .u64 l) ∧ p < W.heap.size
theorem Pair.later {W w1 : World} {p : Nat} {h l : Int} (K : Pair W p h l) (hb : Below W.heap.size W w1) : Pair w1 p h l := by
  obtain ⟨p0, p1, pz⟩ := K
  have := hb.size
  exact ⟨cell_later hb p0, cell_later hb p1, by omega⟩
/-- What is known: pairs of words, digits, and that nothing old has turned. -/
def Kn (w : World) (ps : List (Nat × Int × Int)) (rs : List (Nat × Int)) (W : World) : Prop :=
  (∀ x ∈ ps, Pair W x.1 x.2.1 x.2.2) ∧ (∀ x ∈ rs, W.rangeAt x.1 0 (dl (wd x.2)) ∧ x.1 < W.heap.size) ∧ w.heap.size ≤ W.heap.size ∧ Below w.heap.size w W
section
variable {w W w1 : World} {ps : List (Nat × Int × Int)} {rs : List (Nat × Int)}
theorem Kn.later (K : Kn w ps rs W) (hb : Below W.heap.size W w1) : Kn w ps rs w1 := by
  obtain ⟨k1, k2, k3, k4⟩ := K
  have := hb.size
  exact ⟨fun x hx => (k1 x hx).later hb, fun x hx => ⟨range_later (k2 x hx).1 hb (k2 x hx).2, by have := (k2 x hx).2; omega⟩, by omega, k4.trans (hb.mono k3)⟩
theorem Kn.alloc (K : Kn w ps rs W) (o : Obj) : Kn w ps rs (W.alloc o) := K.later ((Below.refl _ _).alloc (Nat.le_refl _) o)
theorem Kn.drew (K : Kn w ps rs W) : Kn w ps rs W.drew := ⟨K.1, K.2.1, K.2.2.1, K.2.2.2.drew⟩
theorem Kn.pair (K : Kn w ps rs W) {p : Nat} {h l : Int} (k : Pair W p h l) : Kn w ((p, h, l) :: ps) rs W := ⟨fun x hx => by
  rcases List.mem_cons.1 hx with rfl | hx
  · exact k
  · exact K.1 x hx, K.2⟩
theorem Kn.range (K : Kn w ps rs W) {p : Nat} {V : Int} (k : W.rangeAt p 0 (dl (wd V)) ∧ p < W.heap.size) : Kn w ps ((p, V) :: rs) W := ⟨K.1, fun x hx => by
  rcases List.mem_cons.1 hx with rfl | hx
  · exact k
  · exact K.2.1 x hx, K.2.2⟩
theorem Kn.ranges (K : Kn w ps rs W) {p q : Nat} {V U : Int} (k : W.rangeAt p 0 (dl (wd V)) ∧ p < W.heap.size) (k' : W.rangeAt q 0 (dl (wd U)) ∧ q < W.heap.size) : Kn w ps ((p, V) :: (q, U) :: rs) W := (K.range k').range k
theorem Kn.two {p q : Nat} {a b c d : Int} (k : Pair W p a b) (k' : Pair W q c d) (hz : w.heap.size ≤ W.heap.size) (hb : Below w.heap.size w W) : Kn w [(p, a, b), (q, c, d)] [] W :=
  Kn.pair (Kn.pair ⟨fun x hx => (by cases hx), fun x hx => (by cases hx), hz, hb⟩ k') k
theorem Kn.new (K : Kn w ps rs W) (h l : Int) (t : TypeId) : Kn w ((W.heap.size, h, l) :: ps) rs (W.alloc (.cells #[.int .u64 h, .int .u64 l] t)) :=
  (K.alloc _).pair ⟨by rw [World.cell?_alloc_at _ _ _ _ rfl]; rfl, by rw [World.cell?_alloc_at _ _ _ _ rfl]; rfl, by simp⟩
theorem pair_of {p : Nat} {a b : Int} (r : W.rangeAt p 0 [.int .u64 a, .int .u64 b]) (hz : p < W.heap.size) : Pair W p a b := ⟨r 0 _ rfl, r 1 _ rfl, hz⟩
end
theorem prod_in (V u : Int) (v0 : 0 ≤ V) (v1 : V < 340282366920938463463374607431768211456) (u0 : 0 ≤ u) (u1 : u < 18446744073709551616) : 0 ≤ V * u ∧ V * u < 2135987035920910082395021706169552114602704522356652769947041607822219725780640550022962086936576 := by
  refine ⟨Int.mul_nonneg v0 u0, ?_⟩
  have : V * u ≤ 340282366920938463463374607431768211455 * 18446744073709551615 := Int.mul_le_mul (by omega) (by omega) u0 (by omega)
  omega
theorem of_drew {B : Nat} {W w1 : World} (h : Below B W.drew w1) : Below B W w1 := ⟨h.os, h.tape, h.output, h.size, h.block⟩

end Go.Proofs.YtpbgolcimbjekaaGreatDoor
