/-
  The contract of the document's own product for layer 1 (twenty digits of sixteen bits) at this program: Times. Conditions: digits lie below 2^16; the eight least digits of each count.
-/
import Derived.Test.YtpbgolcimbjekaaGreatDoorV
namespace Go.Proofs.YtpbgolcimbjekaaGreatDoor
open Go.RowKit

theorem sv_upd (F : Nat → Int) (p : Nat) (v : Int) (n : Nat) : sv (upd F p v) n = sv F n + (if p < n then (v - F p) * 65536 ^ p else 0) := by
  induction n with
  | zero => simp [sv]
  | succ n ih =>
    simp only [sv]
    rw [ih]
    by_cases e : n = p
    · subst e
      rw [if_neg (by omega), if_pos (by omega)]
      have : upd F n v n = v := by simp [upd]
      rw [this]; grind
    · have : upd F p v n = F n := by simp [upd, e]
      rw [this]
      by_cases c : p < n
      · rw [if_pos c, if_pos (by omega)]; omega
      · rw [if_neg c, if_neg (by omega)]; omega
theorem upd_digs (F : Nat → Int) (h : Digs F) (p : Nat) (v : Int) (v0 : 0 ≤ v) (v1 : v < 65536) : Digs (upd F p v) := by
  intro i; unfold upd; split
  · exact ⟨v0, v1⟩
  · exact h i
theorem zero_digs : Digs (fun _ => 0) := fun _ => ⟨Int.le_refl 0, (by decide : (0 : Int) < 65536)⟩
theorem prod_bd (a b : Int) (a0 : 0 ≤ a) (a1 : a < 65536) (b0 : 0 ≤ b) (b1 : b < 65536) : 0 ≤ a * b ∧ a * b ≤ 4294836225 := by
  refine ⟨Int.mul_nonneg a0 b0, ?_⟩
  have : a * b ≤ 65535 * 65535 := Int.mul_le_mul (by omega) (by omega) b0 (by omega)
  omega

/-- One step of a row: what is carried, what is added. -/
theorem row_step (F : Nat → Int) (S0 di c t x : Int) (e : Nat → Int) (i k : Nat) (hik : i + k < 20) (hx : x = F (i + k) + c + t) (ht : (k < 8 ∧ t = di * e k) ∨ (8 ≤ k ∧ t = 0))
    (h : sv F 20 + c * 65536 ^ (i + k) = S0 + di * 65536 ^ i * sv e (min k 8)) :
    sv (upd F (i + k) (x % 65536)) 20 + x / 65536 * 65536 ^ (i + (k + 1)) = S0 + di * 65536 ^ i * sv e (min (k + 1) 8) := by
  rw [sv_upd, if_pos hik, show i + (k + 1) = (i + k) + 1 by omega, Int.pow_succ]
  have q := Int.mul_ediv_add_emod x 65536
  have e1 : (x % 65536 - F (i + k)) * 65536 ^ (i + k) + x / 65536 * (65536 ^ (i + k) * 65536) = (c + t) * 65536 ^ (i + k) := by
    have : (x % 65536 - F (i + k)) * 65536 ^ (i + k) + x / 65536 * (65536 ^ (i + k) * 65536) = (65536 * (x / 65536) + x % 65536 - F (i + k)) * 65536 ^ (i + k) := by grind
    rw [this, q, hx]; grind
  have e2 : (c + t) * 65536 ^ (i + k) = c * 65536 ^ (i + k) + t * 65536 ^ (i + k) := by grind
  rcases ht with ⟨h8, rfl⟩ | ⟨h8, rfl⟩
  · rw [Nat.min_eq_left (by omega)] at h
    rw [Nat.min_eq_left (by omega)]
    have e3 : di * 65536 ^ i * sv e (k + 1) = di * 65536 ^ i * sv e k + di * e k * 65536 ^ (i + k) := by
      simp only [sv, Int.pow_add]; grind
    rw [e3]
    omega
  · rw [Nat.min_eq_right (by omega)] at h
    rw [Nat.min_eq_right (by omega)]
    omega
theorem row_end (F : Nat → Int) (d e : Nat → Int) (i : Nat) (h : sv F 20 + 0 * 65536 ^ (i + 12) = sv d i * sv e 8 + d i * 65536 ^ i * sv e (min 12 8)) : sv F 20 = sv d (i + 1) * sv e 8 := by
  rw [show min 12 8 = 8 from rfl] at h
  have e1 : sv d (i + 1) = sv d i + d i * 65536 ^ i := rfl
  rw [e1, Int.add_mul]
  generalize sv e 8 = E at *
  omega

set_option maxHeartbeats 4000000 in
set_option maxRecDepth 100000 in
theorem rtimes_any (d e : Nat → Int) (w : World) (hd : Digs d) (he : Digs e) :
    Calls Tryz.prog 30 #[.agg (dl d).toArray, .agg (dl e).toArray] w fun x w' => ∃ F, x = .returned (.agg (dl F).toArray) ∧ Digs F ∧ sv F 20 = sv d 8 * sv e 8 ∧ Below w.heap.size w w' := by
  go_enter Tryz.func30, Tryz.ntmps30
  go_wp2
  go_loopw [6] (fun s6 wr => ∃ (i : Nat) (F : Nat → Int), i ≤ 8 ∧ s6 = .int .i64 i ∧ Digs F ∧ Hid (sv F 20 = sv d i * sv e 8) ∧ Hid (∀ j, i + 8 ≤ j → F j = 0) ∧
      Tab wr (w.heap.size + 1 + 1 + 1) F ∧ Tab wr w.heap.size d ∧ Tab wr (w.heap.size + 1) e ∧ (∃ G, Tab wr (w.heap.size + 1 + 1) G) ∧ w.heap.size + 4 ≤ wr.heap.size ∧ Below w.heap.size w wr) (fun s6 _ => 8 - (intOf s6).toNat)
  case atStart =>
    refine ⟨0, fun _ => 0, by omega, rfl, zero_digs, ?_, fun _ _ => rfl, Tab.zeros _ _ _ (by simp), ?_, ?_, ⟨_, (Tab.zeros _ _ _ (by simp)).alloc _ (by simp)⟩, by simp, by go_grown⟩
    · unfold Hid; simp [sv]
    · exact (((Tab.new w d _).alloc _ (by simp)).alloc _ (by first | (simp; done) | (simp; omega))).alloc _ (by first | (simp; done) | (simp; omega))
    · exact ((Tab.new_at _ e _ _ (by simp)).alloc _ (by simp)).alloc _ (by first | (simp; done) | (simp; omega))
  case round =>
    obtain ⟨i, F, hi, rfl, hF, HS0, HZ, HF, HD, HE, ⟨G, HG⟩, hsz, HB⟩ := hrel
    by_cases hlt : i < 8
    · have m0 : (0 : Int) ≤ (i : Int) := by omega
      have m1 : (i : Int) < 8 := by omega
      go_wp2
      go_loopw [7, 8] (fun s7 s8 wq => ∃ (k : Nat) (c : Int) (F' : Nat → Int), k ≤ 12 ∧ s7 = .int .u64 c ∧ s8 = .int .i64 k ∧ 0 ≤ c ∧ c < 65536 ∧ Digs F' ∧ Hid (9 ≤ k → c = 0) ∧
          Hid (∀ j, i + 9 ≤ j → F' j = 0) ∧ Hid (k ≤ 8 → F' (i + 8) = 0) ∧ Hid (sv F' 20 + c * 65536 ^ (i + k) = sv d i * sv e 8 + d i * 65536 ^ i * sv e (min k 8)) ∧
          Tab wq (w.heap.size + 1 + 1 + 1) F' ∧ Tab wq w.heap.size d ∧ Tab wq (w.heap.size + 1) e ∧ (∃ G, Tab wq (w.heap.size + 1 + 1) G) ∧ w.heap.size + 4 ≤ wq.heap.size ∧ Below w.heap.size w wq) (fun _ s8 _ => 12 - (intOf s8).toNat)
      case atStart =>
        refine ⟨0, 0, F, by omega, rfl, rfl, by omega, by omega, hF, fun h => rfl, fun j hj => HZ.out j (by omega), fun _ => HZ.out (i + 8) (by omega), ?_, HF, HD, HE, ⟨G, HG⟩, hsz, HB⟩
        unfold Hid; rw [HS0.out]; simp [sv]
      case round =>
        obtain ⟨k, c, F', hk, rfl, rfl, c0, c1, hF', HC, HZ9, HZ8, HS, HT, HD', HE', ⟨G', HG'⟩, hsz', HB'⟩ := hrel
        have n0 : (0 : Int) ≤ (k : Int) := by omega
        by_cases hk12 : k < 12
        · have n1 : (k : Int) < 12 := by omega
          have n2 : (i : Int) + (k : Int) < 20 := by omega
          have n3 : (0 : Int) ≤ (i : Int) + (k : Int) := by omega
          have cf := (HT (i + k) (by omega)).1
          have ff := (HT (i + k) (by omega)).2
          have fb := hF' (i + k)
          by_cases h8 : k < 8
          · have n4 : (k : Int) < 8 := by omega
            have m20 : (i : Int) < 20 := by omega
            have k20 : (k : Int) < 20 := by omega
            have cd := (HD' i (by omega)).1
            have ce := (HE' k (by omega)).1
            have pb := prod_bd (d i) (e k) (hd i).1 (hd i).2 (he k).1 (he k).2
            go_wp2_with (fail)
            go_quiet (fail)
            go_wp2
            go_roundw
            case rel =>
              go_light
              exact ⟨k + 1, _, upd F' (i + k) ((F' (i + k) + c + d i * e k) % 65536), by omega, rfl, by go_num, by omega, by omega, upd_digs F' hF' _ _ (by omega) (by omega), fun h => by omega,
                fun j hj => (by unfold upd; rw [if_neg (by omega)]; exact HZ9.out j hj), fun _ => (by unfold upd; rw [if_neg (by omega)]; exact HZ8.out (by omega)),
                row_step F' _ (d i) c (d i * e k) _ e i k (by omega) rfl (Or.inl ⟨h8, rfl⟩) HS.out, (HT.drewN _).set (by omega) _, (HD'.drewN _).other _ _ (by first | (simp; done) | (simp; omega)), (HE'.drewN _).other _ _ (by first | (simp; done) | (simp; omega)), ⟨G', (HG'.drewN _).other _ _ (by first | (simp; done) | (simp; omega))⟩, by simp; omega, (below_drewN HB' _).setCell (by first | (simp; done) | (simp; omega)) _⟩
            case measure => simp [intOf]; omega
          · have n4 : ¬ (k : Int) < 8 := by omega
            go_wp2
            go_roundw
            case rel =>
              go_light
              have z : k = 8 ∧ F' (i + k) = 0 ∨ c = 0 ∧ F' (i + k) = 0 := by
                by_cases e8 : k = 8
                · subst e8; exact Or.inl ⟨rfl, HZ8.out (by omega)⟩
                · exact Or.inr ⟨HC.out (by omega), HZ9.out (i + k) (by omega)⟩
              exact ⟨k + 1, _, upd F' (i + k) ((F' (i + k) + c) % 65536), by omega, rfl, by go_num, by omega, by omega, upd_digs F' hF' _ _ (by omega) (by omega), fun h => (by omega),
                fun j hj => (by
                  unfold upd
                  by_cases ej : j = i + k
                  · rw [if_pos ej]; omega
                  · rw [if_neg ej]; exact HZ9.out j hj), fun h => (by omega),
                row_step F' _ (d i) c 0 _ e i k (by omega) (by omega) (Or.inr ⟨by omega, rfl⟩) HS.out, HT.set (by omega) _, HD'.other _ _ (by first | (simp; done) | (simp; omega)), HE'.other _ _ (by first | (simp; done) | (simp; omega)), ⟨G', HG'.other _ _ (by first | (simp; done) | (simp; omega))⟩, by simp; omega, HB'.setCell (by first | (simp; done) | (simp; omega)) _⟩
            case measure => simp [intOf]; omega
        · obtain rfl : k = 12 := by omega
          go_wp2
          go_roundw
          case rel =>
            go_light
            have cz : c = 0 := HC.out (by omega)
            subst cz
            exact ⟨i + 1, F', by omega, by go_num, hF', row_end F' d e i HS.out, fun j hj => HZ9.out j (by omega), HT, HD', HE', ⟨G', HG'⟩, hsz', HB'⟩
          case measure => simp [intOf]; omega
    · obtain rfl : i = 8 := by omega
      have HF8 := HF
      clear HD HE HZ HF
      have HR := Tab.range (HF8)
      have HT' : World.there wr (w.heap.size + 1 + 1) 0 (dl (F)).toArray.size := by rw [dl_size]; exact Tab.there (HG)
      have HS := World.rangeAt_setCells_same wr (w.heap.size + 1 + 1) 0 (dl (F)) (by rw [dl_len]; exact Tab.there (HG))
      go_upto_region 14 with (fail)
      refine wp_region_lit ?_
      refine wpList_load_mid rfl _ _ rfl (w.heap.size + 1 + 1 + 1) 0 rfl (dl (F)) _ HR Tryz.underlying63 rfl (by rw [dl_len]; exact dig_info) ?_
      simp only [Act.put, List.setIfInBounds_toArray, List.set_cons_zero, List.set_cons_succ]
      refine wpList_store_mid rfl _ _ _ rfl (w.heap.size + 1 + 1) 0 (dl (F)).toArray rfl rfl HT' (by rw [dl_size]; exact dig_info) (dl_one _) ?_
      have HB' := below_setCells (w.heap.size + 1 + 1) (by omega) (dl (F)).toArray.toList 0 HB
      rw [List.toList_toArray] at HB' ⊢
      generalize World.setCells wr (w.heap.size + 1 + 1) 0 (dl (F)) = W' at HS HB' ⊢
      go_wp2
      refine bodyPost_ret (v := .agg (dl (F)).toArray) ?_ rfl ⟨F, rfl, hF, HS0.out, HB'⟩
      have hl := run_loadVar_mid W' (w.heap.size + 1 + 1) 0 63 (dl (F)) _ HS Tryz.underlying63 rfl (by rw [dl_len]; exact dig_info)
      simp [results, Tryz.results30, Act.put, asAddr, hl]

end Go.Proofs.YtpbgolcimbjekaaGreatDoor
