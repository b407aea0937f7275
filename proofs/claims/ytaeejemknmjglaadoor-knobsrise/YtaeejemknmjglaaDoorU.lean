/-
  Contracts of the document's own answers for layer 1 (numbers as twenty digits of sixteen bits) at this program: Of, Minus. Conditions: words lie below 2^64, digits below 2^16.
-/
import Derived.Test.YtaeejemknmjglaaDoorT
namespace Go.Proofs.YtaeejemknmjglaaDoor
open Go.RowKit

/-- The digits behind k rounds of Of. -/
def ok (ah al : Int) (k i : Nat) : Int := if (i < 4 ∧ i < k) ∨ (4 ≤ i ∧ i < 8 ∧ i < 4 + k) then od ah al i else 0
theorem ok_next (ah al : Int) (k : Nat) (hk : k < 4) (i : Nat) : upd (upd (ok ah al k) k (od ah al k)) (4 + k) (od ah al (4 + k)) i = ok ah al (k + 1) i := by
  unfold upd ok
  by_cases e1 : i = 4 + k
  · subst e1; rw [if_pos rfl, if_pos (by omega)]
  · rw [if_neg e1]
    by_cases e2 : i = k
    · subst e2; rw [if_pos rfl, if_pos (by omega)]
    · rw [if_neg e2]
      by_cases c : (i < 4 ∧ i < k) ∨ (4 ≤ i ∧ i < 8 ∧ i < 4 + k)
      · rw [if_pos c, if_pos (by omega)]
      · rw [if_neg c, if_neg (by omega)]
theorem ok_all (ah al : Int) (i : Nat) : ok ah al 4 i = od ah al i := by
  unfold ok
  by_cases c : (i < 4 ∧ i < 4) ∨ (4 ≤ i ∧ i < 8 ∧ i < 4 + 4)
  · rw [if_pos c]
  · rw [if_neg c]; unfold od; rw [if_neg (by omega), if_neg (by omega)]
theorem od_low (ah al : Int) (k : Nat) (hk : k < 4) : od ah al k = al / 65536 ^ k % 65536 := by unfold od; rw [if_pos hk]
theorem od_up (ah al : Int) (k : Nat) (hk : k < 4) : od ah al (4 + k) = ah / 65536 ^ k % 65536 := by unfold od; rw [if_neg (by omega), if_pos (by omega), show 4 + k - 4 = k by omega]
theorem div16 (V : Int) (j : Nat) : V / 65536 ^ j / 65536 = V / 65536 ^ (j + 1) := by
  rw [Int.pow_succ, Int.ediv_ediv_of_nonneg (Int.pow_nonneg (by omega))]

set_option maxHeartbeats 4000000 in
set_option maxRecDepth 100000 in
theorem rof_any (ah al : Int) (w : World) (a0 : 0 ≤ al) (a1 : al < 18446744073709551616) (a2 : 0 ≤ ah) (a3 : ah < 18446744073709551616) :
    Calls Tryd.prog 55 #[.agg #[.int .u64 ah, .int .u64 al]] w fun x w' => x = .returned (.agg (dl (od ah al)).toArray) ∧ Below w.heap.size w w' := by
  go_enter Tryd.func55, Tryd.ntmps55
  go_wp2
  go_loopw [4] (fun s4 wr => ∃ (k : Nat) (x y : Int), k ≤ 4 ∧ s4 = .int .i64 k ∧ Hid (x = ah / 65536 ^ k) ∧ Hid (y = al / 65536 ^ k) ∧ 0 ≤ x ∧ x < 18446744073709551616 ∧ 0 ≤ y ∧ y < 18446744073709551616 ∧
      wr.cell? ⟨w.heap.size, 0, none⟩ = some (.int .u64 x) ∧ wr.cell? ⟨w.heap.size, 1, none⟩ = some (.int .u64 y) ∧ wr.frozen? ⟨w.heap.size, 0, none⟩ = false ∧ wr.frozen? ⟨w.heap.size, 1, none⟩ = false ∧
      Tab wr (w.heap.size + 1 + 1) (ok ah al k) ∧ (∃ G, Tab wr (w.heap.size + 1) G) ∧ w.heap.size + 3 ≤ wr.heap.size ∧ Below w.heap.size w wr) (fun s4 _ => 4 - (intOf s4).toNat)
  case atStart =>
    refine ⟨0, ah, al, by omega, rfl, by unfold Hid; simp, by unfold Hid; simp, a2, a3, a0, a1, by simp [go_sem], by simp [go_sem], by simp [go_sem], by simp [go_sem], ?_, ⟨_, (Tab.zeros _ _ _ (by simp)).alloc _ (by simp)⟩, by simp, by go_grown⟩
    exact (Tab.zeros _ _ _ (by simp)).congr (fun j _ => by unfold ok; rw [if_neg (by omega)])
  case round =>
    obtain ⟨k, x, y, hk, rfl, HX, HY, x0, x1, y0, y1, c0, c1, f0, f1, HD, ⟨G, HG⟩, hsz, HB⟩ := hrel
    by_cases hlt : k < 4
    · have c2 := (HD k (by omega)).1
      have f2 := (HD k (by omega)).2
      have c3 := (HD (4 + k) (by omega)).1
      have f3 := (HD (4 + k) (by omega)).2
      have m0 : (0 : Int) ≤ (k : Int) := by omega
      have m1 : (k : Int) < 4 := by omega
      have n1 : ¬ w.heap.size + 1 + 1 = w.heap.size := by omega
      have n2 : ¬ w.heap.size = w.heap.size + 1 + 1 := by omega
      go_wp2
      go_roundw
      case rel =>
        go_light
        refine ⟨k + 1, x / 65536, y / 65536, by omega, by go_num, ?_, ?_, by omega, by omega, by omega, by omega, by simp [go_sem, c0], by simp [go_sem, c1], by simp [go_sem, f0], by simp [go_sem, f1], ?_, ⟨G, ?_⟩, by simp; omega, ?_⟩
        · unfold Hid; rw [HX.out, div16]
        · unfold Hid; rw [HY.out, div16]
        · refine Tab.congr (((((HD.set (k := k) (by omega) (y % 65536)).set (k := 4 + k) (by omega) (x % 65536)).other _ _ (by first | (simp; done) | (simp; omega))).other _ _ (by first | (simp; done) | (simp; omega)))) (fun j _ => ?_)
          rw [← ok_next ah al k hlt, od_low ah al k hlt, od_up ah al k hlt, HX.out, HY.out]
        · exact (((HG.other _ _ (by first | (simp; done) | (simp; omega))).other _ _ (by first | (simp; done) | (simp; omega))).other _ _ (by first | (simp; done) | (simp; omega))).other _ _ (by first | (simp; done) | (simp; omega))
        · exact ((((HB.setCell (by simp; omega) _).setCell (by simp; omega) _).setCell (by simp) _).setCell (by simp) _)
      case measure => simp [intOf]; omega
    · obtain rfl : k = 4 := by omega
      have HD4 := HD.congr (G := od ah al) (fun j _ => ok_all ah al j)
      clear HD c0 c1 f0 f1
      have HR := Tab.range (HD4)
      have HT' : World.there wr (w.heap.size + 1) 0 (dl (od ah al)).toArray.size := by rw [dl_size]; exact Tab.there (HG)
      have HS := World.rangeAt_setCells_same wr (w.heap.size + 1) 0 (dl (od ah al)) (by rw [dl_len]; exact Tab.there (HG))
      go_upto_region 9 with (fail)
      refine wp_region_lit ?_
      refine wpList_load_mid rfl _ _ rfl (w.heap.size + 1 + 1) 0 rfl (dl (od ah al)) _ HR Tryd.underlying88 rfl (by rw [dl_len]; exact dig_info) ?_
      simp only [Act.put, List.setIfInBounds_toArray, List.set_cons_zero, List.set_cons_succ]
      refine wpList_store_mid rfl _ _ _ rfl (w.heap.size + 1) 0 (dl (od ah al)).toArray rfl rfl HT' (by rw [dl_size]; exact dig_info) (dl_one _) ?_
      have HB' := below_setCells (w.heap.size + 1) (by omega) (dl (od ah al)).toArray.toList 0 HB
      rw [List.toList_toArray] at HB' ⊢
      generalize World.setCells wr (w.heap.size + 1) 0 (dl (od ah al)) = W' at HS HB' ⊢
      go_wp2
      refine bodyPost_ret (v := .agg (dl (od ah al)).toArray) ?_ rfl ⟨rfl, HB'⟩
      have hl := run_loadVar_mid W' (w.heap.size + 1) 0 88 (dl (od ah al)) _ HS Tryd.underlying88 rfl (by rw [dl_len]; exact dig_info)
      simp [results, Tryd.results55, Act.put, asAddr, hl]

end Go.Proofs.YtaeejemknmjglaaDoor
