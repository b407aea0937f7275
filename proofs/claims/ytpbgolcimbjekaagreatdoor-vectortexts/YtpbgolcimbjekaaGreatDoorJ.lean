/-
  The contract of package wide's Text at this program: the number's digits, without a nought ahead of others. Conditions: both words lie below 2^64.
-/
import Derived.Test.YtpbgolcimbjekaaGreatDoorG
import Derived.Laws.BytesString
namespace Go.Proofs.YtpbgolcimbjekaaGreatDoor
open Go.RowKit

/-- What lies in place i of the table of digits behind j rounds. -/
def dg (V : Int) (j i : Nat) : Int := if 39 ≤ i + j then 48 + V / 10 ^ (38 - i) % 10 else 0

theorem dg_new (V : Int) (j m : Nat) (h : j + m = 38) : dg V (j + 1) m = 48 + V / 10 ^ j % 10 := by
  unfold dg
  rw [if_pos (by omega), show 38 - m = j by omega]
theorem dg_old (V : Int) (j m i : Nat) (h : j + m = 38) (hi : i ≠ m) : dg V (j + 1) i = dg V j i := by
  unfold dg
  by_cases c : 39 ≤ i + j
  · rw [if_pos c, if_pos (by omega)]
  · rw [if_neg c, if_neg (by omega)]
theorem dg_wrap (r : Int) (r0 : 0 ≤ r) (r1 : r < 10) : IntKind.u8.wrap (48 + IntKind.u8.wrap r) = 48 + r := by
  simp only [IntKind.wrap_u8]; omega
theorem div_step (V : Int) (j : Nat) : V / 10 ^ j / 10 = V / 10 ^ (j + 1) := by
  rw [Int.pow_succ, Int.ediv_ediv_of_nonneg (Int.pow_nonneg (by omega))]

theorem short39 (V : Int) (j : Nat) (_V0 : 0 ≤ V) (V1 : V < 340282366920938463463374607431768211456) (h : V / 10 ^ (j + 1) ≠ 0) : j + 1 ≤ 38 := by
  refine Decidable.byContradiction fun hn => h ?_
  have p : ∀ k : Nat, (10 : Int) ^ k = ((10 ^ k : Nat) : Int) := fun k => by simp
  have a : 10 ^ 39 ≤ 10 ^ (j + 1) := Nat.pow_le_pow_right (by omega) (by omega)
  rw [p]
  exact Int.ediv_eq_zero_of_lt _V0 (by omega)
theorem zeros39 (V : Int) (i : Nat) (hi : i < 39) : (Array.replicate 39 (Value.int IntKind.u8 0))[i]? = some (Value.int IntKind.u8 (dg V 0 i)) := by
  rw [Array.getElem?_replicate, if_pos hi]
  unfold dg
  rw [if_neg (by omega)]

/-- The n last digits of a number, the greatest first; and the text that they are. -/
def dsl (V : Int) (n : Nat) : List Int := (List.range n).map fun t => 48 + V / 10 ^ (n - 1 - t) % 10
def tx (V : Int) (n : Nat) : ByteArray := (dsl V n).foldl (fun r d => r.push (UInt8.ofNat d.toNat)) ByteArray.empty

theorem arr39 : Tryz.prog.arrayLen 119 = 39 := by kernel_rfl

set_option maxRecDepth 100000 in
theorem conv_text (wx : World) (B m j : Nat) (V : Int) (jm : j + m = 38) (hc : ∀ i, i < 39 → wx.cell? ⟨B, i, none⟩ = some (.int .u8 (dg V (j + 1) i))) :
    (convert 77 9 (.slice (some ⟨B, m, none⟩) (39 - m) (39 - m))).run Tryz.prog wx = .ok (.string (tx V (j + 1))) wx := by
  rw [run_convert_bytes_string wx _ _ _ _ _ _ Tryz.underlying77 Tryz.underlying5 Tryz.underlying9]
  have e : 39 - m = j + 1 := by omega
  rw [e]
  refine run_bytesToString wx _ _ _ (dsl V (j + 1)) ?_
  have ha : ∀ t, t < j + 1 → wx.cell? ((⟨B, m, none⟩ : Addr).add t) = some (.int .u8 (dg V (j + 1) (m + t))) := by
    intro t ht
    have h := hc (m + t) (by omega)
    rcases Nat.eq_zero_or_pos t with rfl | hp
    · simpa [Addr.add] using h
    · simpa [Addr.add, Nat.ne_of_gt hp] using h
  rw [run_loadCells (w := wx) (P := Tryz.prog) ⟨B, m, none⟩ (j + 1) (fun t => .int .u8 (dg V (j + 1) (m + t))) ha]
  congr 2
  unfold dsl
  rw [List.map_map]
  refine List.map_congr_left fun t ht => ?_
  have := List.mem_range.1 ht
  simp only [Function.comp]
  unfold dg
  rw [if_pos (by omega), show 38 - (m + t) = j + 1 - 1 - t by omega]

set_option maxHeartbeats 2000000 in
set_option maxRecDepth 100000 in
theorem text_any (ah al : Int) (w : World) (a0 : 0 ≤ al) (a1 : al < 18446744073709551616) (a2 : 0 ≤ ah) (a3 : ah < 18446744073709551616) :
    Calls Tryz.prog 65 #[.agg #[.int .u64 ah, .int .u64 al]] w fun e w' =>
      ∃ n : Nat, e = .returned (.string (tx (ah * 18446744073709551616 + al) n)) ∧ 1 ≤ n ∧ n ≤ 39 ∧ (n ≠ 1 → (ah * 18446744073709551616 + al) / 10 ^ (n - 1) ≠ 0) ∧ (ah * 18446744073709551616 + al) / 10 ^ n = 0 ∧ Below w.heap.size w w' := by
  generalize hV : ah * 18446744073709551616 + al = V
  have V0 : 0 ≤ V := by omega
  have V1 : V < 340282366920938463463374607431768211456 := by omega
  have HV : Hid _ := hV
  clear hV
  go_enter Tryz.func65, Tryz.ntmps65
  go_wp2
  go_loopw [4, 10] (fun f i wr => ∃ (j m : Nat) (h l : Int), j + m = 38 ∧ f = .int .i64 ((m : Int) + 1) ∧ i = .int .i64 j ∧ 0 ≤ h ∧ h < 18446744073709551616 ∧ 0 ≤ l ∧ l < 18446744073709551616 ∧
      Hid (h * 18446744073709551616 + l = V / 10 ^ j) ∧ Hid (j ≠ 0 → V / 10 ^ j ≠ 0) ∧
      wr.cell? ⟨w.heap.size + 1 + 1, 0, none⟩ = some (.int .u64 h) ∧ wr.cell? ⟨w.heap.size + 1 + 1, 1, none⟩ = some (.int .u64 l) ∧ wr.frozen? ⟨w.heap.size + 1 + 1, 0, none⟩ = false ∧ wr.frozen? ⟨w.heap.size + 1 + 1, 1, none⟩ = false ∧
      Hid (∀ i, i < 39 → wr.cell? ⟨w.heap.size + 1, i, none⟩ = some (.int .u8 (dg V j i))) ∧ Hid (∀ i, i < 39 → wr.frozen? ⟨w.heap.size + 1, i, none⟩ = false) ∧
      w.heap.size + 3 ≤ wr.heap.size ∧ Below w.heap.size w wr) (fun _ i _ => 39 - (intOf i).toNat)
  case atStart =>
    refine ⟨0, 38, ah, al, rfl, by go_num, rfl, a2, a3, a0, a1, ?_, ?_, by simp [go_sem], by simp [go_sem], by simp [go_sem], by simp [go_sem], ?_, ?_, by simp, by go_grown⟩
    · unfold Hid; rw [HV.out]; simp
    · unfold Hid; simp
    · unfold Hid; intro i hi
      rw [World.cell?_alloc_past _ _ _ (by simp), World.cell?_alloc_at _ _ _ _ (by simp)]
      exact zeros39 V i hi
    · unfold Hid; intro i hi
      simp [go_sem]
  case round =>
    obtain ⟨j, m, h, l, jm, rfl, rfl, k0, k1, k2, k3, HL, HN, c0, c1, f0, f1, HC, HF, hsz, HB⟩ := hrel
    have z1 : w.heap.size + 1 < wr.heap.size := by omega
    have z2 : w.heap.size + 1 + 1 < wr.heap.size := by omega
    have cm := HC.out m (by omega)
    have fm := HF.out m (by omega)
    go_wp2_with (fail)
    refine (by_any h l 10 _ k2 k3 k0 k1 (by omega) (by omega)).mono ?_
    rintro e w1 ⟨h1, l1, r, rfl, ⟨n0, n1, n2, n3⟩, q1, q2, hw1⟩
    rw [HL.out] at q1 q2
    have r0 : 0 ≤ r := by rw [q2]; exact Int.emod_nonneg _ (by omega)
    have r1 : r < 10 := by rw [q2]; exact Int.emod_lt_of_pos _ (by omega)
    rw [div_step] at q1
    have Q1 : Hid (h1 * 18446744073709551616 + l1 = V / 10 ^ (j + 1)) := q1
    have Q2 : Hid (48 + r = dg V (j + 1) m) := by unfold Hid; rw [dg_new V j m jm, q2]
    clear q1 q2
    have g0 := cell_later hw1 c0
    have g1 := cell_later hw1 c1
    have gm := cell_later hw1 cm
    obtain ⟨HB1, hc1, hf1, hs1⟩ := aft hw1 HB (by omega)
    clear hw1
    have i0 := (hf1 _ 0 z2).trans f0
    have i1 := (hf1 _ 1 z2).trans f1
    have im := (hf1 _ m z1).trans fm
    have y1 : w.heap.size + 1 < w1.heap.size := by omega
    have y2 : w.heap.size + 1 + 1 < w1.heap.size := by omega
    have HC1 : Hid (∀ i, i < 39 → (w1.setCell ⟨w.heap.size + 1, m, none⟩ (.int .u8 (48 + r))).cell? ⟨w.heap.size + 1, i, none⟩ = some (.int .u8 (dg V (j + 1) i))) := by
      intro i hi
      by_cases e : i = m
      · subst e; rw [World.cell?_setCell_same _ _ _ gm, Q2.out]
      · rw [World.cell?_setCell_other _ _ _ _ (by intro hh; exact e (by injection hh with _ h2 _; exact h2.symm)), (hc1 _ i z1).trans (HC.out i hi), dg_old V j m i jm e]
    have HF1 : Hid (∀ i, i < 39 → w1.frozen? ⟨w.heap.size + 1, i, none⟩ = false) := fun i hi => (hf1 _ i z1).trans (HF.out i hi)
    clear hc1 hf1 HB f0 f1 fm c0 c1 cm HC HF
    by_cases hz : h1 = 0 ∧ l1 = 0
    · obtain ⟨rfl, rfl⟩ := hz
      have hsl : ∀ wx, (Instr.sliceAt 119 (.pointer (some ⟨w.heap.size + 1, 0, none⟩)) (some (.int .i64 (m : Int))) (some (.int .i64 39)) (some (.int .i64 39))).run Tryz.prog wx = .ok (.slice (some ⟨w.heap.size + 1, m, none⟩) (39 - m) (39 - m)) wx := by
        intro wx
        rw [run_sliceAt_array_lhm wx 119 _ Tryz.underlying119 _ _ _ _ _ _ (by omega) (by omega) (by omega) (by rw [arr39]; omega)]
        simp [go_sem]
        omega
      have hcv := conv_text ((w1.setCell ⟨w.heap.size + 1, m, none⟩ (.int .u8 (48 + r))).alloc (.cells #[.int .u64 0, .int .u64 0] 42)) (w.heap.size + 1) m j V jm (fun i hi => (World.cell?_alloc_past _ _ _ (by simpa using y1)).trans (HC1.out i hi))
      go_wp2
      go_ret
      refine ⟨j + 1, rfl, by omega, by omega, ?_, ?_, by go_grown⟩
      · intro hn; exact HN.out (by omega)
      · rw [← Q1.out]; rfl
    · have NZ : V / 10 ^ (j + 1) ≠ 0 := by rw [← Q1.out]; omega
      have lim := short39 V j V0 V1 NZ
      obtain ⟨m', rfl⟩ : ∃ m', m = m' + 1 := ⟨m - 1, by omega⟩
      have HZ : Hid _ := NZ
      clear NZ
      by_cases hz1 : h1 = 0
      · have hz2 : ¬ l1 = 0 := fun h => hz ⟨hz1, h⟩
        clear hz
        subst hz1
        go_wp2
        go_roundw
        case rel =>
          refine ⟨j + 1, m', 0, l1, by omega, by go_num, by go_num, n0, n1, n2, n3, Q1, fun _ => HZ.out, by simp [go_sem, y2, g0], by simp [go_sem, y2, g1], by simp [go_sem, y2, i0], by simp [go_sem, y2, i1], ?_, ?_, by simp; omega, by go_grown⟩
          · unfold Hid; intro i hi
            have := HC1.out i hi
            simp [go_sem, y1, this]
          · unfold Hid; intro i hi
            have := HF1.out i hi
            simp [go_sem, y1, this]
        case measure => simp [intOf]; omega
      · clear hz
        go_wp2
        go_roundw
        case rel =>
          refine ⟨j + 1, m', h1, l1, by omega, by go_num, by go_num, n0, n1, n2, n3, Q1, fun _ => HZ.out, by simp [go_sem, y2, g0], by simp [go_sem, y2, g1], by simp [go_sem, y2, i0], by simp [go_sem, y2, i1], ?_, ?_, by simp; omega, by go_grown⟩
          · unfold Hid; intro i hi
            have := HC1.out i hi
            simp [go_sem, y1, this]
          · unfold Hid; intro i hi
            have := HF1.out i hi
            simp [go_sem, y1, this]
        case measure => simp [intOf]; omega

end Go.Proofs.YtpbgolcimbjekaaGreatDoor
