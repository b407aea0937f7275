/-
  Contracts of Uint, and of the document's own Text, at this program. Conditions: words lie below 2^64.
-/
import Derived.Test.YtaeejemknmjglaaDoorJ
import Derived.Test.YtaeejemknmjglaaDoorTE
import Derived.ChangeKeysEq
import Derived.Deep.RegionHeld3
import Derived.Deep.RegionWith
import Derived.Deep.CutRange
import Derived.Deep.DeepCutAuto
namespace Go.Proofs.YtaeejemknmjglaaDoor
open Go.RowKit

theorem dsl_succ (V : Int) (n : Nat) : dsl V (n + 1) = (48 + V / 10 ^ n % 10) :: dsl V n := by
  unfold dsl
  rw [List.range_succ_eq_map, List.map_cons, List.map_map]
  refine List.cons_eq_cons.2 ⟨by simp, List.map_congr_left fun t ht => ?_⟩
  have := List.mem_range.1 ht
  simp only [Function.comp]
  rw [show n + 1 - 1 - Nat.succ t = n - 1 - t by omega]
theorem push_all (l : List Int) : ∀ acc : ByteArray, l.foldl (fun r d => r.push (UInt8.ofNat d.toNat)) acc = ⟨acc.data ++ (l.map fun d => UInt8.ofNat d.toNat).toArray⟩ := by
  induction l with
  | nil => intro acc; simp
  | cons d l ih =>
    intro acc
    rw [List.foldl_cons, ih]
    simp [ByteArray.push]
theorem tx_is (V : Int) (n : Nat) : tx V n = ⟨((dsl V n).map fun d => UInt8.ofNat d.toNat).toArray⟩ := by
  unfold tx
  rw [push_all]
  rw [show ByteArray.empty.data = #[] from rfl, Array.empty_append]
theorem tx_zero (V : Int) : tx V 0 = ⟨#[]⟩ := rfl
theorem tx_succ (V : Int) (n : Nat) : tx V (n + 1) = (⟨#[UInt8.ofNat (48 + V / 10 ^ n % 10).toNat]⟩ : ByteArray) ++ tx V n := by
  rw [tx_is, tx_is, dsl_succ]
  refine ByteArray.ext ?_
  rw [ByteArray.data_append]
  simp
theorem tx_size (V : Int) (n : Nat) : (tx V n).size = n := by
  rw [tx_is]
  simp [ByteArray.size, dsl]

/-- Digits of a quotient by ten, one by one from above. -/
theorem long_div (V : Int) (i : Nat) (V0 : 0 ≤ V) : (V / 65536 ^ (i + 1) % 10 * 65536 + wd V i) / 10 = wd (V / 10) i ∧ (V / 65536 ^ (i + 1) % 10 * 65536 + wd V i) % 10 = V / 65536 ^ i % 10 := by
  unfold wd
  have e1 : V / 10 / 65536 ^ i = V / 65536 ^ i / 10 := by rw [Int.ediv_ediv_of_nonneg (by omega), Int.ediv_ediv_of_nonneg (Int.pow_nonneg (by omega)), Int.mul_comm]
  rw [e1, Int.pow_succ, ← Int.ediv_ediv_of_nonneg (Int.pow_nonneg (by omega))]
  have x0 : 0 ≤ V / 65536 ^ i := Int.ediv_nonneg V0 (Int.pow_nonneg (by omega))
  generalize V / 65536 ^ i = X at *
  omega
/-- The digits while a number is divided: above k those of the quotient. -/
def part (V : Int) (k i : Nat) : Int := if i < k then wd V i else wd (V / 10) i
theorem part_top (V : Int) (i : Nat) (h : i < 20) : part V 20 i = wd V i := by unfold part; rw [if_pos h]
theorem part_end (V : Int) (i : Nat) : part V 0 i = wd (V / 10) i := by unfold part; rw [if_neg (by omega)]
theorem part_at (V : Int) (k : Nat) : part V (k + 1) k = wd V k := by unfold part; rw [if_pos (by omega)]
theorem part_next (V : Int) (k i : Nat) : upd (part V (k + 1)) k (wd (V / 10) k) i = part V k i := by
  unfold upd part
  by_cases e : i = k
  · subst e; rw [if_pos rfl, if_neg (by omega)]
  · rw [if_neg e]
    by_cases c : i < k
    · rw [if_pos (by omega), if_pos c]
    · rw [if_neg (by omega), if_neg c]
theorem tx_full (V : Int) (n : Nat) : (tx V (n + 1)).toList.isEmpty = false := by
  rw [ByteArray.toList_eq, tx_is, dsl_succ]
  rfl
theorem conv_one (wx : World) (B : Nat) (x : Int) (hc : wx.cell? ⟨B, 0, none⟩ = some (.int .u8 x)) :
    (convert 74 9 (.slice (some ⟨B, 0, none⟩) 1 1)).run Tryd.prog wx = .ok (.string ⟨#[UInt8.ofNat x.toNat]⟩) wx := by
  rw [run_convert_bytes_string wx _ _ _ _ _ _ Tryd.underlying74 Tryd.underlying5 Tryd.underlying9]
  refine run_bytesToString wx _ _ _ [x] ?_
  rw [run_loadCells (w := wx) (P := Tryd.prog) ⟨B, 0, none⟩ 1 (fun _ => .int .u8 x) (fun t ht => by
    obtain rfl : t = 0 := by omega
    simpa [Addr.add] using hc)]
  rfl
def lenOf : Value → Nat
  | .string s => s.size
  | _ => 0

set_option maxHeartbeats 4000000 in
set_option maxRecDepth 100000 in
theorem rtext_any (ah al : Int) (w : World) (a0 : 0 ≤ al) (a1 : al < 18446744073709551616) (a2 : 0 ≤ ah) (a3 : ah < 18446744073709551616) :
    Calls Tryd.prog 58 #[.agg #[.int .u64 ah, .int .u64 al]] w fun e w' =>
      ∃ n : Nat, e = .returned (.string (tx (ah * 18446744073709551616 + al) n)) ∧ 1 ≤ n ∧ n ≤ 39 ∧ (n ≠ 1 → (ah * 18446744073709551616 + al) / 10 ^ (n - 1) ≠ 0) ∧ (ah * 18446744073709551616 + al) / 10 ^ n = 0 ∧ Below w.heap.size w w' := by
  obtain ⟨A, hA⟩ : ∃ A, A = ah * 18446744073709551616 + al := ⟨_, rfl⟩
  have HA : Hid (0 ≤ A ∧ A < 340282366920938463463374607431768211456) := by unfold Hid; omega
  have EA : Hid (A = ah * 18446744073709551616 + al) := hA
  rw [← hA]
  clear hA
  go_enter Tryd.func58, Tryd.ntmps58
  go_upto_region 1 with (fail)
  refine wp_region_lit ?_
  refine wpList_one fun K' hK' => ?_
  rw [if_pos (by rfl)]
  go_simp
  refine hK'.out _ _ ?_
  clear hK' K'
  refine wpList_one fun K' hK' => ?_
  rw [if_pos (by rfl)]
  go_simp
  refine (rof_dv ah al _ a0 a1 a2 a3).mono ?_
  rintro e w2 ⟨rfl, hw2⟩
  rw [← EA.out]
  (try go_wp2_with (fail))
  refine hK'.out _ _ ?_
  clear hK' K'
  obtain ⟨HB1, -, -, s1⟩ := aft hw2 (B := w.heap.size) (W0 := w) (by go_grown) (by first | omega | (simp; done) | (simp; omega))
  clear hw2
  refine wpList_one fun K' hK' => ?_
  rw [if_pos (by rfl)]
  go_simp
  refine hK'.out _ _ ?_
  clear hK' K'
  refine num_store (Num.zeros w2 88 _ rfl) rfl _ _ rfl rfl rfl A rfl ?_
  refine wpList_to' (Pr := fun W => Hid (Num W w2.heap.size A ∧ Below w.heap.size w W)) ⟨(Num.zeros w2 88 _ rfl).put A, below_cells _ (by simp at s1; omega) _ 0 (HB1.alloc (by simp at s1; omega) _)⟩ ?_
  intro W F
  have hp : Hid (w.heap.size ≤ w2.heap.size) := by unfold Hid; simp at s1; omega
  clear HB1 s1
  generalize w2.heap.size = p at F hp ⊢
  go_wp2_with (fail)
  go_loopw [4] (fun s4 wr => ∃ j : Nat, j ≤ 39 ∧ s4 = .string (tx A j) ∧ Hid (j ≤ 1 ∨ A / 10 ^ (j - 1) ≠ 0) ∧ Hid (Num wr p (A / 10 ^ j) ∧ Below w.heap.size w wr)) (fun s4 _ => 40 - lenOf s4)
  case atStart => exact ⟨0, by omega, rfl, Or.inl (by omega), by rw [Int.pow_zero, Int.ediv_one]; exact F⟩
  case round =>
    clear F
    obtain ⟨j, hj, rfl, HN, F⟩ := hrel
    have HV : Hid (0 ≤ A / 10 ^ j ∧ A / 10 ^ j < 65536 ^ 20) := by
      have h1 := Int.ediv_nonneg HA.out.1 (show (0 : Int) ≤ 10 ^ j from Int.pow_nonneg (by omega))
      have h2 := Int.ediv_le_self (10 ^ j) HA.out.1
      have h3 := HA.out
      have h4 := pow20
      exact ⟨h1, by omega⟩
    go_upto_region 3 with (fail)
    go_cut [15] (fun s15 wc => s15 = .bool (decide (j = 0 ∨ ¬ A / 10 ^ j = 0)) ∧ Hid (Num wc p (A / 10 ^ j) ∧ Below w.heap.size w wc))
    case first =>
      rcases j with _ | j
      · rw [tx_zero]
        go_wp2_with (fail)
        go_meet
        case rel => exact ⟨by simp, F⟩
      · have E1 : (tx A (j + 1)).toList.isEmpty = false := tx_full A j
        obtain ⟨V, hV⟩ : ∃ V, V = A / 10 ^ (j + 1) := ⟨_, rfl⟩
        have EV : Hid (V = A / 10 ^ (j + 1)) := hV
        rw [← hV] at F HV
        clear hV HN
        refine wp_region_lit ?_
        refine wpList_one fun K' hK' => ?_
        rw [if_pos (by rfl)]
        go_simp
        refine hK'.out _ _ ?_
        clear hK' K'
        refine wpList_one fun K' hK' => ?_
        rw [if_pos (by rfl)]
        go_simp
        refine hK'.out _ _ ?_
        clear hK' K'
        refine wpList_one fun K' hK' => ?_
        rw [if_pos (by rfl)]
        go_simp
        refine hK'.out _ _ ?_
        clear hK' K'
        refine wpList_one fun K' hK' => ?_
        rw [if_pos (by rfl)]
        refine num_wp_load F.out.1 _ rfl (some 12) rfl rfl ?_
        simp only [Act.put, List.setIfInBounds_toArray, List.set_cons_zero, List.set_cons_succ]
        refine hK'.out _ _ ?_
        clear hK' K'
        refine wpList_one fun K' hK' => ?_
        rw [if_pos (by rfl)]
        go_simp
        refine hK'.out _ _ ?_
        clear hK' K'
        refine wpList_one fun K' hK' => ?_
        rw [if_pos (by rfl)]
        rw [zero_dv]
        unfold dv
        go_simp
        rw [run_equal_dv V 0 _ HV.out.1 HV.out.2 (by omega) (by decide)]
        go_simp
        refine hK'.out _ _ ?_
        clear hK' K'
        go_wp2_with (fail)
        go_meet
        case rel => rw [← EV.out]; exact ⟨by simp, F⟩
    case rest =>
      obtain ⟨rfl, F'⟩ := hcut
      clear F
      by_cases hc : j = 0 ∨ ¬ A / 10 ^ j = 0
      · rw [decide_eq_true hc]
        have hj2 : Hid (j + 1 ≤ 39) := by
          rcases hc with rfl | hc
          · unfold Hid; omega
          · rcases j with _ | j
            · unfold Hid; omega
            · have := short39 A j HA.out.1 HA.out.2 hc
              unfold Hid; omega
        have HC : Hid (j = 0 ∨ A / 10 ^ j ≠ 0) := hc
        obtain ⟨V, hV⟩ : ∃ V, V = A / 10 ^ j := ⟨_, rfl⟩
        have EV : Hid (V = A / 10 ^ j) := hV
        rw [← hV] at F' HV
        clear hV hc HN
        go_wp2_with (fail)
        go_loopw [5, 6] (fun s5 s6 wq => Hid (Below w.heap.size w wq) ∧ Hid (p < wq.heap.size) ∧ ((∃ m : Nat, m < 20 ∧ s6 = .int .i64 m ∧ s5 = .int .u64 (V / 65536 ^ (m + 1) % 10) ∧ Hid (Tab wq p (part V (m + 1)))) ∨ (s6 = .int .i64 (-1) ∧ s5 = .int .u64 (V % 10) ∧ Hid (Tab wq p (wd (V / 10)))))) (fun s5 s6 _ => (intOf s6 + 1).toNat)
        case atStart =>
          refine ⟨F'.out.2, F'.out.1.2.2, Or.inl ⟨19, by omega, rfl, ?_, F'.out.1.tab.congr (fun i hi => (part_top V i hi).symm)⟩⟩
          rw [Int.ediv_eq_zero_of_lt HV.out.1 HV.out.2]
          rfl
        case round =>
          clear F'
          obtain ⟨HB, hpz, ⟨m, hm, rfl, rfl, HT⟩ | ⟨rfl, rfl, HT⟩⟩ := hrel
          · obtain ⟨r, hr⟩ : ∃ r, r = V / 65536 ^ (m + 1) % 10 := ⟨_, rfl⟩
            have ER : Hid (r = V / 65536 ^ (m + 1) % 10) := hr
            have r0 : 0 ≤ r := by rw [hr]; exact Int.emod_nonneg _ (by omega)
            have r1 : r < 10 := by rw [hr]; exact Int.emod_lt_of_pos _ (by omega)
            rw [← hr]
            clear hr
            have cm := (HT.out m hm).1
            have fm := (HT.out m hm).2
            rw [part_at] at cm
            obtain ⟨x, hx⟩ : ∃ x, x = wd V m := ⟨_, rfl⟩
            have EX : Hid (x = wd V m) := hx
            have x0 : 0 ≤ x := by rw [hx]; exact (wd_digs V m).1
            have x1 : x < 65536 := by rw [hx]; exact (wd_digs V m).2
            rw [← hx] at cm
            clear hx
            have m0 : (0 : Int) ≤ (m : Int) := by omega
            have m1 : (m : Int) < 20 := by omega
            go_wp2_with (fail)
            go_roundw
            case rel =>
              have L := long_div V m HV.out.1
              rw [← ER.out, ← EX.out] at L
              rw [L.1, L.2]
              have T2 : Hid (Tab (wr.setCell ⟨p, m, none⟩ (.int .u64 (wd (V / 10) m))) p (part V m)) := (HT.out.set hm _).congr (fun i _ => part_next V m i)
              refine ⟨HB.out.setCell hp.out _, by unfold Hid; simpa using hpz.out, ?_⟩
              rcases m with _ | m
              · exact Or.inr ⟨by simp, by rw [Int.pow_zero, Int.ediv_one], T2.out.congr (fun i _ => part_end V i)⟩
              · exact Or.inl ⟨m, by omega, by go_num, rfl, T2⟩
            case measure => simp [intOf]
          · obtain ⟨r, hr⟩ : ∃ r, r = V % 10 := ⟨_, rfl⟩
            have ER : Hid (r = V % 10) := hr
            have r0 : 0 ≤ r := by rw [hr]; exact Int.emod_nonneg _ (by omega)
            have r1 : r < 10 := by rw [hr]; exact Int.emod_lt_of_pos _ (by omega)
            rw [← hr]
            clear hr
            have hcv := conv_one (wr.alloc (.cells #[.int .u8 (48 + r)] 5)) wr.heap.size (48 + r) (by simp [go_sem])
            have hts := tx_size A j
            have hjj := hj2.out
            go_wp2_with (fail)
            go_roundw
            case rel =>
              have e1 : A / 10 ^ j / 10 = A / 10 ^ (j + 1) := div_step A j
              refine ⟨j + 1, hjj, ?_, ?_, ?_⟩
              · rw [tx_succ, ← EV.out, ← ER.out]
              · rcases HC.out with h | h
                · exact Or.inl (by omega)
                · exact Or.inr (by rw [show j + 1 - 1 = j by omega]; exact h)
              · rw [EV.out, e1] at HT
                have N : Num wr p (A / 10 ^ (j + 1)) := ⟨HT.out.range, HT.out.there, hpz.out⟩
                exact ⟨N.alloc _, HB.out.alloc (by have := hp.out; have := hpz.out; omega) _⟩
            case measure =>
              show 40 - ((⟨#[UInt8.ofNat (48 + r).toNat]⟩ : ByteArray) ++ tx A j).size < 40 - (tx A j).size
              rw [ByteArray.size_append, hts]
              show 40 - (1 + j) < 40 - j
              omega
      · have hj1 : 1 ≤ j ∧ A / 10 ^ j = 0 := by omega
        rw [decide_eq_false hc]
        go_wp2_with (fail)
        go_ret
        exact ⟨j, rfl, hj1.1, hj, fun hn => (by have := HN.out; omega), hj1.2, F'.out.2⟩
end Go.Proofs.YtaeejemknmjglaaDoor
