/-
  Contracts of package amount's power, Text and Binary, at this program. Conditions: the two tables of suffixes lie as the program's text lays them.
-/
import Derived.Test.YtpbgolcimbjekaaGreatDoorQ10
namespace Go.Proofs.YtpbgolcimbjekaaGreatDoor
open Go.RowKit

/-- A text of these letters. -/
def ba (l : List UInt8) : ByteArray := ⟨l.toArray⟩
theorem ba_list (l : List UInt8) : (ba l).data.toList = l := by simp [ba]
def decV : List Value := [.string ⟨#[110]⟩, .string ⟨#[117]⟩, .string ⟨#[109]⟩, .string ⟨#[]⟩, .string ⟨#[107]⟩, .string ⟨#[77]⟩, .string ⟨#[71]⟩, .string ⟨#[84]⟩, .string ⟨#[80]⟩, .string ⟨#[69]⟩]
def binV : List Value := [.string ⟨#[75, 105]⟩, .string ⟨#[77, 105]⟩, .string ⟨#[71, 105]⟩, .string ⟨#[84, 105]⟩, .string ⟨#[80, 105]⟩, .string ⟨#[69, 105]⟩]
def decT : Value := .agg decV.toArray
def binT : Value := .agg binV.toArray
def decB (j : Nat) : ByteArray := ba (decs.getD j [])
def binB (j : Nat) : ByteArray := ba (bins.getD j [])
/-- The two tables lie as the program's text lays them. -/
def LaidW (w : World) : Prop := w.rangeAt 2 0 decV ∧ w.rangeAt 3 0 binV ∧ max 2 3 < w.heap.size
theorem LaidW.later {w w1 : World} (h : LaidW w) (hb : Below w.heap.size w w1) : LaidW w1 :=
  ⟨range_later h.1 hb (by have := h.2.2; omega), range_later h.2.1 hb (by have := h.2.2; omega), Nat.lt_of_lt_of_le h.2.2 hb.size⟩
theorem LaidW.under {w w1 : World} {B : Nat} (h : LaidW w) (hb : Below B w w1) (hB : w.heap.size ≤ B) : LaidW w1 := h.later (hb.mono hB)
theorem LaidW.alloc {w : World} (h : LaidW w) (o : Obj) : LaidW (w.alloc o) := h.later ((Below.refl _ _).alloc (Nat.le_refl _) o)
theorem decV_at (j : Nat) (h : j < 10) : decV[j]? = some (.string (decB j)) := by
  match j, h with
  | 0, _ => rfl
  | 1, _ => rfl
  | 2, _ => rfl
  | 3, _ => rfl
  | 4, _ => rfl
  | 5, _ => rfl
  | 6, _ => rfl
  | 7, _ => rfl
  | 8, _ => rfl
  | 9, _ => rfl
theorem binV_at (j : Nat) (h : j < 6) : binV[j]? = some (.string (binB j)) := by
  match j, h with
  | 0, _ => rfl
  | 1, _ => rfl
  | 2, _ => rfl
  | 3, _ => rfl
  | 4, _ => rfl
  | 5, _ => rfl
theorem LaidW.dec {w : World} (h : LaidW w) (j : Nat) (hj : j < 10) : w.cell? ⟨2, j, none⟩ = some (.string (decB j)) := by
  have := h.1 j _ (decV_at j hj)
  simpa using this
theorem LaidW.bin {w : World} (h : LaidW w) (j : Nat) (hj : j < 6) : w.cell? ⟨3, j, none⟩ = some (.string (binB j)) := by
  have := h.2.1 j _ (binV_at j hj)
  simpa using this

section
variable {ops : Array Oper} {rest : List Oper} {op : Oper} {a : Act} {w : World} {Q : Exit → Act → World → Prop}
theorem dec_load (h : LaidW w) (hgd : op.guard = none) (x : Operand) (ho : op.op = .load 103 x) (hx : a.eval x = .pointer (some ⟨2, 0, none⟩))
    (hk : wpList Tryz.prog ops Q rest (a.put op.dst decT) w) : wpList Tryz.prog ops Q (op :: rest) a w :=
  wpList_load_mid hgd _ x ho 2 0 hx decV _ h.1 Tryz.underlying103 rfl (by kernel_rfl) hk
theorem bin_load (h : LaidW w) (hgd : op.guard = none) (x : Operand) (ho : op.op = .load 106 x) (hx : a.eval x = .pointer (some ⟨3, 0, none⟩))
    (hk : wpList Tryz.prog ops Q rest (a.put op.dst binT) w) : wpList Tryz.prog ops Q (op :: rest) a w :=
  wpList_load_mid hgd _ x ho 3 0 hx binV _ h.2.1 Tryz.underlying106 rfl (by kernel_rfl) hk
end
theorem dec_ix0 (w : World) : (Instr.index 103 decT (.int .i64 ((0 : Nat) : Int))).run Tryz.prog w = .ok (.string (decB 0)) w := by kernel_rfl
theorem dec_ix1 (w : World) : (Instr.index 103 decT (.int .i64 ((1 : Nat) : Int))).run Tryz.prog w = .ok (.string (decB 1)) w := by kernel_rfl
theorem dec_ix2 (w : World) : (Instr.index 103 decT (.int .i64 ((2 : Nat) : Int))).run Tryz.prog w = .ok (.string (decB 2)) w := by kernel_rfl
theorem dec_ix3 (w : World) : (Instr.index 103 decT (.int .i64 ((3 : Nat) : Int))).run Tryz.prog w = .ok (.string (decB 3)) w := by kernel_rfl
theorem dec_ix4 (w : World) : (Instr.index 103 decT (.int .i64 ((4 : Nat) : Int))).run Tryz.prog w = .ok (.string (decB 4)) w := by kernel_rfl
theorem dec_ix5 (w : World) : (Instr.index 103 decT (.int .i64 ((5 : Nat) : Int))).run Tryz.prog w = .ok (.string (decB 5)) w := by kernel_rfl
theorem dec_ix6 (w : World) : (Instr.index 103 decT (.int .i64 ((6 : Nat) : Int))).run Tryz.prog w = .ok (.string (decB 6)) w := by kernel_rfl
theorem dec_ix7 (w : World) : (Instr.index 103 decT (.int .i64 ((7 : Nat) : Int))).run Tryz.prog w = .ok (.string (decB 7)) w := by kernel_rfl
theorem dec_ix8 (w : World) : (Instr.index 103 decT (.int .i64 ((8 : Nat) : Int))).run Tryz.prog w = .ok (.string (decB 8)) w := by kernel_rfl
theorem dec_ix9 (w : World) : (Instr.index 103 decT (.int .i64 ((9 : Nat) : Int))).run Tryz.prog w = .ok (.string (decB 9)) w := by kernel_rfl
theorem dec_index (j : Nat) (h : j < 10) (w : World) : (Instr.index 103 decT (.int .i64 (j : Int))).run Tryz.prog w = .ok (.string (decB j)) w := by
  match j, h with
  | 0, _ => exact dec_ix0 w
  | 1, _ => exact dec_ix1 w
  | 2, _ => exact dec_ix2 w
  | 3, _ => exact dec_ix3 w
  | 4, _ => exact dec_ix4 w
  | 5, _ => exact dec_ix5 w
  | 6, _ => exact dec_ix6 w
  | 7, _ => exact dec_ix7 w
  | 8, _ => exact dec_ix8 w
  | 9, _ => exact dec_ix9 w
theorem bin_ix0 (w : World) : (Instr.index 106 binT (.int .i64 ((0 : Nat) : Int))).run Tryz.prog w = .ok (.string (binB 0)) w := by kernel_rfl
theorem bin_ix1 (w : World) : (Instr.index 106 binT (.int .i64 ((1 : Nat) : Int))).run Tryz.prog w = .ok (.string (binB 1)) w := by kernel_rfl
theorem bin_ix2 (w : World) : (Instr.index 106 binT (.int .i64 ((2 : Nat) : Int))).run Tryz.prog w = .ok (.string (binB 2)) w := by kernel_rfl
theorem bin_ix3 (w : World) : (Instr.index 106 binT (.int .i64 ((3 : Nat) : Int))).run Tryz.prog w = .ok (.string (binB 3)) w := by kernel_rfl
theorem bin_ix4 (w : World) : (Instr.index 106 binT (.int .i64 ((4 : Nat) : Int))).run Tryz.prog w = .ok (.string (binB 4)) w := by kernel_rfl
theorem bin_ix5 (w : World) : (Instr.index 106 binT (.int .i64 ((5 : Nat) : Int))).run Tryz.prog w = .ok (.string (binB 5)) w := by kernel_rfl
theorem bin_index (j : Nat) (h : j < 6) (w : World) : (Instr.index 106 binT (.int .i64 (j : Int))).run Tryz.prog w = .ok (.string (binB j)) w := by
  match j, h with
  | 0, _ => exact bin_ix0 w
  | 1, _ => exact bin_ix1 w
  | 2, _ => exact bin_ix2 w
  | 3, _ => exact bin_ix3 w
  | 4, _ => exact bin_ix4 w
  | 5, _ => exact bin_ix5 w

theorem place_at (L : List (List UInt8)) (l : List UInt8) (j : Nat) (h : j < L.length) (hl : l = L.getD j []) : place (L.drop j) l = some 0 := by
  rw [List.drop_eq_getElem_cons h, place, if_pos (by rw [hl]; simp [h])]
theorem place_not (L : List (List UInt8)) (l : List UInt8) (j : Nat) (h : j < L.length) (hl : l ≠ L.getD j []) : place (L.drop j) l = (place (L.drop (j + 1)) l).map (· + 1) := by
  rw [List.drop_eq_getElem_cons h, place, if_neg (by intro e; exact hl (by rw [e]; simp [h]))]
theorem eq_text (s : ByteArray) (l : List UInt8) : (s.toList == (ba l).toList) = decide (s.data.toList = l) := by
  rw [ByteArray.toList_eq, ByteArray.toList_eq, ba_list]
  by_cases h : s.data.toList = l
  · simp [h]
  · rw [decide_eq_false h]; simpa using h

/-- What a suffix answers. -/
def Powd (l : List UInt8) (e : Ending) : Prop := ∃ (tw te : Int) (o : Bool), e = .returned (.tuple #[.int .i64 tw, .int .i64 te, .bool o]) ∧
  ((pow l = none ∧ o = false) ∨ (∃ (t : Nat) (n : Int), pow l = some (t, n) ∧ o = true ∧ tw = (t : Int) ∧ te = n))

set_option maxHeartbeats 4000000 in
theorem power_is (s : ByteArray) (hm : s.size ≤ maxLen) (w : World) (hL : LaidW w) :
    Calls Tryz.prog 52 #[.string s] w fun e w' => Powd s.data.toList e ∧ w = w' := by
  have HM : Hid (s.size ≤ maxLen) := hm
  clear hm
  have HL : Hid (LaidW w) := hL
  clear hL
  go_enter Tryz.func52, Tryz.ntmps52
  go_wp2_with (refine dec_load HL.out rfl _ rfl rfl ?_)
  go_loopw [12] (fun f wr => ∃ j : Nat, f = .int .i64 j ∧ j ≤ 10 ∧ Hid (place decs s.data.toList = (place (decs.drop j) s.data.toList).map (· + j)) ∧ w = wr) (fun f _ => 10 - (intOf f).toNat)
  case atStart => exact ⟨0, rfl, by omega, by unfold Hid; simp, rfl⟩
  case round =>
    obtain ⟨j, rfl, jl, HP, rfl⟩ := hrel
    by_cases c : j < 10
    · have ix := dec_index j c
      by_cases d : s.data.toList = decs.getD j []
      · have hq : (s.toList == (decB j).toList) = true := by unfold decB; rw [eq_text]; exact decide_eq_true d
        have X : Hid (pow s.data.toList = some (0, 3 * (j : Int) - 9)) := by
          unfold Hid pow
          rw [HP.out, place_at decs _ j c d]; simp
        clear d HP
        go_wp2
        go_ret3
        exact ⟨⟨_, _, _, rfl, Or.inr ⟨_, _, X.out, rfl, rfl, by first | rfl | omega⟩⟩, rfl⟩
      · have hq : (s.toList == (decB j).toList) = false := by unfold decB; rw [eq_text]; exact decide_eq_false d
        have X : Hid (place decs s.data.toList = (place (decs.drop (j + 1)) s.data.toList).map (· + (j + 1))) := by
          unfold Hid
          rw [HP.out, place_not decs _ j c d, Option.map_map]
          congr 1
          funext i
          simp only [Function.comp]; omega
        clear d HP
        go_wp2
        go_roundw
        case rel => exact ⟨j + 1, by go_num, by omega, X, trivial⟩
        case measure => simp [intOf]; omega
    · obtain rfl : j = 10 := by omega
      have P1 : Hid (place decs s.data.toList = none) := by
        unfold Hid
        rw [HP.out]; rfl
      clear HP
      go_wp2_with (refine bin_load HL.out rfl _ rfl rfl ?_)
      go_loopw [24] (fun f wr => ∃ j : Nat, f = .int .i64 j ∧ j ≤ 6 ∧ Hid (place bins s.data.toList = (place (bins.drop j) s.data.toList).map (· + j)) ∧ w = wr) (fun f _ => 6 - (intOf f).toNat)
      case atStart => exact ⟨0, rfl, by omega, by unfold Hid; simp, rfl⟩
      case round =>
        obtain ⟨j, rfl, jl, HP, rfl⟩ := hrel
        by_cases c : j < 6
        · have ix := bin_index j c
          by_cases d : s.data.toList = bins.getD j []
          · have hq : (s.toList == (binB j).toList) = true := by unfold binB; rw [eq_text]; exact decide_eq_true d
            have X : Hid (pow s.data.toList = some (10 * (j + 1), 0)) := by
              unfold Hid pow
              rw [P1.out, HP.out, place_at bins _ j c d]; simp
            clear d HP
            go_wp2
            go_ret3
            exact ⟨⟨_, _, _, rfl, Or.inr ⟨_, _, X.out, rfl, by first | rfl | omega, rfl⟩⟩, rfl⟩
          · have hq : (s.toList == (binB j).toList) = false := by unfold binB; rw [eq_text]; exact decide_eq_false d
            have X : Hid (place bins s.data.toList = (place (bins.drop (j + 1)) s.data.toList).map (· + (j + 1))) := by
              unfold Hid
              rw [HP.out, place_not bins _ j c d, Option.map_map]
              congr 1
              funext i
              simp only [Function.comp]; omega
            clear d HP
            go_wp2
            go_roundw
            case rel => exact ⟨j + 1, by go_num, by omega, X, trivial⟩
            case measure => simp [intOf]; omega
        · obtain rfl : j = 6 := by omega
          have P2 : Hid (place bins s.data.toList = none) := by
            unfold Hid
            rw [HP.out]; rfl
          clear HP
          go_wp2_with (fail)
          refine (exponent_is s HM.out _).mono ?_
          rintro e w1 ⟨⟨n, o, rfl, f⟩, rfl⟩
          have X : Hid ((pow s.data.toList = none ∧ o = false) ∨ (∃ (t : Nat) (m : Int), pow s.data.toList = some (t, m) ∧ o = true ∧ (0 : Int) = (t : Int) ∧ n = m)) := by
            unfold Hid pow
            rw [P1.out, P2.out]
            rcases f with ⟨f, rfl, -⟩ | ⟨f, rfl⟩
            · exact Or.inl ⟨by rw [f]; rfl, rfl⟩
            · exact Or.inr ⟨0, n, by rw [f]; rfl, rfl, rfl, rfl⟩
          clear f
          go_wp2
          go_ret3
          exact ⟨⟨_, _, _, rfl, X.out⟩, rfl⟩

end Go.Proofs.YtpbgolcimbjekaaGreatDoor
