/-
  Contract of package vector's Text at this program. Conditions: the tables of the program lie as its text lays them.
-/
import Derived.Test.YtpbgolcimbjekaaGreatDoorQ21
namespace Go.Proofs.YtpbgolcimbjekaaGreatDoor
open Go.RowKit

def encS (t : ByteArray) : Value := .string t
theorem strInfo : (Tryz.prog.info? 9).map (fun i => (i.zero, i.size, i.bytes)) = some (some (.string ⟨#[]⟩), 1, 16) := by kernel_rfl
/-- The parts of a vector's text from a resource on. -/
def ptsF (v : Int × Int × Int) (j : Nat) : List (List UInt8) :=
  if j = 0 then pts v else if j = 1 then (if v.2.1 = 0 then [] else [partL 1 v.2.1]) ++ (if v.2.2 = 0 then [] else [partL 2 v.2.2]) else if j = 2 then (if v.2.2 = 0 then [] else [partL 2 v.2.2]) else []
theorem pts_n0 {c m h : Int} (e : c = 0) : ptsF (c, m, h) 0 = ptsF (c, m, h) 1 := by simp [ptsF, pts, e]
theorem pts_n1 {c m h : Int} (e : m = 0) : ptsF (c, m, h) 1 = ptsF (c, m, h) 2 := by simp [ptsF, e]
theorem pts_n2 {c m h : Int} (e : h = 0) : ptsF (c, m, h) 2 = ptsF (c, m, h) 3 := by simp [ptsF, e]
theorem pts_s0 {c m h : Int} (e : c ≠ 0) : ptsF (c, m, h) 0 = partL 0 c :: ptsF (c, m, h) 1 := by simp [ptsF, pts, e]
theorem pts_s1 {c m h : Int} (e : m ≠ 0) : ptsF (c, m, h) 1 = partL 1 m :: ptsF (c, m, h) 2 := by simp [ptsF, e]
theorem pts_s2 {c m h : Int} (e : h ≠ 0) : ptsF (c, m, h) 2 = partL 2 h :: ptsF (c, m, h) 3 := by simp [ptsF, e]
theorem pts_e {c m h : Int} : ptsF (c, m, h) 3 = [] := rfl
theorem pts_none {v : Int × Int × Int} : pts v = [] ↔ v = (0, 0, 0) := by
  obtain ⟨c, m, h⟩ := v
  unfold pts
  by_cases a : c = 0 <;> by_cases b : m = 0 <;> by_cases d : h = 0 <;> simp [a, b, d]
theorem join_lib : ∀ ps : List (List UInt8), Lib.join ps [44] = joinL ps
  | [] => rfl
  | [p] => by rw [Lib.join_one]; rfl
  | p :: q :: r => by
    have := join_lib (q :: r)
    rw [Lib.join_cons] at this ⊢
    rw [joinL, ← this]
    simp [Lib.joinTail]
theorem amt_len (r : Nat) (n : Int) : (amtL r n).length ≤ 100 := by
  unfold amtL
  split
  · exact (len_text _).1
  · exact (len_text _).2
theorem part_most {r : Nat} (n : Int) : (partL r n).length ≤ 110 := by
  have := amt_len r n
  unfold partL nmL
  split
  · simp [cpuL]; omega
  · split
    · simp [memL]; omega
    · simp [hugL]; omega
theorem pts_most (v : Int × Int × Int) : (pts v).length ≤ 3 ∧ ∀ p ∈ pts v, p.length ≤ 110 := by
  obtain ⟨c, m, h⟩ := v
  unfold pts
  have a0 := part_most (r := 0) c
  have a1 := part_most (r := 1) m
  have a2 := part_most (r := 2) h
  by_cases a : c = 0 <;> by_cases b : m = 0 <;> by_cases d : h = 0 <;> simp [a, b, d] <;> omega
theorem join_most : ∀ ps : List (List UInt8), (∀ p ∈ ps, p.length ≤ 110) → (joinL ps).length ≤ 111 * ps.length
  | [], _ => by simp [joinL]
  | [p], h => by have := h p (by simp); simp [joinL]; omega
  | p :: q :: r, h => by
    have := h p (by simp)
    have := join_most (q :: r) (fun x hx => h x (by simp [hx]))
    rw [joinL]; simp at this ⊢; omega
theorem text_most (v : Int × Int × Int) : (textV v).length ≤ 333 := by
  unfold textV
  split
  · split
    · simp
    · obtain ⟨a, b⟩ := pts_most v
      have := join_most _ b
      omega
  · simp

theorem ite3_no {α : Type} {p q r : Prop} [Decidable p] [Decidable q] [Decidable r] {x y : α} (h : ¬ (p ∧ q ∧ r)) : (if p then if q then if r then x else y else y else y) = y := by
  by_cases a : p
  · by_cases b : q
    · by_cases c : r
      · exact absurd ⟨a, b, c⟩ h
      · rw [if_pos a, if_pos b, if_neg c]
    · rw [if_pos a, if_neg b]
  · rw [if_neg a]
theorem ite3_yes {α : Type} {p q r : Prop} [Decidable p] [Decidable q] [Decidable r] {x y : α} (h : p ∧ q ∧ r) : (if p then if q then if r then x else y else y else y) = x := by
  rw [if_pos h.1, if_pos h.2.1, if_pos h.2.2]
theorem Bx3.grown {W w1 : World} {b : Nat} {c m h : Int} {row : Option Nat} (k : Bx3 W b c m h) (hg : W.grownBy w1 row) (hr : some b ≠ row) : Bx3 w1 b c m h := by
  obtain ⟨c0, c1, c2, f0, f1, f2, z⟩ := k
  have e := hg.block b z hr
  have ce : ∀ i, w1.cell? ⟨b, i, none⟩ = W.cell? ⟨b, i, none⟩ := fun i => by simp only [World.cell?, e]
  have fe : ∀ i, w1.frozen? ⟨b, i, none⟩ = W.frozen? ⟨b, i, none⟩ := fun i => by simp only [World.frozen?, e]
  exact ⟨(ce 0).trans c0, (ce 1).trans c1, (ce 2).trans c2, (fe 0).trans f0, (fe 1).trans f1, (fe 2).trans f2, Nat.lt_of_lt_of_le z hg.size⟩
/-- A slice of texts of one's own. -/
def Own (W : World) (base : Nat) (o : Value) (os : List ByteArray) : Prop := W.ownsRow base 9 1 o os.length (os.map encS)
theorem Own.later {W w1 : World} {base : Nat} {o : Value} {os : List ByteArray} (h : Own W base o os) (hb : Below W.heap.size W w1) : Own w1 base o os :=
  World.ownsRow.kept (row := none) h ⟨hb.os, hb.tape, hb.output, hb.size, fun k hk _ => hb.block k hk⟩ (by cases hv : o.ownBlock <;> simp)
theorem Own.nil (W : World) (base : Nat) : Own W base (.slice none 0 0) [] := World.ownsRow_nil W base _ 1
theorem Own.more {W : World} {base : Nat} {o : Value} {os : List ByteArray} {t : ByteArray} (h : W.ownsRow base 9 1 o (os.length + 1) (os.map encS ++ [.string t])) : Own W base o (os ++ [t]) := by
  unfold Own
  simpa [encS] using h
theorem Own.join {W : World} {base : Nat} {o : Value} {os : List ByteArray} (h : Own W base o os) (hn : os ≠ []) : ∃ g cap : Nat, o = .slice (some ⟨g, 0, none⟩) os.length cap ∧ os.length ≤ cap ∧ g < W.heap.size ∧ ∀ (j : Nat) x, os[j]? = some x → W.cell? ⟨g, 0 + j, none⟩ = some (.string x) := by
  have hc := fun g hg => World.ownsRow.cells (g := g) h hg
  have hl := World.ownsRow.lt h
  obtain ⟨-, ⟨rfl, k⟩ | ⟨g, cap, cur, rfl, -, hb, h1, h2, -⟩⟩ := h
  · exact absurd (List.length_eq_zero_iff.1 k) hn
  · refine ⟨g, cap, rfl, h1, (hl g rfl).2, fun j x hj => ?_⟩
    have := hc g rfl j (encS x) (by rw [List.getElem?_map, hj]; rfl)
    by_cases j0 : j = 0
    · subst j0; simpa [Addr.add, encS] using this
    · simpa [Addr.add, encS, j0] using this
theorem sadd_amt {k : Nat} {n : Int} {t : ByteArray} (h : t.data.toList = amtL k n) : t.size ≤ 100 := by
  have := amt_len k n
  rw [← h, ba_len] at this
  exact this
theorem cat0 {n : Int} {t : ByteArray} (h : t.data.toList = amtL 0 n) : ((⟨#[99, 112, 117]⟩ : ByteArray) ++ ⟨#[61]⟩ ++ t).data.toList = partL 0 n := by simp [partL, nmL, cpuL, h]
theorem cat1 {n : Int} {t : ByteArray} (h : t.data.toList = amtL 1 n) : ((⟨#[109, 101, 109, 111, 114, 121]⟩ : ByteArray) ++ ⟨#[61]⟩ ++ t).data.toList = partL 1 n := by simp [partL, nmL, memL, h]
theorem cat2 {n : Int} {t : ByteArray} (h : t.data.toList = amtL 2 n) : ((⟨#[104, 117, 103, 101, 112, 97, 103, 101, 115]⟩ : ByteArray) ++ ⟨#[61]⟩ ++ t).data.toList = partL 2 n := by simp [partL, nmL, hugL, h]

set_option maxHeartbeats 2000000 in
theorem vtext_wrong (c m h : Int) (w : World) (hL : LaidV w) (k : ¬ Rt c m h) :
    Calls Tryz.prog 9 #[.agg #[.int .i64 c, .int .i64 m, .int .i64 h]] w fun e w' => e = .returned (.string ⟨#[]⟩) ∧ Below w.heap.size w w' := by
  have HL : Hid (LaidV w) := hL
  have K : Hid (rightB c m h = false) := right_no k
  clear hL k
  go_enter Tryz.func9, Tryz.ntmps9
  go_wp2_with (fail)
  refine (right_any c m h _ (HL.out.alloc _)).mono ?_
  rintro e w1 ⟨rfl, hw1⟩
  rw [K.out]
  have HB : Below w.heap.size w w1 := Below.trans (by go_grown) (hw1.mono (by simp))
  clear hw1 K HL
  go_wp2
  go_ret
  exact ⟨rfl, HB⟩

set_option maxHeartbeats 2000000 in
theorem vtext_zero (w : World) (hL : LaidV w) :
    Calls Tryz.prog 9 #[.agg #[.int .i64 0, .int .i64 0, .int .i64 0]] w fun e w' => e = .returned (.string ⟨#[45]⟩) ∧ Below w.heap.size w w' := by
  have HL : Hid (LaidV w) := hL
  have K : Hid (rightB 0 0 0 = true) := right_yes (by decide)
  clear hL
  go_enter Tryz.func9, Tryz.ntmps9
  go_wp2_with (fail)
  refine (right_any 0 0 0 _ (HL.out.alloc _)).mono ?_
  rintro e w1 ⟨rfl, hw1⟩
  rw [K.out]
  obtain ⟨p0, p1, p2, p3, p4, p5, p6⟩ := Bx3.later hw1 (Bx3.new w w.heap.size 0 0 0 _ rfl)
  have HB : Below w.heap.size w w1 := Below.trans (by go_grown) (hw1.mono (by simp))
  clear hw1 K HL
  go_wp2
  go_ret
  exact ⟨rfl, HB⟩

set_option maxHeartbeats 8000000 in
set_option maxRecDepth 100000 in
theorem vtext_some (c m h : Int) (w : World) (hL : LaidV w) (k : Rt c m h) (nz : ¬ (c = 0 ∧ m = 0 ∧ h = 0)) :
    Calls Tryz.prog 9 #[.agg #[.int .i64 c, .int .i64 m, .int .i64 h]] w fun e w' => e = .returned (.string ⟨(joinL (pts (c, m, h))).toArray⟩) ∧ Below w.heap.size w w' := by
  obtain ⟨R, hR⟩ : ∃ R, R = pts (c, m, h) := ⟨_, rfl⟩
  rw [← hR]
  have RN : Hid (R ≠ []) := by
    unfold Hid
    rw [hR]
    intro e
    have := pts_none.1 e
    injection this with a b
    injection b with b d
    exact nz ⟨a, b, d⟩
  have RJ : Hid ((joinL R).length ≤ 333) := by
    unfold Hid
    obtain ⟨a, b⟩ := pts_most (c, m, h)
    rw [← hR] at a b
    have := join_most _ b
    omega
  have HR : Hid (([] : List ByteArray).map (·.data.toList) ++ ptsF (c, m, h) 0 = R) := by unfold Hid; rw [hR, List.map_nil, List.nil_append]; exact if_pos rfl
  have HL : Hid (LaidV w) := hL
  have KR : Hid (Rt c m h) := k
  have K : Hid (rightB c m h = true) := right_yes k
  have NZ : Hid (¬ (c = 0 ∧ m = 0 ∧ h = 0)) := nz
  obtain ⟨b0, b1, b2, bz⟩ := hL.names
  clear hL k hR nz
  obtain ⟨i0, hi, hz0, hz1, hz2⟩ := info_parts strInfo
  go_enter Tryz.func9, Tryz.ntmps9
  go_wp2_with (fail)
  refine (right_any c m h _ (HL.out.alloc _)).mono ?_
  rintro e w1 ⟨rfl, hw1⟩
  rw [K.out]
  have q_1 : Bx3 w1 w.heap.size c m h := Bx3.later hw1 (Bx3.new w w.heap.size c m h _ rfl)
  have HB : Below w.heap.size w w1 := Below.trans (by go_grown) (hw1.mono (by simp))
  have b0' := cell_later HB b0
  have b1' := cell_later HB b1
  have b2' := cell_later HB b2
  have hs := HB.size
  clear b0 b1 b2 hw1 K
  obtain ⟨p0, p1, p2, p3, p4, p5, p6⟩ := id q_1
  go_upto_region 3 with (fail)
  refine wp_region_lit ?_
  refine wpList_one fun K' hK' => ?_
  rw [if_pos (by rfl)]
  go_simp
  refine hK'.out _ _ ?_
  clear hK' K'
  refine wpList_one fun K' hK' => ?_
  rw [if_pos (by rfl)]
  go_simp
  refine hK'.out _ _ ?_
  clear hK' K'
  refine wpList_one fun K' hK' => ?_
  rw [if_pos (by rfl)]
  go_simp
  rw [ite3_no NZ.out]
  go_simp
  refine hK'.out _ _ ?_
  clear hK' K'
  go_wp2
  clear p0 p1 p2 p3 p4 p5 p6 b0' b1' b2'
  go_loopw [3, 14] (fun o f wr => ∃ (j : Nat) (os : List ByteArray), f = .int .i64 j ∧ j ≤ 3 ∧ os.length ≤ j ∧ Own wr (w.heap.size + 1) o os ∧ Hid (os.map (·.data.toList) ++ ptsF (c, m, h) j = R) ∧ Bx3 wr w.heap.size c m h ∧ Below w.heap.size w wr) (fun _ f _ => 3 - (intOf f).toNat)
  case atStart => exact ⟨0, [], rfl, by omega, by simp, Own.nil _ _, HR, q_1, HB⟩
  case round =>
    clear HR q_1 HB hs
    obtain ⟨j, os, rfl, jl, ol, hown, HO, q_p, HB⟩ := hrel
    obtain ⟨p0, p1, p2, p3, p4, p5, p6⟩ := id q_p
    have hs := HB.size
    match j, jl with
    | 0, _ =>
      have ix : ∀ w : World, (Instr.index 56 (.agg #[.string ⟨#[99, 112, 117]⟩, .string ⟨#[109, 101, 109, 111, 114, 121]⟩, .string ⟨#[104, 117, 103, 101, 112, 97, 103, 101, 115]⟩]) (.int .i64 0)).run Tryz.prog w = .ok (.string ⟨#[99, 112, 117]⟩) w := name_ix0
      go_wp2_with (fail)
      refine (at_any c m h 0 _).mono ?_
      rintro e w2 ⟨rfl, hw2⟩
      rw [show atv c m h 0 = c from rfl]
      have q_2 := q_p.later hw2
      have HB2 : Below w.heap.size w w2 := HB.trans (hw2.mono HB.size)
      have own2 := hown.later hw2
      clear q_p p0 p1 p2 p3 p4 p5 p6 HB hw2 hown hs
      have hs := HB2.size
      have q_26 := q_2.2.2.2.2.2.2
      by_cases z : c = 0
      · have HO2 : Hid (os.map (·.data.toList) ++ ptsF (c, m, h) 1 = R) := by unfold Hid; rw [← pts_n0 z]; exact HO.out
        have z1 : (c != 0) = false := by simp [z]
        clear HO z
        go_wp2
        go_roundw
        case rel => exact ⟨1, os, by go_num, by omega, by omega, own2, HO2, q_2, HB2⟩
        case measure => simp [intOf]
      · have HO2 : Hid (os.map (·.data.toList) ++ partL 0 c :: ptsF (c, m, h) 1 = R) := by unfold Hid; rw [← pts_s0 z]; exact HO.out
        have z1 : (c != 0) = true := by simp [z]
        clear HO z
        go_wp2_with (fail)
        refine (amountText_is (k := 0) c rfl (by have := KR.out; unfold Rt at this; omega) (by have := KR.out; unfold Rt at this; omega) _ (HL.out.later HB2)).mono ?_
        rintro e w3 ⟨⟨t, rfl, ht⟩, hw3⟩
        have T : Hid (t.data.toList = amtL 0 c) := ht
        have ts := sadd_amt ht
        have q_3 := q_2.later hw3
        have HB3 : Below w.heap.size w w3 := HB2.trans (hw3.mono HB2.size)
        have own3 := own2.later hw3
        clear q_2 q_26 HB2 hw3 own2 hs ht
        have hs := HB3.size
        have q_36 := q_3.2.2.2.2.2.2
        have own4 : World.ownsRow (w3.alloc (.cells #[.string (⟨#[99, 112, 117]⟩ ++ ⟨#[61]⟩ ++ t)] 9)) (w.heap.size + 1) 9 1 _ os.length (os.map encS) := World.ownsRow.alloc own3 _
        have TT : Hid ((⟨#[99, 112, 117]⟩ ++ ⟨#[61]⟩ ++ t : ByteArray).data.toList = partL 0 c) := cat0 T.out
        have sz1 : ¬ 9223372036854775807 < (⟨#[99, 112, 117]⟩ : ByteArray).size + (⟨#[61]⟩ : ByteArray).size := by decide
        have sz2 : ¬ 9223372036854775807 < (⟨#[99, 112, 117]⟩ ++ ⟨#[61]⟩ : ByteArray).size + t.size := by rw [ByteArray.size_append, show (⟨#[99, 112, 117]⟩ : ByteArray).size + (⟨#[61]⟩ : ByteArray).size = 4 from rfl]; omega
        go_wp2_with (first
          | (at_builtin; refine wpList_append_own _ rfl _ _ 52 rfl (w.heap.size + 1) 9 i0 (.string ⟨#[]⟩) 1 16 Tryz.underlying52 hi hz0 hz1 hz2 rfl (by decide) _ _ _ rfl own4 ⟨w3.heap.size, 0, none⟩ 1 1 [.string (⟨#[99, 112, 117]⟩ ++ ⟨#[61]⟩ ++ t)] rfl rfl ?c1 ?c2 ?c3 ?c4 ?c5 ?_)
          | fail)
        case c1 =>
          intro j u hj
          match j, hj with
          | 0, hj => simp at hj; subst hj; simp [Addr.add]
        case c2 => intro u hu; simp at hu; subst hu; rfl
        case c3 => unfold maxLen; omega
        case c4 => omega
        case c5 => simp; omega
        · intro v' w4 hown' hgrow _
          have o2 : Own w4 (w.heap.size + 1) v' (os ++ [⟨#[99, 112, 117]⟩ ++ ⟨#[61]⟩ ++ t]) := Own.more hown'
          have HB4 : Below w.heap.size w w4 := (HB3.alloc HB3.size _).grown hgrow (by simp; omega) (fun k hk => by have := (World.ownsRow.lt own3 k hk).1; omega)
          have HO3 : Hid ((os ++ [⟨#[99, 112, 117]⟩ ++ ⟨#[61]⟩ ++ t]).map (·.data.toList) ++ ptsF (c, m, h) 1 = R) := by
            unfold Hid
            rw [← HO2.out, List.map_append, List.map_cons, TT.out]
            simp
          have q_4 : Bx3 w4 w.heap.size c m h := Bx3.grown (q_3.alloc _) hgrow (fun e => by have := (World.ownsRow.lt own3 _ e.symm).1; omega)
          have ol4 : (os ++ [⟨#[99, 112, 117]⟩ ++ ⟨#[61]⟩ ++ t]).length ≤ 1 := by rw [List.length_append]; simp only [List.length_cons, List.length_nil]; omega
          generalize (⟨#[99, 112, 117]⟩ ++ ⟨#[61]⟩ ++ t : ByteArray) = X at *
          clear hown' hgrow own3 own4 HO2 TT q_3 sz1 sz2 HB3
          go_wp2
          go_roundw
          case rel => exact ⟨1, os ++ [X], by go_num, by omega, ol4, o2, HO3, q_4, HB4⟩
          case measure => simp [intOf]
    | 1, _ =>
      have ix : ∀ w : World, (Instr.index 56 (.agg #[.string ⟨#[99, 112, 117]⟩, .string ⟨#[109, 101, 109, 111, 114, 121]⟩, .string ⟨#[104, 117, 103, 101, 112, 97, 103, 101, 115]⟩]) (.int .i64 1)).run Tryz.prog w = .ok (.string ⟨#[109, 101, 109, 111, 114, 121]⟩) w := name_ix1
      go_wp2_with (fail)
      refine (at_any c m h 1 _).mono ?_
      rintro e w2 ⟨rfl, hw2⟩
      rw [show atv c m h 1 = m from rfl]
      have q_2 := q_p.later hw2
      have HB2 : Below w.heap.size w w2 := HB.trans (hw2.mono HB.size)
      have own2 := hown.later hw2
      clear q_p p0 p1 p2 p3 p4 p5 p6 HB hw2 hown hs
      have hs := HB2.size
      have q_26 := q_2.2.2.2.2.2.2
      by_cases z : m = 0
      · have HO2 : Hid (os.map (·.data.toList) ++ ptsF (c, m, h) 2 = R) := by unfold Hid; rw [← pts_n1 z]; exact HO.out
        have z1 : (m != 0) = false := by simp [z]
        clear HO z
        go_wp2
        go_roundw
        case rel => exact ⟨2, os, by go_num, by omega, by omega, own2, HO2, q_2, HB2⟩
        case measure => simp [intOf]
      · have HO2 : Hid (os.map (·.data.toList) ++ partL 1 m :: ptsF (c, m, h) 2 = R) := by unfold Hid; rw [← pts_s1 z]; exact HO.out
        have z1 : (m != 0) = true := by simp [z]
        clear HO z
        go_wp2_with (fail)
        refine (amountText_is (k := 1) m rfl (by have := KR.out; unfold Rt at this; omega) (by have := KR.out; unfold Rt at this; omega) _ (HL.out.later HB2)).mono ?_
        rintro e w3 ⟨⟨t, rfl, ht⟩, hw3⟩
        have T : Hid (t.data.toList = amtL 1 m) := ht
        have ts := sadd_amt ht
        have q_3 := q_2.later hw3
        have HB3 : Below w.heap.size w w3 := HB2.trans (hw3.mono HB2.size)
        have own3 := own2.later hw3
        clear q_2 q_26 HB2 hw3 own2 hs ht
        have hs := HB3.size
        have q_36 := q_3.2.2.2.2.2.2
        have own4 : World.ownsRow (w3.alloc (.cells #[.string (⟨#[109, 101, 109, 111, 114, 121]⟩ ++ ⟨#[61]⟩ ++ t)] 9)) (w.heap.size + 1) 9 1 _ os.length (os.map encS) := World.ownsRow.alloc own3 _
        have TT : Hid ((⟨#[109, 101, 109, 111, 114, 121]⟩ ++ ⟨#[61]⟩ ++ t : ByteArray).data.toList = partL 1 m) := cat1 T.out
        have sz1 : ¬ 9223372036854775807 < (⟨#[109, 101, 109, 111, 114, 121]⟩ : ByteArray).size + (⟨#[61]⟩ : ByteArray).size := by decide
        have sz2 : ¬ 9223372036854775807 < (⟨#[109, 101, 109, 111, 114, 121]⟩ ++ ⟨#[61]⟩ : ByteArray).size + t.size := by rw [ByteArray.size_append, show (⟨#[109, 101, 109, 111, 114, 121]⟩ : ByteArray).size + (⟨#[61]⟩ : ByteArray).size = 7 from rfl]; omega
        go_wp2_with (first
          | (at_builtin; refine wpList_append_own _ rfl _ _ 52 rfl (w.heap.size + 1) 9 i0 (.string ⟨#[]⟩) 1 16 Tryz.underlying52 hi hz0 hz1 hz2 rfl (by decide) _ _ _ rfl own4 ⟨w3.heap.size, 0, none⟩ 1 1 [.string (⟨#[109, 101, 109, 111, 114, 121]⟩ ++ ⟨#[61]⟩ ++ t)] rfl rfl ?c1 ?c2 ?c3 ?c4 ?c5 ?_)
          | fail)
        case c1 =>
          intro j u hj
          match j, hj with
          | 0, hj => simp at hj; subst hj; simp [Addr.add]
        case c2 => intro u hu; simp at hu; subst hu; rfl
        case c3 => unfold maxLen; omega
        case c4 => omega
        case c5 => simp; omega
        · intro v' w4 hown' hgrow _
          have o2 : Own w4 (w.heap.size + 1) v' (os ++ [⟨#[109, 101, 109, 111, 114, 121]⟩ ++ ⟨#[61]⟩ ++ t]) := Own.more hown'
          have HB4 : Below w.heap.size w w4 := (HB3.alloc HB3.size _).grown hgrow (by simp; omega) (fun k hk => by have := (World.ownsRow.lt own3 k hk).1; omega)
          have HO3 : Hid ((os ++ [⟨#[109, 101, 109, 111, 114, 121]⟩ ++ ⟨#[61]⟩ ++ t]).map (·.data.toList) ++ ptsF (c, m, h) 2 = R) := by
            unfold Hid
            rw [← HO2.out, List.map_append, List.map_cons, TT.out]
            simp
          have q_4 : Bx3 w4 w.heap.size c m h := Bx3.grown (q_3.alloc _) hgrow (fun e => by have := (World.ownsRow.lt own3 _ e.symm).1; omega)
          have ol4 : (os ++ [⟨#[109, 101, 109, 111, 114, 121]⟩ ++ ⟨#[61]⟩ ++ t]).length ≤ 2 := by rw [List.length_append]; simp only [List.length_cons, List.length_nil]; omega
          generalize (⟨#[109, 101, 109, 111, 114, 121]⟩ ++ ⟨#[61]⟩ ++ t : ByteArray) = X at *
          clear hown' hgrow own3 own4 HO2 TT q_3 sz1 sz2 HB3
          go_wp2
          go_roundw
          case rel => exact ⟨2, os ++ [X], by go_num, by omega, ol4, o2, HO3, q_4, HB4⟩
          case measure => simp [intOf]
    | 2, _ =>
      have ix : ∀ w : World, (Instr.index 56 (.agg #[.string ⟨#[99, 112, 117]⟩, .string ⟨#[109, 101, 109, 111, 114, 121]⟩, .string ⟨#[104, 117, 103, 101, 112, 97, 103, 101, 115]⟩]) (.int .i64 2)).run Tryz.prog w = .ok (.string ⟨#[104, 117, 103, 101, 112, 97, 103, 101, 115]⟩) w := name_ix2
      go_wp2_with (fail)
      refine (at_any c m h 2 _).mono ?_
      rintro e w2 ⟨rfl, hw2⟩
      rw [show atv c m h 2 = h from rfl]
      have q_2 := q_p.later hw2
      have HB2 : Below w.heap.size w w2 := HB.trans (hw2.mono HB.size)
      have own2 := hown.later hw2
      clear q_p p0 p1 p2 p3 p4 p5 p6 HB hw2 hown hs
      have hs := HB2.size
      have q_26 := q_2.2.2.2.2.2.2
      by_cases z : h = 0
      · have HO2 : Hid (os.map (·.data.toList) ++ ptsF (c, m, h) 3 = R) := by unfold Hid; rw [← pts_n2 z]; exact HO.out
        have z1 : (h != 0) = false := by simp [z]
        clear HO z
        go_wp2
        go_roundw
        case rel => exact ⟨3, os, by go_num, by omega, by omega, own2, HO2, q_2, HB2⟩
        case measure => simp [intOf]
      · have HO2 : Hid (os.map (·.data.toList) ++ partL 2 h :: ptsF (c, m, h) 3 = R) := by unfold Hid; rw [← pts_s2 z]; exact HO.out
        have z1 : (h != 0) = true := by simp [z]
        clear HO z
        go_wp2_with (fail)
        refine (amountText_is (k := 2) h rfl (by have := KR.out; unfold Rt at this; omega) (by have := KR.out; unfold Rt at this; omega) _ (HL.out.later HB2)).mono ?_
        rintro e w3 ⟨⟨t, rfl, ht⟩, hw3⟩
        have T : Hid (t.data.toList = amtL 2 h) := ht
        have ts := sadd_amt ht
        have q_3 := q_2.later hw3
        have HB3 : Below w.heap.size w w3 := HB2.trans (hw3.mono HB2.size)
        have own3 := own2.later hw3
        clear q_2 q_26 HB2 hw3 own2 hs ht
        have hs := HB3.size
        have q_36 := q_3.2.2.2.2.2.2
        have own4 : World.ownsRow (w3.alloc (.cells #[.string (⟨#[104, 117, 103, 101, 112, 97, 103, 101, 115]⟩ ++ ⟨#[61]⟩ ++ t)] 9)) (w.heap.size + 1) 9 1 _ os.length (os.map encS) := World.ownsRow.alloc own3 _
        have TT : Hid ((⟨#[104, 117, 103, 101, 112, 97, 103, 101, 115]⟩ ++ ⟨#[61]⟩ ++ t : ByteArray).data.toList = partL 2 h) := cat2 T.out
        have sz1 : ¬ 9223372036854775807 < (⟨#[104, 117, 103, 101, 112, 97, 103, 101, 115]⟩ : ByteArray).size + (⟨#[61]⟩ : ByteArray).size := by decide
        have sz2 : ¬ 9223372036854775807 < (⟨#[104, 117, 103, 101, 112, 97, 103, 101, 115]⟩ ++ ⟨#[61]⟩ : ByteArray).size + t.size := by rw [ByteArray.size_append, show (⟨#[104, 117, 103, 101, 112, 97, 103, 101, 115]⟩ : ByteArray).size + (⟨#[61]⟩ : ByteArray).size = 10 from rfl]; omega
        go_wp2_with (first
          | (at_builtin; refine wpList_append_own _ rfl _ _ 52 rfl (w.heap.size + 1) 9 i0 (.string ⟨#[]⟩) 1 16 Tryz.underlying52 hi hz0 hz1 hz2 rfl (by decide) _ _ _ rfl own4 ⟨w3.heap.size, 0, none⟩ 1 1 [.string (⟨#[104, 117, 103, 101, 112, 97, 103, 101, 115]⟩ ++ ⟨#[61]⟩ ++ t)] rfl rfl ?c1 ?c2 ?c3 ?c4 ?c5 ?_)
          | fail)
        case c1 =>
          intro j u hj
          match j, hj with
          | 0, hj => simp at hj; subst hj; simp [Addr.add]
        case c2 => intro u hu; simp at hu; subst hu; rfl
        case c3 => unfold maxLen; omega
        case c4 => omega
        case c5 => simp; omega
        · intro v' w4 hown' hgrow _
          have o2 : Own w4 (w.heap.size + 1) v' (os ++ [⟨#[104, 117, 103, 101, 112, 97, 103, 101, 115]⟩ ++ ⟨#[61]⟩ ++ t]) := Own.more hown'
          have HB4 : Below w.heap.size w w4 := (HB3.alloc HB3.size _).grown hgrow (by simp; omega) (fun k hk => by have := (World.ownsRow.lt own3 k hk).1; omega)
          have HO3 : Hid ((os ++ [⟨#[104, 117, 103, 101, 112, 97, 103, 101, 115]⟩ ++ ⟨#[61]⟩ ++ t]).map (·.data.toList) ++ ptsF (c, m, h) 3 = R) := by
            unfold Hid
            rw [← HO2.out, List.map_append, List.map_cons, TT.out]
            simp
          have q_4 : Bx3 w4 w.heap.size c m h := Bx3.grown (q_3.alloc _) hgrow (fun e => by have := (World.ownsRow.lt own3 _ e.symm).1; omega)
          have ol4 : (os ++ [⟨#[104, 117, 103, 101, 112, 97, 103, 101, 115]⟩ ++ ⟨#[61]⟩ ++ t]).length ≤ 3 := by rw [List.length_append]; simp only [List.length_cons, List.length_nil]; omega
          generalize (⟨#[104, 117, 103, 101, 112, 97, 103, 101, 115]⟩ ++ ⟨#[61]⟩ ++ t : ByteArray) = X at *
          clear hown' hgrow own3 own4 HO2 TT q_3 sz1 sz2 HB3
          go_wp2
          go_roundw
          case rel => exact ⟨3, os ++ [X], by go_num, by omega, ol4, o2, HO3, q_4, HB4⟩
          case measure => simp [intOf]
    | 3, _ =>
      have E : Hid (os.map (·.data.toList) = R) := by have := HO.out; rw [pts_e, List.append_nil] at this; exact this
      have on : os ≠ [] := fun e => RN.out (by rw [← E.out, e]; rfl)
      obtain ⟨g, cap, rfl, hcap, hg, hcells⟩ := hown.join on
      have HC : Hid (∀ (j : Nat) x, os[j]? = some x → wr.cell? ⟨g, 0 + j, none⟩ = some (.string x)) := hcells
      have JJ : Hid (Lib.join (os.map (·.data.toList)) [44] = joinL R) := by unfold Hid; rw [E.out, join_lib]
      clear on HO hcells hown
      go_wp2_with (fail)
      refine (Tryz.strings_Join g 0 cap os ⟨#[44]⟩ _ HC.out hg (by omega) hcap ?_).mono ?_
      · rw [show (⟨#[44]⟩ : ByteArray).data.toList = [44] from rfl, JJ.out]
        have := RJ.out
        omega
      rw [show (⟨#[44]⟩ : ByteArray).data.toList = [44] from rfl, JJ.out]
      rintro e w2 ⟨rfl, hw2⟩
      have HB2 : Below w.heap.size w w2 := HB.trans (hw2.mono HB.size)
      clear HB hw2
      go_wp2
      go_ret
      exact ⟨rfl, HB2⟩

end Go.Proofs.YtpbgolcimbjekaaGreatDoor
