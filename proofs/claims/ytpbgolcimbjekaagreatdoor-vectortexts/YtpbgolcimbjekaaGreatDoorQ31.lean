/-
  The document's own 'times' and Text of a vector at this program. Conditions: the vector is right.
  The document's Split of a text at a comma, at this program. Conditions: the text has at most 300 letters.
-/
import Derived.Test.YtpbgolcimbjekaaGreatDoorQ23
import Derived.Test.YtpbgolcimbjekaaGreatDoorQ30
import Derived.Deep.CutRange
import Derived.Deep.DeepCutAuto
namespace Go.Proofs.YtpbgolcimbjekaaGreatDoor
open Go.RowKit

theorem Is.wide {V : Int} {a : Nat} (e : V = (a : Int)) (h : a < 340282366920938463463374607431768211456) : Is (wh V) (wl V) a := by
  have k : V < 340282366920938463463374607431768211456 := by omega
  unfold wh wl
  rw [if_pos k, if_pos k]
  exact ⟨by omega, by omega, by omega, by omega, by omega⟩

set_option maxHeartbeats 1000000 in
set_option maxRecDepth 100000 in
theorem rvtimes_is {u : Int} {k v : Nat} (k1 : k ≤ 1125899906842624) (hu : u = (v : Int)) (v1 : v ≤ 1000000000) (w : World) :
    Calls Tryz.prog 17 #[.int .i64 (k : Int), .int .u64 u] w fun e w' => (∃ h l : Int, e = .returned (.agg #[.int .u64 h, .int .u64 l]) ∧ Is h l (k * v)) ∧ Below w.heap.size w w' := by
  have kb : (k : Int) ≤ 1125899906842624 := by omega
  have ku : ¬ (k : Int) < 0 := by omega
  have k0 : (0 : Int) ≤ (k : Int) := by omega
  have km : ((k : Int)) % 18446744073709551616 = (k : Int) := by omega
  have C1 : Hid (∀ w, Calls Tryz.prog 29 #[.agg #[.int .u64 0, .int .u64 (k : Int)]] w fun x w' => x = .returned (dv (k : Int)) ∧ Below w.heap.size w w') := fun w => rof_is (Is.small rfl (by omega)) w
  have C2 : Hid (∀ w, Calls Tryz.prog 29 #[.agg #[.int .u64 0, .int .u64 u]] w fun x w' => x = .returned (dv u) ∧ Below w.heap.size w w') := fun w => by
    have := rof_is (Is.small hu (by omega)) w
    rwa [← hu] at this
  obtain ⟨V, hV⟩ : ∃ V, V = (k : Int) * u := ⟨_, rfl⟩
  have u0 : 0 ≤ u := by omega
  have u1 : u ≤ 1000000000 := by omega
  have V0 : 0 ≤ V := by rw [hV]; exact Int.mul_nonneg k0 u0
  have V1 : V ≤ 1125899906842624 * 1000000000 := by rw [hV]; exact Int.mul_le_mul kb u1 u0 (by omega)
  have C3 : Hid (∀ w, Calls Tryz.prog 30 #[dv (k : Int), dv u] w fun x w' => x = .returned (dv V) ∧ Below w.heap.size w w') := fun w => by rw [hV]; exact times_dv (k : Int) u w k0 (by omega) u0 (by omega)
  obtain ⟨h, hh⟩ : ∃ h, h = wh V := ⟨_, rfl⟩
  obtain ⟨l, hl⟩ : ∃ l, l = wl V := ⟨_, rfl⟩
  obtain ⟨b, hb⟩ : ∃ b, b = wt V := ⟨_, rfl⟩
  have C4 : Hid (∀ w, Calls Tryz.prog 31 #[dv V] w fun x w' => x = .returned (.tuple #[.agg #[.int .u64 h, .int .u64 l], .bool b]) ∧ Below w.heap.size w w') := fun w => by
    rw [hh, hl, hb]
    exact wide_dv V w V0 (by have := pow20; omega)
  have I : Hid (Is h l (k * v)) := by
    unfold Hid
    rw [hh, hl]
    refine Is.wide (by rw [hV, hu]; simp) ?_
    have : ((k * v : Nat) : Int) = V := by rw [hV, hu]; simp
    omega
  generalize dv (k : Int) = D1 at C1 C3
  generalize dv u = D2 at C2 C3
  generalize dv V = D3 at C3 C4
  clear hh hl hb hV V0 V1 hu
  go_enter Tryz.func17, Tryz.ntmps17
  go_wp2_with (fail)
  refine (C1.out _).mono ?_
  rintro e w1 ⟨rfl, hw1⟩
  have HBw1 : Below w.heap.size w w1 := Below.trans (by go_grown) (hw1.mono (by first | omega | (simp; done) | (simp; omega)))
  have p_a : Box w1 (w.heap.size) (0) (0) := Box.later hw1 (by repeat (first | assumption | (refine Box.new _ _ _ _ _ ?_; simp; done) | refine Box.alloc ?_ _ | refine Box.drew ?_ | (apply Box.put) | (refine Box.beside ?_ _ _ _ (by omega))))
  have q_a := p_a
  obtain ⟨a0, a1, a2, a3, a4⟩ := p_a
  have hsw1 := hw1.size
  (try simp at hsw1)
  clear hw1
  go_wp2_with (fail)
  refine (C2.out _).mono ?_
  rintro e w2 ⟨rfl, hw2⟩
  have HBw2 : Below w.heap.size w w2 := Below.trans (by go_grown) (hw2.mono (by first | omega | (simp; done) | (simp; omega)))
  have p_a : Box w2 (w.heap.size) (0) (0) := Box.later hw2 (by repeat (first | assumption | (refine Box.new _ _ _ _ _ ?_; simp; done) | refine Box.alloc ?_ _ | refine Box.drew ?_ | (apply Box.put) | (refine Box.beside ?_ _ _ _ (by omega))))
  clear q_a a0 a1 a2 a3 a4
  have q_a := p_a
  obtain ⟨a0, a1, a2, a3, a4⟩ := p_a
  have hsw2 := hw2.size
  (try simp at hsw2)
  clear hw2
  go_wp2_with (fail)
  refine (C3.out _).mono ?_
  rintro e w3 ⟨rfl, hw3⟩
  have HBw3 : Below w.heap.size w w3 := Below.trans (by go_grown) (hw3.mono (by first | omega | (simp; done) | (simp; omega)))
  have p_a : Box w3 (w.heap.size) (0) (0) := Box.later hw3 (by repeat (first | assumption | (refine Box.new _ _ _ _ _ ?_; simp; done) | refine Box.alloc ?_ _ | refine Box.drew ?_ | (apply Box.put) | (refine Box.beside ?_ _ _ _ (by omega))))
  clear q_a a0 a1 a2 a3 a4
  have q_a := p_a
  obtain ⟨a0, a1, a2, a3, a4⟩ := p_a
  have hsw3 := hw3.size
  (try simp at hsw3)
  clear hw3
  go_wp2_with (fail)
  refine (C4.out _).mono ?_
  rintro e w4 ⟨rfl, hw4⟩
  have HBw4 : Below w.heap.size w w4 := Below.trans (by go_grown) (hw4.mono (by first | omega | (simp; done) | (simp; omega)))
  have p_a : Box w4 (w.heap.size) (0) (0) := Box.later hw4 (by repeat (first | assumption | (refine Box.new _ _ _ _ _ ?_; simp; done) | refine Box.alloc ?_ _ | refine Box.drew ?_ | (apply Box.put) | (refine Box.beside ?_ _ _ _ (by omega))))
  clear q_a a0 a1 a2 a3 a4
  have q_a := p_a
  obtain ⟨a0, a1, a2, a3, a4⟩ := p_a
  have hsw4 := hw4.size
  (try simp at hsw4)
  clear hw4
  have nb : w.heap.size < w4.heap.size := a4
  go_wp2
  refine bodyPost_ret (v := .agg #[.int .u64 h, .int .u64 l]) (by simp [results, Tryz.results17, go_sem, a0, a1, nb]) rfl ?_
  exact ⟨⟨h, l, rfl, I.out⟩, by go_grown⟩

/-- A part of the document's text: with a comma ahead. -/
def cpart (r : Nat) (n : Int) : List UInt8 := if n = 0 then [] else 44 :: partL r n
theorem cparts (c m h : Int) : cpart 0 c ++ cpart 1 m ++ cpart 2 h = (pts (c, m, h)).flatMap (fun p => 44 :: p) := by
  unfold cpart pts
  by_cases a : c = 0 <;> by_cases b : m = 0 <;> by_cases d : h = 0 <;> simp [a, b, d]
theorem flat_join : ∀ ps : List (List UInt8), ps ≠ [] → ps.flatMap (fun p => 44 :: p) = 44 :: joinL ps
  | [], h => absurd rfl h
  | [p], _ => by simp [joinL]
  | p :: q :: r, _ => by
    have := flat_join (q :: r) (by simp)
    rw [List.flatMap_cons, this, joinL]
    simp
theorem cpart_len (r : Nat) (n : Int) : (cpart r n).length ≤ 111 := by
  have := part_most (r := r) n
  unfold cpart
  split
  · simp
  · simp; omega
theorem drop_extract (s : ByteArray) (j : Nat) : (s.extract j s.size).data.toList = s.data.toList.drop j := by
  rw [ByteArray.data_extract, Array.toList_extract]
  simp
  exact List.take_of_length_le (by simp)
theorem rcat0 {n : Int} {t : ByteArray} (z : n ≠ 0) (h : t.data.toList = amtL 0 n) : ((⟨#[44, 99, 112, 117, 61]⟩ : ByteArray) ++ t).data.toList = cpart 0 n := by simp [cpart, z, partL, nmL, cpuL, h]
theorem rcat1 {n : Int} {t : ByteArray} (z : n ≠ 0) (h : t.data.toList = amtL 1 n) : ((⟨#[44, 109, 101, 109, 111, 114, 121, 61]⟩ : ByteArray) ++ t).data.toList = cpart 1 n := by simp [cpart, z, partL, nmL, memL, h]
theorem rcat2 {n : Int} {t : ByteArray} (z : n ≠ 0) (h : t.data.toList = amtL 2 n) : ((⟨#[44, 104, 117, 103, 101, 112, 97, 103, 101, 115, 61]⟩ : ByteArray) ++ t).data.toList = cpart 2 n := by simp [cpart, z, partL, nmL, hugL, h]

set_option maxHeartbeats 4000000 in
set_option maxRecDepth 100000 in
theorem rvtext_is {c m h : Int} (k : Rt c m h) (w : World) :
    Calls Tryz.prog 6 #[.agg #[.int .i64 c, .int .i64 m, .int .i64 h]] w fun e w' => e = .returned (.string ⟨(textV (c, m, h)).toArray⟩) ∧ Below w.heap.size w w' := by
  obtain ⟨R, hR⟩ : ∃ R, R = textV (c, m, h) := ⟨_, rfl⟩
  rw [← hR]
  have HR : Hid (R = (if pts (c, m, h) = [] then [45] else joinL (pts (c, m, h)))) := by unfold Hid; rw [hR]; exact if_pos k
  clear hR
  have KR : Hid (Rt c m h) := k
  clear k
  go_enter Tryz.func6, Tryz.ntmps6
  go_upto_if 6 with (fail)
  go_cut [3, 6] (fun s3 _ wc => ∃ t : ByteArray, s3 = .string t ∧ Hid (t.data.toList = cpart 0 c) ∧ Bx3 wc w.heap.size c m h ∧ Below w.heap.size w wc)
  case first =>
    by_cases z : 0 < c
    · have Z : Hid (c ≠ 0) := by unfold Hid; omega
      obtain ⟨n, hn⟩ : ∃ n : Nat, c = (n : Int) := ⟨c.toNat, by omega⟩
      have n1 : n ≤ 1125899906842624 := by have := KR.out; unfold Rt at this; omega
      have TI : Hid (∀ w, Calls Tryz.prog 17 #[.int .i64 c, .int .u64 1000000] w fun e w' => (∃ h l : Int, e = .returned (.agg #[.int .u64 h, .int .u64 l]) ∧ Is h l (n * 1000000)) ∧ Below w.heap.size w w') := fun w => by
        rw [hn]; exact rvtimes_is (v := 1000000) n1 rfl (by decide) w
      have NN : Hid (c.toNat = n ∧ n * 1000000 ≤ most) := by
        have := KR.out
        unfold Rt at this
        unfold Hid most
        omega
      clear hn n1
      go_wp2_with (fail)
      refine (TI.out _).mono ?_
      rintro e w1 ⟨⟨wh', wl', rfl, i⟩, hw1⟩
      have I : Hid _ := i
      have q_1 := (Bx3.new w w.heap.size c m h _ rfl).later hw1
      have HB1 : Below w.heap.size w w1 := Below.trans (by go_grown) (hw1.mono (by simp))
      clear i hw1
      go_wp2_with (fail)
      refine (rtextAmount_is I.out NN.out.2 _).mono ?_
      rintro e w2 ⟨⟨t2, rfl, ht⟩, hw2⟩
      have ht2 : t2.data.toList = amtL 0 c := by unfold amtL; rw [NN.out.1]; rw [if_pos rfl]; exact ht
      have ts := sadd_amt ht2
      have TT : Hid ((⟨#[44, 99, 112, 117, 61]⟩ ++ t2 : ByteArray).data.toList = cpart 0 c) := rcat0 Z.out ht2
      have q_2 := q_1.later hw2
      have HB2 : Below w.heap.size w w2 := HB1.trans (hw2.mono HB1.size)
      have sz1 : ¬ 9223372036854775807 < (⟨#[44, 99, 112, 117, 61]⟩ : ByteArray).size + t2.size := by rw [show (⟨#[44, 99, 112, 117, 61]⟩ : ByteArray).size = 5 from rfl]; omega
      have sz2 : ¬ 9223372036854775807 < (⟨#[]⟩ : ByteArray).size + (⟨#[44, 99, 112, 117, 61]⟩ ++ t2 : ByteArray).size := by rw [ByteArray.size_append, show (⟨#[]⟩ : ByteArray).size = 0 from rfl, show (⟨#[44, 99, 112, 117, 61]⟩ : ByteArray).size = 5 from rfl]; omega
      clear ht ht2 hw2 q_1 HB1
      go_wp2_with (fail)
      go_meet
      case rel => exact ⟨_, rfl, by unfold Hid; rw [← TT.out]; simp, q_2, HB2⟩
    · have Z : Hid (c = 0) := by have := KR.out; unfold Rt at this; unfold Hid; omega
      go_wp2_with (fail)
      go_meet
      case rel => exact ⟨_, rfl, by unfold Hid cpart; rw [if_pos Z.out], Bx3.new w w.heap.size c m h _ rfl, by go_grown⟩
  case rest =>
    obtain ⟨t, rfl, TP, q_p, HB⟩ := hcut
    have tsz : t.size ≤ 111 := by
      have := TP.out
      rw [← ba_len, this]
      have := cpart_len 0 c
      have := cpart_len 1 m
      have := cpart_len 2 h
      simp <;> omega
    obtain ⟨p0, p1, p2, p3, p4, p5, p6⟩ := id q_p
    go_upto_if 16 with (fail)
    go_cut [3, 16] (fun s3 _ wc => ∃ t : ByteArray, s3 = .string t ∧ Hid (t.data.toList = cpart 0 c ++ cpart 1 m) ∧ Bx3 wc w.heap.size c m h ∧ Below w.heap.size w wc)
    case first =>
      by_cases z : 0 < m
      · have Z : Hid (m ≠ 0) := by unfold Hid; omega
        obtain ⟨n, hn⟩ : ∃ n : Nat, m = (n : Int) := ⟨m.toNat, by omega⟩
        have n1 : n ≤ 1125899906842624 := by have := KR.out; unfold Rt at this; omega
        have TI : Hid (∀ w, Calls Tryz.prog 17 #[.int .i64 m, .int .u64 1000000000] w fun e w' => (∃ h l : Int, e = .returned (.agg #[.int .u64 h, .int .u64 l]) ∧ Is h l (n * 1000000000)) ∧ Below w.heap.size w w') := fun w => by
          rw [hn]; exact rvtimes_is (v := 1000000000) n1 rfl (by decide) w
        have NN : Hid (m.toNat = n ∧ n * 1000000000 ≤ most) := by
          have := KR.out
          unfold Rt at this
          unfold Hid most
          omega
        clear hn n1
        go_wp2_with (fail)
        refine (TI.out _).mono ?_
        rintro e w1 ⟨⟨wh', wl', rfl, i⟩, hw1⟩
        have I : Hid _ := i
        have q_1 := q_p.later hw1
        have HB1 : Below w.heap.size w w1 := Below.trans HB (hw1.mono HB.size)
        clear i hw1
        go_wp2_with (fail)
        refine (rbinAmount_is I.out NN.out.2 _).mono ?_
        rintro e w2 ⟨⟨t2, rfl, ht⟩, hw2⟩
        have ht2 : t2.data.toList = amtL 1 m := by unfold amtL; rw [NN.out.1]; rw [if_neg (by decide)]; exact ht
        have ts := sadd_amt ht2
        have TT : Hid ((⟨#[44, 109, 101, 109, 111, 114, 121, 61]⟩ ++ t2 : ByteArray).data.toList = cpart 1 m) := rcat1 Z.out ht2
        have q_2 := q_1.later hw2
        have HB2 : Below w.heap.size w w2 := HB1.trans (hw2.mono HB1.size)
        have sz1 : ¬ 9223372036854775807 < (⟨#[44, 109, 101, 109, 111, 114, 121, 61]⟩ : ByteArray).size + t2.size := by rw [show (⟨#[44, 109, 101, 109, 111, 114, 121, 61]⟩ : ByteArray).size = 8 from rfl]; omega
        have sz2 : ¬ 9223372036854775807 < t.size + (⟨#[44, 109, 101, 109, 111, 114, 121, 61]⟩ ++ t2 : ByteArray).size := by rw [ByteArray.size_append, show (⟨#[44, 109, 101, 109, 111, 114, 121, 61]⟩ : ByteArray).size = 8 from rfl]; omega
        clear ht ht2 hw2 q_1 HB1
        go_wp2_with (fail)
        go_meet
        case rel => exact ⟨_, rfl, by unfold Hid; rw [← TT.out, ← TP.out]; simp, q_2, HB2⟩
      · have Z : Hid (m = 0) := by have := KR.out; unfold Rt at this; unfold Hid; omega
        go_wp2_with (fail)
        go_meet
        case rel => exact ⟨_, rfl, by unfold Hid; rw [TP.out, show cpart 1 m = [] from if_pos Z.out, List.append_nil], q_p, HB⟩
    case rest =>
      obtain ⟨t, rfl, TP, q_p, HB⟩ := hcut
      have tsz : t.size ≤ 222 := by
        have := TP.out
        rw [← ba_len, this]
        have := cpart_len 0 c
        have := cpart_len 1 m
        have := cpart_len 2 h
        simp <;> omega
      obtain ⟨p0, p1, p2, p3, p4, p5, p6⟩ := id q_p
      go_upto_if 26 with (fail)
      go_cut [3, 26] (fun s3 _ wc => ∃ t : ByteArray, s3 = .string t ∧ Hid (t.data.toList = cpart 0 c ++ cpart 1 m ++ cpart 2 h) ∧ Bx3 wc w.heap.size c m h ∧ Below w.heap.size w wc)
      case first =>
        by_cases z : 0 < h
        · have Z : Hid (h ≠ 0) := by unfold Hid; omega
          obtain ⟨n, hn⟩ : ∃ n : Nat, h = (n : Int) := ⟨h.toNat, by omega⟩
          have n1 : n ≤ 1125899906842624 := by have := KR.out; unfold Rt at this; omega
          have TI : Hid (∀ w, Calls Tryz.prog 17 #[.int .i64 h, .int .u64 1000000000] w fun e w' => (∃ h l : Int, e = .returned (.agg #[.int .u64 h, .int .u64 l]) ∧ Is h l (n * 1000000000)) ∧ Below w.heap.size w w') := fun w => by
            rw [hn]; exact rvtimes_is (v := 1000000000) n1 rfl (by decide) w
          have NN : Hid (h.toNat = n ∧ n * 1000000000 ≤ most) := by
            have := KR.out
            unfold Rt at this
            unfold Hid most
            omega
          clear hn n1
          go_wp2_with (fail)
          refine (TI.out _).mono ?_
          rintro e w1 ⟨⟨wh', wl', rfl, i⟩, hw1⟩
          have I : Hid _ := i
          have q_1 := q_p.later hw1
          have HB1 : Below w.heap.size w w1 := Below.trans HB (hw1.mono HB.size)
          clear i hw1
          go_wp2_with (fail)
          refine (rbinAmount_is I.out NN.out.2 _).mono ?_
          rintro e w2 ⟨⟨t2, rfl, ht⟩, hw2⟩
          have ht2 : t2.data.toList = amtL 2 h := by unfold amtL; rw [NN.out.1]; rw [if_neg (by decide)]; exact ht
          have ts := sadd_amt ht2
          have TT : Hid ((⟨#[44, 104, 117, 103, 101, 112, 97, 103, 101, 115, 61]⟩ ++ t2 : ByteArray).data.toList = cpart 2 h) := rcat2 Z.out ht2
          have q_2 := q_1.later hw2
          have HB2 : Below w.heap.size w w2 := HB1.trans (hw2.mono HB1.size)
          have sz1 : ¬ 9223372036854775807 < (⟨#[44, 104, 117, 103, 101, 112, 97, 103, 101, 115, 61]⟩ : ByteArray).size + t2.size := by rw [show (⟨#[44, 104, 117, 103, 101, 112, 97, 103, 101, 115, 61]⟩ : ByteArray).size = 11 from rfl]; omega
          have sz2 : ¬ 9223372036854775807 < t.size + (⟨#[44, 104, 117, 103, 101, 112, 97, 103, 101, 115, 61]⟩ ++ t2 : ByteArray).size := by rw [ByteArray.size_append, show (⟨#[44, 104, 117, 103, 101, 112, 97, 103, 101, 115, 61]⟩ : ByteArray).size = 11 from rfl]; omega
          clear ht ht2 hw2 q_1 HB1
          go_wp2_with (fail)
          go_meet
          case rel => exact ⟨_, rfl, by unfold Hid; rw [← TT.out, ← TP.out]; simp, q_2, HB2⟩
        · have Z : Hid (h = 0) := by have := KR.out; unfold Rt at this; unfold Hid; omega
          go_wp2_with (fail)
          go_meet
          case rel => exact ⟨_, rfl, by unfold Hid; rw [TP.out, show cpart 2 h = [] from if_pos Z.out, List.append_nil], q_p, HB⟩
      case rest =>
        obtain ⟨t, rfl, TP, q_p, HB⟩ := hcut
        have tsz : t.size ≤ 333 := by
          have := TP.out
          rw [← ba_len, this]
          have := cpart_len 0 c
          have := cpart_len 1 m
          have := cpart_len 2 h
          simp <;> omega
        obtain ⟨p0, p1, p2, p3, p4, p5, p6⟩ := id q_p
        have E := TP.out
        rw [cparts] at E
        by_cases z : pts (c, m, h) = []
        · rw [z] at E
          obtain rfl := ba_eq E
          have X : Hid (R = [45]) := by unfold Hid; rw [HR.out, if_pos z]
          clear E z TP HR
          go_wp2
          go_ret
          exact ⟨by rw [X.out]; rfl, HB⟩
        · rw [flat_join _ z] at E
          have X : Hid (t.data.toList = 44 :: R) := by unfold Hid; rw [E, HR.out, if_neg z]
          have tl : 1 ≤ t.size := by rw [← ba_len, E]; simp
          have g1 : t.toList.isEmpty = false := by rw [empty_iff]; exact decide_eq_false (by rw [E]; simp)
          have g2 : (t.toList == ([] : List UInt8)) = false := by rw [ByteArray.toList_eq, beq_dec]; exact decide_eq_false (by rw [E]; simp)
          have t1 : (1 : Int) ≤ (t.size : Int) := by omega
          clear E z TP HR
          go_wp2
          go_ret
          exact ⟨by rw [ba_eq (t := t.extract 1 t.size) (l := R) (by rw [drop_extract, X.out]; rfl)]; rfl, HB⟩

end Go.Proofs.YtpbgolcimbjekaaGreatDoor

namespace Go.Proofs.YtpbgolcimbjekaaGreatDoor
open Go.RowKit

/-- Behind so many letters: the parts so far and what is left make the parts of all. -/
def SplitAt (l : List UInt8) (os : List ByteArray) (f i : Nat) : Prop := f ≤ i ∧ i ≤ l.length ∧ os.length ≤ f ∧ os.map (·.data.toList) ++ segs (l.drop f) = segs l ∧ ∀ c ∈ (l.drop f).take (i - f), c ≠ 44
theorem take_next {l : List UInt8} {f i : Nat} (hf : f ≤ i) (hi : i < l.length) : (l.drop f).take (i + 1 - f) = (l.drop f).take (i - f) ++ [l[i]] := by
  rw [show i + 1 - f = (i - f) + 1 by omega, List.take_succ_eq_append_getElem (by simp; omega)]
  simp [show f + (i - f) = i by omega]
theorem drop_part {l : List UInt8} {f i : Nat} (hf : f ≤ i) (hi : i < l.length) : l.drop f = (l.drop f).take (i - f) ++ l[i] :: l.drop (i + 1) := by
  conv => lhs; rw [← List.take_append_drop (i - f) (l.drop f)]
  rw [List.drop_drop, show f + (i - f) = i by omega, List.drop_eq_getElem_cons hi]
theorem SplitAt.on {l : List UInt8} {os : List ByteArray} {f i : Nat} (h : SplitAt l os f i) (hi : i < l.length) (hc : l[i] ≠ 44) : SplitAt l os f (i + 1) := by
  obtain ⟨h1, h2, h3, h4, h5⟩ := h
  refine ⟨by omega, by omega, h3, h4, fun c hm => ?_⟩
  rw [take_next h1 hi] at hm
  rcases List.mem_append.1 hm with hm | hm
  · exact h5 c hm
  · rw [List.mem_singleton.1 hm]; exact hc
theorem SplitAt.cut {l : List UInt8} {os : List ByteArray} {f i : Nat} {t : ByteArray} (h : SplitAt l os f i) (hi : i < l.length) (hc : l[i] = 44) (ht : t.data.toList = (l.drop f).take (i - f)) : SplitAt l (os ++ [t]) (i + 1) (i + 1) := by
  obtain ⟨h1, h2, h3, h4, h5⟩ := h
  refine ⟨by omega, by omega, by simp; omega, ?_, by simp⟩
  have e := drop_part h1 hi
  rw [hc] at e
  have e2 : segs (l.drop f) = (l.drop f).take (i - f) :: segs (l.drop (i + 1)) := by
    conv => lhs; rw [e]
    exact segs_more h5
  rw [← h4, e2, List.map_append, List.map_cons, ht]
  simp
theorem SplitAt.end {l : List UInt8} {os : List ByteArray} {f : Nat} {t : ByteArray} (h : SplitAt l os f l.length) (ht : t.data.toList = l.drop f) : (os ++ [t]).map (·.data.toList) = segs l := by
  obtain ⟨h1, h2, h3, h4, h5⟩ := h
  rw [← h4, segs_plain (l := l.drop f) (fun c hc => h5 c (by rw [List.take_of_length_le (by simp)]; exact hc)), List.map_append, List.map_cons, ht]
  rfl
theorem mid_extract (s : ByteArray) (f i : Nat) : (s.extract f i).data.toList = (s.data.toList.drop f).take (i - f) := by
  rw [ByteArray.data_extract, Array.toList_extract, List.extract_eq_take_drop]
theorem at_list (s : ByteArray) (i : Nat) (h : i < s.size) : s.data.toList[i]'(by rw [ba_len]; exact h) = s[i] := by
  rw [Array.getElem_toList]; rfl

set_option maxHeartbeats 2000000 in
set_option maxRecDepth 100000 in
theorem split_is (s : ByteArray) (hm : s.size ≤ 300) (w : World) :
    Calls Tryz.prog 23 #[.string s, .int .u8 44] w fun e w' => ∃ (o : Value) (os : List ByteArray), e = .returned o ∧ Own w' w.heap.size o os ∧ os.map (·.data.toList) = segs s.data.toList ∧ os.length ≤ 301 ∧ Below w.heap.size w w' := by
  have HS : Hid (SplitAt s.data.toList [] 0 0) := ⟨by omega, by omega, by simp, by simp, by simp⟩
  obtain ⟨i0, hi, hz0, hz1, hz2⟩ := info_parts strInfo
  go_enter Tryz.func23, Tryz.ntmps23
  go_wp2
  go_loopw [5, 6, 7] (fun o g f wr => ∃ (i fr : Nat) (os : List ByteArray), f = .int .i64 i ∧ g = .int .i64 fr ∧ i ≤ s.size ∧ fr ≤ i ∧ os.length ≤ fr ∧ Own wr w.heap.size o os ∧ Hid (SplitAt s.data.toList os fr i) ∧ Below w.heap.size w wr) (fun _ _ f _ => s.size - (intOf f).toNat)
  case atStart => exact ⟨0, 0, [], rfl, rfl, by omega, by omega, by simp, Own.nil _ _, HS, by go_grown⟩
  case round =>
    obtain ⟨i, fr, os, rfl, rfl, il, fl, ol, hown, HA, HB⟩ := hrel
    have hs := HB.size
    have i0' : (0 : Int) ≤ (i : Int) := by omega
    have f0' : (0 : Int) ≤ (fr : Int) := by omega
    have fi' : (fr : Int) ≤ (i : Int) := by omega
    by_cases ci : i < s.size
    · have i1' : (i : Int) < (s.size : Int) := by omega
      have i2' : (i : Int) ≤ (s.size : Int) := by omega
      by_cases e : s[i].toNat = 44
      · have e' : s[i] = 44 := by apply UInt8.toNat_inj.1; simpa using e
        have T : Hid (SplitAt s.data.toList (os ++ [s.extract fr i]) (i + 1) (i + 1)) := HA.out.cut (by rw [ba_len]; exact ci) ((at_list s i ci).trans e') (mid_extract s fr i)
        have own4 : World.ownsRow (wr.alloc (.cells #[.string (s.extract fr i)] 9)) w.heap.size 9 1 _ os.length (os.map encS) := World.ownsRow.alloc hown _
        go_wp2_with (first
          | (at_builtin; refine wpList_append_own _ rfl _ _ 52 rfl w.heap.size 9 i0 (.string ⟨#[]⟩) 1 16 Tryz.underlying52 hi hz0 hz1 hz2 rfl (by decide) _ _ _ rfl own4 ⟨wr.heap.size, 0, none⟩ 1 1 [.string (s.extract fr i)] rfl rfl ?c1 ?c2 ?c3 ?c4 ?c5 ?_)
          | fail)
        case c1 =>
          intro j u hj
          match j, hj with
          | 0, hj => simp at hj; subst hj; simp [Addr.add]
        case c2 => intro u hu; simp at hu; subst hu; rfl
        case c3 => unfold maxLen; omega
        case c4 => omega
        case c5 => simp; omega
        · intro v' w4 hown' hgrow _
          have o2 : Own w4 w.heap.size v' (os ++ [s.extract fr i]) := Own.more hown'
          have HB4 : Below w.heap.size w w4 := (HB.alloc HB.size _).grown hgrow (by simp; omega) (fun k hk => (World.ownsRow.lt hown k hk).1)
          clear hown' hgrow hown own4 HA
          go_wp2
          go_roundw
          case rel => exact ⟨i + 1, i + 1, os ++ [s.extract fr i], by go_num, by go_num, by omega, by omega, by simp; omega, o2, T, HB4⟩
          case measure => simp [intOf]; omega
      · have T : Hid (SplitAt s.data.toList os fr (i + 1)) := HA.out.on (by rw [ba_len]; exact ci) (by rw [at_list s i ci]; rintro h; exact e (by rw [h]; rfl))
        have e2 : ((s[i].toNat : Int) == 44) = false := by simp; omega
        clear HA
        go_wp2
        go_roundw
        case rel => exact ⟨i + 1, fr, os, by go_num, rfl, by omega, by omega, ol, hown, T, HB⟩
        case measure => simp [intOf]; omega
    · obtain rfl : i = s.size := by omega
      have fs : (fr : Int) ≤ (s.size : Int) := by omega
      have T : Hid ((os ++ [s.extract fr s.size]).map (·.data.toList) = segs s.data.toList) := by
        have := HA.out
        rw [← ba_len] at this
        exact this.end (drop_extract s fr)
      have own4 : World.ownsRow (wr.alloc (.cells #[.string (s.extract fr s.size)] 9)) w.heap.size 9 1 _ os.length (os.map encS) := World.ownsRow.alloc hown _
      go_wp2_with (first
        | (at_builtin; refine wpList_append_own _ rfl _ _ 52 rfl w.heap.size 9 i0 (.string ⟨#[]⟩) 1 16 Tryz.underlying52 hi hz0 hz1 hz2 rfl (by decide) _ _ _ rfl own4 ⟨wr.heap.size, 0, none⟩ 1 1 [.string (s.extract fr s.size)] rfl rfl ?e1 ?e2 ?e3 ?e4 ?e5 ?_)
        | fail)
      case e1 =>
        intro j u hj
        match j, hj with
        | 0, hj => simp at hj; subst hj; simp [Addr.add]
      case e2 => intro u hu; simp at hu; subst hu; rfl
      case e3 => unfold maxLen; omega
      case e4 => omega
      case e5 => simp; omega
      · intro v' w4 hown' hgrow _
        have o2 : Own w4 w.heap.size v' (os ++ [s.extract fr s.size]) := Own.more hown'
        have HB4 : Below w.heap.size w w4 := (HB.alloc HB.size _).grown hgrow (by simp; omega) (fun k hk => (World.ownsRow.lt hown k hk).1)
        clear hown' hgrow hown own4 HA
        go_wp2
        go_ret
        exact ⟨_, _, rfl, o2, T.out, by simp; omega, HB4⟩

end Go.Proofs.YtpbgolcimbjekaaGreatDoor
