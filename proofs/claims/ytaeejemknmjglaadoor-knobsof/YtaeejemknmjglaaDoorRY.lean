/-
  The text of knobs at this program: package knobs' own. Conditions: the numbers are ints; the tables of the program lie as its text lays them.
-/
import Derived.Test.YtaeejemknmjglaaDoorRX
namespace Go.Proofs.YtaeejemknmjglaaDoor.Sp
open Go.RowKit

theorem join_max {ka kb kc kd ke : Int} (h : InK ka kb kc kd ke) : (txtK ka kb kc kd ke).length ≤ 110 := txt_len h 5 (by omega)

set_option maxHeartbeats 4000000 in
set_option maxRecDepth 100000 in
theorem textK_is (ka kb kc kd ke : Int) (h : InK ka kb kc kd ke) (w : World) (hL : LaidK w) :
    Calls Tryd.prog 23 #[.agg #[.int .i64 ka, .int .i64 kb, .int .i64 kc, .int .i64 kd, .int .i64 ke]] w fun e w' => e = .returned (.string (bt (txtK ka kb kc kd ke))) ∧ Below w.heap.size w w' := by
  obtain ⟨zs, hzs⟩ : ∃ zs : List Int, zs = [ka, kb, kc, kd, ke] := ⟨_, rfl⟩
  have zl : zs.length = 5 := by rw [hzs]; rfl
  have ZN : Hid (∀ j, j < 5 → zs[j]? = some (numK ka kb kc kd ke j)) := fun j hj => by rw [hzs]; exact num_at hj
  obtain ⟨R, hR⟩ : ∃ R, R = bt (txtK ka kb kc kd ke) := ⟨_, rfl⟩
  rw [← hR]
  have HR : Hid (R = ⟨(Lib.join ((zs.map fun n => bt (numL n)).map (·.data.toList)) [32]).toArray⟩) := by
    unfold Hid
    rw [hR, hzs]
    rfl
  have HM : Hid ((Lib.join ((zs.map fun n => bt (numL n)).map (·.data.toList)) [32]).length ≤ 140737488355328) := by
    unfold Hid
    have := join_max h
    rw [hzs]
    show (txtK ka kb kc kd ke).length ≤ _
    omega
  obtain ⟨X, hX⟩ := run_ex zs (fun n => bt (numL n)) (fun t => [Value.string t])
  have HX : Hid (Run zs (fun n => bt (numL n)) (fun t => [Value.string t]) X) := hX
  have HL : Hid (LaidK w) := hL
  have HI : Hid (InK ka kb kc kd ke) := h
  clear hX hR hzs hL h
  obtain ⟨i0, hi, hz0, hz1, hz2⟩ := info_parts strInfo
  go_enter Tryd.func23, Tryd.ntmps23
  go_wp2_with (at_make; refine wpList_make_own _ rfl _ _ 59 rfl (w.heap.size + 1) 9 i0 (.string ⟨#[]⟩) 1 Tryd.underlying59 hi hz0 hz1 _ _ _ 5 rfl rfl rfl (by rw [hz2]; omega) (by unfold maxLen; omega) (by simp) ?_)
  intro w1 hown hgrow
  have HB1 : Below w.heap.size w w1 := Below.grown (show Below w.heap.size w _ by go_grown) hgrow (by simp) (fun k hk => by cases hk)
  have o1 : Owns w1 (w.heap.size + 1) 9 1 (.slice (some ⟨w.heap.size + 1, 0, none⟩) 0 5) [] := Owns.made (by simpa using hown) rfl
  have q_a : Cs w1 w.heap.size [.int .i64 ka, .int .i64 kb, .int .i64 kc, .int .i64 kd, .int .i64 ke] := Cs.grown (by repeat (first | assumption | (refine Cs.new _ _ _ _ ?_; simp; done) | refine Cs.alloc ?_ _ | refine Cs.drew ?_ | (refine Cs.beside ?_ _ _ (by omega)))) hgrow (fun e => by cases e)
  have p0 : w1.cell? ⟨w.heap.size, 0, none⟩ = some (.int .i64 ka) := q_a.1 0 _ rfl
  have p1 : w1.cell? ⟨w.heap.size, 1, none⟩ = some (.int .i64 kb) := q_a.1 1 _ rfl
  have p2 : w1.cell? ⟨w.heap.size, 2, none⟩ = some (.int .i64 kc) := q_a.1 2 _ rfl
  have p3 : w1.cell? ⟨w.heap.size, 3, none⟩ = some (.int .i64 kd) := q_a.1 3 _ rfl
  have p4 : w1.cell? ⟨w.heap.size, 4, none⟩ = some (.int .i64 ke) := q_a.1 4 _ rfl
  have pz := q_a.2.2
  clear hown hgrow q_a
  go_wp2_with (fail)
  refine (numbers_is ka kb kc kd ke _).mono ?_
  rintro e w2 ⟨rfl, hw2⟩
  have HB2 : Below w.heap.size w w2 := HB1.trans (hw2.mono HB1.size)
  have o2 := o1.later hw2
  clear p0 p1 p2 p3 p4 pz o1 HB1 hw2
  go_wp2
  go_loopw [3, 9] (fun o f wr => ∃ j : Nat, f = .int .i64 j ∧ j ≤ 5 ∧ Owns wr (w.heap.size + 1) 9 1 o (X j) ∧ Below w.heap.size w wr) (fun _ f _ => 5 - (intOf f).toNat)
  case atStart => exact ⟨0, rfl, by omega, by rw [HX.out.zero]; exact o2, HB2⟩
  case round =>
    clear o2 HB2
    obtain ⟨j, rfl, jl, own, HB⟩ := hrel
    have hs := HB.size
    have ol : Hid ((X j).length = j) := HX.out.len j (by omega)
    by_cases j5 : j = 5
    · subst j5
      have XA : X 5 = (zs.map fun n => bt (numL n)).map fun t => [Value.string t] := by rw [← zl]; exact HX.out.all
      rw [XA] at own
      obtain ⟨a, cap, rfl, a1, a2, -, a3⟩ := own.read
      rw [List.length_map] at a1
      obtain ⟨xs, hxs⟩ : ∃ xs, xs = zs.map fun n => bt (numL n) := ⟨_, rfl⟩
      have xl : xs.length = 5 := by rw [hxs, List.length_map, zl]
      rw [← hxs] at a1 a3 own HR HM
      rw [← hxs]
      obtain ⟨b, rfl, -⟩ := a3 0 [.string (xs.getD 0 ⟨#[]⟩)] (by rw [List.getElem?_map, List.getD, show xs[0]? = some xs[0] from List.getElem?_eq_getElem (by omega)]; rfl)
      have hc : ∀ (j : Nat) (x : ByteArray), xs[j]? = some x → wr.cell? ⟨b, 0 + j, none⟩ = some (.string x) := fun j x hj => by
        obtain ⟨b', hb, c⟩ := a3 j [.string x] (by rw [List.getElem?_map, hj]; rfl)
        injection hb with hb
        injection hb with hb
        subst hb
        have := c 0 _ rfl
        simpa using this
      have bz : b < wr.heap.size := by have := World.block_lt_of_cell? _ _ (hc 0 _ (List.getElem?_eq_getElem (by omega))); simpa using this
      rw [List.length_map, xl]
      have J := Tryd.strings_Join b 0 cap xs ⟨#[32]⟩ wr hc bz (by omega) (by omega) HM.out
      rw [xl] at J
      have JJ : Hid (Calls Tryd.prog 39 #[.slice (some ⟨b, 0, none⟩) 5 cap, .string ⟨#[32]⟩] wr fun e w' => e = .returned (.string R) ∧ Below wr.heap.size wr w') := by
        unfold Hid
        rw [HR.out]
        exact J
      clear J hc a3 own XA HX HR HM ol hxs
      go_wp2_with (fail)
      refine JJ.out.mono ?_
      rintro e w3 ⟨rfl, hw3⟩
      have HB3 : Below w.heap.size w w3 := HB.trans (hw3.mono HB.size)
      clear JJ hw3 HB
      go_wp2
      go_ret
      exact ⟨rfl, HB3⟩
    · have jf : j < 5 := by omega
      have j0 : (0 : Int) ≤ (j : Int) := by omega
      have j1 : (j : Int) < 5 := by omega
      have ix : ∀ w : World, (Instr.index 51 (.agg #[.int .i64 ka, .int .i64 kb, .int .i64 kc, .int .i64 kd, .int .i64 ke]) (.int .i64 j)).run Tryd.prog w = .ok (.int .i64 (numK ka kb kc kd ke j)) w := by
        rcases (show j = 0 ∨ j = 1 ∨ j = 2 ∨ j = 3 ∨ j = 4 by omega) with rfl | rfl | rfl | rfl | rfl
        · exact num_ix0 ka kb kc kd ke
        · exact num_ix1 ka kb kc kd ke
        · exact num_ix2 ka kb kc kd ke
        · exact num_ix3 ka kb kc kd ke
        · exact num_ix4 ka kb kc kd ke
      have HS : Hid (X (j + 1) = X j ++ [[.string (bt (numL (numK ka kb kc kd ke j)))]]) := HX.out.next j _ (ZN.out j jf)
      obtain ⟨n, hn⟩ : ∃ n, n = numK ka kb kc kd ke j := ⟨_, rfl⟩
      have HN : Hid (In64 n) := by rw [hn]; exact HI.out.num j
      rw [← hn] at ix HS
      clear hn j5
      go_wp2_with (fail)
      refine (word_is n HN.out _ (HL.out.later HB)).mono ?_
      rintro e w2 ⟨rfl, hw2⟩
      have HB2 : Below w.heap.size w w2 := HB.trans (hw2.mono HB.size)
      have own2 := own.later hw2
      rw [show (⟨(numL n).toArray⟩ : ByteArray) = bt (numL n) from rfl]
      generalize bt (numL n) = t at *
      clear own HB hs hw2 ix
      have hs := HB2.size
      have own3 := own2.alloc (.cells #[.string t] 9)
      go_wp2_with (first
        | (at_builtin; refine wpList_append_own _ rfl _ _ 59 rfl (w.heap.size + 1) 9 i0 (.string ⟨#[]⟩) 1 16 Tryd.underlying59 hi hz0 hz1 hz2 rfl (by decide) _ _ _ rfl own3.2 ⟨w2.heap.size, 0, none⟩ 1 1 [.string t] rfl rfl ?c1 ?c2 ?c3 ?c4 ?c5 ?_)
        | fail)
      case c1 =>
        intro j u hj
        match j, hj with
        | 0, hj => injection hj with hj; subst hj; simp [Addr.add, go_sem]
      case c2 => intro u hu; simp at hu; subst hu; rfl
      case c3 => rw [ol.out]; unfold maxLen; omega
      case c4 => rw [ol.out]; omega
      case c5 => simp; omega
      · intro v' w4 hown' hgrow _
        have own4 := own3.more rfl hown'
        have HB4 : Below w.heap.size w w4 := (HB2.alloc HB2.size _).grown hgrow (by simp; omega) (fun k hk => by have := own3.ge k hk; omega)
        have own5 : Owns w4 (w.heap.size + 1) 9 1 v' (X (j + 1)) := by rw [HS.out]; exact own4
        clear own4 own3 own2 hown' hgrow HS HB2
        go_wp2
        go_roundw
        case rel => exact ⟨j + 1, by go_num, by omega, own5, HB4⟩
        case measure => simp [intOf]; omega

end Go.Proofs.YtaeejemknmjglaaDoor.Sp
