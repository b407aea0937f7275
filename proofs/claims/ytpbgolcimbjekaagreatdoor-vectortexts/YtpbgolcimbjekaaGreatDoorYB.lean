/-
  The document's Split of a text at a comma, at this program. Conditions: the text has at most 300 letters.
-/
import Derived.Test.YtpbgolcimbjekaaGreatDoorYA
namespace Go.Proofs.YtpbgolcimbjekaaGreatDoor
open Go.RowKit

/-- Behind so many letters: the parts so far and what is left make the parts of all. -/
def SplitAt (l : List UInt8) (os : List ByteArray) (f i : Nat) : Prop := f ≤ i ∧ i ≤ l.length ∧ os.length ≤ f ∧ os.map (·.data.toList) ++ segs (l.drop f) = segs l ∧ ∀ c ∈ (l.drop f).take (i - f), c ≠ 44
theorem take_next {l : List UInt8} {f i : Nat} (hf : f ≤ i) (hi : i < l.length) : (l.drop f).take (i + 1 - f) = (l.drop f).take (i - f) ++ [l[i]] := by
  rw [show i + 1 - f = (i - f) + 1 by omega, List.take_succ_eq_append_getElem (by simp; omega)]
  simp [show f + (i - f) = i by omega]
theorem drop_part {l : List UInt8} {f i : Nat} (hf : f ≤ i) (hi : i < l.length) : l.drop f = (l.drop f).take (i - f) ++ l[i] :: l.drop (i + 1) := by
  conv => lhs; rw [← List.take_append_drop (i - f) (l.drop f)]
  rw [List.drop_drop, show f + (i - f) = i by omega, List.drop_eq_getElem_cons hi]
theorem SplitAt.on {l : List UInt8} {os : List ByteArray} {f i : Nat} (h : SplitAt l os f i) (hi : i < l.length) (hc : l[i] ≠ 44) : SplitAt l os f (i + 1) := by
  obtain ⟨h1, h2, h3, h4, h5⟩ := h
  refine ⟨by omega, by omega, h3, h4, fun c hm => ?_⟩
  rw [take_next h1 hi] at hm
  rcases List.mem_append.1 hm with hm | hm
  · exact h5 c hm
  · rw [List.mem_singleton.1 hm]; exact hc
theorem SplitAt.cut {l : List UInt8} {os : List ByteArray} {f i : Nat} {t : ByteArray} (h : SplitAt l os f i) (hi : i < l.length) (hc : l[i] = 44) (ht : t.data.toList = (l.drop f).take (i - f)) : SplitAt l (os ++ [t]) (i + 1) (i + 1) := by
  obtain ⟨h1, h2, h3, h4, h5⟩ := h
  refine ⟨by omega, by omega, by simp; omega, ?_, by simp⟩
  have e := drop_part h1 hi
  rw [hc] at e
  have e2 : segs (l.drop f) = (l.drop f).take (i - f) :: segs (l.drop (i + 1)) := by
    conv => lhs; rw [e]
    exact segs_more h5
  rw [← h4, e2, List.map_append, List.map_cons, ht]
  simp
theorem SplitAt.end {l : List UInt8} {os : List ByteArray} {f : Nat} {t : ByteArray} (h : SplitAt l os f l.length) (ht : t.data.toList = l.drop f) : (os ++ [t]).map (·.data.toList) = segs l := by
  obtain ⟨h1, h2, h3, h4, h5⟩ := h
  rw [← h4, segs_plain (l := l.drop f) (fun c hc => h5 c (by rw [List.take_of_length_le (by simp)]; exact hc)), List.map_append, List.map_cons, ht]
  rfl
theorem mid_extract (s : ByteArray) (f i : Nat) : (s.extract f i).data.toList = (s.data.toList.drop f).take (i - f) := by
  rw [ByteArray.data_extract, Array.toList_extract, List.extract_eq_take_drop]
theorem at_list (s : ByteArray) (i : Nat) (h : i < s.size) : s.data.toList[i]'(by rw [ba_len]; exact h) = s[i] := by
  rw [Array.getElem_toList]; rfl

set_option maxHeartbeats 2000000 in
set_option maxRecDepth 100000 in
theorem split_is (s : ByteArray) (hm : s.size ≤ 300) (w : World) :
    Calls Tryz.prog 23 #[.string s, .int .u8 44] w fun e w' => ∃ (o : Value) (os : List ByteArray), e = .returned o ∧ Own w' w.heap.size o os ∧ os.map (·.data.toList) = segs s.data.toList ∧ os.length ≤ 301 ∧ Below w.heap.size w w' := by
  have HS : Hid (SplitAt s.data.toList [] 0 0) := ⟨by omega, by omega, by simp, by simp, by simp⟩
  obtain ⟨i0, hi, hz0, hz1, hz2⟩ := info_parts strInfo
  go_enter Tryz.func23, Tryz.ntmps23
  go_wp2
  go_loopw [5, 6, 7] (fun o g f wr => ∃ (i fr : Nat) (os : List ByteArray), f = .int .i64 i ∧ g = .int .i64 fr ∧ i ≤ s.size ∧ fr ≤ i ∧ os.length ≤ fr ∧ Own wr w.heap.size o os ∧ Hid (SplitAt s.data.toList os fr i) ∧ Below w.heap.size w wr) (fun _ _ f _ => s.size - (intOf f).toNat)
  case atStart => exact ⟨0, 0, [], rfl, rfl, by omega, by omega, by simp, Own.nil _ _, HS, by go_grown⟩
  case round =>
    obtain ⟨i, fr, os, rfl, rfl, il, fl, ol, hown, HA, HB⟩ := hrel
    have hs := HB.size
    have i0' : (0 : Int) ≤ (i : Int) := by omega
    have f0' : (0 : Int) ≤ (fr : Int) := by omega
    have fi' : (fr : Int) ≤ (i : Int) := by omega
    by_cases ci : i < s.size
    · have i1' : (i : Int) < (s.size : Int) := by omega
      have i2' : (i : Int) ≤ (s.size : Int) := by omega
      by_cases e : s[i].toNat = 44
      · have e' : s[i] = 44 := by apply UInt8.toNat_inj.1; simpa using e
        have T : Hid (SplitAt s.data.toList (os ++ [s.extract fr i]) (i + 1) (i + 1)) := HA.out.cut (by rw [ba_len]; exact ci) ((at_list s i ci).trans e') (mid_extract s fr i)
        have own4 : World.ownsRow (wr.alloc (.cells #[.string (s.extract fr i)] 9)) w.heap.size 9 1 _ os.length (os.map encS) := World.ownsRow.alloc hown _
        go_wp2_with (first
          | (at_builtin; refine wpList_append_own _ rfl _ _ 52 rfl w.heap.size 9 i0 (.string ⟨#[]⟩) 1 16 Tryz.underlying52 hi hz0 hz1 hz2 rfl (by decide) _ _ _ rfl own4 ⟨wr.heap.size, 0, none⟩ 1 1 [.string (s.extract fr i)] rfl rfl ?c1 ?c2 ?c3 ?c4 ?c5 ?_)
          | fail)
        case c1 =>
          intro j u hj
          match j, hj with
          | 0, hj => simp at hj; subst hj; simp [Addr.add]
        case c2 => intro u hu; simp at hu; subst hu; rfl
        case c3 => unfold maxLen; omega
        case c4 => omega
        case c5 => simp; omega
        · intro v' w4 hown' hgrow _
          have o2 : Own w4 w.heap.size v' (os ++ [s.extract fr i]) := Own.more hown'
          have HB4 : Below w.heap.size w w4 := (HB.alloc HB.size _).grown hgrow (by simp; omega) (fun k hk => (World.ownsRow.lt hown k hk).1)
          clear hown' hgrow hown own4 HA
          go_wp2
          go_roundw
          case rel => exact ⟨i + 1, i + 1, os ++ [s.extract fr i], by go_num, by go_num, by omega, by omega, by simp; omega, o2, T, HB4⟩
          case measure => simp [intOf]; omega
      · have T : Hid (SplitAt s.data.toList os fr (i + 1)) := HA.out.on (by rw [ba_len]; exact ci) (by rw [at_list s i ci]; rintro h; exact e (by rw [h]; rfl))
        have e2 : ((s[i].toNat : Int) == 44) = false := by simp; omega
        clear HA
        go_wp2
        go_roundw
        case rel => exact ⟨i + 1, fr, os, by go_num, rfl, by omega, by omega, ol, hown, T, HB⟩
        case measure => simp [intOf]; omega
    · obtain rfl : i = s.size := by omega
      have fs : (fr : Int) ≤ (s.size : Int) := by omega
      have T : Hid ((os ++ [s.extract fr s.size]).map (·.data.toList) = segs s.data.toList) := by
        have := HA.out
        rw [← ba_len] at this
        exact this.end (drop_extract s fr)
      have own4 : World.ownsRow (wr.alloc (.cells #[.string (s.extract fr s.size)] 9)) w.heap.size 9 1 _ os.length (os.map encS) := World.ownsRow.alloc hown _
      go_wp2_with (first
        | (at_builtin; refine wpList_append_own _ rfl _ _ 52 rfl w.heap.size 9 i0 (.string ⟨#[]⟩) 1 16 Tryz.underlying52 hi hz0 hz1 hz2 rfl (by decide) _ _ _ rfl own4 ⟨wr.heap.size, 0, none⟩ 1 1 [.string (s.extract fr s.size)] rfl rfl ?e1 ?e2 ?e3 ?e4 ?e5 ?_)
        | fail)
      case e1 =>
        intro j u hj
        match j, hj with
        | 0, hj => simp at hj; subst hj; simp [Addr.add]
      case e2 => intro u hu; simp at hu; subst hu; rfl
      case e3 => unfold maxLen; omega
      case e4 => omega
      case e5 => simp; omega
      · intro v' w4 hown' hgrow _
        have o2 : Own w4 w.heap.size v' (os ++ [s.extract fr s.size]) := Own.more hown'
        have HB4 : Below w.heap.size w w4 := (HB.alloc HB.size _).grown hgrow (by simp; omega) (fun k hk => (World.ownsRow.lt hown k hk).1)
        clear hown' hgrow hown own4 HA
        go_wp2
        go_ret
        exact ⟨_, _, rfl, o2, T.out, by simp; omega, HB4⟩

end Go.Proofs.YtpbgolcimbjekaaGreatDoor
