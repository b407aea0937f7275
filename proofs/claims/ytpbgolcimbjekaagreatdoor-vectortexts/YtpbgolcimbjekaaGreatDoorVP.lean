/-
  The walk of the statement AmountBack at this program: it returns true. Conditions: the words are words, the two tables of suffixes lie as the program's text lays them.
-/
import Derived.Test.YtpbgolcimbjekaaGreatDoorVO
import Derived.Test.YtpbgolcimbjekaaGreatDoorVM
namespace Go.Proofs.YtpbgolcimbjekaaGreatDoor
open Go.RowKit

theorem len_text (a : Nat) : (textL a).length ≤ 100 ∧ (binL a).length ≤ 100 := by
  have h1 : (textL a).length ≤ 100 := by
    unfold textL
    split
    · split
      · simp
      · have := dec_len (sh 1000 9 a 0).1
        have h := sh_le 1000 9 a 0
        have := decs_len (sh 1000 9 a 0).2 (by omega)
        simp only [List.length_append]; omega
    · simp
  refine ⟨h1, ?_⟩
  unfold binL
  split
  · split
    · exact h1
    · split
      · exact h1
      · have := dec_len (sh 1024 6 (a / 1000000000) 0).1
        have h := sh_le 1024 6 (a / 1000000000) 0
        have := bins_len ((sh 1024 6 (a / 1000000000) 0).2 - 1) (by omega)
        simp only [List.length_append]; omega
  · simp
theorem up_near (a : Nat) (h : a ≤ most) : up a 1000000000 ≤ 1152921504606846976 ∧ a ≤ up a 1000000000 * 1000000000 ∧ up a 1000000000 * 1000000000 - a < 1000000000 := by
  unfold up most at *
  omega
theorem parse_det {h l : Int} {v : Nat} {s : ByteArray} (hs : s.size ≤ 100) (e : parseL s.data.toList = (v, 0)) (i : Is h l v) (w : World) (hL : LaidW w) :
    Calls Tryz.prog 35 #[.string s] w fun e w' => e = .returned (.tuple #[.agg #[.int .u64 h, .int .u64 l], .int .i64 0]) ∧ Below w.heap.size w w' := by
  refine (parse_amount s (by unfold maxLen; omega) w hL).mono ?_
  rintro e' w' ⟨⟨h', k, g', rfl, hg, i'⟩, hw⟩
  rw [e] at hg i'
  subst hg
  obtain ⟨rfl, rfl⟩ := i'.det i
  exact ⟨rfl, hw⟩
theorem text_det {h l : Int} {v : Nat} (i : Is h l v) (w : World) (hL : LaidW w) :
    Calls Tryz.prog 39 #[.agg #[.int .u64 h, .int .u64 l]] w fun e w' => e = .returned (.string (ba (textL v))) ∧ Below w.heap.size w w' := by
  refine (text_amount i w hL).mono ?_
  rintro e w' ⟨⟨t, rfl, ht⟩, hw⟩
  exact ⟨by rw [ba_eq ht]; rfl, hw⟩
theorem bin_det {h l : Int} {v : Nat} (i : Is h l v) (w : World) (hL : LaidW w) :
    Calls Tryz.prog 41 #[.agg #[.int .u64 h, .int .u64 l]] w fun e w' => e = .returned (.string (ba (binL v))) ∧ Below w.heap.size w w' := by
  refine (binary_amount i w hL).mono ?_
  rintro e w' ⟨⟨t, rfl, ht⟩, hw⟩
  exact ⟨by rw [ba_eq ht]; rfl, hw⟩

/-- These boxes lie there, the tables too; nothing older has turned. -/
def Keep (w : World) (bs : List (Nat × Int × Int)) (W : World) : Prop := (∀ x ∈ bs, Box W x.1 x.2.1 x.2.2) ∧ LaidW W ∧ Below w.heap.size w W
theorem LaidW.drew {w : World} (h : LaidW w) : LaidW w.drew := ⟨(World.rangeAt_drew _ _ _ _).2 h.1, (World.rangeAt_drew _ _ _ _).2 h.2.1, h.2.2⟩
theorem Keep.later {w W w1 : World} {bs : List (Nat × Int × Int)} (k : Keep w bs W) (hb : Below W.heap.size W w1) : Keep w bs w1 :=
  ⟨fun x hx => (k.1 x hx).later hb, k.2.1.later hb, k.2.2.trans (hb.mono k.2.2.size)⟩
theorem Keep.drew {w W : World} {bs : List (Nat × Int × Int)} (k : Keep w bs W) : Keep w bs W.drew :=
  ⟨fun x hx => (k.1 x hx).drew, k.2.1.drew, k.2.2.drew⟩
/-- These boxes lie there; nothing older has turned. -/
def BD (w : World) (bs : List (Nat × Int × Int)) (W : World) : Prop := (∀ x ∈ bs, Box W x.1 x.2.1 x.2.2) ∧ Below w.heap.size w W
theorem BD.later {w W w1 : World} {bs : List (Nat × Int × Int)} (k : BD w bs W) (hb : Below W.heap.size W w1) : BD w bs w1 :=
  ⟨fun x hx => (k.1 x hx).later hb, k.2.trans (hb.mono k.2.size)⟩
theorem BD.drew {w W : World} {bs : List (Nat × Int × Int)} (k : BD w bs W) : BD w bs W.drew := ⟨fun x hx => (k.1 x hx).drew, k.2.drew⟩
theorem text_over {a : Nat} (h : ¬ a ≤ most) : textL a = [] ∧ binL a = [] := by
  unfold textL binL
  rw [if_neg h, if_neg h]
  exact ⟨rfl, rfl⟩
theorem cmp_lt {a b : Nat} (h : a < b) : cmp (a : Int) (b : Int) < 0 := by
  unfold cmp
  rw [if_neg (by omega), if_pos (by omega)]
  omega

end Go.Proofs.YtpbgolcimbjekaaGreatDoor
