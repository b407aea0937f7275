/-
  The walk of the statement AmountParses at this program: it returns true. Conditions: the text's length fits the machine, the two tables of suffixes lie as the program's text lays them.
-/
import Derived.Test.YtmnfaniijninmaaDoorXD
import Derived.Test.YtmnfaniijninmaaDoorVM
namespace Go.Proofs.YtmnfaniijninmaaDoor
open Go.RowKit

theorem Parsed.det {l : List UInt8} {e e' : Ending} (h : Parsed l e) (h' : Parsed l e') : e = e' := by
  obtain ⟨a, b, g, rfl, rfl, i⟩ := h
  obtain ⟨a', b', g', rfl, rfl, i'⟩ := h'
  obtain ⟨rfl, rfl⟩ := i.det i'
  rfl

set_option maxHeartbeats 1000000 in
set_option maxRecDepth 100000 in
theorem amountParses_any (s : ByteArray) (hm : s.size ≤ maxLen) (w : World) (hL : LaidW w) :
    Calls Tryd.prog 3 #[.string s] w fun e w' => e = .returned (.bool true) ∧ Below w.heap.size w w' := by
  have HL : Hid (LaidW w) := hL
  clear hL
  have HM : Hid (s.size ≤ maxLen) := hm
  unfold maxLen at hm
  by_cases c : 300 < s.size
  · have c1 : (300 : Int) < (s.size : Int) := by omega
    go_enter Tryd.func3, Tryd.ntmps3
    go_wp2_with (fail)
    refine (first_is _ HL.out).mono ?_
    rintro e w1 ⟨rfl, hw1⟩
    go_wp2
    go_ret
    exact ⟨rfl, hw1⟩
  · have c1 : ¬ (300 : Int) < (s.size : Int) := by omega
    go_enter Tryd.func3, Tryd.ntmps3
    go_wp2_with (fail)
    refine (first_is _ HL.out).mono ?_
    rintro e w1 ⟨rfl, hw1⟩
    have HB1 : Below w.heap.size w w1 := hw1
    have hs1 := hw1.size
    have HL1 : Hid (LaidW w1) := HL.out.later hw1
    clear hw1
    go_wp2_with (fail)
    refine (parse_amount s HM.out _ HL1.out).mono ?_
    rintro e w2 ⟨p, hw2⟩
    have PP : Hid (Parsed s.data.toList e) := p
    obtain ⟨h, l, g, rfl, -, -⟩ := p
    have HBw2 : Below w.heap.size w w2 := Below.trans (by go_grown) (hw2.mono (by first | omega | (simp; done) | (simp; omega)))
    have hsw2 := hw2.size
    (try simp at hsw2)
    clear hw2
    go_wp2_with (fail)
    refine (rparse_amount s (by omega) _).mono ?_
    rintro e w3 ⟨p, hw3⟩
    have E := PP.out.det p
    subst E
    clear p PP
    have HBw3 : Below w.heap.size w w3 := Below.trans (by go_grown) (hw3.mono (by first | omega | (simp; done) | (simp; omega)))
    have p_a : Box w3 (w2.heap.size) (h) (l) := Box.later hw3 (by repeat (first | assumption | (refine Box.new _ _ _ _ _ ?_; simp; done) | refine Box.alloc ?_ _ | refine Box.drew ?_ | (apply Box.put) | (refine Box.beside ?_ _ _ _ (by omega))))
    have q_a := p_a
    obtain ⟨a0, a1, a2, a3, a4⟩ := p_a
    have hsw3 := hw3.size
    (try simp at hsw3)
    clear hw3
    go_wp2
    go_ret
    exact ⟨rfl, by go_grown⟩

end Go.Proofs.YtmnfaniijninmaaDoor
