/-
  A resource's number as package vector reads it, at this program: resource 1. Conditions: the tables of the program lie as its text lays them; a text's length fits the machine.
-/
import Derived.Test.YtpbgolcimbjekaaGreatDoorKD
namespace Go.Proofs.YtpbgolcimbjekaaGreatDoor
open Go.RowKit

set_option maxHeartbeats 2000000 in
theorem number_1 (s : ByteArray) (hm : s.size ≤ maxLen) (w : World) (hL : LaidV w) :
    Calls Tryz.prog 21 #[.int .i64 1, .string s] w fun e w' => e = .returned (iiv (numL 1 s.data.toList)) ∧ Below w.heap.size w w' := by
  obtain ⟨p, hp⟩ : ∃ p, p = parseL s.data.toList := ⟨_, rfl⟩
  obtain ⟨R, hR⟩ : ∃ R, R = numP 1 p := ⟨_, rfl⟩
  have PA : Hid (∀ w, LaidV w → Calls Tryz.prog 35 #[.string s] w fun e w' => (∃ h k g : Int, e = .returned (.tuple #[.agg #[.int .u64 h, .int .u64 k], .int .i64 g]) ∧ g = p.2 ∧ Is h k p.1) ∧ Below w.heap.size w w') := fun w hL => by
    rw [hp]
    exact parse_amount s hm w hL.1
  rw [show numL 1 s.data.toList = R by rw [hR, hp]; rfl]
  have HR : Hid (R = numP 1 p) := hR
  have HL : Hid (LaidV w) := hL
  clear hR hL hm hp
  go_enter Tryz.func21, Tryz.ntmps21
  go_wp2_with (fail)
  refine (PA.out _ HL.out).mono ?_
  rintro e w1 ⟨⟨h, k, g, rfl, hg, i⟩, hw1⟩
  have HL1 : Hid (LaidV w1) := HL.out.later hw1
  have I : Hid (Is h k p.1) := i
  have G : Hid (g = p.2) := hg
  clear hg i HL
  have hs := hw1.size
  by_cases g0 : g = 0
  · subst g0
    go_wp2_with (fail)
    refine (vcounted_is I.out (k := 1) rfl _).mono ?_
    rintro e w2 ⟨rfl, hw2⟩
    obtain ⟨n, y, hn⟩ : ∃ n y, cntL 1 p.1 = (n, y) := ⟨_, _, Prod.eta _ |>.symm⟩
    rw [hn, show iiv (n, y) = .tuple #[.int .i64 n, .int .i64 y] from rfl]
    have n0 : 0 ≤ n := by have := cnt_pos 1 p.1; rw [hn] at this; exact this
    have N : Hid (cntL 1 p.1 = (n, y)) := hn
    have HB : Below w.heap.size w w2 := Below.trans (show Below w.heap.size w _ by go_grown) (hw2.mono (by simp; omega))
    have HL2 : Hid (LaidV w2) := (HL1.out.alloc _).later hw2
    clear hn hw1 hw2 HL1 hs
    have hs := HB.size
    by_cases y0 : y = 0
    · subst y0
      obtain ⟨b0, b1, b2, bz⟩ := HL2.out.bounds
      clear HL2
      by_cases c : 1125899906842624 < n
      · have X : Hid (numP 1 p = (0, 15)) := by
          unfold Hid numP
          rw [← G.out, N.out, if_neg (by simp), if_neg (by simp), if_pos (by simpa [bnd] using c)]
        go_wp2
        go_ret2
        exact ⟨by rw [HR.out, X.out]; rfl, HB⟩
      · have X : Hid (numP 1 p = (n, 0)) := by
          unfold Hid numP
          rw [← G.out, N.out, if_neg (by simp), if_neg (by simp), if_neg (by simpa [bnd] using c), if_neg (by simp)]
        go_wp2
        go_ret2
        exact ⟨by rw [HR.out, X.out]; rfl, HB⟩
    · have X : Hid (numP 1 p = (0, y)) := by
        unfold Hid numP
        rw [← G.out, N.out, if_neg (by simp), if_pos (by simpa using y0)]
      have g1 : (y != 0) = true := by simp [y0]
      clear HL2
      go_wp2
      go_ret2
      exact ⟨by rw [HR.out, X.out]; rfl, HB⟩
  · have X : Hid (numP 1 p = (0, g)) := by
      unfold Hid numP
      rw [← G.out, if_pos g0]
    have g1 : (g != 0) = true := by simp [g0]
    go_wp2
    go_ret2
    exact ⟨by rw [HR.out, X.out]; rfl, by go_grown⟩

end Go.Proofs.YtpbgolcimbjekaaGreatDoor
