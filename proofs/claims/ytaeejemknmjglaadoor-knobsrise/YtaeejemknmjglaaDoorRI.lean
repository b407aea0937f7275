/-
  The statement KnobsRise as a contract at this program. Conditions: the tables of the program lie as its text lays them.
-/
import Derived.Test.YtaeejemknmjglaaDoorRH
namespace Go.Proofs.YtaeejemknmjglaaDoor.Sp
open Go.RowKit

set_option maxHeartbeats 4000000 in
set_option maxRecDepth 100000 in
theorem knobsRise_any (a b : Int) (w : World) (hL : LaidK w) :
    Calls Tryd.prog 6 #[.int .i64 a, .int .i64 b] w fun e w' => e = .returned (.bool true) ∧ Below w.heap.size w w' := by
  have HL : Hid (LaidK w) := hL
  clear hL
  obtain ⟨x, hx⟩ : ∃ x, x = wgt (min a b) := ⟨_, rfl⟩
  obtain ⟨y, hy⟩ : ∃ y, y = wgt (max a b) := ⟨_, rfl⟩
  have C1 : Hid (∀ w, Calls Tryd.prog 15 #[.int .i64 (min a b)] w fun e w' => e = .returned (.int .i64 x) ∧ w' = w) := fun w => by rw [hx]; exact weight_is _ w
  have C2 : Hid (∀ w, Calls Tryd.prog 15 #[.int .i64 (max a b)] w fun e w' => e = .returned (.int .i64 y) ∧ w' = w) := fun w => by rw [hy]; exact weight_is _ w
  have x1 : 1 ≤ x := by rw [hx]; exact (wgt_bounds _).1
  have xy : x ≤ y := by rw [hx, hy]; exact wgt_rise (by omega)
  have y1 : y ≤ 10000 := by rw [hy]; exact (wgt_bounds _).2
  clear hx hy
  go_enter Tryd.func6, Tryd.ntmps6
  go_wp2_with (fail)
  refine (firstK_is _ HL.out).mono ?_
  rintro e w1 ⟨rfl, hw1⟩
  have HB : Hid (Below w.heap.size w w1) := hw1
  clear hw1 HL
  go_wp2_with (fail)
  refine (C1.out _).mono ?_
  rintro e _ ⟨rfl, rfl⟩
  go_wp2_with (fail)
  refine (C2.out _).mono ?_
  rintro e _ ⟨rfl, rfl⟩
  clear C1 C2
  go_wp2
  go_ret
  exact ⟨rfl, HB.out⟩

end Go.Proofs.YtaeejemknmjglaaDoor.Sp
