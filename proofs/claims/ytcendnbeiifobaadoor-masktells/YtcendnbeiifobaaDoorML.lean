/-
  The law's first answers at this program: package mask answers as it must. Conditions: none.
-/
import Derived.Test.YtcendnbeiifobaaDoorMI
import Derived.Test.YtcendnbeiifobaaDoorMK
namespace Go.Proofs.YtcendnbeiifobaaDoor.Mk
open Go.RowKit

theorem lawmasks_own (m : Int) (k : Nat) (w : World) :
    Calls Tryd.prog 25 #[.int .i64 m, .int .i64 k] w fun e W' => ∃ v, e = .returned v ∧
      W'.ownsRow (w.heap.size + 3) 3 1 v ((fullM (held m)).take k).length (((fullM (held m)).take k).map encM) ∧ Below w.heap.size w W' :=
  (callsIn_wide (n := 3)).1 (lawmasks_in 3 (Nat.le_refl _) m k w)
theorem lawnodes_own (m : Int) (k : Nat) (w : World) :
    Calls Tryd.prog 20 #[.int .i64 m, .int .i64 k] w fun e W' => ∃ v, e = .returned v ∧
      W'.ownsRow (w.heap.size + 3) 3 1 v ((nd (low m)).take k).length (((nd (low m)).take k).map encN) ∧ Below w.heap.size w W' :=
  (callsIn_wide (n := 3)).1 (lawnodes_in 3 (Nat.le_refl _) m k w)
theorem own_cell {W : World} {base n cap g : Nat} {T : TypeId} {xs : List Value} (h : W.ownsRow base T 1 (.slice (some ⟨g, 0, none⟩) n cap) n xs) {j : Nat} {u : Value} (hj : xs[j]? = some u) : W.cell? ⟨g, j, none⟩ = some u := by
  have := World.ownsRow.cells h rfl j u hj
  rwa [Addr.add_lit, Nat.zero_add] at this
theorem own_len {W : World} {base n : Nat} {T : TypeId} {v : Value} {xs : List Value} (h : W.ownsRow base T 1 v n xs) : ∃ a cap, v = .slice a n cap := own_slice h

set_option maxHeartbeats 4000000 in
set_option maxRecDepth 100000 in
theorem first_is (w : World) :
    Calls Tryd.prog 7 #[] w fun e w' => e = .returned (.bool true) ∧ Below w.heap.size w w' := by
  have C1 : Hid (∀ w, Calls Tryd.prog 25 #[.int .i64 2, .int .i64 9] w fun e W' => ∃ v, e = .returned v ∧ W'.ownsRow (w.heap.size + 3) 3 1 v 3 [.int .i64 1, .int .i64 2, .int .i64 3] ∧ Below w.heap.size w W') := fun w => lawmasks_own 2 9 w
  have C2 : Hid (∀ w, Calls Tryd.prog 10 #[.int .i64 6] w fun e w' => e = .returned (.tuple #[.int .i64 1, .bool true]) ∧ w' = w) := fun w => least_is 6 w
  have C3 : Hid (∀ w v, RdI w v [1, 2, 9] → Calls Tryd.prog 24 #[v] w fun e w' => e = .returned (.int .i64 6) ∧ w' = w) := fun w v h => of_is w h
  have C4 : Hid (∀ w, Calls Tryd.prog 15 #[.int .i64 255] w fun e w' => e = .returned (.int .i64 8) ∧ w' = w) := fun w => count_is 255 w
  have C5 : Hid (∀ w, Calls Tryd.prog 21 #[.int .i64 6] w fun e w' => e = .returned (.string ⟨#[49, 44, 50]⟩) ∧ Below w.heap.size w w') := fun w => text_is 6 w
  have C6 : Hid (∀ w, Calls Tryd.prog 16 #[.int .i64 2, .int .i64 6] w fun e w' => e = .returned (.bool true) ∧ w' = w) := fun w => under_is 2 6 w
  have C7 : Hid (∀ w, Calls Tryd.prog 17 #[.int .i64 4, .int .i64 3] w fun e w' => e = .returned (.bool true) ∧ w' = w) := fun w => ahead_is 4 3 w
  have C8 : Hid (∀ w, Calls Tryd.prog 20 #[.int .i64 5, .int .i64 9] w fun e W' => ∃ a cap, e = .returned (.slice a 2 cap) ∧ Below w.heap.size w W') := fun w => (lawnodes_own 5 9 w).mono fun e w' ⟨v, he, own, hb⟩ => by
    obtain ⟨a, cap, rfl⟩ := own_slice own
    exact ⟨a, cap, he, hb⟩
  go_enter Tryd.func7, Tryd.ntmps7
  go_wp2_with (fail)
  refine (C1.out _).mono ?_
  rintro e w1 ⟨v, rfl, own, HB1⟩
  obtain ⟨g, cap, rfl, gb, gc, gm⟩ := own_form own (by omega)
  have c0 := own_cell own (j := 0) rfl
  have c1 := own_cell own (j := 1) rfl
  have c2 := own_cell own (j := 2) rfl
  clear own
  go_wp2_with (fail)
  refine (C2.out _).mono ?_
  rintro e w2 ⟨rfl, hw⟩
  rw [hw]
  clear hw
  go_wp2_with (fail)
  have RD : RdI (w1.alloc (.cells #[.int .i64 1, .int .i64 2, .int .i64 9] 3)) (.slice (some ⟨w1.heap.size, 0, none⟩) 3 3) [1, 2, 9] := own_read (zs := [1, 2, 9]) (own_new w1 0 3 [.int .i64 1, .int .i64 2, .int .i64 9] 3 w1.heap.size rfl rfl (Nat.zero_le _) (by unfold maxLen; omega))
  refine (C3.out _ _ RD).mono ?_
  rintro e w2 ⟨rfl, hw⟩
  rw [hw]
  have HB2 : Below w.heap.size w (w1.alloc (.cells #[.int .i64 1, .int .i64 2, .int .i64 9] 3)) := HB1.alloc HB1.size _
  generalize w1.alloc (.cells #[.int .i64 1, .int .i64 2, .int .i64 9] 3) = w3 at *
  clear hw RD C1 C2 C3 c0 c1 c2 HB1
  go_wp2_with (fail)
  refine (C4.out _).mono ?_
  rintro e w4 ⟨rfl, hw⟩
  rw [hw]
  clear hw
  go_wp2_with (fail)
  refine (C5.out _).mono ?_
  rintro e w5 ⟨rfl, hw5⟩
  have HB5 := HB2.trans (hw5.mono HB2.size)
  clear hw5 HB2
  go_wp2_with (fail)
  refine (C6.out _).mono ?_
  rintro e w6 ⟨rfl, hw⟩
  rw [hw]
  clear hw
  go_wp2_with (fail)
  refine (C7.out _).mono ?_
  rintro e w7 ⟨rfl, hw⟩
  rw [hw]
  clear hw
  go_wp2_with (fail)
  refine (C8.out _).mono ?_
  rintro e w8 ⟨a, c, rfl, hw8⟩
  have HB8 := HB5.trans (hw8.mono HB5.size)
  clear hw8 HB5
  go_wp2
  go_ret
  exact ⟨rfl, HB8⟩

end Go.Proofs.YtcendnbeiifobaaDoor.Mk
