/-
  The order of owners: plain facts; and how the library compares two texts, two numbers, and picks the first that is no nought, at this program. Conditions: none.
-/
import Derived.Test.YtpefjcgccbfgbaaNJ
import Derived.Sort.Walk0
import Derived.Sort.Grow
namespace Go.Proofs.Ytpefjcgccbfgbaa.Bk
open Go.RowKit Go.Sort

theorem ltS_is (a b : ByteArray) : ltS a b = decide (a.data.toList < b.data.toList) := by
  unfold ltS
  rw [bytesLess_eq, ByteArray.toList_eq, ByteArray.toList_eq]
theorem ltS_irr (a : ByteArray) : ltS a a = false := by rw [ltS_is]; exact decide_eq_false (List.lt_irrefl _)
theorem ltS_tr {a b c : ByteArray} (h : ltS a b = true) (k : ltS b c = true) : ltS a c = true := by
  rw [ltS_is] at *
  exact decide_eq_true (List.lt_trans (of_decide_eq_true h) (of_decide_eq_true k))
theorem ltS_tot (a b : ByteArray) : ltS a b = true ∨ a = b ∨ ltS b a = true := by
  by_cases h : a.data.toList < b.data.toList
  · exact .inl (by rw [ltS_is]; exact decide_eq_true h)
  · by_cases k : b.data.toList < a.data.toList
    · exact .inr (.inr (by rw [ltS_is]; exact decide_eq_true k))
    · exact .inr (.inl (ByteArray.ext (Array.ext' (List.le_antisymm (List.not_lt.1 k) (List.not_lt.1 h)))))
theorem ltS_asy {a b : ByteArray} (h : ltS a b = true) : ltS b a = false := by
  cases e : ltS b a with
  | false => rfl
  | true => have := ltS_tr h e; rw [ltS_irr] at this; cases this
/-- An owner ahead of another one. -/
def befR (r q : Rw) : Bool := bef r.p r.c r.k q.p q.c q.k
def sameR (r q : Rw) : Prop := r.p = q.p ∧ r.c = q.c ∧ r.k = q.k
theorem eqS_ne {a b : ByteArray} (h : a ≠ b) : eqS a b = false := by rw [← Bool.not_eq_true, eqS_iff]; exact h
theorem befR_iff (r q : Rw) : befR r q = true ↔ ltS r.p q.p = true ∨ (r.p = q.p ∧ (ltS r.c q.c = true ∨ (r.c = q.c ∧ r.k < q.k))) := by
  unfold befR bef
  by_cases h1 : r.p = q.p
  · rw [if_pos (eqS_iff.2 h1)]
    by_cases h2 : r.c = q.c
    · rw [if_pos (eqS_iff.2 h2)]
      simp [h1, h2, ltS_irr]
    · rw [if_neg (by rw [eqS_ne h2]; simp)]
      simp [h1, h2, ltS_irr]
  · rw [if_neg (by rw [eqS_ne h1]; simp)]
    simp [h1]
theorem befR_irr (r : Rw) : befR r r = false := by
  rw [← Bool.not_eq_true, befR_iff]
  simp [ltS_irr]
theorem befR_tr {r q x : Rw} (h : befR r q = true) (k : befR q x = true) : befR r x = true := by
  rw [befR_iff] at *
  rcases h with h | ⟨h1, h | ⟨h2, h3⟩⟩ <;> rcases k with k | ⟨k1, k | ⟨k2, k3⟩⟩
  · exact .inl (ltS_tr h k)
  · exact .inl (k1 ▸ h)
  · exact .inl (k1 ▸ h)
  · exact .inl (h1 ▸ k)
  · exact .inr ⟨h1.trans k1, .inl (ltS_tr h k)⟩
  · exact .inr ⟨h1.trans k1, .inl (k2 ▸ h)⟩
  · exact .inl (h1 ▸ k)
  · exact .inr ⟨h1.trans k1, .inl (h2 ▸ k)⟩
  · exact .inr ⟨h1.trans k1, .inr ⟨h2.trans k2, Int.lt_trans h3 k3⟩⟩
theorem befR_tot (r q : Rw) : befR r q = true ∨ sameR r q ∨ befR q r = true := by
  rw [befR_iff, befR_iff]
  rcases ltS_tot r.p q.p with h | h | h
  · exact .inl (.inl h)
  · rcases ltS_tot r.c q.c with k | k | k
    · exact .inl (.inr ⟨h, .inl k⟩)
    · rcases Int.lt_trichotomy r.k q.k with m | m | m
      · exact .inl (.inr ⟨h, .inr ⟨k, m⟩⟩)
      · exact .inr (.inl ⟨h, k, m⟩)
      · exact .inr (.inr (.inr ⟨h.symm, .inr ⟨k.symm, m⟩⟩))
    · exact .inr (.inr (.inr ⟨h.symm, .inl k⟩))
  · exact .inr (.inr (.inl h))
theorem befR_asy {r q : Rw} (h : befR r q = true) : befR q r = false := by
  cases e : befR q r with
  | false => rfl
  | true => have := befR_tr h e; rw [befR_irr] at this; cases this
theorem befR_same {r q x : Rw} (h : sameR r q) : befR r x = befR q x ∧ befR x r = befR x q := by
  obtain ⟨h1, h2, h3⟩ := h
  unfold befR
  rw [h1, h2, h3]
  exact ⟨rfl, rfl⟩
theorem sameR_no {r q : Rw} (h : sameR r q) : befR r q = false := by rw [(befR_same h).1, befR_irr]

/-- How two texts, two numbers compare. -/
def cmpS (a b : ByteArray) : Int := if ltS a b = true then -1 else if ltS b a = true then 1 else 0
def cmpI (a b : Int) : Int := if a < b then -1 else if b < a then 1 else 0
def cmpO (p c : ByteArray) (k : Int) (p' c' : ByteArray) (k' : Int) : Int := if cmpS p p' ≠ 0 then cmpS p p' else if cmpS c c' ≠ 0 then cmpS c c' else cmpI k k'
theorem cmpS_self (a : ByteArray) : cmpS a a = 0 := by unfold cmpS; rw [ltS_irr]; rfl
theorem cmpS_lt {a b : ByteArray} (h : ltS a b = true) : cmpS a b = -1 := by unfold cmpS; rw [if_pos h]
theorem cmpS_gt {a b : ByteArray} (h : ltS b a = true) : cmpS a b = 1 := by unfold cmpS; rw [ltS_asy h, if_neg (by simp), if_pos h]
theorem cmpO_bef (r q : Rw) : decide (cmpO r.p r.c r.k q.p q.c q.k < 0) = befR r q := by
  rw [Bool.eq_iff_iff, befR_iff, decide_eq_true_iff]
  unfold cmpO
  rcases ltS_tot r.p q.p with h | h | h
  · rw [cmpS_lt h]; simp [h]
  · rw [h, cmpS_self, ltS_irr]
    rcases ltS_tot r.c q.c with k | k | k
    · rw [cmpS_lt k]; simp [k]
    · rw [k, cmpS_self, ltS_irr]
      unfold cmpI
      by_cases m : r.k < q.k
      · simp [m]
      · by_cases n : q.k < r.k <;> simp [m, n]
    · have e : r.c ≠ q.c := fun e => by rw [e, ltS_irr] at k; cases k
      rw [cmpS_gt k, ltS_asy k]
      simp [e]
  · have e : r.p ≠ q.p := fun e => by rw [e, ltS_irr] at h; cases h
    rw [cmpS_gt h, ltS_asy h]
    simp [e]

/-- A world that has grown alone: draws, and new blocks behind. -/
def Gr (W w1 : World) : Prop := ∃ (n : Nat) (os : Array Obj), w1 = grow (W.drewN n) os
theorem Gr.refl (W : World) : Gr W W := ⟨0, #[], by rw [grow_empty]; rfl⟩
theorem Gr.trans {A B C : World} (h : Gr A B) (k : Gr B C) : Gr A C := by
  obtain ⟨n, os, rfl⟩ := h
  obtain ⟨m, os', rfl⟩ := k
  exact ⟨n + m, os ++ os', by show grow (grow ((A.drewN n).drewN m) os) os' = _; rw [grow_grow, World.drewN_drewN]⟩
theorem Gr.alloc {A B : World} (h : Gr A B) (o : Obj) : Gr A (B.alloc o) := h.trans ⟨0, #[o], alloc_eq_grow _ _⟩
theorem Gr.drew {A B : World} (h : Gr A B) : Gr A B.drew := h.trans ⟨1, #[], by rw [grow_empty]; rfl⟩
theorem Gr.below {A B : World} (h : Gr A B) : Below A.heap.size A B := by
  obtain ⟨n, os, rfl⟩ := h
  exact ⟨rfl, rfl, rfl, by rw [size_grow]; exact Nat.le_add_right _ _, fun k hk => heap_grow_old _ _ hk⟩

set_option maxHeartbeats 1000000 in
theorem nanS_is (s : ByteArray) (w : World) : Calls Try.prog 63 #[.string s] w fun e w' => e = .returned (.bool false) ∧ w' = w := by
  have e1 := eqS_l s s
  rw [eqS_refl] at e1
  go_enter Try.func63, Try.ntmps63
  go_wp2
  go_ret
  exact ⟨rfl, rfl⟩
set_option maxHeartbeats 1000000 in
theorem nanI_is (s : Int) (w : World) : Calls Try.prog 64 #[.int .i64 s] w fun e w' => e = .returned (.bool false) ∧ w' = w := by
  go_enter Try.func64, Try.ntmps64
  go_wp2
  go_ret
  exact ⟨rfl, rfl⟩
set_option maxHeartbeats 1000000 in
theorem compareI_is (a b : Int) (w : World) : Calls Try.prog 52 #[.int .i64 a, .int .i64 b] w fun e w' => e = .returned (.int .i64 (cmpI a b)) ∧ w' = w := by
  have N1 := fun s w => nanI_is s w
  obtain ⟨R, hR⟩ : ∃ R, R = cmpI a b := ⟨_, rfl⟩
  rw [← hR]
  have W : (a < b ∧ R = -1) ∨ (¬ a < b ∧ b < a ∧ R = 1) ∨ (¬ a < b ∧ ¬ b < a ∧ R = 0) := by
    rw [hR]
    unfold cmpI
    by_cases h : a < b
    · exact .inl ⟨h, by rw [if_pos h]⟩
    · by_cases k : b < a
      · exact .inr (.inl ⟨h, k, by rw [if_neg h, if_pos k]⟩)
      · exact .inr (.inr ⟨h, k, by rw [if_neg h, if_neg k]⟩)
  clear hR
  go_enter Try.func52, Try.ntmps52
  go_wp2_with (fail)
  refine (N1 a _).mono ?_
  rintro e w1 ⟨rfl, rfl⟩
  go_wp2_with (fail)
  refine (N1 b _).mono ?_
  rintro e w1 ⟨rfl, rfl⟩
  clear N1
  rcases W with ⟨h, rfl⟩ | ⟨h, k, rfl⟩ | ⟨h, k, rfl⟩
  all_goals
    go_wp2
    go_ret
    exact ⟨rfl, rfl⟩
set_option maxHeartbeats 1000000 in
theorem compareS_is (a b : ByteArray) (w : World) : Calls Try.prog 51 #[.string a, .string b] w fun e w' => e = .returned (.int .i64 (cmpS a b)) ∧ w' = w := by
  have N1 := fun s w => nanS_is s w
  obtain ⟨R, hR⟩ : ∃ R, R = cmpS a b := ⟨_, rfl⟩
  rw [← hR]
  have W : (Op.bytesLess a.toList b.toList = true ∧ R = -1) ∨ (Op.bytesLess a.toList b.toList = false ∧ (a.toList == b.toList) = false ∧ R = 1) ∨ (Op.bytesLess a.toList b.toList = false ∧ (a.toList == b.toList) = true ∧ R = 0) := by
    rw [hR]
    rcases ltS_tot a b with h | h | h
    · exact .inl ⟨h, cmpS_lt h⟩
    · subst h
      exact .inr (.inr ⟨ltS_irr a, by rw [eqS_l, eqS_refl], cmpS_self a⟩)
    · have e : a ≠ b := fun e => by rw [e, ltS_irr] at h; cases h
      exact .inr (.inl ⟨ltS_asy h, by rw [eqS_l, eqS_ne e], cmpS_gt h⟩)
  clear hR
  go_enter Try.func51, Try.ntmps51
  go_wp2_with (fail)
  refine (N1 a _).mono ?_
  rintro e w1 ⟨rfl, rfl⟩
  go_wp2_with (fail)
  refine (N1 b _).mono ?_
  rintro e w1 ⟨rfl, rfl⟩
  clear N1
  rcases W with ⟨h, rfl⟩ | ⟨h, k, rfl⟩ | ⟨h, k, rfl⟩
  all_goals
    go_wp2
    go_ret
    exact ⟨rfl, rfl⟩
/-- The first of three numbers that is no nought. -/
def or3 (x y z : Int) : Int := if x ≠ 0 then x else if y ≠ 0 then y else z
set_option maxHeartbeats 2000000 in
set_option maxRecDepth 100000 in
theorem or_is (x y z : Int) (b : Nat) (w : World) (h : Cs w b [.int .i64 x, .int .i64 y, .int .i64 z]) :
    Calls Try.prog 50 #[.slice (some ⟨b, 0, none⟩) 3 3] w fun e w' => e = .returned (.int .i64 (or3 x y z)) ∧ w' = w := by
  obtain ⟨R, hR⟩ : ∃ R, R = or3 x y z := ⟨_, rfl⟩
  rw [← hR]
  have c0 := h.1 0 _ rfl
  have c1 := h.1 1 _ rfl
  have c2 := h.1 2 _ rfl
  have W : (x ≠ 0 ∧ R = x) ∨ (x = 0 ∧ y ≠ 0 ∧ R = y) ∨ (x = 0 ∧ y = 0 ∧ R = z) := by
    rw [hR]
    unfold or3
    by_cases h : x = 0
    · by_cases k : y = 0
      · exact .inr (.inr ⟨h, k, by simp [h, k]⟩)
      · exact .inr (.inl ⟨h, k, by simp [h, k]⟩)
    · exact .inl ⟨h, by simp [h]⟩
  clear hR h
  go_enter Try.func50, Try.ntmps50
  rcases W with ⟨h, rfl⟩ | ⟨rfl, k, rfl⟩ | ⟨rfl, rfl, rfl⟩
  · have e1 : (R != 0) = true := by simp [h]
    go_wp2
    refine wp_loop_rounds 1 ?_
    rw [rounds_succ]
    go_wp2
    go_ret
    exact ⟨rfl, rfl⟩
  · have e1 : (R != 0) = true := by simp [k]
    go_wp2
    refine wp_loop_rounds 2 ?_
    rw [rounds_succ]
    go_wp2
    rw [rounds_succ]
    go_wp2
    go_ret
    exact ⟨rfl, rfl⟩
  · go_wp2
    refine wp_loop_rounds 4 ?_
    rw [rounds_succ]
    go_wp2
    rw [rounds_succ]
    go_wp2
    rw [rounds_succ]
    go_wp2
    · go_ret
      exact ⟨rfl, rfl⟩
    · rename_i h9
      obtain rfl : R = 0 := by simpa using h9
      rw [rounds_succ]
      go_wp2
      go_ret
      exact ⟨rfl, rfl⟩

end Go.Proofs.Ytpefjcgccbfgbaa.Bk
