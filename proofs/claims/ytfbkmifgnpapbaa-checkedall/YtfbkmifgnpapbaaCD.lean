/-
  Numbers with a sign, as the document's answers for layer 3 hold them (a flag and twenty digits), at this program: rows of cells in blocks, and the contracts of Of and Neg. Conditions: the number is one of 64 bits.
-/
import Derived.Test.YtfbkmifgnpapbaaTE
import Derived.Test.YtfbkmifgnpapbaaR1
import Derived.Test.YtfbkmifgnpapbaaCA
namespace Go.Proofs.Ytfbkmifgnpapbaa
open Go.RowKit

/-- These cells lie in a block from its beginning on, and may be written. -/
def Row (W : World) (b : Nat) (vs : List Value) : Prop := W.rangeAt b 0 vs ∧ W.there b 0 vs.length ∧ b < W.heap.size
section
variable {W w1 : World} {b : Nat} {vs : List Value}
theorem Row.later (h : Row W b vs) (hb : Below W.heap.size W w1) : Row w1 b vs :=
  ⟨range_later h.1 hb h.2.2, there_later h.2.1 hb h.2.2, Nat.lt_of_lt_of_le h.2.2 hb.size⟩
theorem Row.alloc (h : Row W b vs) (o : Obj) : Row (W.alloc o) b vs := h.later ((Below.refl _ _).alloc (Nat.le_refl _) o)
theorem Row.drew (h : Row W b vs) : Row W.drew b vs := ⟨(World.rangeAt_drew _ _ _ _).2 h.1, (World.there_drew _ _ _ _).2 h.2.1, h.2.2⟩
theorem Row.put (h : Row W b vs) (us : List Value) (hl : us.length = vs.length) : Row (W.setCells b 0 us) b us :=
  ⟨World.rangeAt_setCells_same _ _ _ _ (by rw [hl]; exact h.2.1), World.there_setCells (by rw [hl]; exact h.2.1) _ _ _, by rw [size_cells]; exact h.2.2⟩
theorem Row.beside (h : Row W b vs) (b' : Nat) (us : List Value) (hne : b ≠ b') : Row (W.setCells b' 0 us) b vs :=
  ⟨World.rangeAt_setCells_apart h.1 _ _ _ (Or.inl hne), World.there_setCells h.2.1 _ _ _, by rw [size_cells]; exact h.2.2⟩
theorem Row.new (W : World) (vs : List Value) (t : TypeId) (b : Nat) (hb : b = W.heap.size) : Row (W.alloc (.cells vs.toArray t)) b vs := by
  subst hb
  refine ⟨fun j v hv => ?_, fun j hj => ⟨?_, ?_⟩, by simp⟩
  · rw [Nat.zero_add, World.cell?_alloc_at _ _ _ _ rfl]
    simpa using hv
  · rw [World.cell?_alloc_at _ _ _ _ rfl]; simp; omega
  · simp [go_sem]
theorem Row.cell (h : Row W b vs) (j : Nat) (v : Value) (hv : vs[j]? = some v) : W.cell? ⟨b, j, none⟩ = some v := by
  have := h.1 j v hv
  rwa [Nat.zero_add] at this
end

/-- These blocks hold these rows; nothing older than w's own has turned. -/
def Has (w : World) (ls : List (Nat × List Value)) (W : World) : Prop := (∀ x ∈ ls, Row W x.1 x.2) ∧ w.heap.size ≤ W.heap.size ∧ Below w.heap.size w W
section
variable {w W w1 : World} {ls : List (Nat × List Value)}
theorem Has.none (w : World) : Has w [] w := ⟨fun x hx => (by cases hx), Nat.le_refl _, Below.refl _ _⟩
theorem Has.later (h : Has w ls W) (hb : Below W.heap.size W w1) : Has w ls w1 := ⟨fun x hx => (h.1 x hx).later hb, Nat.le_trans h.2.1 hb.size, h.2.2.trans (hb.mono h.2.1)⟩
theorem Has.alloc (h : Has w ls W) (o : Obj) : Has w ls (W.alloc o) := h.later ((Below.refl _ _).alloc (Nat.le_refl _) o)
theorem Has.drew (h : Has w ls W) : Has w ls W.drew := ⟨fun x hx => (h.1 x hx).drew, h.2.1, h.2.2.drew⟩
theorem Has.new (h : Has w ls W) (vs : List Value) (t : TypeId) (z : Array Value) (hz : z = vs.toArray) : Has w ((W.heap.size, vs) :: ls) (W.alloc (.cells z t)) := by
  subst hz
  refine ⟨fun x hx => ?_, (h.alloc _).2⟩
  rcases List.mem_cons.1 hx with rfl | hx
  · exact Row.new W vs t _ rfl
  · exact (h.1 x hx).alloc _
theorem Has.new_at (h : Has w ls W) (vs : List Value) (t : TypeId) (z : Array Value) (b : Nat) (hb : b = W.heap.size) (hz : z = vs.toArray) : Has w ((b, vs) :: ls) (W.alloc (.cells z t)) := by
  subst hb
  exact h.new vs t z hz
theorem Has.get (h : Has w ls W) (b : Nat) (vs : List Value) (hx : (b, vs) ∈ ls) : Row W b vs := h.1 _ hx
theorem Has.put {b : Nat} {vs : List Value} (h : Has w ((b, vs) :: ls) W) (us : List Value) (hl : us.length = vs.length) (hb : w.heap.size ≤ b) (hne : ∀ x ∈ ls, x.1 ≠ b) : Has w ((b, us) :: ls) (W.setCells b 0 us) := by
  refine ⟨fun x hx => ?_, by rw [size_cells]; exact h.2.1, below_cells _ hb _ 0 h.2.2⟩
  rcases List.mem_cons.1 hx with rfl | hx
  · exact (h.1 (b, vs) (by simp)).put us hl
  · exact (h.1 x (by simp [hx])).beside _ _ (hne x hx)
theorem Has.part {ms : List (Nat × List Value)} (h : Has w ls W) (hs : ∀ x ∈ ms, x ∈ ls) : Has w ms W := ⟨fun x hx => h.1 x (hs x hx), h.2⟩
end

theorem wp_on {P : Program} {c : Code} {a : Act} {Q : Exit → Act → World → Prop} {Pr : World → Prop} {W : World} (h : Pr W) (k : ∀ W, Pr W → Code.wp P c Q a W) : Code.wp P c Q a W := k W h
theorem wpList_on {P : Program} {ops : Array Oper} {rest : List Oper} {a : Act} {Q : Exit → Act → World → Prop} {Pr : World → Prop} {W : World} (h : Pr W) (k : ∀ W, Pr W → wpList P ops Q rest a W) : wpList P ops Q rest a W := k W h

/-- A number with a sign: its cells, its value. -/
def il (m : Bool) (V : Int) : List Value := .bool m :: dl (wd V)
def iv (m : Bool) (V : Int) : Value := .agg (il m V).toArray
def sgn (m : Bool) (V : Int) : Int := if m then -V else V
theorem il_len (m : Bool) (V : Int) : (il m V).length = 21 := by simp [il, dl_len]
theorem il_each (m : Bool) (V : Int) : ∀ v ∈ il m V, v.oneCell' = true := by
  intro v hv
  rcases List.mem_cons.1 hv with rfl | hv
  · rfl
  · exact dl_each _ v hv
theorem int_info : (Try.prog.info? 27).map (·.size) = some 21 := by kernel_rfl
theorem Row.size {W : World} {b : Nat} {m : Bool} {V : Int} (h : Row W b (il m V)) : W.rangeAt b 1 (dl (wd V)) := fun j v hv => by
  have := h.1 (j + 1) v (by simpa [il] using hv)
  rwa [show 0 + (j + 1) = 1 + j by omega] at this

section
variable {ops : Array Oper} {rest : List Oper} {op : Oper} {a : Act} {w : World} {Q : Exit → Act → World → Prop} {b : Nat} {m : Bool} {V : Int}
theorem int_load (h : Row w b (il m V)) (hgd : op.guard = none) (x : Operand) (ho : op.op = .load 27 x) (hx : a.eval x = .pointer (some ⟨b, 0, none⟩))
    (hk : wpList Try.prog ops Q rest (a.put op.dst (iv m V)) w) : wpList Try.prog ops Q (op :: rest) a w :=
  wpList_load_mid hgd _ x ho b 0 hx (il m V) _ h.1 Try.underlying27 rfl (by rw [il_len]; exact int_info) hk
theorem size_load (h : Row w b (il m V)) (hgd : op.guard = none) (x : Operand) (ho : op.op = .load 25 x) (hx : a.eval x = .pointer (some ⟨b, 1, none⟩))
    (hk : wpList Try.prog ops Q rest (a.put op.dst (dv V)) w) : wpList Try.prog ops Q (op :: rest) a w :=
  wpList_load_mid hgd _ x ho b 1 hx (dl (wd V)) _ h.size Try.underlying25 rfl (by rw [dl_len]; exact dig_info) hk
theorem digs_load (h : Row w b (dl (wd V))) (hgd : op.guard = none) (x : Operand) (ho : op.op = .load 25 x) (hx : a.eval x = .pointer (some ⟨b, 0, none⟩))
    (hk : wpList Try.prog ops Q rest (a.put op.dst (dv V)) w) : wpList Try.prog ops Q (op :: rest) a w :=
  wpList_load_mid hgd _ x ho b 0 hx (dl (wd V)) _ h.1 Try.underlying25 rfl (by rw [dl_len]; exact dig_info) hk
theorem size_wp_load {K : Act → World → Prop} (h : Row w b (il m V)) (x : Operand) (ho : op.op = .load 25 x) (d : Option Nat) (hd : op.dst = d) (hx : a.eval x = .pointer (some ⟨b, 1, none⟩))
    (hk : K (a.put d (dv V)) w) : op.wp Try.prog a w K Q := by
  subst hd
  exact wp_load_mid _ x ho b 1 hx (dl (wd V)) _ h.size Try.underlying25 rfl (by rw [dl_len]; exact dig_info) hk
theorem digs_wp_load {K : Act → World → Prop} (h : Row w b (dl (wd V))) (x : Operand) (ho : op.op = .load 25 x) (d : Option Nat) (hd : op.dst = d) (hx : a.eval x = .pointer (some ⟨b, 0, none⟩))
    (hk : K (a.put d (dv V)) w) : op.wp Try.prog a w K Q := by
  subst hd
  exact wp_load_mid _ x ho b 0 hx (dl (wd V)) _ h.1 Try.underlying25 rfl (by rw [dl_len]; exact dig_info) hk
theorem int_store (U : Int) (k : Bool) (h : Row w b (il m V)) (hgd : op.guard = none) (x y : Operand) (ho : op.op = .store 27 x y) (hd : op.dst = none) (hx : a.eval x = .pointer (some ⟨b, 0, none⟩))
    (hy : a.eval y = iv k U) (hk : wpList Try.prog ops Q rest a (w.setCells b 0 (il k U))) : wpList Try.prog ops Q (op :: rest) a w :=
  wpList_store_mid hgd _ x y ho b 0 (il k U).toArray hx hy (by rw [List.size_toArray, il_len]; have := h.2.1; rwa [il_len] at this) (by rw [List.size_toArray, il_len]; exact int_info) (all_oneCell_toArray (il_each _ _)) (by rw [hd, List.toList_toArray]; exact hk)
theorem digs_store (U : Int) (h : Row w b (dl (wd V))) (hgd : op.guard = none) (x y : Operand) (ho : op.op = .store 25 x y) (hd : op.dst = none) (hx : a.eval x = .pointer (some ⟨b, 0, none⟩))
    (hy : a.eval y = dv U) (hk : wpList Try.prog ops Q rest a (w.setCells b 0 (dl (wd U)))) : wpList Try.prog ops Q (op :: rest) a w :=
  wpList_store_mid hgd _ x y ho b 0 (dl (wd U)).toArray hx hy (by rw [dl_size]; have := h.2.1; rwa [dl_len] at this) (by rw [dl_size]; exact dig_info) (dl_one _) (by rw [hd, List.toList_toArray]; exact hk)
end

theorem built_iv (m : Bool) (V : Int) : Try.prog.built 27 [(0, .bool m), (1, dv V)] = some (il m V).toArray := by
  kernel_rfl
section
variable {ops : Array Oper} {rest : List Oper} {op : Oper} {a : Act} {w : World} {Q : Exit → Act → World → Prop} {m : Bool} {V : Int}
theorem int_build (m : Bool) (V : Int) (hgd : op.guard = none) (x y : Operand) (ho : op.op = .build 27 #[(0, x), (1, y)]) (hx : a.eval x = .bool m) (hy : a.eval y = dv V)
    (hk : wpList Try.prog ops Q rest (a.put op.dst (iv m V)) w) : wpList Try.prog ops Q (op :: rest) a w := by
  refine wpList_build hgd _ _ ho ?_ ?_
  · simp only [List.map_toArray, List.map_cons, List.map_nil, hx, hy, built_iv]; rfl
  · simp only [List.map_toArray, List.map_cons, List.map_nil, hx, hy, built_iv]; exact hk
/-- What a function hands back of its first variable. -/
theorem int_back {b : Nat} (h : Row w b (il m V)) : (loadVar 27 ⟨b, 0, none⟩).run Try.prog w = .ok (iv m V) w :=
  run_loadVar_mid w b 0 _ (il m V) _ h.1 Try.underlying27 rfl (by rw [il_len]; exact int_info)
end

set_option maxHeartbeats 1000000 in
set_option maxRecDepth 100000 in
theorem of3 (n : Int) (w : World) (hn : In64 n) :
    Calls Try.prog 8 #[.int .i64 n] w fun e w' => e = .returned (iv (decide (n < 0)) n.natAbs) ∧ Below w.heap.size w w' := by
  unfold In64 at hn
  have p20 := pow20
  by_cases c : n < 0
  · obtain ⟨N, hN⟩ : ∃ N : Int, N = -(n + 1) := ⟨_, rfl⟩
    have e1 : ((n.natAbs : Nat) : Int) = N + 1 := by omega
    rw [e1, decide_eq_true c]
    have HN : Hid (N = -(n + 1)) := hN
    have h0 : 0 ≤ N ∧ N ≤ 9223372036854775807 := by omega
    have P20 : Hid (N + 1 < 65536 ^ 20) := by unfold Hid; omega
    clear e1 hN p20
    go_enter Try.func8, Try.ntmps8
    go_upto_region 2 with (fail)
    refine wp_on (Pr := fun W => Hid (Has w [(w.heap.size, il false 0)] W)) ((Has.none w).new (il false 0) _ _ rfl) ?_
    intro W F
    go_wp2_with (fail)
    rw [← HN.out]
    refine (rof_dv 0 N _ h0.1 (by omega) (by omega) (by omega)).mono ?_
    rw [show (0 : Int) * 18446744073709551616 + N = N by omega]
    rintro e w2 ⟨rfl, hw2⟩
    have F2 : Hid (Has w _ w2) := F.out.later hw2
    clear F hw2
    dsimp only
    rename_i hKK
    refine hKK _ _ ?_
    clear hKK
    refine wpList_one fun K' hK' => ?_
    rw [if_pos (by rfl)]
    go_simp
    rw [one_dv]
    refine hK'.out _ _ ?_
    clear hK' K'
    refine wpList_one fun K' hK' => ?_
    rw [if_pos (by rfl)]
    go_simp
    refine (plus_dv N 1 _ h0.1 (by omega) P20.out).mono ?_
    rintro e w3 ⟨rfl, hw3⟩
    have F3 : Hid (Has w _ w3) := F2.out.later hw3
    clear F2 hw3
    (try go_wp2_with (fail))
    refine hK'.out _ _ ?_
    clear hK' K'
    refine int_build true (N + 1) rfl _ _ rfl rfl rfl ?_
    simp only [Act.put, List.setIfInBounds_toArray, List.set_cons_zero, List.set_cons_succ]
    refine int_store (N + 1) true (F3.out.get _ _ (by simp; rfl)) rfl _ _ rfl rfl rfl rfl ?_
    refine wpList_on (Pr := fun W => Hid (Has w [(w.heap.size, il true (N + 1))] W)) (F3.out.put _ (by simp [il_len]) (Nat.le_refl _) (by simp)) ?_
    clear F3
    intro W4 F4
    go_wp2_with (fail)
    refine bodyPost_ret (v := iv (true) (N + 1)) ?_ rfl ⟨rfl, F4.out.2.2⟩
    have hl := int_back (F4.out.get (w.heap.size) (il (true) (N + 1)) (by simp))
    simp [results, Try.results8, asAddr, hl]
  · have e1 : ((n.natAbs : Nat) : Int) = n := by omega
    rw [e1, decide_eq_false c]
    clear e1
    go_enter Try.func8, Try.ntmps8
    go_upto_region 3 with (fail)
    refine wp_on (Pr := fun W => Hid (Has w [(w.heap.size, il false 0)] W)) ((Has.none w).new (il false 0) _ _ rfl) ?_
    intro W F
    go_wp2_with (fail)
    refine (rof_dv 0 n _ (by omega) (by omega) (by omega) (by omega)).mono ?_
    rw [show (0 : Int) * 18446744073709551616 + n = n by omega]
    rintro e w2 ⟨rfl, hw2⟩
    have F2 : Hid (Has w _ w2) := F.out.later hw2
    clear F hw2
    dsimp only
    rename_i hKK
    refine hKK _ _ ?_
    clear hKK
    refine int_build false n rfl _ _ rfl rfl rfl ?_
    simp only [Act.put, List.setIfInBounds_toArray, List.set_cons_zero, List.set_cons_succ]
    refine int_store n false (F2.out.get _ _ (by simp; rfl)) rfl _ _ rfl rfl rfl rfl ?_
    refine wpList_on (Pr := fun W => Hid (Has w [(w.heap.size, il false n)] W)) (F2.out.put _ (by simp [il_len]) (Nat.le_refl _) (by simp)) ?_
    clear F2
    intro W4 F4
    go_wp2_with (fail)
    refine bodyPost_ret (v := iv (false) (n)) ?_ rfl ⟨rfl, F4.out.2.2⟩
    have hl := int_back (F4.out.get (w.heap.size) (il (false) (n)) (by simp))
    simp [results, Try.results8, asAddr, hl]

set_option maxHeartbeats 1000000 in
set_option maxRecDepth 100000 in
theorem neg3 (m : Bool) (V : Int) (w : World) :
    Calls Try.prog 13 #[iv m V] w fun e w' => e = .returned (iv (!m) V) ∧ Below w.heap.size w w' := by
  go_enter Try.func13, Try.ntmps13
  go_upto_region 1 with (fail)
  refine wp_on (Pr := fun W => Hid (Has w [(w.heap.size + 1, il false 0), (w.heap.size, il m V)] W)) (((Has.none w).new (il m V) _ _ rfl).new_at (il false 0) _ _ _ (by simp) rfl) ?_
  intro W F
  have f0 := (F.out.get w.heap.size _ (by simp; rfl)).cell 0 (.bool m) rfl
  refine wp_region_lit ?_
  refine wpList_one fun K' hK' => ?_
  rw [if_pos (by rfl)]
  go_simp
  refine hK'.out _ _ ?_
  clear hK' K'
  refine wpList_one fun K' hK' => ?_
  rw [if_pos (by rfl)]
  go_simp
  refine hK'.out _ _ ?_
  clear hK' K'
  refine wpList_one fun K' hK' => ?_
  rw [if_pos (by rfl)]
  go_simp
  refine hK'.out _ _ ?_
  clear hK' K'
  refine wpList_one fun K' hK' => ?_
  rw [if_pos (by rfl)]
  go_simp
  refine hK'.out _ _ ?_
  clear hK' K'
  refine size_load (F.out.get w.heap.size (il m V) (by simp)) rfl _ rfl rfl ?_
  simp only [Act.put, List.setIfInBounds_toArray, List.set_cons_zero, List.set_cons_succ]
  refine int_build (!m) V rfl _ _ rfl rfl rfl ?_
  simp only [Act.put, List.setIfInBounds_toArray, List.set_cons_zero, List.set_cons_succ]
  refine int_store V (!m) (F.out.get (w.heap.size + 1) (il false 0) (by simp)) rfl _ _ rfl rfl rfl rfl ?_
  refine wpList_on (Pr := fun W => Hid (Has w [(w.heap.size + 1, il (!m) V), (w.heap.size, il m V)] W)) (F.out.put _ (by simp [il_len]) (by omega) (by simp)) ?_
  clear F f0
  intro W4 F4
  go_wp2_with (fail)
  refine bodyPost_ret (v := iv (!m) (V)) ?_ rfl ⟨rfl, F4.out.2.2⟩
  have hl := int_back (F4.out.get (w.heap.size + 1) (il (!m) (V)) (by simp))
  simp [results, Try.results13, asAddr, hl]

theorem wl_low {V : Int} (h0 : 0 ≤ V) (h1 : V < 18446744073709551616) : wl V = V := by
  unfold wl
  rw [if_pos (by omega)]
  omega

end Go.Proofs.Ytfbkmifgnpapbaa
