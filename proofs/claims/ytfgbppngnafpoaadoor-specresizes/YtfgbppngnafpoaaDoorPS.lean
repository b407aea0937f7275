/-
  Plain facts on resizes: what comes of a list of changes. No program is spoken of but for its name.
-/
import Derived.Test.YtfgbppngnafpoaaDoorPO
namespace Go.Proofs.YtfgbppngnafpoaaDoor.Sp
open Go.RowKit

/-- A change. -/
structure Ch where
  n : ByteArray
  rc : Int
  rm : Int
  rh : Int
  lc : Int
  lm : Int
  lh : Int
def Ct.put (c : Ct) (x : Ch) : Ct := ⟨c.n, x.rc, x.rm, x.rh, x.lc, x.lm, x.lh, c.x, c.y, c.z⟩
def turnAt (zs : List Ct) (k : Nat) (x : Ch) : Bool := match zs[k]? with
  | some c => turnB c.lc c.lm x.lc x.lm
  | none => false
/-- The changes one by one: the error (0: none), the containers. -/
def resGo (zs : List Ct) : List Ct → List ByteArray → List Ch → Int × List Ct
  | out, _, [] => (0, out)
  | out, seen, x :: r => match fnd x.n zs with
    | none => (21, [])
    | some k => if seen.any (eqS x.n) = true then (22, []) else if turnAt zs k x = true then (28, []) else resGo zs (out.modify k (fun c => c.put x)) (x.n :: seen) r
theorem resGo_none {zs out : List Ct} {seen : List ByteArray} {x : Ch} {r : List Ch} (h : fnd x.n zs = none) : resGo zs out seen (x :: r) = (21, []) := by
  rw [resGo, h]
theorem resGo_seen {zs out : List Ct} {seen : List ByteArray} {x : Ch} {r : List Ch} {k : Nat} (h : fnd x.n zs = some k) (s : seen.any (eqS x.n) = true) : resGo zs out seen (x :: r) = (22, []) := by
  rw [resGo, h]
  simp only [s, if_true]
theorem resGo_turn {zs out : List Ct} {seen : List ByteArray} {x : Ch} {r : List Ch} {k : Nat} (h : fnd x.n zs = some k) (s : seen.any (eqS x.n) = false) (t : turnAt zs k x = true) : resGo zs out seen (x :: r) = (28, []) := by
  rw [resGo, h]
  simp only [s, t, Bool.false_eq_true, if_false, if_true]
theorem resGo_on {zs out : List Ct} {seen : List ByteArray} {x : Ch} {r : List Ch} {k : Nat} (h : fnd x.n zs = some k) (s : seen.any (eqS x.n) = false) (t : turnAt zs k x = false) : resGo zs out seen (x :: r) = resGo zs (out.modify k (fun c => c.put x)) (x.n :: seen) r := by
  rw [resGo, h]
  simp only [s, t, Bool.false_eq_true, if_false]
/-- A resize: the error (0: none), the containers. -/
def resV (pn : ByteArray) (pr po : Int) (zs : List Ct) (l : List Ch) : Int × List Ct :=
  if podB pn pr po zs = true ∧ 0 < l.length then
    if (resGo zs zs [] l).1 ≠ 0 then ((resGo zs zs [] l).1, [])
    else if podB pn pr po (resGo zs zs [] l).2 = false then (2, [])
    else if classI (resGo zs zs [] l).2 ≠ classI zs then (28, []) else (0, (resGo zs zs [] l).2)
  else (2, [])
theorem resV_arg {pn : ByteArray} {pr po : Int} {zs : List Ct} {l : List Ch} (h : ¬ (podB pn pr po zs = true ∧ 0 < l.length)) : resV pn pr po zs l = (2, []) := if_neg h
theorem resV_err {pn : ByteArray} {pr po : Int} {zs : List Ct} {l : List Ch} {e : Int} {o : List Ct} (h : podB pn pr po zs = true ∧ 0 < l.length) (g : resGo zs zs [] l = (e, o)) (k : e ≠ 0) : resV pn pr po zs l = (e, []) := by
  unfold resV
  rw [if_pos h, g, if_pos k]
theorem resV_pod {pn : ByteArray} {pr po : Int} {zs : List Ct} {l : List Ch} {o : List Ct} (h : podB pn pr po zs = true ∧ 0 < l.length) (g : resGo zs zs [] l = (0, o)) (k : podB pn pr po o = false) : resV pn pr po zs l = (2, []) := by
  unfold resV
  rw [if_pos h, g, if_neg (fun h => h rfl), if_pos k]
theorem resV_class {pn : ByteArray} {pr po : Int} {zs : List Ct} {l : List Ch} {o : List Ct} (h : podB pn pr po zs = true ∧ 0 < l.length) (g : resGo zs zs [] l = (0, o)) (k : podB pn pr po o = true) (c : classI o ≠ classI zs) : resV pn pr po zs l = (28, []) := by
  unfold resV
  rw [if_pos h, g, if_neg (fun h => h rfl), if_neg (by rw [k]; exact Bool.noConfusion), if_pos c]
theorem resV_ok {pn : ByteArray} {pr po : Int} {zs : List Ct} {l : List Ch} {o : List Ct} (h : podB pn pr po zs = true ∧ 0 < l.length) (g : resGo zs zs [] l = (0, o)) (k : podB pn pr po o = true) (c : classI o = classI zs) : resV pn pr po zs l = (0, o) := by
  unfold resV
  rw [if_pos h, g, if_neg (fun h => h rfl), if_neg (by rw [k]; exact Bool.noConfusion), if_neg (fun h => h c)]
/-- Who was named, by place. -/
def nmd (zs : List Ct) (seen : List ByteArray) (k : Nat) : Bool := seen.any (fun n => fnd n zs == some k)
theorem nmd_at {zs : List Ct} {seen : List ByteArray} {k : Nat} {m : ByteArray} (h : fnd m zs = some k) : nmd zs seen k = seen.any (eqS m) := by
  unfold nmd
  congr 1
  funext n
  rw [Bool.eq_iff_iff, eqS_iff, beq_iff_eq]
  constructor
  · intro h'
    obtain ⟨c, h1, h2, _⟩ := fnd_at h
    obtain ⟨d, h3, h4, _⟩ := fnd_at h'
    rw [h1] at h3
    injection h3 with h3
    subst h3
    rw [← eqS_iff.1 h2, eqS_iff.1 h4]
  · rintro rfl
    exact h
theorem nmd_on {zs : List Ct} {seen : List ByteArray} {k : Nat} {m : ByteArray} (h : fnd m zs = some k) (i : Nat) : nmd zs (m :: seen) i = if i = k then true else nmd zs seen i := by
  unfold nmd
  rw [List.any_cons, h]
  by_cases e : i = k
  · subst e
    simp
  · rw [if_neg e]
    have : ((some k : Option Nat) == some i) = false := by simp; omega
    rw [this, Bool.false_or]

/-- The seven cells of a change. -/
def Svn (W : World) (b o : Nat) (x : Ch) : Prop := W.cell? ⟨b, o, none⟩ = some (.string x.n) ∧ W.cell? ⟨b, o + 1, none⟩ = some (.int .i64 x.rc) ∧ W.cell? ⟨b, o + 2, none⟩ = some (.int .i64 x.rm) ∧ W.cell? ⟨b, o + 3, none⟩ = some (.int .i64 x.rh) ∧ W.cell? ⟨b, o + 4, none⟩ = some (.int .i64 x.lc) ∧ W.cell? ⟨b, o + 5, none⟩ = some (.int .i64 x.lm) ∧ W.cell? ⟨b, o + 6, none⟩ = some (.int .i64 x.lh)
theorem Svn.later {W w1 : World} {b o : Nat} {c : Ch} (h : Svn W b o c) (hb : Below W.heap.size W w1) : Svn w1 b o c := by
  obtain ⟨h0, h1, h2, h3, h4, h5, h6⟩ := h
  exact ⟨cell_later hb h0, cell_later hb h1, cell_later hb h2, cell_later hb h3, cell_later hb h4, cell_later hb h5, cell_later hb h6⟩
/-- A slice reads as a row of changes. -/
def RdX (W : World) (v : Value) (l : List Ch) : Prop := ∃ (a : Option Addr) (cap : Nat), v = .slice a l.length cap ∧ l.length ≤ cap ∧ cap ≤ maxLen ∧
  ∀ (j : Nat) (c : Ch), l[j]? = some c → c.n.size ≤ maxLen ∧ ∃ b off : Nat, a = some ⟨b, off, none⟩ ∧ Svn W b (off + j * 7) c
theorem RdX.later {W w1 : World} {v : Value} {l : List Ch} (h : RdX W v l) (hb : Below W.heap.size W w1) : RdX w1 v l := by
  obtain ⟨a, cap, e, h1, h2, h3⟩ := h
  refine ⟨a, cap, e, h1, h2, fun j d hj => ?_⟩
  obtain ⟨k, b, off, e1, e2⟩ := h3 j d hj
  exact ⟨k, b, off, e1, e2.later hb⟩
theorem RdX.alloc {W : World} {v : Value} {l : List Ch} (h : RdX W v l) (o : Obj) : RdX (W.alloc o) v l := h.later ((Below.refl _ _).alloc (Nat.le_refl _) o)

/-- A block that holds containers, and may be written. -/
def RowC (W : World) (g : Nat) (zs : List Ct) : Prop := g < W.heap.size ∧ ∀ (i : Nat) (c : Ct), zs[i]? = some c → c.n.size ≤ maxLen ∧ Ten W g (i * 10) c ∧ ∀ k, k < 10 → W.frozen? ⟨g, i * 10 + k, none⟩ = false
section
variable {W w1 : World} {g : Nat} {zs : List Ct}
theorem RowC.later (h : RowC W g zs) (hb : Below W.heap.size W w1) : RowC w1 g zs := by
  obtain ⟨hg, h⟩ := h
  have := hb.size
  obtain ⟨_, hf⟩ := bcell hb
  refine ⟨by omega, fun i c hc => ?_⟩
  obtain ⟨h0, h1, h2⟩ := h i c hc
  exact ⟨h0, h1.later hb, fun k hk => (hf _ _ hg).trans (h2 k hk)⟩
theorem RowC.alloc (h : RowC W g zs) (o : Obj) : RowC (W.alloc o) g zs := h.later ((Below.refl _ _).alloc (Nat.le_refl _) o)
theorem RowC.drew (h : RowC W g zs) : RowC W.drew g zs := h
theorem RowC.same (h : RowC W g zs) (e : w1.heap[g]? = W.heap[g]?) (z : g < w1.heap.size) : RowC w1 g zs := by
  obtain ⟨hg, h⟩ := h
  have ce : ∀ i, w1.cell? ⟨g, i, none⟩ = W.cell? ⟨g, i, none⟩ := fun i => by simp only [World.cell?, e]
  have fe : ∀ i, w1.frozen? ⟨g, i, none⟩ = W.frozen? ⟨g, i, none⟩ := fun i => by simp only [World.frozen?, e]
  refine ⟨z, fun i c hc => ?_⟩
  obtain ⟨h0, ⟨t0, t1, t2, t3, t4, t5, t6, t7, t8, t9⟩, h2⟩ := h i c hc
  exact ⟨h0, ⟨(ce _).trans t0, (ce _).trans t1, (ce _).trans t2, (ce _).trans t3, (ce _).trans t4, (ce _).trans t5, (ce _).trans t6, (ce _).trans t7, (ce _).trans t8, (ce _).trans t9⟩, fun k hk => (fe _).trans (h2 k hk)⟩
theorem RowC.beside {b : Nat} (h : RowC W g zs) (i : Nat) (x : Value) (e : g ≠ b) : RowC (W.setCell ⟨b, i, none⟩ x) g zs := h.same (Below.heap_setCell W ⟨b, i, none⟩ x g e) (by simpa [World.setCell] using h.1)
theorem RowC.reads (h : RowC W g zs) {cap : Nat} (h1 : zs.length ≤ cap) (h2 : cap ≤ maxLen) : RdC W (.slice (some ⟨g, 0, none⟩) zs.length cap) zs :=
  ⟨_, cap, rfl, h1, h2, fun j c hc => by
    obtain ⟨k0, k1, _⟩ := h.2 j c hc
    exact ⟨k0, g, 0, rfl, by rw [Nat.zero_add]; exact k1⟩⟩
theorem RowC.put {k : Nat} (h : RowC W g zs) (x : Ch) : RowC ((((((W.setCell ⟨g, k * 10 + 1, none⟩ (.int .i64 x.rc)).setCell ⟨g, k * 10 + 2, none⟩ (.int .i64 x.rm)).setCell ⟨g, k * 10 + 3, none⟩ (.int .i64 x.rh)).setCell ⟨g, k * 10 + 4, none⟩ (.int .i64 x.lc)).setCell ⟨g, k * 10 + 5, none⟩ (.int .i64 x.lm)).setCell ⟨g, k * 10 + 6, none⟩ (.int .i64 x.lh)) g (zs.modify k (fun c => c.put x)) := by
  obtain ⟨hg, h⟩ := h
  refine ⟨by simpa [World.setCell] using hg, fun i d hd => ?_⟩
  rw [List.getElem?_modify] at hd
  cases hi : zs[i]? with
  | none => rw [hi] at hd; cases hd
  | some e =>
    rw [hi] at hd
    injection hd with hd
    obtain ⟨h0, ⟨t0, t1, t2, t3, t4, t5, t6, t7, t8, t9⟩, h2⟩ := h i e hi
    have far : ∀ q, (q < k * 10 + 1 ∨ k * 10 + 6 < q) → ((((((W.setCell ⟨g, k * 10 + 1, none⟩ (.int .i64 x.rc)).setCell ⟨g, k * 10 + 2, none⟩ (.int .i64 x.rm)).setCell ⟨g, k * 10 + 3, none⟩ (.int .i64 x.rh)).setCell ⟨g, k * 10 + 4, none⟩ (.int .i64 x.lc)).setCell ⟨g, k * 10 + 5, none⟩ (.int .i64 x.lm)).setCell ⟨g, k * 10 + 6, none⟩ (.int .i64 x.lh)).cell? ⟨g, q, none⟩ = W.cell? ⟨g, q, none⟩ := fun q hq => by
      rw [cell_beside (by omega), cell_beside (by omega), cell_beside (by omega), cell_beside (by omega), cell_beside (by omega), cell_beside (by omega)]
    by_cases ki : k = i
    · subst ki
      simp only [if_true] at hd
      subst hd
      refine ⟨h0, ⟨(far _ (by omega)).trans t0, ?_, ?_, ?_, ?_, ?_, ?_, (far _ (by omega)).trans t7, (far _ (by omega)).trans t8, (far _ (by omega)).trans t9⟩, fun q hq => by simpa using h2 q hq⟩
      · rw [cell_beside (by omega), cell_beside (by omega), cell_beside (by omega), cell_beside (by omega), cell_beside (by omega)]
        exact cell_here t1
      · rw [cell_beside (by omega), cell_beside (by omega), cell_beside (by omega), cell_beside (by omega)]
        exact cell_here ((cell_beside (by omega)).trans t2)
      · rw [cell_beside (by omega), cell_beside (by omega), cell_beside (by omega)]
        exact cell_here ((cell_beside (by omega)).trans ((cell_beside (by omega)).trans t3))
      · rw [cell_beside (by omega), cell_beside (by omega)]
        exact cell_here ((cell_beside (by omega)).trans ((cell_beside (by omega)).trans ((cell_beside (by omega)).trans t4)))
      · rw [cell_beside (by omega)]
        exact cell_here ((cell_beside (by omega)).trans ((cell_beside (by omega)).trans ((cell_beside (by omega)).trans ((cell_beside (by omega)).trans t5))))
      · exact cell_here ((cell_beside (by omega)).trans ((cell_beside (by omega)).trans ((cell_beside (by omega)).trans ((cell_beside (by omega)).trans ((cell_beside (by omega)).trans t6)))))
    · simp only [if_neg ki] at hd
      subst hd
      have f := fun q (hq : q < 10) => far (i * 10 + q) (by omega)
      exact ⟨h0, ⟨(f 0 (by omega)).trans t0, (f 1 (by omega)).trans t1, (f 2 (by omega)).trans t2, (f 3 (by omega)).trans t3, (f 4 (by omega)).trans t4, (f 5 (by omega)).trans t5, (f 6 (by omega)).trans t6, (f 7 (by omega)).trans t7, (f 8 (by omega)).trans t8, (f 9 (by omega)).trans t9⟩, fun q hq => by simpa using h2 q hq⟩
end
/-- Six bools in a block, as f tells them; they may be written. -/
def Nmd (W : World) (g : Nat) (f : Nat → Bool) : Prop := g < W.heap.size ∧ ∀ k, k < 6 → W.cell? ⟨g, k, none⟩ = some (.bool (f k)) ∧ W.frozen? ⟨g, k, none⟩ = false
section
variable {W w1 : World} {g : Nat} {f : Nat → Bool}
theorem Nmd.later (h : Nmd W g f) (hb : Below W.heap.size W w1) : Nmd w1 g f := by
  obtain ⟨hg, h⟩ := h
  have := hb.size
  exact ⟨by omega, fun k hk => ⟨cell_later hb (h k hk).1, ((bcell hb).2 _ _ hg).trans (h k hk).2⟩⟩
theorem Nmd.alloc (h : Nmd W g f) (o : Obj) : Nmd (W.alloc o) g f := h.later ((Below.refl _ _).alloc (Nat.le_refl _) o)
theorem Nmd.drew (h : Nmd W g f) : Nmd W.drew g f := h
theorem Nmd.beside {b : Nat} (h : Nmd W g f) (i : Nat) (x : Value) (e : g ≠ b) : Nmd (W.setCell ⟨b, i, none⟩ x) g f := by
  have q := Below.heap_setCell W ⟨b, i, none⟩ x g e
  refine ⟨by simpa [World.setCell] using h.1, fun k hk => ⟨?_, ?_⟩⟩
  · have := (h.2 k hk).1
    simp only [World.cell?] at this ⊢
    rw [q]; exact this
  · have := (h.2 k hk).2
    simp only [World.frozen?] at this ⊢
    rw [q]; exact this
theorem Nmd.set {k : Nat} (h : Nmd W g f) (b : Bool) : Nmd (W.setCell ⟨g, k, none⟩ (.bool b)) g (fun i => if i = k then b else f i) := by
  refine ⟨by simpa [World.setCell] using h.1, fun i hi => ⟨?_, by simpa using (h.2 i hi).2⟩⟩
  by_cases e : i = k
  · subst e
    simp only [if_true]
    exact cell_here (h.2 i hi).1
  · simp only [if_neg e]
    exact (cell_beside (fun q => e q.symm)).trans (h.2 i hi).1
theorem Nmd.congr {f' : Nat → Bool} (h : Nmd W g f) (e : ∀ i, i < 6 → f' i = f i) : Nmd W g f' := ⟨h.1, fun k hk => by rw [e k hk]; exact h.2 k hk⟩
theorem Nmd.new (W : World) (t : TypeId) : Nmd (W.alloc (.cells #[.bool false, .bool false, .bool false, .bool false, .bool false, .bool false] t)) W.heap.size (fun _ => false) := by
  have q : Cs (W.alloc (.cells #[.bool false, .bool false, .bool false, .bool false, .bool false, .bool false] t)) W.heap.size [.bool false, .bool false, .bool false, .bool false, .bool false, .bool false] := Cs.new _ _ _ _ rfl
  refine ⟨q.2.2, fun k hk => ⟨q.1 k _ ?_, q.2.1 k (by simpa using hk)⟩⟩
  have : k = 0 ∨ k = 1 ∨ k = 2 ∨ k = 3 ∨ k = 4 ∨ k = 5 := by omega
  rcases this with rfl | rfl | rfl | rfl | rfl | rfl <;> rfl
end

end Go.Proofs.YtfgbppngnafpoaaDoor.Sp
