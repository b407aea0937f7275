/-
  From what the rows of this seat list of the two tables to the tables' cells; containers and pods that are read; and what each of the cards of this seat wants besides. Conditions: none.
-/
import Derived.Test.YtaeejemknmjglaaDoorPG
import Derived.Test.YtaeejemknmjglaaDoorCards
import Derived.Test.YtaeejemknmjglaaDoorTie
import Derived.ProofKit
import Derived.OpenShut
import Derived.Lib.SmallJoins
import Derived.Deep.DeepHandedRow
import Derived.Lib.LaidTab
import Derived.Deep.Slices
namespace Go.Proofs.YtaeejemknmjglaaDoor.Sp
open Go.ChangeShapes Go.WideShapes Go.ChangeAt Go.RowKit Go.Joins Go.Deep
open Go.ChangeMaps (open_string shut_string)

/-- An array of numbers that reads as a list of numbers holds them, one a cell. -/
theorem cells_ints {H : Type} {enc : TypeId × Value → H} {P : Program} {w : World} {base : Nat} {sp : Nat → Bool} {held : Bool} {fuel : Nat} {t e : TypeId} {n : Nat} {k : IntKind} {cs : List Value} {ss : List Int} {p : List MemPlace}
    (ht : P.underlying t = some (.array n e)) (he : P.underlying e = some (.int k)) (hce : P.cellsOf e = 1) (hct : P.cellsOf t = n)
    (h : DataW.trod enc P w base sp held fuel t cs = some (.agg (ss.map fun s => .lit (.int k s)), p)) (i : Nat) (hi : i < n) : cs[i]? = some (.int k (ss.getD i 0)) := by
  match fuel, h with
  | 0, h => simp [DataW.trod] at h
  | f + 1, h =>
    simp only [DataW.trod, ht, hce, hct, Nat.mul_one] at h
    split at h
    · obtain ⟨xs, hm, hx⟩ := Option.map_eq_some_iff.1 h
      obtain ⟨y, hy, hf⟩ := Lib.mapM_at hm i i (by simp [hi])
      obtain ⟨s, hc, e1, -⟩ := DataW.trod_int he hf
      have e2 : (xs.map (·.1))[i]? = some (DataW.lit (.int k s)) := by rw [List.getElem?_map, hy, e1]; rfl
      have e3 : xs.map (·.1) = ss.map fun s => (DataW.lit (.int k s) : DataW H) := by
        have := congrArg Prod.fst hx
        injection this
      rw [e3, List.getElem?_map] at e2
      have e4 : ss[i]? = some s := by
        cases q : ss[i]? with
        | none => rw [q] at e2; cases e2
        | some z =>
          rw [q] at e2
          injection e2 with e2
          injection e2 with e2
          injection e2 with _ e2
          rw [e2]
      have e5 : cs[i]? = some (.int k s) := by
        have := congrArg (·[0]?) hc
        simpa [List.getElem?_take, List.getElem?_drop] using this
      rw [e5, List.getD, e4]
      rfl
    · cases h
theorem ints_var {P : Program} {W : World} {name : String} {ss : List Int} {k : IntKind} {rest : List (String × DataW Unit)} {ps : List MemPlace} {g : Nat} {t e : TypeId} {n : Nat}
    (hg : P.globalNamed name = some g) (hty : (P.globals[g]?).map (·.type) = some t) (ht : P.underlying t = some (.array n e)) (he : P.underlying e = some (.int k)) (hce : P.cellsOf e = 1) (hct : P.cellsOf t = n)
    (h : DataW.LaidVars P W ((name, .agg (ss.map fun s => .lit (.int k s))) :: rest) ps) : (∀ i, i < n → W.cell? ⟨g, i, none⟩ = some (.int k (ss.getD i 0))) ∧ ∃ q, DataW.LaidVars P W rest q := by
  obtain ⟨g', t', cs, fuel, p, q, hg', ht', hvar, hd, hr, _⟩ := h
  obtain rfl := Option.some.inj (hg.symm.trans hg')
  obtain rfl := Option.some.inj (hty.symm.trans ht')
  refine ⟨fun i hi => ?_, q, hr⟩
  rw [World.var?_cell hg hvar i]
  have := cells_ints ht he hce hct hd i hi
  simpa using this

theorem own : ownKnob Tryd.prog.godebug = none := by kernel_rfl
theorem laidOut : laidOutB Tryd.prog = true := by kernel_rfl
theorem gBou : Tryd.prog.globalNamed "berthing/vector.bounds" = some 4 := by kernel_rfl
theorem gBed : Tryd.prog.globalNamed "berthing/spec.bounded" = some 0 := by kernel_rfl
theorem gBouT : (Tryd.prog.globals[4]?).map (·.type) = some 94 := by kernel_rfl
theorem gBedT : (Tryd.prog.globals[0]?).map (·.type) = some 48 := by kernel_rfl
theorem cellsBou : Tryd.prog.cellsOf 94 = 3 := by kernel_rfl
theorem cellsBed : Tryd.prog.cellsOf 48 = 2 := by kernel_rfl
theorem cellsInt : Tryd.prog.cellsOf 3 = 1 := by kernel_rfl
theorem cellsStr : Tryd.prog.cellsOf 9 = 1 := by kernel_rfl
theorem cellsBool : Tryd.prog.cellsOf 4 = 1 := by kernel_rfl
theorem cellsVec : Tryd.prog.cellsOf 23 = 3 := by kernel_rfl
theorem cellsB3 : Tryd.prog.cellsOf 24 = 3 := by kernel_rfl
theorem cellsCt : Tryd.prog.cellsOf 26 = 10 := by kernel_rfl
def bouL : List Int := [1099511627776, 1125899906842624, 1125899906842624]
def bedL : List Int := [0, 1]

def laids5 : List (String × DataW Unit) := [("berthing/vector.bounds", Rows.laid_berthing_vector_bounds), ("berthing/spec.bounded", Rows.laid_berthing_spec_bounded)]
theorem laid_cells5 {W : World} (h : laidMetH Tryd.prog laids5 W) : LaidS W := by
  have h' : laidMet Tryd.prog laids5 W := h
  obtain ⟨ps, hv, -⟩ := h'
  obtain ⟨c1, q, hv2⟩ := ints_var (ss := bouL) gBou gBouT Tryd.underlying94 Tryd.underlying3 cellsInt cellsBou hv
  obtain ⟨c2, -, -⟩ := ints_var (ss := bedL) gBed gBedT Tryd.underlying48 Tryd.underlying3 cellsInt cellsBed hv2
  refine ⟨fun j v hj => ?_, fun j v hj => ?_, ?_⟩
  · have hl : j < 3 := (List.getElem?_eq_some_iff.1 hj).1
    have := c1 j hl
    rw [Nat.zero_add, this]
    match j, hl, hj with
    | 0, _, hj => exact hj
    | 1, _, hj => exact hj
    | 2, _, hj => exact hj
  · have hl : j < 2 := (List.getElem?_eq_some_iff.1 hj).1
    have := c2 j hl
    rw [Nat.zero_add, this]
    match j, hl, hj with
    | 0, _, hj => exact hj
    | 1, _, hj => exact hj
  · have z1 := World.block_lt_of_cell? W _ (c1 0 (by omega))
    have z2 := World.block_lt_of_cell? W _ (c2 0 (by omega))
    exact Nat.max_lt.2 ⟨z1, z2⟩

/-- A block with these cells. -/
def laidAs (vs : List Value) : Obj → Obj
  | .cells _ t frozen => .cells vs.toArray t frozen
  | o => o
/-- A world with the two tables as they are laid. -/
def laidOver5 (W : World) : World :=
  { W with heap := (W.heap.modify 4 (laidAs boundV)).modify 0 (laidAs boundedV) }

section
variable {H : Type} {enc : TypeId × Value → H} {W : World} {sp : Nat → Bool} {n : Nat}
/-- Three cells that read as a vector are three numbers. -/
theorem read_vec {c0 c1 c2 : Value} {y : DataW H × List MemPlace} (h : DataW.trod enc Tryd.prog W 0 sp true n 23 [c0, c1, c2] = some y) : ∃ a b c : Int, c0 = .int .i64 a ∧ c1 = .int .i64 b ∧ c2 = .int .i64 c := by
  obtain ⟨y0, y1, y2, m, -, -, g0, g1, g2⟩ := trod_struct3 Tryd.underlying23 h
  have g0' : DataW.trod enc Tryd.prog W 0 sp true m 3 [c0] = some y0 := by simpa [cellsInt] using g0
  have g1' : DataW.trod enc Tryd.prog W 0 sp true m 3 [c1] = some y1 := by simpa [cellsInt] using g1
  have g2' : DataW.trod enc Tryd.prog W 0 sp true m 3 [c2] = some y2 := by simpa [cellsInt] using g2
  obtain ⟨a, e0, -, -⟩ := DataW.trod_int Tryd.underlying3 g0'
  obtain ⟨b, e1, -, -⟩ := DataW.trod_int Tryd.underlying3 g1'
  obtain ⟨c, e2, -, -⟩ := DataW.trod_int Tryd.underlying3 g2'
  simp at e0 e1 e2
  exact ⟨a, b, c, e0, e1, e2⟩
/-- Three cells that read as an array of bools are three bools. -/
theorem read_b3 {c0 c1 c2 : Value} {y : DataW H × List MemPlace} (h : DataW.trod enc Tryd.prog W 0 sp true n 24 [c0, c1, c2] = some y) : ∃ a b c : Bool, c0 = .bool a ∧ c1 = .bool b ∧ c2 = .bool c := by
  obtain ⟨xs, m, -, -, -, hl, hf⟩ := DataW.trod_array Tryd.underlying24 h
  match xs, hl with
  | [y0, y1, y2], _ =>
    have g0 := hf 0 (by omega)
    have g1 := hf 1 (by omega)
    have g2 := hf 2 (by omega)
    simp [cellsBool] at g0 g1 g2
    obtain ⟨a, e0, -⟩ := DataW.trod_bool Tryd.underlying4 g0
    obtain ⟨b, e1, -⟩ := DataW.trod_bool Tryd.underlying4 g1
    obtain ⟨c, e2, -⟩ := DataW.trod_bool Tryd.underlying4 g2
    simp at e0 e1 e2
    exact ⟨a, b, c, e0, e1, e2⟩
theorem array10 {α : Type} {cs : List α} (h : cs.length = 10) : ∃ c0 c1 c2 c3 c4 c5 c6 c7 c8 c9, cs = [c0, c1, c2, c3, c4, c5, c6, c7, c8, c9] := by
  match cs, h with
  | [c0, c1, c2, c3, c4, c5, c6, c7, c8, c9], _ => exact ⟨c0, c1, c2, c3, c4, c5, c6, c7, c8, c9, rfl⟩
/-- Ten cells that read as a container are one's. -/
theorem read_ct {cs : List Value} {y : DataW H × List MemPlace} (h : DataW.trod enc Tryd.prog W 0 sp true n 26 cs = some y) : ∃ c : Ct, cs = c.l ∧ c.n.size ≤ maxLen := by
  obtain ⟨y0, y1, y2, y3, m, -, hl, g0, g1, g2, g3⟩ := trod_struct4 Tryd.underlying26 h
  rw [cellsCt] at hl
  obtain ⟨c0, c1, c2, c3, c4, c5, c6, c7, c8, c9, rfl⟩ := array10 hl
  have g0' : DataW.trod enc Tryd.prog W 0 sp true m 9 [c0] = some y0 := by simpa [cellsStr] using g0
  have g1' : DataW.trod enc Tryd.prog W 0 sp true m 23 [c1, c2, c3] = some y1 := by simpa [cellsVec] using g1
  have g2' : DataW.trod enc Tryd.prog W 0 sp true m 23 [c4, c5, c6] = some y2 := by simpa [cellsVec] using g2
  have g3' : DataW.trod enc Tryd.prog W 0 sp true m 24 [c7, c8, c9] = some y3 := by simpa [cellsB3] using g3
  obtain ⟨s, e0, -, w0⟩ := DataW.trod_string Tryd.underlying9 g0'
  obtain ⟨a1, a2, a3, rfl, rfl, rfl⟩ := read_vec g1'
  obtain ⟨b1, b2, b3, rfl, rfl, rfl⟩ := read_vec g2'
  obtain ⟨d1, d2, d3, rfl, rfl, rfl⟩ := read_b3 g3'
  simp at e0
  subst e0
  exact ⟨⟨s, a1, a2, a3, b1, b2, b3, d1, d2, d3⟩, rfl, w0⟩
theorem choose_fn {α : Type} (z : α) {n : Nat} {p : Nat → α → Prop} (h : ∀ i, i < n → ∃ x, p i x) : ∃ f : Nat → α, ∀ i, i < n → p i (f i) := by
  classical
  refine ⟨fun i => if hi : i < n then (h i hi).choose else z, fun i hi => ?_⟩
  simp only [dif_pos hi]
  exact (h i hi).choose_spec
theorem cellsPod : Tryd.prog.cellsOf 29 = 4 := by kernel_rfl
theorem cellsCts : Tryd.prog.cellsOf 27 = 1 := by kernel_rfl
end
section
variable {H : Type} {enc : TypeId × Value → H} {W : World} {n : Nat}
/-- A slice of containers that is read. -/
theorem read_cts {a0 : Option Addr} {len cap : Nat} {x : DataW H × List MemPlace}
    (h : DataW.trod enc Tryd.prog W 0 (fun _ => true) true n 27 [.slice a0 len cap] = some x) : ∃ zs : List Ct, RdC W (.slice a0 len cap) zs := by
  rcases open_slice Tryd.underlying27 h with ⟨hcs, -⟩ | ⟨a, len', cap', m, n', D, Pl, hcs, _, hl, hm, hmm, -, hx⟩
  · simp at hcs
    obtain ⟨rfl, rfl, rfl⟩ := hcs
    exact ⟨[], none, 0, rfl, by simp, by simp [maxLen], fun j d hj => by simp at hj⟩
  · simp at hcs
    obtain ⟨rfl, rfl, rfl⟩ := hcs
    simp only [if_true] at hmm
    subst hmm
    have each : ∀ i, i < len → ∃ c : Ct, c.n.size ≤ maxLen ∧ ∀ q, q < 10 → W.cell? (a.add (i * 10 + q)) = c.l[q]? := by
      intro i hi
      obtain ⟨cs', h1, h2⟩ := hx i (by omega)
      rw [cellsCt] at h1
      obtain ⟨_, hlen, hcell⟩ := World.cells?_some h1
      obtain ⟨c, rfl, hc⟩ := read_ct h2
      refine ⟨c, hc, fun q hq => ?_⟩
      have := hcell q hq
      rw [add_add] at this
      simpa using this
    obtain ⟨q, hq⟩ := choose_fn (⟨⟨#[]⟩, 0, 0, 0, 0, 0, 0, false, false, false⟩ : Ct) each
    have hlen : ((List.range len).map q).length = len := by simp
    refine ⟨(List.range len).map q, some a, m, by rw [hlen], by omega, hm, fun j d hj => ?_⟩
    have hjl : j < len := by
      have := (List.getElem?_eq_some_iff.1 hj).1
      simpa using this
    have hd : d = q j := by
      rw [List.getElem?_map, List.getElem?_range hjl] at hj
      injection hj with hj
      exact hj.symm
    subst hd
    obtain ⟨hs0, hc⟩ := hq j hjl
    have hs : a.spot = none := by
      have := World.cell?_spot ((hq 0 (by omega)).2 0 (by omega))
      simpa [Addr.add] using this
    obtain ⟨b, off, sp⟩ := a
    simp at hs
    subst hs
    have c := fun q hq => hc q hq
    simp only [add_plain] at c
    refine ⟨hs0, b, off, rfl, ?_, ?_, ?_, ?_, ?_, ?_, ?_, ?_, ?_, ?_⟩
    · exact c 0 (by omega)
    · rw [Nat.add_assoc]; exact c 1 (by omega)
    · rw [Nat.add_assoc]; exact c 2 (by omega)
    · rw [Nat.add_assoc]; exact c 3 (by omega)
    · rw [Nat.add_assoc]; exact c 4 (by omega)
    · rw [Nat.add_assoc]; exact c 5 (by omega)
    · rw [Nat.add_assoc]; exact c 6 (by omega)
    · rw [Nat.add_assoc]; exact c 7 (by omega)
    · rw [Nat.add_assoc]; exact c 8 (by omega)
    · rw [Nat.add_assoc]; exact c 9 (by omega)
theorem array4 {α : Type} {cs : List α} (h : cs.length = 4) : ∃ c0 c1 c2 c3, cs = [c0, c1, c2, c3] := by
  match cs, h with
  | [c0, c1, c2, c3], _ => exact ⟨c0, c1, c2, c3, rfl⟩
/-- Four cells that read as a pod are one's. -/
theorem read_pod {cs : List Value} {y : DataW H × List MemPlace} (h : DataW.trod enc Tryd.prog W 0 (fun _ => true) true n 29 cs = some y) :
    ∃ (pn : ByteArray) (pr po : Int) (v : Value) (zs : List Ct), cs = [.string pn, .int .i64 pr, .int .i64 po, v] ∧ pn.size ≤ maxLen ∧ RdC W v zs := by
  obtain ⟨y0, y1, y2, y3, m, -, hl, g0, g1, g2, g3⟩ := trod_struct4 Tryd.underlying29 h
  rw [cellsPod] at hl
  obtain ⟨c0, c1, c2, c3, rfl⟩ := array4 hl
  have g0' : DataW.trod enc Tryd.prog W 0 (fun _ => true) true m 9 [c0] = some y0 := by simpa [cellsStr] using g0
  have g1' : DataW.trod enc Tryd.prog W 0 (fun _ => true) true m 3 [c1] = some y1 := by simpa [cellsInt] using g1
  have g2' : DataW.trod enc Tryd.prog W 0 (fun _ => true) true m 3 [c2] = some y2 := by simpa [cellsInt] using g2
  have g3' : DataW.trod enc Tryd.prog W 0 (fun _ => true) true m 27 [c3] = some y3 := by simpa [cellsCts] using g3
  obtain ⟨s, e0, -, w0⟩ := DataW.trod_string Tryd.underlying9 g0'
  obtain ⟨a, e1, -, -⟩ := DataW.trod_int Tryd.underlying3 g1'
  obtain ⟨b, e2, -, -⟩ := DataW.trod_int Tryd.underlying3 g2'
  simp at e0 e1 e2
  subst e0 e1 e2
  have : ∃ a0 len cap, c3 = .slice a0 len cap := by
    rcases open_slice Tryd.underlying27 g3' with ⟨hcs, -⟩ | ⟨a, len', cap', m, n', D, Pl, hcs, _⟩
    · simp at hcs; exact ⟨_, _, _, hcs⟩
    · simp at hcs; exact ⟨_, _, _, hcs⟩
  obtain ⟨a0, len, cap, rfl⟩ := this
  obtain ⟨zs, hz⟩ := read_cts g3'
  exact ⟨_, _, _, _, zs, rfl, w0, hz⟩
end

end Go.Proofs.YtaeejemknmjglaaDoor.Sp
