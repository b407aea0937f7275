/-
  From what the rows of this seat list of the eight tables to the tables' cells; knobs, cases and pairs that are read. Conditions: none.
-/
import Derived.Test.YtaeejemknmjglaaDoorRC
import Derived.Test.YtaeejemknmjglaaDoorPX0
import Derived.Deep.Strs
namespace Go.Proofs.YtaeejemknmjglaaDoor.Sp
open Go.ChangeShapes Go.WideShapes Go.ChangeAt Go.RowKit Go.Joins Go.Deep
open Go.ChangeMaps (open_string shut_string)

/-- An array of bools that reads as a list of bools holds them, one a cell. -/
theorem cells_bools {H : Type} {enc : TypeId × Value → H} {P : Program} {w : World} {base : Nat} {sp : Nat → Bool} {held : Bool} {fuel : Nat} {t e : TypeId} {n : Nat} {cs : List Value} {ss : List Bool} {p : List MemPlace}
    (ht : P.underlying t = some (.array n e)) (he : P.underlying e = some .bool) (hce : P.cellsOf e = 1) (hct : P.cellsOf t = n)
    (h : DataW.trod enc P w base sp held fuel t cs = some (.agg (ss.map fun s => .lit (.bool s)), p)) (i : Nat) (hi : i < n) : cs[i]? = some (.bool (ss.getD i false)) := by
  match fuel, h with
  | 0, h => simp [DataW.trod] at h
  | f + 1, h =>
    simp only [DataW.trod, ht, hce, hct, Nat.mul_one] at h
    split at h
    · obtain ⟨xs, hm, hx⟩ := Option.map_eq_some_iff.1 h
      obtain ⟨y, hy, hf⟩ := Lib.mapM_at hm i i (by simp [hi])
      obtain ⟨s, hc, e1⟩ := DataW.trod_bool he hf
      have e2 : (xs.map (·.1))[i]? = some (DataW.lit (.bool s)) := by rw [List.getElem?_map, hy, e1]; rfl
      have e3 : xs.map (·.1) = ss.map fun s => (DataW.lit (.bool s) : DataW H) := by
        have := congrArg Prod.fst hx
        injection this
      rw [e3, List.getElem?_map] at e2
      have e4 : ss[i]? = some s := by
        cases q : ss[i]? with
        | none => rw [q] at e2; cases e2
        | some z =>
          rw [q] at e2
          injection e2 with e2
          injection e2 with e2
          injection e2 with e2
          rw [e2]
      have e5 : cs[i]? = some (.bool s) := by
        have := congrArg (·[0]?) hc
        simpa [List.getElem?_take, List.getElem?_drop] using this
      rw [e5, List.getD, e4]
      rfl
    · cases h
theorem bools_var {P : Program} {W : World} {name : String} {ss : List Bool} {rest : List (String × DataW Unit)} {ps : List MemPlace} {g : Nat} {t e : TypeId} {n : Nat}
    (hg : P.globalNamed name = some g) (hty : (P.globals[g]?).map (·.type) = some t) (ht : P.underlying t = some (.array n e)) (he : P.underlying e = some .bool) (hce : P.cellsOf e = 1) (hct : P.cellsOf t = n)
    (h : DataW.LaidVars P W ((name, .agg (ss.map fun s => .lit (.bool s))) :: rest) ps) : (∀ i, i < n → W.cell? ⟨g, i, none⟩ = some (.bool (ss.getD i false))) ∧ ∃ q, DataW.LaidVars P W rest q := by
  obtain ⟨g', t', cs, fuel, p, q, hg', ht', hvar, hd, hr, _⟩ := h
  obtain rfl := Option.some.inj (hg.symm.trans hg')
  obtain rfl := Option.some.inj (hty.symm.trans ht')
  refine ⟨fun i hi => ?_, q, hr⟩
  rw [World.var?_cell hg hvar i]
  have := cells_bools ht he hce hct hd i hi
  simpa using this
theorem any_var {P : Program} {W : World} {x : String × DataW Unit} {rest : List (String × DataW Unit)} {ps : List MemPlace} (h : DataW.LaidVars P W (x :: rest) ps) : ∃ q, DataW.LaidVars P W rest q := by
  obtain ⟨g', t', cs, fuel, p, q, hg', ht', hvar, hd, hr, _⟩ := h
  exact ⟨q, hr⟩
theorem tab_var {P : Program} {W : World} {name : String} {zs : List Int} {k : IntKind} {rest : List (String × DataW Unit)} {ps : List MemPlace} {g : Nat} {t e : TypeId} {n : Nat}
    (hg : P.globalNamed name = some g) (hty : (P.globals[g]?).map (·.type) = some t) (ht : P.underlying t = some (.array n e)) (he : P.underlying e = some (.int k)) (hce : P.cellsOf e = 1) (hct : P.cellsOf t = n)
    (h : DataW.LaidVars P W ((name, Lib.tabData k zs) :: rest) ps) : Lib.TabIs P W name k zs ∧ ∃ q, DataW.LaidVars P W rest q := by
  obtain ⟨g', t', cs, fuel, p, q, hg', ht', hvar, hd, hr, _⟩ := h
  obtain rfl := Option.some.inj (hg.symm.trans hg')
  obtain rfl := Option.some.inj (hty.symm.trans ht')
  refine ⟨?_, q, hr⟩
  unfold Lib.TabIs
  rw [hvar, ← Lib.cells_of_tab ht he hce hct hd]

theorem gLea : Tryd.prog.globalNamed "berthing/knobs.leasts" = some 2 := by kernel_rfl
theorem gMos : Tryd.prog.globalNamed "berthing/knobs.mosts" = some 3 := by kernel_rfl
theorem gEnd : Tryd.prog.globalNamed "berthing/knobs.endless" = some 1 := by kernel_rfl
theorem gLeaT : (Tryd.prog.globals[2]?).map (·.type) = some 51 := by kernel_rfl
theorem gMosT : (Tryd.prog.globals[3]?).map (·.type) = some 51 := by kernel_rfl
theorem gEndT : (Tryd.prog.globals[1]?).map (·.type) = some 72 := by kernel_rfl
theorem gPowT : (Tryd.prog.globals[6]?).map (·.type) = some 87 := by kernel_rfl
theorem cells5I : Tryd.prog.cellsOf 51 = 5 := by kernel_rfl
theorem cells5B : Tryd.prog.cellsOf 72 = 5 := by kernel_rfl
theorem cells20 : Tryd.prog.cellsOf 87 = 20 := by kernel_rfl
theorem cellsU64 : Tryd.prog.cellsOf 83 = 1 := by kernel_rfl
def leaL : List Int := [0, 1, 0, 0, 0]
def mosL : List Int := [9007199254740992, 10000, 9007199254740992, 9007199254740992, 9007199254740992]
def endL : List Bool := [true, false, false, true, false]
def laids6 : List (String × DataW Unit) := [("math/bits.deBruijn32tab", Rows.laid_math_bits_deBruijn32tab), ("math/bits.deBruijn64tab", Rows.laid_math_bits_deBruijn64tab), ("internal/strconv.uint64pow10", Rows.laid_internal_strconv_uint64pow10), ("berthing/vector.bounds", Rows.laid_berthing_vector_bounds), ("berthing/spec.bounded", Rows.laid_berthing_spec_bounded), ("berthing/knobs.leasts", Rows.laid_berthing_knobs_leasts), ("berthing/knobs.mosts", Rows.laid_berthing_knobs_mosts), ("berthing/knobs.endless", Rows.laid_berthing_knobs_endless)]
theorem powTab : (Rows.laid_internal_strconv_uint64pow10 : DataW Unit) = Lib.tabData .u64 Lib.pow10Tab := by kernel_rfl
theorem laid_cells6 {W : World} (h : laidMetH Tryd.prog laids6 W) : LaidK W := by
  have h' : laidMet Tryd.prog laids6 W := h
  obtain ⟨ps, hv, -⟩ := h'
  obtain ⟨q1, hv1⟩ := any_var hv
  obtain ⟨q2, hv2⟩ := any_var hv1
  rw [powTab] at hv2
  obtain ⟨cP, q3, hv3⟩ := tab_var gPow gPowT Tryd.underlying87 Tryd.underlying83 cellsU64 cells20 hv2
  obtain ⟨c1, q4, hv4⟩ := ints_var (ss := bouL) gBou gBouT Tryd.underlying94 Tryd.underlying3 cellsInt cellsBou hv3
  obtain ⟨c2, q5, hv5⟩ := ints_var (ss := bedL) gBed gBedT Tryd.underlying48 Tryd.underlying3 cellsInt cellsBed hv4
  obtain ⟨c3, q6, hv6⟩ := ints_var (ss := leaL) gLea gLeaT Tryd.underlying51 Tryd.underlying3 cellsInt cells5I hv5
  obtain ⟨c4, q7, hv7⟩ := ints_var (ss := mosL) gMos gMosT Tryd.underlying51 Tryd.underlying3 cellsInt cells5I hv6
  obtain ⟨c5, -, -⟩ := bools_var (ss := endL) gEnd gEndT Tryd.underlying72 Tryd.underlying4 cellsBool cells5B hv7
  have z1 := World.block_lt_of_cell? W _ (c1 0 (by omega))
  have z2 := World.block_lt_of_cell? W _ (c2 0 (by omega))
  have z3 := World.block_lt_of_cell? W _ (c3 0 (by omega))
  have z4 := World.block_lt_of_cell? W _ (c4 0 (by omega))
  have z5 := World.block_lt_of_cell? W _ (c5 0 (by omega))
  refine ⟨⟨fun j v hj => ?_, fun j v hj => ?_, Nat.max_lt.2 ⟨z1, z2⟩⟩, fun j v hj => ?_, fun j v hj => ?_, fun j v hj => ?_, Nat.max_lt.2 ⟨z3, Nat.max_lt.2 ⟨z4, z5⟩⟩, cP⟩
  · have hl : j < 3 := (List.getElem?_eq_some_iff.1 hj).1
    rw [Nat.zero_add, c1 j hl]
    match j, hl, hj with
    | 0, _, hj => exact hj
    | 1, _, hj => exact hj
    | 2, _, hj => exact hj
  · have hl : j < 2 := (List.getElem?_eq_some_iff.1 hj).1
    rw [Nat.zero_add, c2 j hl]
    match j, hl, hj with
    | 0, _, hj => exact hj
    | 1, _, hj => exact hj
  · have hl : j < 5 := (List.getElem?_eq_some_iff.1 hj).1
    rw [Nat.zero_add, c3 j hl]
    match j, hl, hj with
    | 0, _, hj => exact hj
    | 1, _, hj => exact hj
    | 2, _, hj => exact hj
    | 3, _, hj => exact hj
    | 4, _, hj => exact hj
  · have hl : j < 5 := (List.getElem?_eq_some_iff.1 hj).1
    rw [Nat.zero_add, c4 j hl]
    match j, hl, hj with
    | 0, _, hj => exact hj
    | 1, _, hj => exact hj
    | 2, _, hj => exact hj
    | 3, _, hj => exact hj
    | 4, _, hj => exact hj
  · have hl : j < 5 := (List.getElem?_eq_some_iff.1 hj).1
    rw [Nat.zero_add, c5 j hl]
    match j, hl, hj with
    | 0, _, hj => exact hj
    | 1, _, hj => exact hj
    | 2, _, hj => exact hj
    | 3, _, hj => exact hj
    | 4, _, hj => exact hj

/-- What a table's datum holds, a cell each. -/
def laidCell : DataW Unit → Value
  | .lit (.int k n) => .int k n
  | .lit (.bool b) => .bool b
  | _ => .bool false
def laidCells : DataW Unit → List Value
  | .agg l => l.map laidCell
  | _ => []
/-- A world with the eight tables as they are laid. -/
def laidOver6 (W : World) : World :=
  { W with heap := (((((((W.heap.modify 7 (laidAs (laidCells Rows.laid_math_bits_deBruijn32tab))).modify 8 (laidAs (laidCells Rows.laid_math_bits_deBruijn64tab))).modify 6 (laidAs (laidCells Rows.laid_internal_strconv_uint64pow10))).modify 4 (laidAs boundV)).modify 0 (laidAs boundedV)).modify 2 (laidAs leastsV)).modify 3 (laidAs mostsV)).modify 1 (laidAs endlessV) }

section
variable {H : Type} {enc : TypeId × Value → H} {W : World} {sp : Nat → Bool} {n : Nat}
theorem trod_struct5 {P : Program} {w : World} {base : Nat} {held : Bool} {t : TypeId} {f0 f1 f2 f3 f4 : Field} {fuel : Nat} {cs : List Value} {x : DataW H × List MemPlace} (ht : P.underlying t = some (.struct #[f0, f1, f2, f3, f4])) (h : DataW.trod enc P w base sp held fuel t cs = some x) :
    ∃ y0 y1 y2 y3 y4 n, cs.length = P.cellsOf t ∧ DataW.trod enc P w base sp held n f0.type ((cs.drop f0.offset).take (P.cellsOf f0.type)) = some y0 ∧
      DataW.trod enc P w base sp held n f1.type ((cs.drop f1.offset).take (P.cellsOf f1.type)) = some y1 ∧ DataW.trod enc P w base sp held n f2.type ((cs.drop f2.offset).take (P.cellsOf f2.type)) = some y2 ∧
      DataW.trod enc P w base sp held n f3.type ((cs.drop f3.offset).take (P.cellsOf f3.type)) = some y3 ∧ DataW.trod enc P w base sp held n f4.type ((cs.drop f4.offset).take (P.cellsOf f4.type)) = some y4 := by
  obtain ⟨xs, n, _, rfl, hl, hlen, hf⟩ := DataW.trod_struct ht h
  match xs, hlen with
  | [y0, y1, y2, y3, y4], _ => exact ⟨y0, y1, y2, y3, y4, n, hl, by simpa using hf 0 f0 rfl, by simpa using hf 1 f1 rfl, by simpa using hf 2 f2 rfl, by simpa using hf 3 f3 rfl, by simpa using hf 4 f4 rfl⟩
abbrev In64r (n : Int) : Prop := -9223372036854775808 ≤ n ∧ n ≤ 9223372036854775807
theorem i64_in {n : Int} (h : (Lit.int .i64 n).wf = true) : In64r n := by
  have h' : IntKind.i64.min ≤ n ∧ n ≤ 9223372036854775807 := by simpa [Lit.wf] using h
  have e : IntKind.i64.min = -9223372036854775808 := by decide
  unfold In64r
  omega
theorem cellsKn : Tryd.prog.cellsOf 33 = 5 := by kernel_rfl
theorem array5 {α : Type} {cs : List α} (h : cs.length = 5) : ∃ c0 c1 c2 c3 c4, cs = [c0, c1, c2, c3, c4] := by
  match cs, h with
  | [c0, c1, c2, c3, c4], _ => exact ⟨c0, c1, c2, c3, c4, rfl⟩
/-- Five cells that read as knobs are five numbers. -/
theorem read_knobs {cs : List Value} {y : DataW H × List MemPlace} (h : DataW.trod enc Tryd.prog W 0 sp true n 33 cs = some y) : ∃ ka kb kc kd ke : Int, cs = [.int .i64 ka, .int .i64 kb, .int .i64 kc, .int .i64 kd, .int .i64 ke] ∧ In64r ka ∧ In64r kb ∧ In64r kc ∧ In64r kd ∧ In64r ke := by
  obtain ⟨y0, y1, y2, y3, y4, m, hl, g0, g1, g2, g3, g4⟩ := trod_struct5 Tryd.underlying33 h
  rw [cellsKn] at hl
  obtain ⟨c0, c1, c2, c3, c4, rfl⟩ := array5 hl
  have g0' : DataW.trod enc Tryd.prog W 0 sp true m 3 [c0] = some y0 := by simpa [cellsInt] using g0
  have g1' : DataW.trod enc Tryd.prog W 0 sp true m 3 [c1] = some y1 := by simpa [cellsInt] using g1
  have g2' : DataW.trod enc Tryd.prog W 0 sp true m 3 [c2] = some y2 := by simpa [cellsInt] using g2
  have g3' : DataW.trod enc Tryd.prog W 0 sp true m 3 [c3] = some y3 := by simpa [cellsInt] using g3
  have g4' : DataW.trod enc Tryd.prog W 0 sp true m 3 [c4] = some y4 := by simpa [cellsInt] using g4
  obtain ⟨ka, e0, -, w0⟩ := DataW.trod_int Tryd.underlying3 g0'
  obtain ⟨kb, e1, -, w1⟩ := DataW.trod_int Tryd.underlying3 g1'
  obtain ⟨kc, e2, -, w2⟩ := DataW.trod_int Tryd.underlying3 g2'
  obtain ⟨kd, e3, -, w3⟩ := DataW.trod_int Tryd.underlying3 g3'
  obtain ⟨ke, e4, -, w4⟩ := DataW.trod_int Tryd.underlying3 g4'
  simp at e0 e1 e2 e3 e4
  subst e0 e1 e2 e3 e4
  exact ⟨_, _, _, _, _, rfl, i64_in w0, i64_in w1, i64_in w2, i64_in w3, i64_in w4⟩
theorem cellsPr : Tryd.prog.cellsOf 48 = 2 := by kernel_rfl
theorem array2 {α : Type} {cs : List α} (h : cs.length = 2) : ∃ c0 c1, cs = [c0, c1] := by
  match cs, h with
  | [c0, c1], _ => exact ⟨c0, c1, rfl⟩
/-- Two cells that read as a pair are two numbers. -/
theorem read_two {cs : List Value} {y : DataW H × List MemPlace} (h : DataW.trod enc Tryd.prog W 0 sp true n 48 cs = some y) : ∃ a b : Int, cs = [.int .i64 a, .int .i64 b] := by
  obtain ⟨xs, m, -, -, hl0, hl, hf⟩ := DataW.trod_array Tryd.underlying48 h
  rw [cellsPr] at hl0
  obtain ⟨c0, c1, rfl⟩ := array2 hl0
  obtain ⟨y0, y1, rfl⟩ := array2 hl
  have g0 := hf 0 (by omega)
  have g1 := hf 1 (by omega)
  simp [cellsInt] at g0 g1
  obtain ⟨a, e0, -, -⟩ := DataW.trod_int Tryd.underlying3 g0
  obtain ⟨b, e1, -, -⟩ := DataW.trod_int Tryd.underlying3 g1
  simp at e0 e1
  exact ⟨a, b, by rw [e0, e1]⟩
theorem okWide_array5 {P : Program} {w : World} {r : Reach} {base : Nat} {t : TypeId} {v : Value} {n : Nat} {e : TypeId} (ht : P.underlying t = some (.array n e)) (h : Value.okWide P w r base t v) : ∃ cs, v = .agg cs ∧ cs.size = P.cellsOf t := by
  simp only [Value.okWide, ht] at h
  obtain ⟨cs, h1, h2, _⟩ := h
  exact ⟨cs, h1, h2⟩
theorem cellsCa : Tryd.prog.cellsOf 39 = 8 := by kernel_rfl
theorem array8 {α : Type} {cs : List α} (h : cs.length = 8) : ∃ c0 c1 c2 c3 c4 c5 c6 c7, cs = [c0, c1, c2, c3, c4, c5, c6, c7] := by
  match cs, h with
  | [c0, c1, c2, c3, c4, c5, c6, c7], _ => exact ⟨c0, c1, c2, c3, c4, c5, c6, c7, rfl⟩
/-- Eight cells that read as a case are one's. -/
theorem read_case {cs : List Value} {y : DataW H × List MemPlace} (h : DataW.trod enc Tryd.prog W 0 sp true n 39 cs = some y) : ∃ l ka kb kc kd ke f m : Int, cs = [.int .i64 l, .int .i64 ka, .int .i64 kb, .int .i64 kc, .int .i64 kd, .int .i64 ke, .int .i64 f, .int .i64 m] ∧ In64r ka ∧ In64r kb ∧ In64r kc ∧ In64r kd ∧ In64r ke := by
  obtain ⟨y0, y1, y2, y3, q, -, hl, g0, g1, g2, g3⟩ := trod_struct4 Tryd.underlying39 h
  rw [cellsCa] at hl
  obtain ⟨c0, c1, c2, c3, c4, c5, c6, c7, rfl⟩ := array8 hl
  have g0' : DataW.trod enc Tryd.prog W 0 sp true q 3 [c0] = some y0 := by simpa [cellsInt] using g0
  have g1' : DataW.trod enc Tryd.prog W 0 sp true q 33 [c1, c2, c3, c4, c5] = some y1 := by simpa [cellsKn] using g1
  have g2' : DataW.trod enc Tryd.prog W 0 sp true q 3 [c6] = some y2 := by simpa [cellsInt] using g2
  have g3' : DataW.trod enc Tryd.prog W 0 sp true q 3 [c7] = some y3 := by simpa [cellsInt] using g3
  obtain ⟨l, e0, -, -⟩ := DataW.trod_int Tryd.underlying3 g0'
  obtain ⟨ka, kb, kc, kd, ke, e1, b0, b1, b2, b3, b4⟩ := read_knobs g1'
  obtain ⟨f, e2, -, -⟩ := DataW.trod_int Tryd.underlying3 g2'
  obtain ⟨m, e3, -, -⟩ := DataW.trod_int Tryd.underlying3 g3'
  simp at e0 e1 e2 e3
  obtain ⟨rfl, rfl, rfl, rfl, rfl⟩ := e1
  subst e0 e2 e3
  exact ⟨l, ka, kb, kc, kd, ke, f, m, rfl, b0, b1, b2, b3, b4⟩
end

end Go.Proofs.YtaeejemknmjglaaDoor.Sp
