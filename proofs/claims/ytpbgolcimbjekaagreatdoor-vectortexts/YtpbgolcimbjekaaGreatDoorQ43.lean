/-
  From what the rows of this seat list of the four tables to the tables' cells; and what each of the cards of this seat wants besides. Conditions: none.
-/
import Derived.Test.YtpbgolcimbjekaaGreatDoorQ42
import Derived.Test.YtpbgolcimbjekaaGreatDoorQ17
namespace Go.Proofs.YtpbgolcimbjekaaGreatDoor
open Go.ChangeShapes Go.WideShapes Go.ChangeAt Go.RowKit Go.Joins
open Go.ChangeMaps (open_string shut_string)

/-- An array of numbers that reads as a list of numbers holds them, one a cell. -/
theorem cells_ints {H : Type} {enc : TypeId × Value → H} {P : Program} {w : World} {base : Nat} {sp : Nat → Bool} {held : Bool} {fuel : Nat} {t e : TypeId} {n : Nat} {k : IntKind} {cs : List Value} {ss : List Int} {p : List MemPlace}
    (ht : P.underlying t = some (.array n e)) (he : P.underlying e = some (.int k)) (hce : P.cellsOf e = 1) (hct : P.cellsOf t = n)
    (h : DataW.trod enc P w base sp held fuel t cs = some (.agg (ss.map fun s => .lit (.int k s)), p)) (i : Nat) (hi : i < n) : cs[i]? = some (.int k (ss.getD i 0)) := by
  match fuel, h with
  | 0, h => simp [DataW.trod] at h
  | f + 1, h =>
    simp only [DataW.trod, ht, hce, hct, Nat.mul_one] at h
    split at h
    · obtain ⟨xs, hm, hx⟩ := Option.map_eq_some_iff.1 h
      obtain ⟨y, hy, hf⟩ := Lib.mapM_at hm i i (by simp [hi])
      obtain ⟨s, hc, e1, -⟩ := DataW.trod_int he hf
      have e2 : (xs.map (·.1))[i]? = some (DataW.lit (.int k s)) := by rw [List.getElem?_map, hy, e1]; rfl
      have e3 : xs.map (·.1) = ss.map fun s => (DataW.lit (.int k s) : DataW H) := by
        have := congrArg Prod.fst hx
        injection this
      rw [e3, List.getElem?_map] at e2
      have e4 : ss[i]? = some s := by
        cases q : ss[i]? with
        | none => rw [q] at e2; cases e2
        | some z =>
          rw [q] at e2
          injection e2 with e2
          injection e2 with e2
          injection e2 with _ e2
          rw [e2]
      have e5 : cs[i]? = some (.int k s) := by
        have := congrArg (·[0]?) hc
        simpa [List.getElem?_take, List.getElem?_drop] using this
      rw [e5, List.getD, e4]
      rfl
    · cases h
theorem ints_var {P : Program} {W : World} {name : String} {ss : List Int} {k : IntKind} {rest : List (String × DataW Unit)} {ps : List MemPlace} {g : Nat} {t e : TypeId} {n : Nat}
    (hg : P.globalNamed name = some g) (hty : (P.globals[g]?).map (·.type) = some t) (ht : P.underlying t = some (.array n e)) (he : P.underlying e = some (.int k)) (hce : P.cellsOf e = 1) (hct : P.cellsOf t = n)
    (h : DataW.LaidVars P W ((name, .agg (ss.map fun s => .lit (.int k s))) :: rest) ps) : (∀ i, i < n → W.cell? ⟨g, i, none⟩ = some (.int k (ss.getD i 0))) ∧ ∃ q, DataW.LaidVars P W rest q := by
  obtain ⟨g', t', cs, fuel, p, q, hg', ht', hvar, hd, hr, _⟩ := h
  obtain rfl := Option.some.inj (hg.symm.trans hg')
  obtain rfl := Option.some.inj (hty.symm.trans ht')
  refine ⟨fun i hi => ?_, q, hr⟩
  rw [World.var?_cell hg hvar i]
  have := cells_ints ht he hce hct hd i hi
  simpa using this

theorem gNam : Tryz.prog.globalNamed "berthing/vector.names" = some 0 := by kernel_rfl
theorem gBou : Tryz.prog.globalNamed "berthing/vector.bounds" = some 1 := by kernel_rfl
theorem gNamT : (Tryz.prog.globals[0]?).map (·.type) = some 56 := by kernel_rfl
theorem gBouT : (Tryz.prog.globals[1]?).map (·.type) = some 60 := by kernel_rfl
theorem cellsNam : Tryz.prog.cellsOf 56 = 3 := by kernel_rfl
theorem cellsBou : Tryz.prog.cellsOf 60 = 3 := by kernel_rfl
theorem cellsInt : Tryz.prog.cellsOf 3 = 1 := by kernel_rfl
theorem cellsVec : Tryz.prog.cellsOf 23 = 3 := by kernel_rfl
def namL : List (List UInt8) := [[99, 112, 117], [109, 101, 109, 111, 114, 121], [104, 117, 103, 101, 112, 97, 103, 101, 115]]
def bouL : List Int := [1099511627776, 1125899906842624, 1125899906842624]

def laids4 : List (String × DataW Unit) := [("berthing/amount.decimals", Rows.laid_berthing_amount_decimals), ("berthing/amount.binaries", Rows.laid_berthing_amount_binaries), ("berthing/vector.names", Rows.laid_berthing_vector_names), ("berthing/vector.bounds", Rows.laid_berthing_vector_bounds)]
theorem laid_cells4 {W : World} (h : laidMetH Tryz.prog laids4 W) : LaidV W := by
  have h' : laidMet Tryz.prog laids4 W := h
  obtain ⟨ps, hv, -⟩ := h'
  obtain ⟨c1, q, hv2⟩ := texts_var (ss := decs) gDec gDecT Tryz.underlying103 Tryz.underlying9 cellsStr cellsDec hv
  obtain ⟨c2, q2, hv3⟩ := texts_var (ss := bins) gBin gBinT Tryz.underlying106 Tryz.underlying9 cellsStr cellsBin hv2
  obtain ⟨c3, q3, hv4⟩ := texts_var (ss := namL) gNam gNamT Tryz.underlying56 Tryz.underlying9 cellsStr cellsNam hv3
  obtain ⟨c4, -, -⟩ := ints_var (ss := bouL) gBou gBouT Tryz.underlying60 Tryz.underlying3 cellsInt cellsBou hv4
  refine ⟨⟨fun j v hj => ?_, fun j v hj => ?_, ?_⟩, fun j v hj => ?_, fun j v hj => ?_, ?_⟩
  · have hl : j < 10 := (List.getElem?_eq_some_iff.1 hj).1
    rw [decV_at j hl] at hj
    injection hj with hj
    rw [← hj, Nat.zero_add]
    exact c1 j hl
  · have hl : j < 6 := (List.getElem?_eq_some_iff.1 hj).1
    rw [binV_at j hl] at hj
    injection hj with hj
    rw [← hj, Nat.zero_add]
    exact c2 j hl
  · have z1 := World.block_lt_of_cell? W _ (c1 0 (by omega))
    have z2 := World.block_lt_of_cell? W _ (c2 0 (by omega))
    exact Nat.max_lt.2 ⟨z1, z2⟩
  · have hl : j < 3 := (List.getElem?_eq_some_iff.1 hj).1
    have := c3 j hl
    rw [Nat.zero_add, this]
    match j, hl, hj with
    | 0, _, hj => exact hj
    | 1, _, hj => exact hj
    | 2, _, hj => exact hj
  · have hl : j < 3 := (List.getElem?_eq_some_iff.1 hj).1
    have := c4 j hl
    rw [Nat.zero_add, this]
    match j, hl, hj with
    | 0, _, hj => exact hj
    | 1, _, hj => exact hj
    | 2, _, hj => exact hj
  · have z1 := World.block_lt_of_cell? W _ (c3 0 (by omega))
    have z2 := World.block_lt_of_cell? W _ (c4 0 (by omega))
    exact Nat.max_lt.2 ⟨z1, z2⟩

/-- A world with the four tables as they are laid. -/
def laidOver4 (W : World) : World :=
  { W with heap := (((W.heap.modify 2 (laidAs decV)).modify 3 (laidAs binV)).modify 0 (laidAs nameV)).modify 1 (laidAs boundV) }

theorem vec_reads {H : Type} {enc : TypeId × Value → H} {a b c : Int} (wa : (Lit.int .i64 a).wf = true) (wb : (Lit.int .i64 b).wf = true) (wc : (Lit.int .i64 c).wf = true) (W' : World) (sp : Nat → Bool) :
    DataW.Trod enc Tryz.prog W' 0 sp true 23 (.agg #[.int .i64 a, .int .i64 b, .int .i64 c]) (.agg [.lit (.int .i64 a), .lit (.int .i64 b), .lit (.int .i64 c)]) [] :=
  shut_agg3 (y0 := (.lit (.int .i64 a), [])) (y1 := (.lit (.int .i64 b), [])) (y2 := (.lit (.int .i64 c), [])) Tryz.underlying23 (by kernel_rfl) cellsVec ⟨1, by simp [DataW.trod, Tryz.underlying3, wa]⟩ ⟨1, by simp [DataW.trod, Tryz.underlying3, wb]⟩ ⟨1, by simp [DataW.trod, Tryz.underlying3, wc]⟩

end Go.Proofs.YtpbgolcimbjekaaGreatDoor
