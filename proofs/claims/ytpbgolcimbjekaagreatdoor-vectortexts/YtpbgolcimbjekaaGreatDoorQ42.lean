/-
  From what the rows of this seat list of the two tables of suffixes to the tables' cells; and what each of the cards of this seat wants besides. Conditions: none.
-/
import Derived.Test.YtpbgolcimbjekaaGreatDoorQ11
import Derived.Test.YtpbgolcimbjekaaGreatDoorCards
import Derived.Test.YtpbgolcimbjekaaGreatDoorTie
import Derived.ProofKit
import Derived.OpenShut
import Derived.Lib.SmallJoins
import Derived.Deep.DeepHandedRow
import Derived.Lib.LaidTab
namespace Go.Proofs.YtpbgolcimbjekaaGreatDoor
open Go.ChangeShapes Go.WideShapes Go.ChangeAt Go.RowKit Go.Joins
open Go.ChangeMaps (open_string shut_string)

/-- An array of texts that reads as a list of texts holds them, one a cell. -/
theorem cells_texts {H : Type} {enc : TypeId × Value → H} {P : Program} {w : World} {base : Nat} {sp : Nat → Bool} {held : Bool} {fuel : Nat} {t e : TypeId} {n : Nat} {cs : List Value} {ss : List (List UInt8)} {p : List MemPlace}
    (ht : P.underlying t = some (.array n e)) (he : P.underlying e = some .string) (hce : P.cellsOf e = 1) (hct : P.cellsOf t = n)
    (h : DataW.trod enc P w base sp held fuel t cs = some (.agg (ss.map fun s => .lit (.string s)), p)) (i : Nat) (hi : i < n) : cs[i]? = some (.string (ba (ss.getD i []))) := by
  match fuel, h with
  | 0, h => simp [DataW.trod] at h
  | k + 1, h =>
    simp only [DataW.trod, ht, hce, hct, Nat.mul_one] at h
    split at h
    · obtain ⟨xs, hm, hx⟩ := Option.map_eq_some_iff.1 h
      obtain ⟨y, hy, hf⟩ := Lib.mapM_at hm i i (by simp [hi])
      obtain ⟨s, hc, e1, -⟩ := DataW.trod_string he hf
      have e2 : (xs.map (·.1))[i]? = some (DataW.lit (.string s.data.toList)) := by rw [List.getElem?_map, hy, e1]; rfl
      have e3 : xs.map (·.1) = ss.map fun s => (DataW.lit (.string s) : DataW H) := by
        have := congrArg Prod.fst hx
        injection this
      rw [e3, List.getElem?_map] at e2
      have e4 : ss[i]? = some s.data.toList := by
        cases q : ss[i]? with
        | none => rw [q] at e2; cases e2
        | some z =>
          rw [q] at e2
          injection e2 with e2
          injection e2 with e2
          injection e2 with e2
          rw [e2]
      have e5 : cs[i]? = some (.string s) := by
        have := congrArg (·[0]?) hc
        simpa [List.getElem?_take, List.getElem?_drop] using this
      rw [e5, List.getD, e4]
      simp [ba]
    · cases h
theorem texts_var {P : Program} {W : World} {name : String} {ss : List (List UInt8)} {rest : List (String × DataW Unit)} {ps : List MemPlace} {g : Nat} {t e : TypeId} {n : Nat}
    (hg : P.globalNamed name = some g) (hty : (P.globals[g]?).map (·.type) = some t) (ht : P.underlying t = some (.array n e)) (he : P.underlying e = some .string) (hce : P.cellsOf e = 1) (hct : P.cellsOf t = n)
    (h : DataW.LaidVars P W ((name, .agg (ss.map fun s => .lit (.string s))) :: rest) ps) : (∀ i, i < n → W.cell? ⟨g, i, none⟩ = some (.string (ba (ss.getD i [])))) ∧ ∃ q, DataW.LaidVars P W rest q := by
  obtain ⟨g', t', cs, fuel, p, q, hg', ht', hvar, hd, hr, _⟩ := h
  obtain rfl := Option.some.inj (hg.symm.trans hg')
  obtain rfl := Option.some.inj (hty.symm.trans ht')
  refine ⟨fun i hi => ?_, q, hr⟩
  rw [World.var?_cell hg hvar i]
  have := cells_texts ht he hce hct hd i hi
  simpa using this

theorem own : ownKnob Tryz.prog.godebug = none := by kernel_rfl
theorem gDec : Tryz.prog.globalNamed "berthing/amount.decimals" = some 2 := by kernel_rfl
theorem gBin : Tryz.prog.globalNamed "berthing/amount.binaries" = some 3 := by kernel_rfl
theorem gDecT : (Tryz.prog.globals[2]?).map (·.type) = some 103 := by kernel_rfl
theorem gBinT : (Tryz.prog.globals[3]?).map (·.type) = some 106 := by kernel_rfl
theorem cellsDec : Tryz.prog.cellsOf 103 = 10 := by kernel_rfl
theorem cellsBin : Tryz.prog.cellsOf 106 = 6 := by kernel_rfl
theorem cellsStr : Tryz.prog.cellsOf 9 = 1 := by kernel_rfl
theorem cellsWide : Tryz.prog.cellsOf 42 = 2 := by kernel_rfl

def laids : List (String × DataW Unit) := [("berthing/amount.decimals", Rows.laid_berthing_amount_decimals), ("berthing/amount.binaries", Rows.laid_berthing_amount_binaries)]
theorem laid_cells {W : World} (h : laidMetH Tryz.prog laids W) : LaidW W := by
  have h' : laidMet Tryz.prog laids W := h
  obtain ⟨ps, hv, -⟩ := h'
  obtain ⟨c1, q, hv2⟩ := texts_var (ss := decs) gDec gDecT Tryz.underlying103 Tryz.underlying9 cellsStr cellsDec hv
  obtain ⟨c2, -, -⟩ := texts_var (ss := bins) gBin gBinT Tryz.underlying106 Tryz.underlying9 cellsStr cellsBin hv2
  refine ⟨fun j v hj => ?_, fun j v hj => ?_, ?_⟩
  · have hl : j < 10 := by
      have := (List.getElem?_eq_some_iff.1 hj).1
      exact this
    rw [decV_at j hl] at hj
    injection hj with hj
    rw [← hj, Nat.zero_add]
    exact c1 j hl
  · have hl : j < 6 := by
      have := (List.getElem?_eq_some_iff.1 hj).1
      exact this
    rw [binV_at j hl] at hj
    injection hj with hj
    rw [← hj, Nat.zero_add]
    exact c2 j hl
  · have z1 := World.block_lt_of_cell? W _ (c1 0 (by omega))
    have z2 := World.block_lt_of_cell? W _ (c2 0 (by omega))
    exact Nat.max_lt.2 ⟨z1, z2⟩

/-- A block with these cells. -/
def laidAs (vs : List Value) : Obj → Obj
  | .cells _ t frozen => .cells vs.toArray t frozen
  | o => o
/-- A world with the two tables as they are laid. -/
def laidOver (W : World) : World :=
  { W with heap := (W.heap.modify 2 (laidAs decV)).modify 3 (laidAs binV) }

theorem u64_bd {x : Int} (h : (Lit.int .u64 x).wf = true) : 0 ≤ x ∧ x ≤ 18446744073709551615 := by simpa [Lit.wf, IntKind.min, IntKind.max, IntKind.signed, IntKind.bits] using h
theorem i64_bd {x : Int} (h : (Lit.int .i64 x).wf = true) : -9223372036854775808 ≤ x ∧ x ≤ 9223372036854775807 := by simpa [Lit.wf, IntKind.min, IntKind.max, IntKind.signed, IntKind.bits] using h
theorem wide_reads {H : Type} {enc : TypeId × Value → H} {a b : Int} (wa : (Lit.int .u64 a).wf = true) (wb : (Lit.int .u64 b).wf = true) (W' : World) (sp : Nat → Bool) :
    DataW.Trod enc Tryz.prog W' 0 sp true 42 (.agg #[.int .u64 a, .int .u64 b]) (.agg [.lit (.int .u64 a), .lit (.int .u64 b)]) [] :=
  shut_agg2 (y0 := (.lit (.int .u64 a), [])) (y1 := (.lit (.int .u64 b), [])) Tryz.underlying42 (by kernel_rfl) cellsWide ⟨1, by simp [DataW.trod, Tryz.underlying40, wa]⟩ ⟨1, by simp [DataW.trod, Tryz.underlying40, wb]⟩
theorem is_of {h l : Int} (a : 0 ≤ h ∧ h ≤ 18446744073709551615) (b : 0 ≤ l ∧ l ≤ 18446744073709551615) : Is h l (h * 18446744073709551616 + l).toNat := ⟨a.1, by omega, b.1, by omega, by omega⟩

end Go.Proofs.YtpbgolcimbjekaaGreatDoor
