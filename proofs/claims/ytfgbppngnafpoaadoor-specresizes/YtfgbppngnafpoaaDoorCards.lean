/-
  DERIVED. GIVEN WITH THE SEED: THE CARDS: each row of YtfgbppngnafpoaaDoorRows.lean that lists a variable, with what it lists TIED to the program's text (the seventh form; the later family's looks); each row that meets fmt, with fmt's text TOLD by the authors' own Lean function (tested against real Go, not proved from fmt's source: count such statements apart). THE CARD IS WHAT COUNTS. Prove the row's statement (the work); the ties are given (YtfgbppngnafpoaaDoorTie.lean); close each card by the builder's one call (the guide's Derived/Test/ToyasCard.lean, 'card_holds'). Laid BY PROGRAM, IN A SANDBOX (cutbox-door.mjs). By AI agents, Wed Nov 11 2026. No macro, syntax, notation, axiom, sorry.
-/
import Derived.Test.YtfgbppngnafpoaaDoorRows
import GoSem.ClaimSeven
namespace Go.Proofs.YtfgbppngnafpoaaDoor
namespace Rows

/-- THE TIED CARD OF 'berthinglaw05.SpecNames'. -/
def specNamesCard : Claim7 := { stood := { row := specNamesRow, standIns := [], harness := (true, "e6ebd1cf8dda08dfce4f4928dc98b2ea41de9c7dfae3d4533f90630972bfc2c2"), looks := false }, kinds := [], alts := [], laidByText := true, laidKinds := [.data, .data], laidTests := true, laidLooks := .later }
def SpecNamesCardSaid : Prop := Claim7.holds Tryd.pinned (.plain (OpenSpec.ofChange specNamesSpec)) specNamesCard

/-- THE TIED CARD OF 'berthinglaw05.SpecPods'. -/
def specPodsCard : Claim7 := { stood := { row := specPodsRow, standIns := [], harness := (true, "e6ebd1cf8dda08dfce4f4928dc98b2ea41de9c7dfae3d4533f90630972bfc2c2"), looks := false }, kinds := [], alts := [], laidByText := true, laidKinds := [.data, .data], laidTests := true, laidLooks := .later }
def SpecPodsCardSaid : Prop := Claim7.holds Tryd.pinned (.plain (OpenSpec.ofChange specPodsSpec)) specPodsCard

/-- THE TIED CARD OF 'berthinglaw05.SpecResizes'. -/
def specResizesCard : Claim7 := { stood := { row := specResizesRow, standIns := [], harness := (true, "e6ebd1cf8dda08dfce4f4928dc98b2ea41de9c7dfae3d4533f90630972bfc2c2"), looks := false }, kinds := [], alts := [], laidByText := true, laidKinds := [.data, .data], laidTests := true, laidLooks := .later }
def SpecResizesCardSaid : Prop := Claim7.holds Tryd.pinned (.plain (OpenSpec.ofChange specResizesSpec)) specResizesCard

/-- THE TIED CARD OF 'berthinglaw05.SpecKeeps'. -/
def specKeepsCard : Claim7 := { stood := { row := specKeepsRow, standIns := [], harness := (true, "e6ebd1cf8dda08dfce4f4928dc98b2ea41de9c7dfae3d4533f90630972bfc2c2"), looks := false }, kinds := [], alts := [], laidByText := true, laidKinds := [.data, .data], laidTests := true, laidLooks := .later }
def SpecKeepsCardSaid : Prop := Claim7.holds Tryd.pinned (.plain (OpenSpec.ofChange specKeepsSpec)) specKeepsCard

/-- THE TIED CARD OF 'berthinglaw05.SpecAgain'. -/
def specAgainCard : Claim7 := { stood := { row := specAgainRow, standIns := [], harness := (true, "e6ebd1cf8dda08dfce4f4928dc98b2ea41de9c7dfae3d4533f90630972bfc2c2"), looks := false }, kinds := [], alts := [], laidByText := true, laidKinds := [.data, .data], laidTests := true, laidLooks := .later }
def SpecAgainCardSaid : Prop := Claim7.holds Tryd.pinned (.plain (OpenSpec.ofChange specAgainSpec)) specAgainCard

/-- THE SECOND FORM's CARD OF 'berthinglaw05.SpecNames'. -/
def specNamesUptoCard : Claim7 := { stood := { row := specNamesUptoRow, standIns := [], harness := (true, "e6ebd1cf8dda08dfce4f4928dc98b2ea41de9c7dfae3d4533f90630972bfc2c2"), looks := false }, kinds := [], alts := [], laidByText := true, laidKinds := [.data, .data], laidTests := true, laidLooks := .later }
def SpecNamesUptoCardSaid : Prop := Claim7.holds Tryd.pinned (.plain (OpenSpec.upto specNamesSpec)) specNamesUptoCard

/-- THE SECOND FORM's CARD OF 'berthinglaw05.SpecPods'. -/
def specPodsUptoCard : Claim7 := { stood := { row := specPodsUptoRow, standIns := [], harness := (true, "e6ebd1cf8dda08dfce4f4928dc98b2ea41de9c7dfae3d4533f90630972bfc2c2"), looks := false }, kinds := [], alts := [], laidByText := true, laidKinds := [.data, .data], laidTests := true, laidLooks := .later }
def SpecPodsUptoCardSaid : Prop := Claim7.holds Tryd.pinned (.plain (OpenSpec.upto specPodsSpec)) specPodsUptoCard

/-- THE SECOND FORM's CARD OF 'berthinglaw05.SpecResizes'. -/
def specResizesUptoCard : Claim7 := { stood := { row := specResizesUptoRow, standIns := [], harness := (true, "e6ebd1cf8dda08dfce4f4928dc98b2ea41de9c7dfae3d4533f90630972bfc2c2"), looks := false }, kinds := [], alts := [], laidByText := true, laidKinds := [.data, .data], laidTests := true, laidLooks := .later }
def SpecResizesUptoCardSaid : Prop := Claim7.holds Tryd.pinned (.plain (OpenSpec.upto specResizesSpec)) specResizesUptoCard

/-- THE SECOND FORM's CARD OF 'berthinglaw05.SpecKeeps'. -/
def specKeepsUptoCard : Claim7 := { stood := { row := specKeepsUptoRow, standIns := [], harness := (true, "e6ebd1cf8dda08dfce4f4928dc98b2ea41de9c7dfae3d4533f90630972bfc2c2"), looks := false }, kinds := [], alts := [], laidByText := true, laidKinds := [.data, .data], laidTests := true, laidLooks := .later }
def SpecKeepsUptoCardSaid : Prop := Claim7.holds Tryd.pinned (.plain (OpenSpec.upto specKeepsSpec)) specKeepsUptoCard

/-- THE SECOND FORM's CARD OF 'berthinglaw05.SpecAgain'. -/
def specAgainUptoCard : Claim7 := { stood := { row := specAgainUptoRow, standIns := [], harness := (true, "e6ebd1cf8dda08dfce4f4928dc98b2ea41de9c7dfae3d4533f90630972bfc2c2"), looks := false }, kinds := [], alts := [], laidByText := true, laidKinds := [.data, .data], laidTests := true, laidLooks := .later }
def SpecAgainUptoCardSaid : Prop := Claim7.holds Tryd.pinned (.plain (OpenSpec.upto specAgainSpec)) specAgainUptoCard
end Rows
end Go.Proofs.YtfgbppngnafpoaaDoor
