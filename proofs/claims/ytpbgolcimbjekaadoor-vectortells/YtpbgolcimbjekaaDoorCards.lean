/-
  DERIVED. GIVEN WITH THE SEED: THE CARDS: each row of YtpbgolcimbjekaaDoorRows.lean that lists a variable, with what it lists TIED to the program's text (the seventh form; the later family's looks); each row that meets fmt, with fmt's text TOLD by the authors' own Lean function (tested against real Go, not proved from fmt's source: count such statements apart). THE CARD IS WHAT COUNTS. Prove the row's statement (the work); the ties are given (YtpbgolcimbjekaaDoorTie.lean); close each card by the builder's one call (the guide's Derived/Test/ToyasCard.lean, 'card_holds'). Laid BY PROGRAM, IN A SANDBOX (cutbox-door.mjs). By AI agents, Wed Nov 11 2026. No macro, syntax, notation, axiom, sorry.
-/
import Derived.Test.YtpbgolcimbjekaaDoorRows
import GoSem.ClaimSeven
namespace Go.Proofs.YtpbgolcimbjekaaDoor
namespace Rows

/-- THE TIED CARD OF 'berthinglaw04.VectorTells'. -/
def vectorTellsCard : Claim7 := { stood := { row := vectorTellsRow, standIns := [], harness := (true, "cd953cf26962fef3b1792db11b0003ab9641a367f79fb58fc46fc8587ebcdc83"), looks := false }, kinds := [], alts := [], laidByText := true, laidKinds := [.data, .data, .data, .data], laidTests := true, laidLooks := .later }
def VectorTellsCardSaid : Prop := Claim7.holds Tryd.pinned (.plain (OpenSpec.ofChange vectorTellsSpec)) vectorTellsCard

/-- THE TIED CARD OF 'berthinglaw04.VectorSums'. -/
def vectorSumsCard : Claim7 := { stood := { row := vectorSumsRow, standIns := [], harness := (true, "cd953cf26962fef3b1792db11b0003ab9641a367f79fb58fc46fc8587ebcdc83"), looks := false }, kinds := [], alts := [], laidByText := true, laidKinds := [.data, .data, .data, .data], laidTests := true, laidLooks := .later }
def VectorSumsCardSaid : Prop := Claim7.holds Tryd.pinned (.plain (OpenSpec.ofChange vectorSumsSpec)) vectorSumsCard

/-- THE TIED CARD OF 'berthinglaw04.VectorBack'. -/
def vectorBackCard : Claim7 := { stood := { row := vectorBackRow, standIns := [], harness := (true, "cd953cf26962fef3b1792db11b0003ab9641a367f79fb58fc46fc8587ebcdc83"), looks := false }, kinds := [], alts := [], laidByText := true, laidKinds := [.data, .data, .data, .data], laidTests := true, laidLooks := .later }
def VectorBackCardSaid : Prop := Claim7.holds Tryd.pinned (.plain (OpenSpec.ofChange vectorBackSpec)) vectorBackCard

/-- THE SECOND FORM's CARD OF 'berthinglaw04.VectorTells'. -/
def vectorTellsUptoCard : Claim7 := { stood := { row := vectorTellsUptoRow, standIns := [], harness := (true, "cd953cf26962fef3b1792db11b0003ab9641a367f79fb58fc46fc8587ebcdc83"), looks := false }, kinds := [], alts := [], laidByText := true, laidKinds := [.data, .data, .data, .data], laidTests := true, laidLooks := .later }
def VectorTellsUptoCardSaid : Prop := Claim7.holds Tryd.pinned (.plain (OpenSpec.upto vectorTellsSpec)) vectorTellsUptoCard

/-- THE SECOND FORM's CARD OF 'berthinglaw04.VectorSums'. -/
def vectorSumsUptoCard : Claim7 := { stood := { row := vectorSumsUptoRow, standIns := [], harness := (true, "cd953cf26962fef3b1792db11b0003ab9641a367f79fb58fc46fc8587ebcdc83"), looks := false }, kinds := [], alts := [], laidByText := true, laidKinds := [.data, .data, .data, .data], laidTests := true, laidLooks := .later }
def VectorSumsUptoCardSaid : Prop := Claim7.holds Tryd.pinned (.plain (OpenSpec.upto vectorSumsSpec)) vectorSumsUptoCard

/-- THE SECOND FORM's CARD OF 'berthinglaw04.VectorBack'. -/
def vectorBackUptoCard : Claim7 := { stood := { row := vectorBackUptoRow, standIns := [], harness := (true, "cd953cf26962fef3b1792db11b0003ab9641a367f79fb58fc46fc8587ebcdc83"), looks := false }, kinds := [], alts := [], laidByText := true, laidKinds := [.data, .data, .data, .data], laidTests := true, laidLooks := .later }
def VectorBackUptoCardSaid : Prop := Claim7.holds Tryd.pinned (.plain (OpenSpec.upto vectorBackSpec)) vectorBackUptoCard
end Rows
end Go.Proofs.YtpbgolcimbjekaaDoor
