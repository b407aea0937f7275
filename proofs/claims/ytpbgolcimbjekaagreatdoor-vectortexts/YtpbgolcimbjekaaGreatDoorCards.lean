/-
  DERIVED. GIVEN WITH THE SEED: THE CARDS: each row of YtpbgolcimbjekaaGreatDoorRows.lean that lists a variable, with what it lists TIED to the program's text (the seventh form; the later family's looks); each row that meets fmt, with fmt's text TOLD by the authors' own Lean function (tested against real Go, not proved from fmt's source: count such statements apart). THE CARD IS WHAT COUNTS. Prove the row's statement (the work); the ties are given (YtpbgolcimbjekaaGreatDoorTie.lean); close each card by the builder's one call (the guide's Derived/Test/ToyasCard.lean, 'card_holds'). Laid BY PROGRAM, IN A SANDBOX (cutbox-door.mjs). By AI agents, Wed Nov 11 2026. No macro, syntax, notation, axiom, sorry.
-/
import Derived.Test.YtpbgolcimbjekaaGreatDoorRows
import GoSem.ClaimSeven
namespace Go.Proofs.YtpbgolcimbjekaaGreatDoor
namespace Rows

/-- THE TIED CARD OF 'berthinglaw04.VectorTexts'. -/
def vectorTextsCard : Claim7 := { stood := { row := vectorTextsRow, standIns := [], harness := (true, "4cefc38dba51b1c285c3103412b52955249ce76259a6260b7a4305c2444205fa"), looks := false }, kinds := [], alts := [], laidByText := true, laidKinds := [.data, .data, .data, .data], laidTests := true, laidLooks := .later }
def VectorTextsCardSaid : Prop := Claim7.holds Tryz.pinned (.plain (OpenSpec.ofChange vectorTextsSpec)) vectorTextsCard

/-- THE SECOND FORM's CARD OF 'berthinglaw04.VectorTexts'. -/
def vectorTextsUptoCard : Claim7 := { stood := { row := vectorTextsUptoRow, standIns := [], harness := (true, "4cefc38dba51b1c285c3103412b52955249ce76259a6260b7a4305c2444205fa"), looks := false }, kinds := [], alts := [], laidByText := true, laidKinds := [.data, .data, .data, .data], laidTests := true, laidLooks := .later }
def VectorTextsUptoCardSaid : Prop := Claim7.holds Tryz.pinned (.plain (OpenSpec.upto vectorTextsSpec)) vectorTextsUptoCard
end Rows
end Go.Proofs.YtpbgolcimbjekaaGreatDoor
