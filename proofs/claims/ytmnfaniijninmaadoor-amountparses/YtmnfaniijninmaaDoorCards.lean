/-
  DERIVED. GIVEN WITH THE SEED: THE CARDS: each row of YtmnfaniijninmaaDoorRows.lean that lists a variable, with what it lists TIED to the program's text (the seventh form; the later family's looks); each row that meets fmt, with fmt's text TOLD by the authors' own Lean function (tested against real Go, not proved from fmt's source: count such statements apart). THE CARD IS WHAT COUNTS. Prove the row's statement (the work); the ties are given (YtmnfaniijninmaaDoorTie.lean); close each card by the builder's one call (the guide's Derived/Test/ToyasCard.lean, 'card_holds'). Laid BY PROGRAM, IN A SANDBOX (cutbox-door.mjs). By AI agents, Wed Nov 11 2026. No macro, syntax, notation, axiom, sorry.
-/
import Derived.Test.YtmnfaniijninmaaDoorRows
import GoSem.ClaimSeven
namespace Go.Proofs.YtmnfaniijninmaaDoor
namespace Rows

/-- THE TIED CARD OF 'berthinglaw02.AmountParses'. -/
def amountParsesCard : Claim7 := { stood := { row := amountParsesRow, standIns := [], harness := (true, "b1907d60715945ade17fb73c1cff61a5fd072a5f304c88fb913295692213efa2"), looks := false }, kinds := [], alts := [], laidByText := true, laidKinds := [.data, .data], laidTests := true, laidLooks := .later }
def AmountParsesCardSaid : Prop := Claim7.holds Tryd.pinned (.plain (OpenSpec.ofChange amountParsesSpec)) amountParsesCard

/-- THE TIED CARD OF 'berthinglaw02.AmountTells'. -/
def amountTellsCard : Claim7 := { stood := { row := amountTellsRow, standIns := [], harness := (true, "b1907d60715945ade17fb73c1cff61a5fd072a5f304c88fb913295692213efa2"), looks := false }, kinds := [], alts := [], laidByText := true, laidKinds := [.data, .data], laidTests := true, laidLooks := .later }
def AmountTellsCardSaid : Prop := Claim7.holds Tryd.pinned (.plain (OpenSpec.ofChange amountTellsSpec)) amountTellsCard

/-- THE TIED CARD OF 'berthinglaw02.AmountBack'. -/
def amountBackCard : Claim7 := { stood := { row := amountBackRow, standIns := [], harness := (true, "b1907d60715945ade17fb73c1cff61a5fd072a5f304c88fb913295692213efa2"), looks := false }, kinds := [], alts := [], laidByText := true, laidKinds := [.data, .data], laidTests := true, laidLooks := .later }
def AmountBackCardSaid : Prop := Claim7.holds Tryd.pinned (.plain (OpenSpec.ofChange amountBackSpec)) amountBackCard

/-- THE TIED CARD OF 'berthinglaw02.AmountOrders'. -/
def amountOrdersCard : Claim7 := { stood := { row := amountOrdersRow, standIns := [], harness := (true, "b1907d60715945ade17fb73c1cff61a5fd072a5f304c88fb913295692213efa2"), looks := false }, kinds := [], alts := [], laidByText := true, laidKinds := [.data, .data], laidTests := true, laidLooks := .later }
def AmountOrdersCardSaid : Prop := Claim7.holds Tryd.pinned (.plain (OpenSpec.ofChange amountOrdersSpec)) amountOrdersCard

/-- THE SECOND FORM's CARD OF 'berthinglaw02.AmountParses'. -/
def amountParsesUptoCard : Claim7 := { stood := { row := amountParsesUptoRow, standIns := [], harness := (true, "b1907d60715945ade17fb73c1cff61a5fd072a5f304c88fb913295692213efa2"), looks := false }, kinds := [], alts := [], laidByText := true, laidKinds := [.data, .data], laidTests := true, laidLooks := .later }
def AmountParsesUptoCardSaid : Prop := Claim7.holds Tryd.pinned (.plain (OpenSpec.upto amountParsesSpec)) amountParsesUptoCard

/-- THE SECOND FORM's CARD OF 'berthinglaw02.AmountTells'. -/
def amountTellsUptoCard : Claim7 := { stood := { row := amountTellsUptoRow, standIns := [], harness := (true, "b1907d60715945ade17fb73c1cff61a5fd072a5f304c88fb913295692213efa2"), looks := false }, kinds := [], alts := [], laidByText := true, laidKinds := [.data, .data], laidTests := true, laidLooks := .later }
def AmountTellsUptoCardSaid : Prop := Claim7.holds Tryd.pinned (.plain (OpenSpec.upto amountTellsSpec)) amountTellsUptoCard

/-- THE SECOND FORM's CARD OF 'berthinglaw02.AmountBack'. -/
def amountBackUptoCard : Claim7 := { stood := { row := amountBackUptoRow, standIns := [], harness := (true, "b1907d60715945ade17fb73c1cff61a5fd072a5f304c88fb913295692213efa2"), looks := false }, kinds := [], alts := [], laidByText := true, laidKinds := [.data, .data], laidTests := true, laidLooks := .later }
def AmountBackUptoCardSaid : Prop := Claim7.holds Tryd.pinned (.plain (OpenSpec.upto amountBackSpec)) amountBackUptoCard

/-- THE SECOND FORM's CARD OF 'berthinglaw02.AmountOrders'. -/
def amountOrdersUptoCard : Claim7 := { stood := { row := amountOrdersUptoRow, standIns := [], harness := (true, "b1907d60715945ade17fb73c1cff61a5fd072a5f304c88fb913295692213efa2"), looks := false }, kinds := [], alts := [], laidByText := true, laidKinds := [.data, .data], laidTests := true, laidLooks := .later }
def AmountOrdersUptoCardSaid : Prop := Claim7.holds Tryd.pinned (.plain (OpenSpec.upto amountOrdersSpec)) amountOrdersUptoCard
end Rows
end Go.Proofs.YtmnfaniijninmaaDoor
