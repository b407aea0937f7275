/-
  DERIVED. GIVEN WITH THE SEED: THE CARDS: each row of YtcendnbeiifobaaDoorRows.lean that lists a variable, with what it lists TIED to the program's text (the seventh form; the later family's looks); each row that meets fmt, with fmt's text TOLD by the authors' own Lean function (tested against real Go, not proved from fmt's source: count such statements apart). THE CARD IS WHAT COUNTS. Prove the row's statement (the work); the ties are given (YtcendnbeiifobaaDoorTie.lean); close each card by the builder's one call (the guide's Derived/Test/ToyasCard.lean, 'card_holds'). Laid BY PROGRAM, IN A SANDBOX (cutbox-door.mjs). By AI agents, Wed Nov 11 2026. No macro, syntax, notation, axiom, sorry.
-/
import Derived.Test.YtcendnbeiifobaaDoorRows
import GoSem.ClaimSeven
namespace Go.Proofs.YtcendnbeiifobaaDoor
namespace Rows

/-- THE TIED CARD OF 'berthinglaw07.MaskTells'. -/
def maskTellsCard : Claim7 := { stood := { row := maskTellsRow, standIns := [], harness := (true, "8275a4b620cb16259cbc47290dc061a8f1589a0ef2f1640bd78b2cebbf7ed19f"), looks := false }, kinds := [], alts := [], laidByText := true, laidKinds := [.data, .data, .data], laidTests := true, laidLooks := .later }
def MaskTellsCardSaid : Prop := Claim7.holds Tryd.pinned (.plain (OpenSpec.ofChange maskTellsSpec)) maskTellsCard

/-- THE TIED CARD OF 'berthinglaw07.MaskLists'. -/
def maskListsCard : Claim7 := { stood := { row := maskListsRow, standIns := [], harness := (true, "8275a4b620cb16259cbc47290dc061a8f1589a0ef2f1640bd78b2cebbf7ed19f"), looks := false }, kinds := [], alts := [], laidByText := true, laidKinds := [.data, .data, .data], laidTests := true, laidLooks := .later }
def MaskListsCardSaid : Prop := Claim7.holds Tryd.pinned (.plain (OpenSpec.ofChange maskListsSpec)) maskListsCard

/-- THE TIED CARD OF 'berthinglaw07.MaskOnce'. -/
def maskOnceCard : Claim7 := { stood := { row := maskOnceRow, standIns := [], harness := (true, "8275a4b620cb16259cbc47290dc061a8f1589a0ef2f1640bd78b2cebbf7ed19f"), looks := false }, kinds := [], alts := [], laidByText := true, laidKinds := [.data, .data, .data], laidTests := true, laidLooks := .later }
def MaskOnceCardSaid : Prop := Claim7.holds Tryd.pinned (.plain (OpenSpec.ofChange maskOnceSpec)) maskOnceCard

/-- THE TIED CARD OF 'berthinglaw07.MaskParts'. -/
def maskPartsCard : Claim7 := { stood := { row := maskPartsRow, standIns := [], harness := (true, "8275a4b620cb16259cbc47290dc061a8f1589a0ef2f1640bd78b2cebbf7ed19f"), looks := false }, kinds := [], alts := [], laidByText := true, laidKinds := [.data, .data, .data], laidTests := true, laidLooks := .later }
def MaskPartsCardSaid : Prop := Claim7.holds Tryd.pinned (.plain (OpenSpec.ofChange maskPartsSpec)) maskPartsCard

/-- THE SECOND FORM's CARD OF 'berthinglaw07.MaskTells'. -/
def maskTellsUptoCard : Claim7 := { stood := { row := maskTellsUptoRow, standIns := [], harness := (true, "8275a4b620cb16259cbc47290dc061a8f1589a0ef2f1640bd78b2cebbf7ed19f"), looks := false }, kinds := [], alts := [], laidByText := true, laidKinds := [.data, .data, .data], laidTests := true, laidLooks := .later }
def MaskTellsUptoCardSaid : Prop := Claim7.holds Tryd.pinned (.plain (OpenSpec.upto maskTellsSpec)) maskTellsUptoCard

/-- THE SECOND FORM's CARD OF 'berthinglaw07.MaskLists'. -/
def maskListsUptoCard : Claim7 := { stood := { row := maskListsUptoRow, standIns := [], harness := (true, "8275a4b620cb16259cbc47290dc061a8f1589a0ef2f1640bd78b2cebbf7ed19f"), looks := false }, kinds := [], alts := [], laidByText := true, laidKinds := [.data, .data, .data], laidTests := true, laidLooks := .later }
def MaskListsUptoCardSaid : Prop := Claim7.holds Tryd.pinned (.plain (OpenSpec.upto maskListsSpec)) maskListsUptoCard

/-- THE SECOND FORM's CARD OF 'berthinglaw07.MaskOnce'. -/
def maskOnceUptoCard : Claim7 := { stood := { row := maskOnceUptoRow, standIns := [], harness := (true, "8275a4b620cb16259cbc47290dc061a8f1589a0ef2f1640bd78b2cebbf7ed19f"), looks := false }, kinds := [], alts := [], laidByText := true, laidKinds := [.data, .data, .data], laidTests := true, laidLooks := .later }
def MaskOnceUptoCardSaid : Prop := Claim7.holds Tryd.pinned (.plain (OpenSpec.upto maskOnceSpec)) maskOnceUptoCard

/-- THE SECOND FORM's CARD OF 'berthinglaw07.MaskParts'. -/
def maskPartsUptoCard : Claim7 := { stood := { row := maskPartsUptoRow, standIns := [], harness := (true, "8275a4b620cb16259cbc47290dc061a8f1589a0ef2f1640bd78b2cebbf7ed19f"), looks := false }, kinds := [], alts := [], laidByText := true, laidKinds := [.data, .data, .data], laidTests := true, laidLooks := .later }
def MaskPartsUptoCardSaid : Prop := Claim7.holds Tryd.pinned (.plain (OpenSpec.upto maskPartsSpec)) maskPartsUptoCard
end Rows
end Go.Proofs.YtcendnbeiifobaaDoor
