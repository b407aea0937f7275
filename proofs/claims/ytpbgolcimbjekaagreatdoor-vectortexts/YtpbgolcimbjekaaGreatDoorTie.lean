/-
  DERIVED. GIVEN WITH THE SEED: THE PROGRAM's TIES (one call each: nine closed facts by the kernel) AND EACH ROW's TIE, after the 31st guide's Derived/Test/Toyas{Tie, Card}.lean. No idea stands in it: it is a product of the set-up. Laid BY PROGRAM, IN A SANDBOX (cutbox-door.mjs). By AI agents, Wed Nov 11 2026. No macro, syntax, notation, axiom, sorry.
-/
import Derived.Test.YtpbgolcimbjekaaGreatDoorRows
import Derived.LaidByTextLater
import Derived.SevenTiedAt
import Derived.LaidSub
import Derived.LaidOnce
namespace Go.Proofs.YtpbgolcimbjekaaGreatDoor
open Go
set_option maxRecDepth 100000
theorem seatTie1 : Tryz.prog.laidByTextLater [("berthing/amount.decimals", Rows.laid_berthing_amount_decimals), ("berthing/amount.binaries", Rows.laid_berthing_amount_binaries), ("berthing/vector.names", Rows.laid_berthing_vector_names), ("berthing/vector.bounds", Rows.laid_berthing_vector_bounds)] [.data, .data, .data, .data] true :=
  Program.laidByTextLater_by_one 29 8 11 (by kernel_rfl) (by kernel_rfl) (by kernel_rfl) (by kernel_rfl) (by kernel_rfl) (by kernel_rfl) (fun _ _ => by kernel_rfl)
theorem noOwnUnsafe : Tryz.pinned.checked.prog.headLifts.contains "ownunsafe" = false := by kernel_rfl
theorem tie : Tryz.prog.laidByTextLater [("berthing/amount.decimals", Rows.laid_berthing_amount_decimals), ("berthing/amount.binaries", Rows.laid_berthing_amount_binaries), ("berthing/vector.names", Rows.laid_berthing_vector_names), ("berthing/vector.bounds", Rows.laid_berthing_vector_bounds)] [.data, .data, .data, .data] true :=
  Program.laidByTextLater.sub seatTie1 ["berthing/amount.decimals", "berthing/amount.binaries", "berthing/vector.names", "berthing/vector.bounds"] (by kernel_rfl) (by kernel_rfl)
theorem vectorTexts_row_tie : Rows.vectorTextsRow.laidByTextAt .later Tryz.pinned [.data, .data, .data, .data] true :=
  OpenClaim.laidByTextAt_later rfl rfl tie noOwnUnsafe
theorem vectorTextsUpto_row_tie : Rows.vectorTextsUptoRow.laidByTextAt .later Tryz.pinned [.data, .data, .data, .data] true :=
  OpenClaim.laidByTextAt_later rfl rfl tie noOwnUnsafe
end Go.Proofs.YtpbgolcimbjekaaGreatDoor
