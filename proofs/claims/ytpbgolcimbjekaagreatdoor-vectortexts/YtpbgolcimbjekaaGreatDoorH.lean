/-
  Contracts of package wide's withDigit and Parse at this program. Conditions: all words lie below 2^64; a byte is from 0 to 255.
-/
import Derived.Test.YtpbgolcimbjekaaGreatDoorG
import Derived.Deep.RegionWith
namespace Go.Proofs.YtpbgolcimbjekaaGreatDoor
open Go.RowKit

theorem dig_wrap (c : Int) (c0 : 48 ≤ c) (c1 : c ≤ 57) : IntKind.u64.wrap (IntKind.u8.wrap (c - 48)) = c - 48 := by
  simp only [IntKind.wrap_u64, IntKind.wrap_u8]; omega

end Go.Proofs.YtpbgolcimbjekaaGreatDoor
