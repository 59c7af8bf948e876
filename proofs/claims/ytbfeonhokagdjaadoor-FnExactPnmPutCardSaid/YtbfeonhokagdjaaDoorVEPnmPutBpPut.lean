/- Bits that are ok, packed by the specification: l1Put. -/
import Derived.Deep.RegionHeld3
import Derived.Test.YtbfeonhokagdjaaDoorKEPnmPutx0
namespace Go.Proofs.YtbfeonhokagdjaaDoor
open Go.RowKit

theorem wrap_u8_nat (a : Nat) (ha : a < 256) : IntKind.u8.wrap (a : Int) = (a : Int) := by
  simp [IntKind.wrap, IntKind.bits, IntKind.signed]; omega

end Go.Proofs.YtbfeonhokagdjaaDoor
