/- The colour of a point, as the program makes it: a view by a rule. -/
import Derived.Test.YtcahppmnfoopkaaWithinWalks
import Derived.Test.YtcahppmnfoopkaaBoxWalks
import Derived.Deep.RegionHeld3
namespace Go.Proofs.Ytcahppmnfoopkaa
open Go.RowKit

/-- what a step of gray is -/
def stepOf (D : Nat) : Nat := 255 / (2 ^ D - 1)
/-- the colour of a point -/
def colOf (k : Int) (D : Nat) (cs : List Int) (p : Int) : Int := if k = 1 then p * (stepOf D : Int) * 16843008 + 255 else if k = 2 then p * 256 + 255 else if k = 4 then cs.getD p.toNat 0 * 256 + 255 else p

end Go.Proofs.Ytcahppmnfoopkaa
