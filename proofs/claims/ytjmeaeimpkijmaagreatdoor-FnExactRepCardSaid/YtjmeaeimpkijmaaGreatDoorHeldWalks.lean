/- Marks found again. -/
import Derived.Test.YtjmeaeimpkijmaaGreatDoorMarkWalks
namespace Go.Proofs.YtjmeaeimpkijmaaGreatDoor
open Go.RowKit

end Go.Proofs.YtjmeaeimpkijmaaGreatDoor
