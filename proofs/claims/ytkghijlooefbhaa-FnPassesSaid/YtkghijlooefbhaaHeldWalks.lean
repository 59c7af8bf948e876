/- Marks found again. -/
import Derived.Test.YtkghijlooefbhaaMarkWalks
namespace Go.Proofs.Ytkghijlooefbhaa
open Go.RowKit

end Go.Proofs.Ytkghijlooefbhaa
