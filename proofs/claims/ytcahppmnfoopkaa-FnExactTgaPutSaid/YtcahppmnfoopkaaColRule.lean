/- The rule of a picture's colours, and the view by it. -/
import Derived.Test.YtcahppmnfoopkaaColWalks
import Derived.Laws.EntriesVeiled
namespace Go.Proofs.Ytcahppmnfoopkaa
open Go.RowKit

end Go.Proofs.Ytcahppmnfoopkaa
