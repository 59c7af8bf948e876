/- Marks found again. -/
import Derived.Test.YtcahppmnfoopkaaMarkWalks
namespace Go.Proofs.Ytcahppmnfoopkaa
open Go.RowKit

end Go.Proofs.Ytcahppmnfoopkaa
