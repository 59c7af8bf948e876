/- Marks found again. -/
import Derived.Test.YtcgmmpfckmhahaaMarkWalks
namespace Go.Proofs.Ytcgmmpfckmhahaa
open Go.RowKit

end Go.Proofs.Ytcgmmpfckmhahaa
