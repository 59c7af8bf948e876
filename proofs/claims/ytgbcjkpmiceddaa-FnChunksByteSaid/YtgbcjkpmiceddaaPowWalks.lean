/- Two to the power of a number. -/
import Derived.Test.YtgbcjkpmiceddaaProg
import Derived.Test.YtgbcjkpmiceddaaBase
namespace Go.Proofs.Ytgbcjkpmiceddaa
open Go.RowKit

end Go.Proofs.Ytgbcjkpmiceddaa
