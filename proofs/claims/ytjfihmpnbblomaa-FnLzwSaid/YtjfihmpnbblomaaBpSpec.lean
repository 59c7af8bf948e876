/- Bits packed into bytes, as the specification does it. -/
import Derived.Test.YtjfihmpnbblomaaInWalks
import Derived.Test.YtjfihmpnbblomaaPowWalks
import Derived.Test.YtjfihmpnbblomaaBitRow
import Derived.Test.YtjfihmpnbblomaaBpMath
import Derived.Deep.RegionHeld3
namespace Go.Proofs.Ytjfihmpnbblomaa
open Go.RowKit

end Go.Proofs.Ytjfihmpnbblomaa
