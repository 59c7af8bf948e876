/- ImageColor of the specification, for every picture and place. -/
import Derived.Test.YtchaepkdpbiffaaColTop
namespace Go.Proofs.Ytchaepkdpbiffaa
open Go.RowKit

end Go.Proofs.Ytchaepkdpbiffaa
