/- ImageColor of the specification, for every picture and place. -/
import Derived.Test.YtjiogneidioknaaColTop
namespace Go.Proofs.Ytjiogneidioknaa
open Go.RowKit

end Go.Proofs.Ytjiogneidioknaa
