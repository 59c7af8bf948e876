/- FilterGet of the program: a row is turned back. -/
import Derived.Test.YtjikjjganloobabFlImplPut
namespace Go.Proofs.Ytjikjjganloobab
open Go.RowKit

end Go.Proofs.Ytjikjjganloobab
