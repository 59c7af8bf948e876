/- Two to the power of a number. -/
import Derived.Test.YticfbeihmkfifaaProg
import Derived.Test.YticfbeihmkfifaaBase
namespace Go.Proofs.Yticfbeihmkfifaa
open Go.RowKit

end Go.Proofs.Yticfbeihmkfifaa
