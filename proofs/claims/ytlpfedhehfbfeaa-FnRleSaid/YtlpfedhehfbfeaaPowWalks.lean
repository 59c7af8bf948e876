/- Two to the power of a number. -/
import Derived.Test.YtlpfedhehfbfeaaProg
import Derived.Test.YtlpfedhehfbfeaaBase
namespace Go.Proofs.Ytlpfedhehfbfeaa
open Go.RowKit

end Go.Proofs.Ytlpfedhehfbfeaa
