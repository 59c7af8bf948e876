/- Which comes first: the two closures, and who makes them. -/
import Derived.Test.YtlpfedhehfbfeaaProg
import Derived.Test.YtlpfedhehfbfeaaBase
namespace Go.Proofs.Ytlpfedhehfbfeaa
open Go.RowKit

end Go.Proofs.Ytlpfedhehfbfeaa
