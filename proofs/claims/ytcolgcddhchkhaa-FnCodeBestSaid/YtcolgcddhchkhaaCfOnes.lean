/- Three hundred that come once each: how deep it goes (reckoned). -/
import Derived.Test.YtcolgcddhchkhaaCfMath
namespace Go.Proofs.Ytcolgcddhchkhaa
namespace Cf
/-- three hundred that come once each -/
theorem fin_ones : fin (List.replicate 300 (1, 0)) ≤ 15 := by decide +kernel
end Cf
end Go.Proofs.Ytcolgcddhchkhaa
