/- BitsGet of the specification. -/
import Derived.Test.YtjfihmpnbblomaaBgBits
namespace Go.Proofs.Ytjfihmpnbblomaa
open Go.RowKit

/-- whether so many bits are there -/
def BitsThere (n : Nat) (at_ size : Int) : Prop := 0 ≤ size ∧ size ≤ 24 ∧ n ≤ 9000 ∧ 0 ≤ at_ ∧ at_ ≤ 8 * (n : Int) - size

end Go.Proofs.Ytjfihmpnbblomaa
