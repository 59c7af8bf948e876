/- The exact law of PackPut, walked. -/
import Derived.Test.YtmcjdilmmabiaaaPkSpec
import Derived.Test.YtmcjdilmmabiaaaPkImpl
namespace Go.Proofs.Ytmcjdilmmabiaaa
open Go.RowKit

set_option maxHeartbeats 400000 in
theorem impl_packPut (s : ByteArray) (w : World) (hs : s.size ≤ 1048576) :
    Calls Try.prog 8 #[.string s] w fun e w' => e = .returned (.string ⟨(if s.size ≤ 5000 then Pk.all s.data.toList else []).toArray⟩) ∧ Below w.heap.size w w' := by
  by_cases h : s.size ≤ 5000
  · rw [if_pos h]; exact callsIn_wide.1 (impl_packPut_in s w h)
  · rw [if_neg h]
    go_enter Try.func8, Try.ntmps8
    go_wp2_with fail
    go_ret
    exact ⟨rfl, Below.refl _ _⟩

end Go.Proofs.Ytmcjdilmmabiaaa
