/- The exact law of NumGet, walked. -/
import Derived.Test.YtpoilfbbabmpgapNmWalks
import Derived.OpenShut
namespace Go.Proofs.Ytpoilfbbabmpgap
open Go.RowKit

set_option maxHeartbeats 400000 in
theorem exNumGet (s : ByteArray) (a b : Int) (hi : Bool) (hs : s.size ≤ maxLen) (_hw : (Lit.int .i64 a).wf = true) (_hw' : (Lit.int .i64 b).wf = true) (w : World) :
    Calls Try.prog 3 #[.string s, .int .i64 a, .int .i64 b, .bool hi] w fun e w' => e = .returned (.bool true) ∧ Below w.heap.size w w' := by
  by_cases hbig : 1048576 < s.size
  · unfold maxLen at hs
    go_enter Try.func3, Try.ntmps3
    go_wp2_with fail
    go_ret
    exact ⟨rfl, Below.refl _ _⟩
  · have hsm : s.size ≤ 1048576 := by omega
    by_cases ht : NumThere s.size a b
    · go_enter Try.func3, Try.ntmps3
      go_wp2_with fail
      refine (spec_numGet_yes s a b hi _ ht).mono ?_
      rintro e w1 ⟨rfl, rfl⟩
      go_wp2_with fail
      refine (impl_numGet_yes s a b hi _ ht).mono ?_
      rintro e w1 ⟨rfl, bel1⟩
      go_wp2_with fail
      go_ret
      exact ⟨rfl, bel1⟩
    · go_enter Try.func3, Try.ntmps3
      go_wp2_with fail
      refine (spec_numGet_no s a b hi _ hsm ht).mono ?_
      rintro e w1 ⟨rfl, rfl⟩
      go_wp2_with fail
      refine (impl_numGet_no s a b hi _ hsm ht).mono ?_
      rintro e w1 ⟨rfl, rfl⟩
      go_wp2_with fail
      go_ret
      exact ⟨rfl, Below.refl _ _⟩
end Go.Proofs.Ytpoilfbbabmpgap
