/- The exact law of NumPut, walked. -/
import Derived.Test.YtpoilfbbabmpgaoPutWalks
namespace Go.Proofs.Ytpoilfbbabmpgao
open Go.RowKit

set_option maxHeartbeats 400000 in
theorem exNumPut (a b : Int) (hi : Bool) (_hw : (Lit.int .i64 a).wf = true) (_hw' : (Lit.int .i64 b).wf = true) (w : World) :
    Calls Try.prog 5 #[.int .i64 a, .int .i64 b, .bool hi] w fun e w' => e = .returned (.bool true) ∧ Below w.heap.size w w' := by
  by_cases ht : NumFits a b
  · obtain ⟨N, rfl⟩ := Int.eq_ofNat_of_zero_le (show 0 ≤ a from ht.2.2.1)
    obtain ⟨S, rfl⟩ := Int.eq_ofNat_of_zero_le (show 0 ≤ b by have := ht.1; omega)
    go_enter Try.func5, Try.ntmps5
    go_wp2_with fail
    refine (spec_numPut_yes N S hi _ ht).mono ?_
    rintro e w1 ⟨rfl, bel1⟩
    go_wp2_with fail
    refine (impl_numPut_yes N S hi _ ht).mono ?_
    rintro e w2 ⟨rfl, bel2⟩
    go_wp2_with fail
    go_ret
    exact ⟨rfl, bel1.trans (bel2.mono bel1.size)⟩
  · go_enter Try.func5, Try.ntmps5
    go_wp2_with fail
    refine (spec_numPut_no a b hi _ ht).mono ?_
    rintro e w1 ⟨rfl, rfl⟩
    go_wp2_with fail
    refine (impl_numPut_no a b hi _ ht).mono ?_
    rintro e w1 ⟨rfl, rfl⟩
    go_wp2_with fail
    go_ret
    exact ⟨rfl, Below.refl _ _⟩
end Go.Proofs.Ytpoilfbbabmpgao
