/- The exact law of BitsGet, walked. -/
import Derived.Test.YtpoilfbbabmpgaoBgTop
namespace Go.Proofs.Ytpoilfbbabmpgao
open Go.RowKit

set_option maxHeartbeats 400000 in
theorem exBitsGet (s : ByteArray) (a b : Int) (hi : Bool) (hs : s.size ≤ maxLen) (hw : (Lit.int .i64 a).wf = true) (_hw' : (Lit.int .i64 b).wf = true) (w : World) :
    Calls Try.prog 4 #[.string s, .int .i64 a, .int .i64 b, .bool hi] w fun e w' => e = .returned (.bool true) ∧ Below w.heap.size w w' := by
  have hab := (bounds_i64 hw).2
  by_cases hbig : 1048576 < s.size
  · unfold maxLen at hs
    go_enter Try.func4, Try.ntmps4
    go_wp2_with fail
    go_ret
    exact ⟨rfl, Below.refl _ _⟩
  · have hsm : s.size ≤ 1048576 := by omega
    by_cases ht : BitsThere s.size a b
    · obtain ⟨A, rfl⟩ := Int.eq_ofNat_of_zero_le ht.2.2.2.1
      obtain ⟨S, rfl⟩ := Int.eq_ofNat_of_zero_le ht.1
      go_enter Try.func4, Try.ntmps4
      go_wp2_with fail
      refine (spec_bitsGet_yes s A S hi _ ht).mono ?_
      rintro e w1 ⟨rfl, m, hw1⟩
      have b1 : Below w.heap.size w w1 := by rw [hw1]; exact below_drewN (Below.refl _ _) _
      clear hw1
      go_wp2_with fail
      refine (impl_bitsGet_yes s A S hi _ ht).mono ?_
      rintro e w2 ⟨rfl, bel1⟩
      go_wp2_with fail
      go_ret
      exact ⟨rfl, b1.trans (bel1.mono b1.size)⟩
    · go_enter Try.func4, Try.ntmps4
      go_wp2_with fail
      refine (spec_bitsGet_no s a b hi _ hsm ht).mono ?_
      rintro e w1 ⟨rfl, rfl⟩
      go_wp2_with fail
      refine (impl_bitsGet_no s a b hi _ hsm hab ht).mono ?_
      rintro e w2 ⟨rfl, bel⟩
      go_wp2_with fail
      go_ret
      exact ⟨rfl, bel⟩
end Go.Proofs.Ytpoilfbbabmpgao
