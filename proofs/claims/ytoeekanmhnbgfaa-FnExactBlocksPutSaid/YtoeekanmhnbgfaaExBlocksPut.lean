/- The exact law of BlocksPut, walked. -/
import Derived.Test.YtoeekanmhnbgfaaBkSpec
import Derived.Test.YtoeekanmhnbgfaaBkImpl
namespace Go.Proofs.Ytoeekanmhnbgfaa
open Go.RowKit

set_option maxHeartbeats 400000 in
theorem exBlocksPut (s : ByteArray) (hs : s.size ≤ maxLen) (w : World) :
    Calls Try.prog 5 #[.string s] w fun e w' => e = .returned (.bool true) ∧ Below w.heap.size w w' := by
  unfold maxLen at hs
  by_cases hbig : 1048576 < s.size
  · go_enter Try.func5, Try.ntmps5
    go_wp2_with fail
    go_ret
    exact ⟨rfl, Below.refl _ _⟩
  · obtain ⟨T, hT⟩ : ∃ T : ByteArray, T = ⟨(if s.size ≤ 5000 then Bk.all s.data.toList else []).toArray⟩ := ⟨_, rfl⟩
    have HS : Hid (∀ w : World, Calls Try.prog 15 #[.string s] w fun e w' => e = .returned (.string T) ∧ Below w.heap.size w w') := fun w => by rw [hT]; exact spec_blocksPut s w (by omega)
    have HI : Hid (∀ w : World, Calls Try.prog 16 #[.string s] w fun e w' => e = .returned (.string T) ∧ Below w.heap.size w w') := fun w => by rw [hT]; exact impl_blocksPut s w (by omega)
    clear hT
    go_enter Try.func5, Try.ntmps5
    go_wp2_with fail
    refine (HS.out _).mono ?_
    rintro e w1 ⟨rfl, b1⟩
    go_wp2_with fail
    refine (HI.out _).mono ?_
    rintro e w2 ⟨rfl, b2⟩
    go_wp2_with fail
    go_ret
    exact ⟨rfl, b1.trans (b2.mono b1.size)⟩
end Go.Proofs.Ytoeekanmhnbgfaa
