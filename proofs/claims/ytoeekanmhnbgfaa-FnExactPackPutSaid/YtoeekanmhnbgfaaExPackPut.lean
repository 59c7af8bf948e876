/- The exact law of PackPut, walked. -/
import Derived.Test.YtoeekanmhnbgfaaPkSpec
import Derived.Test.YtoeekanmhnbgfaaPkImpl
namespace Go.Proofs.Ytoeekanmhnbgfaa
open Go.RowKit

set_option maxHeartbeats 400000 in
theorem impl_packPut (s : ByteArray) (w : World) (hs : s.size ≤ 1048576) :
    Calls Try.prog 18 #[.string s] w fun e w' => e = .returned (.string ⟨(if s.size ≤ 5000 then Pk.all s.data.toList else []).toArray⟩) ∧ Below w.heap.size w w' := by
  by_cases h : s.size ≤ 5000
  · rw [if_pos h]; exact callsIn_wide.1 (impl_packPut_in s w h)
  · rw [if_neg h]
    go_enter Try.func18, Try.ntmps18
    go_wp2_with fail
    go_ret
    exact ⟨rfl, Below.refl _ _⟩

set_option maxHeartbeats 400000 in
theorem exPackPut (s : ByteArray) (hs : s.size ≤ maxLen) (w : World) :
    Calls Try.prog 6 #[.string s] w fun e w' => e = .returned (.bool true) ∧ Below w.heap.size w w' := by
  unfold maxLen at hs
  by_cases hbig : 1048576 < s.size
  · go_enter Try.func6, Try.ntmps6
    go_wp2_with fail
    go_ret
    exact ⟨rfl, Below.refl _ _⟩
  · obtain ⟨T, hT⟩ : ∃ T : ByteArray, T = ⟨(if s.size ≤ 5000 then Pk.all s.data.toList else []).toArray⟩ := ⟨_, rfl⟩
    have HS : Hid (∀ w : World, Calls Try.prog 17 #[.string s] w fun e w' => e = .returned (.string T) ∧ Below w.heap.size w w') := fun w => by rw [hT]; exact spec_packPut s w (by omega)
    have HI : Hid (∀ w : World, Calls Try.prog 18 #[.string s] w fun e w' => e = .returned (.string T) ∧ Below w.heap.size w w') := fun w => by rw [hT]; exact impl_packPut s w (by omega)
    clear hT
    go_enter Try.func6, Try.ntmps6
    go_wp2_with fail
    refine (HS.out _).mono ?_
    rintro e w1 ⟨rfl, b1⟩
    go_wp2_with fail
    refine (HI.out _).mono ?_
    rintro e w2 ⟨rfl, b2⟩
    go_wp2_with fail
    go_ret
    exact ⟨rfl, b1.trans (b2.mono b1.size)⟩
end Go.Proofs.Ytoeekanmhnbgfaa
