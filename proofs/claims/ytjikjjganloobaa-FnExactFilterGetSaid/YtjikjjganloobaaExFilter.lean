/- The exact laws of FilterPut and FilterGet, walked. -/
import Derived.Test.YtjikjjganloobaaFlImplTop
import Derived.OpenShut
namespace Go.Proofs.Ytjikjjganloobaa
open Go.RowKit

set_option maxHeartbeats 400000 in
theorem exFilterPut (kind : Int) (s t : ByteArray) (step : Int) (_hw : (Lit.int .i64 kind).wf = true) (hs : s.size ≤ maxLen) (ht : t.size ≤ maxLen) (_hw' : (Lit.int .i64 step).wf = true) (w : World) :
    Calls Try.prog 6 #[.int .i64 kind, .string s, .string t, .int .i64 step] w fun e w' => e = .returned (.bool true) ∧ Below w.heap.size w w' := by
  by_cases hbs : 1048576 < s.size
  · unfold maxLen at hs
    go_enter Try.func6, Try.ntmps6
    go_wp2_with fail
    go_ret
    exact ⟨rfl, Below.refl _ _⟩
  · by_cases hbt : 1048576 < t.size
    · unfold maxLen at ht
      have hsm : s.size ≤ 1048576 := by omega
      go_enter Try.func6, Try.ntmps6
      go_wp2_with fail
      go_ret
      exact ⟨rfl, Below.refl _ _⟩
    · have hsm : s.size ≤ 1048576 := by omega
      have htm : t.size ≤ 1048576 := by omega
      clear hbs hbt
      go_enter Try.func6, Try.ntmps6
      go_wp2_with fail
      refine (spec_filterPut kind s t step _ hsm htm).mono ?_
      rintro e w1 ⟨rfl, b1⟩
      go_wp2_with fail
      refine (impl_filterPut kind s t step _ hsm htm).mono ?_
      rintro e w2 ⟨rfl, b2⟩
      have bel : Below w.heap.size w w2 := b1.trans (b2.mono b1.size)
      generalize flPut kind s t step = u
      clear b1 b2
      go_wp2_with fail
      go_ret
      exact ⟨rfl, bel⟩

set_option maxHeartbeats 400000 in
theorem exFilterGet (kind : Int) (s t : ByteArray) (step : Int) (_hw : (Lit.int .i64 kind).wf = true) (hs : s.size ≤ maxLen) (ht : t.size ≤ maxLen) (_hw' : (Lit.int .i64 step).wf = true) (w : World) :
    Calls Try.prog 7 #[.int .i64 kind, .string s, .string t, .int .i64 step] w fun e w' => e = .returned (.bool true) ∧ Below w.heap.size w w' := by
  by_cases hbs : 1048576 < s.size
  · unfold maxLen at hs
    go_enter Try.func7, Try.ntmps7
    go_wp2_with fail
    go_ret
    exact ⟨rfl, Below.refl _ _⟩
  · by_cases hbt : 1048576 < t.size
    · unfold maxLen at ht
      have hsm : s.size ≤ 1048576 := by omega
      go_enter Try.func7, Try.ntmps7
      go_wp2_with fail
      go_ret
      exact ⟨rfl, Below.refl _ _⟩
    · have hsm : s.size ≤ 1048576 := by omega
      have htm : t.size ≤ 1048576 := by omega
      clear hbs hbt
      go_enter Try.func7, Try.ntmps7
      go_wp2_with fail
      refine (spec_filterGet kind s t step _ hsm htm).mono ?_
      rintro e w1 ⟨rfl, b1⟩
      go_wp2_with fail
      refine (impl_filterGet kind s t step _ hsm htm).mono ?_
      rintro e w2 ⟨rfl, b2⟩
      have bel : Below w.heap.size w w2 := b1.trans (b2.mono b1.size)
      generalize flGet kind s t step = u
      clear b1 b2
      go_wp2_with fail
      go_ret
      exact ⟨rfl, bel⟩
end Go.Proofs.Ytjikjjganloobaa
