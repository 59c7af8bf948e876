/- The exact laws of the four sums, walked: the law's call returns true and turns nothing that was there. -/
import Derived.Test.YtpoilfbbabmpgapCrWalks
import Derived.OpenShut
namespace Go.Proofs.Ytpoilfbbabmpgap
open Go.RowKit

set_option maxHeartbeats 400000 in
theorem exAdlerMore (a : Int) (s : ByteArray) (hw : (Lit.int .i64 a).wf = true) (hs : s.size ≤ maxLen) (w : World) :
    Calls Try.prog 7 #[.int .i64 a, .string s] w fun e w' => e = .returned (.bool true) ∧ Below w.heap.size w w' := by
  have hb := bounds_i64 hw
  have hl : -9223372036854775807 ≤ a + 1 := by omega
  have hh : a ≤ 9223372036854775807 := by omega
  clear hb
  by_cases hbig : 1048576 < s.size
  · unfold maxLen at hs
    go_enter Try.func7, Try.ntmps7
    go_wp2_with fail
    go_ret
    exact ⟨rfl, Below.refl _ _⟩
  · have hsm : s.size ≤ 1048576 := by omega
    go_enter Try.func7, Try.ntmps7
    go_wp2_with fail
    refine (spec_adler a s _ hs hl hh).mono ?_
    rintro e w1 ⟨rfl, rfl⟩
    go_wp2_with fail
    refine (impl_adler a s _ hs hl hh).mono ?_
    rintro e w1 ⟨rfl, bel1⟩
    go_wp2_with fail
    go_ret
    exact ⟨rfl, bel1⟩

set_option maxHeartbeats 400000 in
theorem exAdler32 (s : ByteArray) (hs : s.size ≤ maxLen) (w : World) :
    Calls Try.prog 6 #[.string s] w fun e w' => e = .returned (.bool true) ∧ Below w.heap.size w w' := by
  by_cases hbig : 1048576 < s.size
  · unfold maxLen at hs
    go_enter Try.func6, Try.ntmps6
    go_wp2_with fail
    go_ret
    exact ⟨rfl, Below.refl _ _⟩
  · have hsm : s.size ≤ 1048576 := by omega
    go_enter Try.func6, Try.ntmps6
    go_wp2_with fail
    refine (spec_adler32 s _ hs).mono ?_
    rintro e w1 ⟨rfl, rfl⟩
    go_wp2_with fail
    refine (impl_adler32 s _ hs).mono ?_
    rintro e w1 ⟨rfl, bel1⟩
    go_wp2_with fail
    go_ret
    exact ⟨rfl, bel1⟩

set_option maxHeartbeats 400000 in
theorem exCrcMore (a : Int) (s : ByteArray) (_hw : (Lit.int .i64 a).wf = true) (hs : s.size ≤ maxLen) (w : World) :
    Calls Try.prog 5 #[.int .i64 a, .string s] w fun e w' => e = .returned (.bool true) ∧ Below w.heap.size w w' := by
  by_cases hbig : 1048576 < s.size
  · unfold maxLen at hs
    go_enter Try.func5, Try.ntmps5
    go_wp2_with fail
    go_ret
    exact ⟨rfl, Below.refl _ _⟩
  · have hsm : s.size ≤ 1048576 := by omega
    go_enter Try.func5, Try.ntmps5
    go_wp2_with fail
    refine (spec_crc a s _ hs).mono ?_
    rintro e w1 ⟨rfl, rfl⟩
    go_wp2_with fail
    refine (impl_crc a s _ hs).mono ?_
    rintro e w1 ⟨rfl, bel1⟩
    go_wp2_with fail
    go_ret
    exact ⟨rfl, bel1⟩

set_option maxHeartbeats 400000 in
theorem exCrc32 (s : ByteArray) (hs : s.size ≤ maxLen) (w : World) :
    Calls Try.prog 4 #[.string s] w fun e w' => e = .returned (.bool true) ∧ Below w.heap.size w w' := by
  by_cases hbig : 1048576 < s.size
  · unfold maxLen at hs
    go_enter Try.func4, Try.ntmps4
    go_wp2_with fail
    go_ret
    exact ⟨rfl, Below.refl _ _⟩
  · have hsm : s.size ≤ 1048576 := by omega
    go_enter Try.func4, Try.ntmps4
    go_wp2_with fail
    refine (spec_crc32 s _ hs).mono ?_
    rintro e w1 ⟨rfl, rfl⟩
    go_wp2_with fail
    refine (impl_crc32 s _ hs).mono ?_
    rintro e w1 ⟨rfl, bel1⟩
    go_wp2_with fail
    go_ret
    exact ⟨rfl, bel1⟩
end Go.Proofs.Ytpoilfbbabmpgap
