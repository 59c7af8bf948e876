/- Which comes first: the two closures, and who makes them. -/
import Derived.Test.YtcgmmpfckmhahaaProg
import Derived.Test.YtcgmmpfckmhahaaBase
namespace Go.Proofs.Ytcgmmpfckmhahaa
open Go.RowKit

set_option maxHeartbeats 400000 in
theorem order_high (i size : Int) (w : World) (h0 : 0 ≤ i) (h1 : i ≤ size) (h2 : size ≤ 1000) :
    Calls Try.prog 105 #[.int .i64 i, .int .i64 size] w fun e w' => e = .returned (.int .i64 (size - 1 - i)) ∧ w' = w := by
  go_enter Try.func105, Try.ntmps105
  go_wp2
  go_ret
  exact ⟨rfl, rfl⟩

set_option maxHeartbeats 400000 in
theorem order_low (i size : Int) (w : World) :
    Calls Try.prog 106 #[.int .i64 i, .int .i64 size] w fun e w' => e = .returned (.int .i64 i) ∧ w' = w := by
  go_enter Try.func106, Try.ntmps106
  go_wp2
  go_ret
  exact ⟨rfl, rfl⟩

set_option maxHeartbeats 400000 in
theorem orderOf_high (w : World) :
    Calls Try.prog 64 #[.bool true] w fun e w' => e = .returned (.func (.func 105) #[] #[]) ∧ w' = w := by
  go_enter Try.func64, Try.ntmps64
  go_wp2
  go_ret
  exact ⟨rfl, rfl⟩

set_option maxHeartbeats 400000 in
theorem orderOf_low (w : World) :
    Calls Try.prog 64 #[.bool false] w fun e w' => e = .returned (.func (.func 106) #[] #[]) ∧ w' = w := by
  go_enter Try.func64, Try.ntmps64
  go_wp2
  go_ret
  exact ⟨rfl, rfl⟩

end Go.Proofs.Ytcgmmpfckmhahaa
