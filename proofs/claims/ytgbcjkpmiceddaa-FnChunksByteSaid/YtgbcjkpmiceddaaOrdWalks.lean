/- Which comes first: the two closures, and who makes them. -/
import Derived.Test.YtgbcjkpmiceddaaProg
import Derived.Test.YtgbcjkpmiceddaaBase
namespace Go.Proofs.Ytgbcjkpmiceddaa
open Go.RowKit

set_option maxHeartbeats 400000 in
theorem order_high (i size : Int) (w : World) (h0 : 0 ≤ i) (h1 : i ≤ size) (h2 : size ≤ 1000) :
    Calls Try.prog 44 #[.int .i64 i, .int .i64 size] w fun e w' => e = .returned (.int .i64 (size - 1 - i)) ∧ w' = w := by
  go_enter Try.func44, Try.ntmps44
  go_wp2
  go_ret
  exact ⟨rfl, rfl⟩

set_option maxHeartbeats 400000 in
theorem order_low (i size : Int) (w : World) :
    Calls Try.prog 45 #[.int .i64 i, .int .i64 size] w fun e w' => e = .returned (.int .i64 i) ∧ w' = w := by
  go_enter Try.func45, Try.ntmps45
  go_wp2
  go_ret
  exact ⟨rfl, rfl⟩

set_option maxHeartbeats 400000 in
theorem orderOf_high (w : World) :
    Calls Try.prog 37 #[.bool true] w fun e w' => e = .returned (.func (.func 44) #[] #[]) ∧ w' = w := by
  go_enter Try.func37, Try.ntmps37
  go_wp2
  go_ret
  exact ⟨rfl, rfl⟩

set_option maxHeartbeats 400000 in
theorem orderOf_low (w : World) :
    Calls Try.prog 37 #[.bool false] w fun e w' => e = .returned (.func (.func 45) #[] #[]) ∧ w' = w := by
  go_enter Try.func37, Try.ntmps37
  go_wp2
  go_ret
  exact ⟨rfl, rfl⟩

end Go.Proofs.Ytgbcjkpmiceddaa
