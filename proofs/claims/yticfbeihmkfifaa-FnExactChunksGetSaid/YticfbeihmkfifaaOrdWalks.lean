/- Which comes first: the two closures, and who makes them. -/
import Derived.Test.YticfbeihmkfifaaProg
import Derived.Test.YticfbeihmkfifaaBase
namespace Go.Proofs.Yticfbeihmkfifaa
open Go.RowKit

set_option maxHeartbeats 400000 in
theorem order_high (i size : Int) (w : World) (h0 : 0 ≤ i) (h1 : i ≤ size) (h2 : size ≤ 1000) :
    Calls Try.prog 93 #[.int .i64 i, .int .i64 size] w fun e w' => e = .returned (.int .i64 (size - 1 - i)) ∧ w' = w := by
  go_enter Try.func93, Try.ntmps93
  go_wp2
  go_ret
  exact ⟨rfl, rfl⟩

set_option maxHeartbeats 400000 in
theorem order_low (i size : Int) (w : World) :
    Calls Try.prog 94 #[.int .i64 i, .int .i64 size] w fun e w' => e = .returned (.int .i64 i) ∧ w' = w := by
  go_enter Try.func94, Try.ntmps94
  go_wp2
  go_ret
  exact ⟨rfl, rfl⟩

set_option maxHeartbeats 400000 in
theorem orderOf_high (w : World) :
    Calls Try.prog 87 #[.bool true] w fun e w' => e = .returned (.func (.func 93) #[] #[]) ∧ w' = w := by
  go_enter Try.func87, Try.ntmps87
  go_wp2
  go_ret
  exact ⟨rfl, rfl⟩

set_option maxHeartbeats 400000 in
theorem orderOf_low (w : World) :
    Calls Try.prog 87 #[.bool false] w fun e w' => e = .returned (.func (.func 94) #[] #[]) ∧ w' = w := by
  go_enter Try.func87, Try.ntmps87
  go_wp2
  go_ret
  exact ⟨rfl, rfl⟩

end Go.Proofs.Yticfbeihmkfifaa
