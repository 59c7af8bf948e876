/- Which comes first: the two closures, and who makes them. -/
import Derived.Test.YtmcjdilmmabiaaaProg
import Derived.Test.YtmcjdilmmabiaaaBase
namespace Go.Proofs.Ytmcjdilmmabiaaa
open Go.RowKit

set_option maxHeartbeats 400000 in
theorem order_high (i size : Int) (w : World) (h0 : 0 ≤ i) (h1 : i ≤ size) (h2 : size ≤ 1000) :
    Calls Try.prog 63 #[.int .i64 i, .int .i64 size] w fun e w' => e = .returned (.int .i64 (size - 1 - i)) ∧ w' = w := by
  go_enter Try.func63, Try.ntmps63
  go_wp2
  go_ret
  exact ⟨rfl, rfl⟩

set_option maxHeartbeats 400000 in
theorem order_low (i size : Int) (w : World) :
    Calls Try.prog 64 #[.int .i64 i, .int .i64 size] w fun e w' => e = .returned (.int .i64 i) ∧ w' = w := by
  go_enter Try.func64, Try.ntmps64
  go_wp2
  go_ret
  exact ⟨rfl, rfl⟩

set_option maxHeartbeats 400000 in
theorem orderOf_high (w : World) :
    Calls Try.prog 61 #[.bool true] w fun e w' => e = .returned (.func (.func 63) #[] #[]) ∧ w' = w := by
  go_enter Try.func61, Try.ntmps61
  go_wp2
  go_ret
  exact ⟨rfl, rfl⟩

set_option maxHeartbeats 400000 in
theorem orderOf_low (w : World) :
    Calls Try.prog 61 #[.bool false] w fun e w' => e = .returned (.func (.func 64) #[] #[]) ∧ w' = w := by
  go_enter Try.func61, Try.ntmps61
  go_wp2
  go_ret
  exact ⟨rfl, rfl⟩

end Go.Proofs.Ytmcjdilmmabiaaa
