/- How great a list of ints is. -/
import Derived.Test.YtjmeaeimpkijmaaGreatDoorMarkRow
import Derived.Below
namespace Go.Proofs.YtjmeaeimpkijmaaGreatDoor
open Go.RowKit

set_option maxHeartbeats 400000 in
theorem szInts_any (a : Option Addr) (n cap : Nat) (l : Int) (w : World) (hn : n ≤ 9223372036854775807) (hl : 0 ≤ l ∧ l ≤ 1048576) :
    Calls Tryz.prog 19 #[.slice a n cap, .int .i64 l] w fun e w' => e = .returned (.int .i64 (if (n : Int) ≤ l then l - n else -1)) ∧ w' = w := by
  by_cases h : (n : Int) ≤ l
  · have d1 : decide (l - (n : Int) < 0) = false := by simp; omega
    rw [if_pos h]
    go_enter Tryz.func19, Tryz.ntmps19
    go_wp2_with fail
    go_ret
    exact ⟨rfl, rfl⟩
  · have d1 : decide (l - (n : Int) < 0) = true := by simp; omega
    rw [if_neg h]
    go_enter Tryz.func19, Tryz.ntmps19
    go_wp2_with fail
    go_ret
    exact ⟨rfl, rfl⟩
end Go.Proofs.YtjmeaeimpkijmaaGreatDoor
