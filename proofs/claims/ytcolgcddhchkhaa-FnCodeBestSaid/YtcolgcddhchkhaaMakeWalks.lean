/- The numbers of a code, as the specification and the program make them. -/
import Derived.Test.YtcolgcddhchkhaaCodeWalks
import Derived.Test.YtcolgcddhchkhaaMakeMath
import Derived.Test.YtcolgcddhchkhaaOwnRow
namespace Go.Proofs.Ytcolgcddhchkhaa
open Go.RowKit

theorem make_arr (zs : List Int) (n : Nat) (hn : zs.length = n) (hl : n ≤ 2000000) (w : World) :
    (Instr.makeSlice 23 (.int .i64 (n : Int)) (.int .i64 (n : Int))).run Try.prog w = .ok (.slice (some ⟨w.heap.size, 0, none⟩) n n) (w.alloc (.cells (arr (Mk.outer zs 0).2) 3)) := by
  rw [make_ints zs n hn hl w, cp_arr]; rfl

/-- the numbers of a code; nothing, if it is none -/
def mkB (zs : List Int) : List Int := if Cd.okB zs = true then Mk.mk zs else []
theorem mkB_yes {zs : List Int} (h : Cd.okB zs = true) : mkB zs = Mk.mk zs := by unfold mkB; rw [if_pos h]
theorem mkB_no {zs : List Int} (h : Cd.okB zs = false) : mkB zs = [] := by unfold mkB; rw [h]; rfl

theorem okB_len' {zs : List Int} (h : Cd.okB zs = true) : zs.length ≤ 300 := by
  unfold Cd.okB at h
  simp only [Bool.and_eq_true, decide_eq_true_eq] at h
  exact h.1

end Go.Proofs.Ytcolgcddhchkhaa
