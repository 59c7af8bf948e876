/- The exact law of CodeFull, walked. -/
import Derived.Test.YtcolgcddhchkhaaCodeWalks
import Derived.Test.YtcolgcddhchkhaaRow64
namespace Go.Proofs.Ytcolgcddhchkhaa
open Go.RowKit

/-- whether a code leaves nothing over -/
def fullB (zs : List Int) : Bool := Cd.okB zs && decide (Cd.left zs = 0)

theorem left_of_ok {zs : List Int} (h : Cd.okB zs = true) : Cd.left zs = 32768 - (Cd.taken zs : Int) := by
  unfold Cd.okB at h
  simp only [Bool.and_eq_true, decide_eq_true_eq] at h
  unfold Cd.left; rw [if_pos h.2]

set_option maxHeartbeats 400000 in
theorem impl_codeFull (a : Option Addr) (cap n : Nat) (zs : List Int) (w : World) (h : Ints w a zs) (hn : zs.length = n) (hl : n ≤ 1048576) :
    Calls Try.prog 14 #[.slice a n cap] w fun e w' => e = .returned (.bool (fullB zs)) ∧ w' = w := by
  have HC : Hid (Calls Try.prog 46 #[.slice a n cap] w fun e w' => e = .returned (.tuple #[.int .i64 (tkN n zs), .bool (tkB n zs)]) ∧ w' = w) := codeTaken_any a cap n zs w h hn hl
  have okE : Cd.okB zs = (tkB n zs && decide (Cd.taken zs ≤ 32768)) := by unfold Cd.okB tkB; rw [hn, Bool.and_assoc]
  cases hy : tkB n zs
  · have HE : Hid (fullB zs = false) := by show _ = _; unfold fullB; rw [okE, hy]; rfl
    rw [hy] at HC
    clear h hn hy okE
    generalize tkN n zs = T at *
    go_enter Try.func14, Try.ntmps14
    go_wp2_with fail
    refine HC.out.mono ?_
    rintro e w1 ⟨rfl, hw1⟩
    subst hw1
    go_wp2_with fail
    go_ret
    exact ⟨ret_bool HE.out.symm, rfl⟩
  · have HE : Hid (fullB zs = ((Cd.taken zs : Int) == 32768)) := by
      show _ = _
      rw [hy, Bool.true_and] at okE
      unfold fullB
      cases ho : Cd.okB zs
      · rw [ho] at okE
        have hgt : ¬ Cd.taken zs ≤ 32768 := of_decide_eq_false okE.symm
        rw [Bool.false_and]; symm; rw [beq_eq_false_iff_ne]; omega
      · rw [left_of_ok ho, Bool.true_and, Bool.eq_iff_iff, decide_eq_true_eq, beq_iff_eq]; omega
    rw [tkN_yes hy, hy] at HC
    clear h hn hy okE
    generalize Cd.taken zs = T at *
    go_enter Try.func14, Try.ntmps14
    go_wp2_with fail
    refine HC.out.mono ?_
    rintro e w1 ⟨rfl, hw1⟩
    subst hw1
    go_wp2_with fail
    go_ret
    exact ⟨ret_bool HE.out.symm, rfl⟩

end Go.Proofs.Ytcolgcddhchkhaa
