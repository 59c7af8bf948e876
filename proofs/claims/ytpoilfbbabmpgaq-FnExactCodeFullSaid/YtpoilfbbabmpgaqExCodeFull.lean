/- The exact law of CodeFull, walked. -/
import Derived.Test.YtpoilfbbabmpgaqCodeWalks
import Derived.Test.YtpoilfbbabmpgaqRow64
namespace Go.Proofs.Ytpoilfbbabmpgaq
open Go.RowKit

/-- whether a code leaves nothing over -/
def fullB (zs : List Int) : Bool := Cd.okB zs && decide (Cd.left zs = 0)

theorem left_of_ok {zs : List Int} (h : Cd.okB zs = true) : Cd.left zs = 32768 - (Cd.taken zs : Int) := by
  unfold Cd.okB at h
  simp only [Bool.and_eq_true, decide_eq_true_eq] at h
  unfold Cd.left; rw [if_pos h.2]

set_option maxHeartbeats 400000 in
theorem spec_codeFull (a : Option Addr) (cap n : Nat) (zs : List Int) (w : World) (h : Ints w a zs) (hn : zs.length = n) (hl : n ≤ 1048576) :
    Calls Try.prog 9 #[.slice a n cap] w fun e w' => e = .returned (.bool (fullB zs)) ∧ w' = w := by
  have HC : Hid (Calls Try.prog 28 #[.slice a n cap] w fun e w' => e = .returned (.bool (Cd.okB zs)) ∧ w' = w) := spec_codeOk a cap n zs w h hn hl
  cases hy : Cd.okB zs
  · rw [hy] at HC
    have HE : Hid (fullB zs = false) := by show _ = _; unfold fullB; rw [hy]; rfl
    clear h hn hy
    go_enter Try.func9, Try.ntmps9
    go_wp2_with fail
    refine HC.out.mono ?_
    rintro e w1 ⟨rfl, hw1⟩
    subst hw1
    go_wp2_with fail
    go_ret
    exact ⟨ret_bool HE.out.symm, rfl⟩
  · rw [hy] at HC
    have h3 : n ≤ 300 := by
      unfold Cd.okB at hy
      simp only [Bool.and_eq_true, decide_eq_true_eq] at hy
      omega
    have HL : Hid (Calls Try.prog 29 #[.slice a n cap] w fun e w' => e = .returned (.int .i64 (Cd.left zs)) ∧ w' = w) := l3Left_any a cap n zs w h hn h3
    have HE : Hid (fullB zs = (Cd.left zs == 0)) := by show _ = _; unfold fullB; rw [hy, Bool.true_and]; rfl
    clear h hn hy
    generalize Cd.left zs = L at *
    go_enter Try.func9, Try.ntmps9
    go_wp2_with fail
    refine HC.out.mono ?_
    rintro e w1 ⟨rfl, hw1⟩
    subst hw1
    go_wp2_with fail
    refine HL.out.mono ?_
    rintro e w2 ⟨rfl, hw2⟩
    subst hw2
    go_wp2_with fail
    go_ret
    exact ⟨ret_bool HE.out.symm, rfl⟩

set_option maxHeartbeats 400000 in
theorem impl_codeFull (a : Option Addr) (cap n : Nat) (zs : List Int) (w : World) (h : Ints w a zs) (hn : zs.length = n) (hl : n ≤ 1048576) :
    Calls Try.prog 11 #[.slice a n cap] w fun e w' => e = .returned (.bool (fullB zs)) ∧ w' = w := by
  have HC : Hid (Calls Try.prog 30 #[.slice a n cap] w fun e w' => e = .returned (.tuple #[.int .i64 (tkN n zs), .bool (tkB n zs)]) ∧ w' = w) := codeTaken_any a cap n zs w h hn hl
  have okE : Cd.okB zs = (tkB n zs && decide (Cd.taken zs ≤ 32768)) := by unfold Cd.okB tkB; rw [hn, Bool.and_assoc]
  cases hy : tkB n zs
  · have HE : Hid (fullB zs = false) := by show _ = _; unfold fullB; rw [okE, hy]; rfl
    rw [hy] at HC
    clear h hn hy okE
    generalize tkN n zs = T at *
    go_enter Try.func11, Try.ntmps11
    go_wp2_with fail
    refine HC.out.mono ?_
    rintro e w1 ⟨rfl, hw1⟩
    subst hw1
    go_wp2_with fail
    go_ret
    exact ⟨ret_bool HE.out.symm, rfl⟩
  · have HE : Hid (fullB zs = ((Cd.taken zs : Int) == 32768)) := by
      show _ = _
      rw [hy, Bool.true_and] at okE
      unfold fullB
      cases ho : Cd.okB zs
      · rw [ho] at okE
        have hgt : ¬ Cd.taken zs ≤ 32768 := of_decide_eq_false okE.symm
        rw [Bool.false_and]; symm; rw [beq_eq_false_iff_ne]; omega
      · rw [left_of_ok ho, Bool.true_and, Bool.eq_iff_iff, decide_eq_true_eq, beq_iff_eq]; omega
    rw [tkN_yes hy, hy] at HC
    clear h hn hy okE
    generalize Cd.taken zs = T at *
    go_enter Try.func11, Try.ntmps11
    go_wp2_with fail
    refine HC.out.mono ?_
    rintro e w1 ⟨rfl, hw1⟩
    subst hw1
    go_wp2_with fail
    go_ret
    exact ⟨ret_bool HE.out.symm, rfl⟩

set_option maxHeartbeats 1000000 in
theorem exCodeFull (a : Option Addr) (n cap : Nat) (w : World) (h : Row64 w a n cap) :
    Calls Try.prog 3 #[.slice a n cap] w fun e w' => e = .returned (.bool true) ∧ Below w.heap.size w w' := by
  obtain ⟨_, hm, zs, hn, hI, _⟩ := h
  unfold maxLen at hm
  have HN : Hid (zs.length = n) := hn
  clear hn
  by_cases hbig : 1048576 < n
  · clear hI
    go_enter Try.func3, Try.ntmps3
    go_wp2_with fail
    go_ret
    exact ⟨rfl, Below.refl _ _⟩
  · have hsm : n ≤ 1048576 := by omega
    go_enter Try.func3, Try.ntmps3
    go_wp2_with fail
    refine (toInts_any a n cap zs w hI HN.out (by omega)).mono ?_
    rintro e w1 ⟨rfl, h1, bel1⟩
    go_wp2_with fail
    refine (spec_codeFull _ _ n zs w1 h1 HN.out hsm).mono ?_
    rintro e w2 ⟨rfl, rfl⟩
    have hI2 := hI.kept bel1
    clear h1
    go_wp2_with fail
    refine (toInts_any a n cap zs _ hI2 HN.out (by omega)).mono ?_
    rintro e w3 ⟨rfl, h3, bel3⟩
    go_wp2_with fail
    refine (impl_codeFull _ _ n zs w3 h3 HN.out hsm).mono ?_
    rintro e w4 ⟨rfl, rfl⟩
    have hI4 := hI2.kept bel3
    have bel := bel1.trans (bel3.mono bel1.size)
    clear bel1 bel3 hI2
    go_wp2_with fail
    refine (toInts_any a n cap zs _ hI4 HN.out (by omega)).mono ?_
    rintro e w5 ⟨rfl, h5, bel5⟩
    have h3' := h3.kept bel5
    have bel' := bel.trans (bel5.mono bel.size)
    clear bel bel5 h3
    go_wp2_with fail
    refine (eqInts_same _ _ _ _ n zs w5 h3' h5 HN.out (by omega)).mono ?_
    rintro e w6 ⟨rfl, m, rfl⟩
    go_wp2_with fail
    go_ret
    exact ⟨rfl, below_drewN bel' _⟩
end Go.Proofs.Ytpoilfbbabmpgaq
