/- ImageOk of the specification. -/
import Derived.Test.YtjmeaeimpkijmaaGreatDoorImgDef
import Derived.Test.YtjmeaeimpkijmaaGreatDoorInWalks
import Derived.Test.YtjmeaeimpkijmaaGreatDoorPowWalks
import Derived.Deep.RegionHeld3
namespace Go.Proofs.YtjmeaeimpkijmaaGreatDoor
open Go.RowKit

/-- a depth of a kind, told -/
def depKB (k d : Int) : Bool := decide (d ∈ depL k)
theorem depKB_yes {k d : Int} (h : d ∈ depL k) : depKB k d = true := decide_eq_true h
theorem depKB_no {k d : Int} (h : d ∉ depL k) : depKB k d = false := decide_eq_false h

set_option maxHeartbeats 400000 in
theorem l8Depth_four (k d : Int) (w : World) (hk : k = 1 ∨ k = 4) :
    Calls Tryz.prog 46 #[.int .i64 k, .int .i64 d] w fun e w' => e = .returned (.bool (depKB k d)) ∧ w' = w := by
  have hL : depL k = [1, 2, 4, 8] := by unfold depL; rw [if_pos hk]
  have e1k : (k == 1) = true ∨ (k == 1) = false := by cases (k == 1) <;> simp
  by_cases h1 : d = 1
  · have HB : Hid (depKB k d = true) := depKB_yes (by rw [hL, h1]; simp)
    subst h1
    rcases hk with rfl | rfl
    all_goals
      go_enter Tryz.func46, Tryz.ntmps46
      go_wp2_with fail
      go_ret
      exact ⟨by rw [HB.out]; rfl, rfl⟩
  · by_cases h2 : d = 2
    · have HB : Hid (depKB k d = true) := depKB_yes (by rw [hL, h2]; simp)
      subst h2
      rcases hk with rfl | rfl
      all_goals
        go_enter Tryz.func46, Tryz.ntmps46
        go_wp2_with fail
        go_ret
        exact ⟨by rw [HB.out]; rfl, rfl⟩
    · by_cases h4 : d = 4
      · have HB : Hid (depKB k d = true) := depKB_yes (by rw [hL, h4]; simp)
        subst h4
        rcases hk with rfl | rfl
        all_goals
          go_enter Tryz.func46, Tryz.ntmps46
          go_wp2_with fail
          go_ret
          exact ⟨by rw [HB.out]; rfl, rfl⟩
      · have e1 : (d == 1) = false := by simpa using h1
        have e2 : (d == 2) = false := by simpa using h2
        have e4 : (d == 4) = false := by simpa using h4
        by_cases h8 : d = 8
        · have HB : Hid (depKB k d = true) := depKB_yes (by rw [hL, h8]; simp)
          subst h8
          rcases hk with rfl | rfl
          all_goals
            go_enter Tryz.func46, Tryz.ntmps46
            go_wp2_with fail
            go_ret
            exact ⟨by rw [HB.out]; rfl, rfl⟩
        · have e8 : (d == 8) = false := by simpa using h8
          have HB : Hid (depKB k d = false) := depKB_no (by rw [hL]; simp; omega)
          rcases hk with rfl | rfl
          all_goals
            go_enter Tryz.func46, Tryz.ntmps46
            go_wp2_with fail
            go_ret
            exact ⟨by rw [HB.out]; rfl, rfl⟩

set_option maxHeartbeats 400000 in
theorem l8Depth_any (k d : Int) (w : World) :
    Calls Tryz.prog 46 #[.int .i64 k, .int .i64 d] w fun e w' => e = .returned (.bool (depKB k d)) ∧ w' = w := by
  by_cases hk : k = 1 ∨ k = 4
  · exact l8Depth_four k d w hk
  · have k1 : (k == 1) = false := by simp; omega
    have k4 : (k == 4) = false := by simp; omega
    by_cases h2 : k = 2
    · have hL : depL k = [24] := by unfold depL; rw [if_neg hk, if_pos h2]
      subst h2
      by_cases hd : d = 24
      · have HB : Hid (depKB 2 d = true) := depKB_yes (by rw [hL, hd]; simp)
        subst hd
        go_enter Tryz.func46, Tryz.ntmps46
        go_wp2_with fail
        go_ret
        exact ⟨by rw [HB.out]; rfl, rfl⟩
      · have HB : Hid (depKB 2 d = false) := depKB_no (by rw [hL]; simpa using hd)
        have e1 : (d == 24) = false := by simpa using hd
        go_enter Tryz.func46, Tryz.ntmps46
        go_wp2_with fail
        go_ret
        exact ⟨by rw [HB.out]; first | rfl | simp [e1], rfl⟩
    · have k2 : (k == 2) = false := by simpa using h2
      by_cases h3 : k = 3
      · have hL : depL k = [32] := by unfold depL; rw [if_neg hk, if_neg h2, if_pos h3]
        subst h3
        by_cases hd : d = 32
        · have HB : Hid (depKB 3 d = true) := depKB_yes (by rw [hL, hd]; simp)
          subst hd
          go_enter Tryz.func46, Tryz.ntmps46
          go_wp2_with fail
          go_ret
          exact ⟨by rw [HB.out]; rfl, rfl⟩
        · have HB : Hid (depKB 3 d = false) := depKB_no (by rw [hL]; simpa using hd)
          have e1 : (d == 32) = false := by simpa using hd
          go_enter Tryz.func46, Tryz.ntmps46
          go_wp2_with fail
          go_ret
          exact ⟨by rw [HB.out]; first | rfl | simp [e1], rfl⟩
      · have k3 : (k == 3) = false := by simpa using h3
        have HB : Hid (depKB k d = false) := depKB_no (by unfold depL; rw [if_neg hk, if_neg h2, if_neg h3]; simp)
        go_enter Tryz.func46, Tryz.ntmps46
        go_wp2_with fail
        go_ret
        exact ⟨by rw [HB.out]; rfl, rfl⟩
end Go.Proofs.YtjmeaeimpkijmaaGreatDoor
