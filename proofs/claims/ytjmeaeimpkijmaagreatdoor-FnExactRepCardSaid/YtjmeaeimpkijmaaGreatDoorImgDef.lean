/- A picture: what it holds, and when it is ok. -/
import Derived.Test.YtjmeaeimpkijmaaGreatDoorWithinWalks
import Derived.Test.YtjmeaeimpkijmaaGreatDoorDepWalks
namespace Go.Proofs.YtjmeaeimpkijmaaGreatDoor
open Go.RowKit
namespace Im

/-- colours that a picture of that kind and depth can have -/
def ColOk (k d : Int) (cs : List Int) : Prop := (k ≠ 4 → cs.length = 0) ∧ (k = 4 → 1 ≤ cs.length ∧ cs.length ≤ 2 ^ d.toNat ∧ Within 16777215 cs)
/-- the greatest point -/
def most (k d : Int) (cs : List Int) : Int := if k = 4 then (cs.length : Int) - 1 else ((2 ^ d.toNat : Nat) : Int) - 1
/-- a picture that is ok -/
def Ok (k d wd hi : Int) (cs ps : List Int) : Prop := d ∈ depL k ∧ (1 ≤ wd ∧ wd ≤ 20) ∧ (1 ≤ hi ∧ hi ≤ 20) ∧ ColOk k d cs ∧ (ps.length : Int) = wd * hi ∧ Within (most k d cs) ps
open Classical in
noncomputable def okB (k d wd hi : Int) (cs ps : List Int) : Bool := decide (Ok k d wd hi cs ps)
theorem okB_yes {k d wd hi : Int} {cs ps : List Int} (h : Ok k d wd hi cs ps) : okB k d wd hi cs ps = true := @decide_eq_true _ (Classical.propDecidable _) h
theorem okB_no {k d wd hi : Int} {cs ps : List Int} (h : ¬ Ok k d wd hi cs ps) : okB k d wd hi cs ps = false := @decide_eq_false _ (Classical.propDecidable _) h
open Classical in
noncomputable def colB (k d : Int) (cs : List Int) : Bool := decide (ColOk k d cs)
theorem colB_yes {k d : Int} {cs : List Int} (h : ColOk k d cs) : colB k d cs = true := @decide_eq_true _ (Classical.propDecidable _) h
theorem colB_no {k d : Int} {cs : List Int} (h : ¬ ColOk k d cs) : colB k d cs = false := @decide_eq_false _ (Classical.propDecidable _) h

theorem dep4 {d : Int} (h : d ∈ depL 4) : d = 1 ∨ d = 2 ∨ d = 4 ∨ d = 8 := by simpa [depL] using h
theorem dep_all {k d : Int} (h : d ∈ depL k) : ∃ D : Nat, d = (D : Int) ∧ D ≤ 32 ∧ (D = 1 ∨ D = 2 ∨ D = 4 ∨ D = 8 ∨ D = 24 ∨ D = 32) := by
  unfold depL at h
  split at h
  · simp at h; exact ⟨d.toNat, by omega, by omega, by omega⟩
  · split at h
    · simp at h; exact ⟨d.toNat, by omega, by omega, by omega⟩
    · split at h
      · simp at h; exact ⟨d.toNat, by omega, by omega, by omega⟩
      · simp at h
end Im

/-- a picture in a call -/
def imgV (k d wd hi : Int) (ca : Option Addr) (cn cc : Nat) (pa : Option Addr) (pn pc : Nat) : Value :=
  .agg #[.int .i64 k, .int .i64 d, .int .i64 wd, .int .i64 hi, .slice ca cn cc, .slice pa pn pc]
end Go.Proofs.YtjmeaeimpkijmaaGreatDoor
