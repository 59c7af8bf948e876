/- The colour of a point, as the specification makes it. -/
import Derived.Test.YtcahppmnfoopkaaColWalks
import Derived.Test.YtcahppmnfoopkaaPowWalks
import Derived.Test.YtcahppmnfoopkaaDepWalks
namespace Go.Proofs.Ytcahppmnfoopkaa
open Go.RowKit

/-- what a picture's point may be -/
def PtOk (k : Int) (D : Nat) (cs : List Int) (p : Nat) : Prop := (k = 1 ∧ (D = 1 ∨ D = 2 ∨ D = 4 ∨ D = 8) ∧ p < 2 ^ D) ∨ (k = 2 ∧ p ≤ 16777216) ∨ k = 3 ∨ (k = 4 ∧ p < cs.length ∧ Within 16777215 cs)

theorem gray_step {D p : Nat} (hD : D = 1 ∨ D = 2 ∨ D = 4 ∨ D = 8) (hp : p < 2 ^ D) : 2 ≤ 2 ^ D ∧ p * 255 / (2 ^ D - 1) = p * stepOf D ∧ p * stepOf D ≤ 255 ∧ p ≤ 255 ∧ D ≤ 8 := by
  rcases hD with rfl | rfl | rfl | rfl
  · have hs : stepOf 1 = 255 := by decide
    have hp' : p < 2 := hp
    rw [hs]
    exact ⟨by decide, by show p * 255 / 1 = p * 255; omega, by omega, by omega, by omega⟩
  · have hs : stepOf 2 = 85 := by decide
    have hp' : p < 4 := hp
    rw [hs]
    exact ⟨by decide, by show p * 255 / 3 = p * 85; omega, by omega, by omega, by omega⟩
  · have hs : stepOf 4 = 17 := by decide
    have hp' : p < 16 := hp
    rw [hs]
    exact ⟨by decide, by show p * 255 / 15 = p * 17; omega, by omega, by omega, by omega⟩
  · have hs : stepOf 8 = 1 := by decide
    have hp' : p < 256 := hp
    rw [hs]
    exact ⟨by decide, by show p * 255 / 255 = p * 1; omega, by omega, by omega, by omega⟩

end Go.Proofs.Ytcahppmnfoopkaa
