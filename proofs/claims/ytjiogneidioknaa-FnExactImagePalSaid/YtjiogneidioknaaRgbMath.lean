/- Colours of the points of a picture that is ok: how great they are. -/
import Derived.Test.YtjiogneidioknaaColTop
namespace Go.Proofs.Ytjiogneidioknaa
open Go.RowKit

theorem step_le' (D : Nat) (h : D = 1 ∨ D = 2 ∨ D = 4 ∨ D = 8) (p : Int) (h0 : 0 ≤ p) (h1 : p ≤ ((2 ^ D : Nat) : Int) - 1) : 0 ≤ p * (stepOf D : Int) ∧ p * (stepOf D : Int) ≤ 255 := by
  rcases h with rfl | rfl | rfl | rfl
  · rw [show (stepOf 1 : Int) = 255 by decide]; simp at h1; omega
  · rw [show (stepOf 2 : Int) = 85 by decide]; simp at h1; omega
  · rw [show (stepOf 4 : Int) = 17 by decide]; simp at h1; omega
  · rw [show (stepOf 8 : Int) = 1 by decide]; simp at h1; omega

theorem col_bounds {k wd hi : Int} {D : Nat} {cs ps : List Int} (hok : Im.Ok k (D : Int) wd hi cs ps) {p : Int} (hm : p ∈ ps) :
    0 ≤ colOf k D cs p ∧ colOf k D cs p ≤ 4294967295 ∧ (k ≠ 3 → colOf k D cs p % 256 = 255) := by
  obtain ⟨hd, _, _, hco, hlen, hW⟩ := hok
  have hp := hW p hm
  unfold colOf
  unfold Im.most at hp
  rcases Im.kinds hd with ⟨rfl, hD⟩ | ⟨rfl, rfl⟩ | ⟨rfl, rfl⟩ | ⟨rfl, hD⟩
  · rw [if_pos rfl]
    rw [if_neg (by decide), Int.toNat_natCast] at hp
    have := step_le' D hD p hp.1 hp.2
    generalize p * (stepOf D : Int) = q at *
    refine ⟨by omega, by omega, fun _ => by omega⟩
  · rw [if_neg (by decide), if_pos rfl]
    rw [if_neg (by decide)] at hp
    simp at hp
    refine ⟨by omega, by omega, fun _ => by omega⟩
  · rw [if_neg (by decide), if_neg (by decide), if_neg (by decide)]
    rw [if_neg (by decide)] at hp
    simp at hp
    refine ⟨by omega, by omega, fun h => absurd rfl h⟩
  · rw [if_neg (by decide), if_neg (by decide), if_pos rfl]
    rw [if_pos rfl] at hp
    obtain ⟨h1, _, hin⟩ := hco.2 rfl
    have hx : p.toNat < cs.length := by omega
    have := hin (cs.getD p.toNat 0) (by rw [List.getD_eq_getElem?_getD, List.getElem?_eq_getElem hx]; exact List.getElem_mem hx)
    generalize cs.getD p.toNat 0 = q at *
    refine ⟨by omega, by omega, fun _ => by omega⟩
end Go.Proofs.Ytjiogneidioknaa
