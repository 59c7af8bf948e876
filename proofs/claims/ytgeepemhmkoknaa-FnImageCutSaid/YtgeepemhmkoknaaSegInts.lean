/- A stretch of a list of ints in memory. -/
import Derived.Test.YtgeepemhmkoknaaDrawnWalks
namespace Go.Proofs.Ytgeepemhmkoknaa
open Go.RowKit

theorem upto_add (F : Nat → Int) (a n : Nat) : upto F (a + n) = upto F a ++ (List.range n).map (fun t => F (a + t)) := by
  simp [upto, List.range_add, Function.comp_def]
/-- so many of a list, from one on -/
def seg (ps : List Int) (P n : Nat) : List Int := (List.range n).map (fun t => ps.getD (P + t) 0)
theorem seg_len (ps : List Int) (P n : Nat) : (seg ps P n).length = n := by simp [seg]
theorem seg_ints {w : World} {b off : Nat} {ps : List Int} {P n : Nat} (h : Ints w (some ⟨b, off, none⟩) ps) (hn : P + n ≤ ps.length) : Ints w (some ⟨b, off + P, none⟩) (seg ps P n) := by
  rcases h with e | ⟨c, o, e, hc, hcell⟩
  · rw [e] at hn; simp at hn; left; rw [show n = 0 by omega]; rfl
  · cases e
    refine .inr ⟨b, off + P, rfl, hc, fun i hi => ?_⟩
    rw [seg_len] at hi
    have := hcell (P + i) (by omega)
    rw [Nat.add_assoc, this]
    simp [seg, List.getElem?_eq_getElem (show P + i < ps.length by omega)]
end Go.Proofs.Ytgeepemhmkoknaa
