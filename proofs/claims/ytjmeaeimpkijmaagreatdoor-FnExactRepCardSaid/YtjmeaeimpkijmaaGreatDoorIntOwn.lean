/- A list of ints that a call gathers in a row of its own. -/
import Derived.Test.YtjmeaeimpkijmaaGreatDoorOwnRow
import Derived.Deep.AppendLies
import Derived.Laws.OwnMore
namespace Go.Proofs.YtjmeaeimpkijmaaGreatDoor
open Go.RowKit

/-- ints as they lie in memory -/
def intsV (l : List Int) : List Value := l.map fun x : Int => Value.int .i64 x
theorem intsV_len (l : List Int) : (intsV l).length = l.length := by simp [intsV]
theorem intsV_get (l : List Int) (j : Nat) (h : j < l.length) : (intsV l)[j]? = some (.int .i64 l[j]) := by simp [intsV, h]
theorem intsV_snoc (l : List Int) (x : Int) : intsV l ++ [.int .i64 x] = intsV (l ++ [x]) := by simp [intsV]

/-- the slice v owns the ints l, n of them -/
def OwnI (w : World) (B : Nat) (v : Value) (n : Nat) (l : List Int) : Prop := w.ownsRow B 3 1 v n (intsV l)

theorem OwnI.len {w : World} {B n : Nat} {v : Value} {l : List Int} (h : OwnI w B v n l) : l.length = n := by
  have := h.1
  rw [intsV_len] at this; omega

theorem OwnI.owns {w : World} {B n : Nat} {v : Value} {l : List Int} (h : OwnI w B v n l) : ∃ ao cap, v = .slice ao n cap ∧ Owns w B ao l := by
  have hl := h.len
  rcases h.2 with ⟨rfl, h0⟩ | ⟨g, cap, cur, rfl, hgB, hg, _, _, _, ht⟩
  · subst h0
    exact ⟨none, 0, rfl, .inl (List.eq_nil_of_length_eq_zero hl)⟩
  · refine ⟨some ⟨g, 0, none⟩, cap, rfl, .inr ⟨g, rfl, hgB, ?_, fun i hi => ⟨?_, ?_⟩⟩⟩
    · rcases Nat.lt_or_ge g w.heap.size with hlt | hge
      · exact hlt
      · rw [Array.getElem?_eq_none hge] at hg; cases hg
    · exact (World.ownsRow.cellAt h i (by omega)).trans (intsV_get l i hi)
    · exact World.ownsRow.frozenAt h i

theorem OwnI.more {w : World} {B n g cap : Nat} {l : List Int} {x : Int} (h : w.ownsRow B 3 1 (.slice (some ⟨g, 0, none⟩) (n + 1) cap) (n + 1) (intsV l ++ [.int .i64 x])) :
    OwnI w B (.slice (some ⟨g, 0, none⟩) (n + 1) cap) (n + 1) (l ++ [x]) := by
  rw [intsV_snoc] at h; exact h

theorem OwnI.drewN {w : World} {B n : Nat} {v : Value} {l : List Int} (h : OwnI w B v n l) (m : Nat) : OwnI (w.drewN m) B v n l := h

theorem ownI_none (w : World) : OwnI (w.alloc (.cells #[] 3)) w.heap.size (.slice (some ⟨w.heap.size, 0, none⟩) 0 0) 0 [] :=
  World.ownsRow_lit w #[] 0 (Nat.le_refl _) (by decide) rfl
end Go.Proofs.YtjmeaeimpkijmaaGreatDoor
