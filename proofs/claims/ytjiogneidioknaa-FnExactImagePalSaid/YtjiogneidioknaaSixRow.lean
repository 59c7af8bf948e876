/- Six cells of a box written one by one are the box written whole. -/
import Derived.Test.YtjiogneidioknaaDrawnWalks
namespace Go.Proofs.Ytjiogneidioknaa
open Go.RowKit

theorem setRow_setRow (w : World) (g : Nat) (a b : Array Value) : (w.setRow g a).setRow g b = w.setRow g b := by
  unfold World.setRow
  simp only
  congr 1
  apply Array.ext_getElem?
  intro i
  rw [Array.getElem?_modify, Array.getElem?_modify, Array.getElem?_modify]
  by_cases e : g = i
  · subst e
    simp only [if_true]
    cases w.heap[g]? with
    | none => rfl
    | some o => cases o <;> rfl
  · simp [e]
theorem setRow_setCell {w : World} {g : Nat} {cur : Array Value} {t : TypeId} (h : w.heap[g]? = some (.cells cur t (0, 0))) (a : Array Value) (i : Nat) (v : Value) : (w.setRow g a).setCell ⟨g, i, none⟩ v = w.setRow g (a.setIfInBounds i v) := by
  rw [setCell_eq_setRow (w.setRow g a) g i a t (0, 0) v (setRow_heap w g cur a t (0, 0) h), setRow_setRow]
theorem six_row {w : World} {g : Nat} {t : TypeId} {a0 a1 a2 a3 a4 a5 : Value} (h : w.heap[g]? = some (.cells #[a0, a1, a2, a3, a4, a5] t (0, 0))) (v0 v1 v2 v3 v4 v5 : Value) :
    (((((w.setCell ⟨g, 0, none⟩ v0).setCell ⟨g, 1, none⟩ v1).setCell ⟨g, 2, none⟩ v2).setCell ⟨g, 3, none⟩ v3).setCell ⟨g, 4, none⟩ v4).setCell ⟨g, 5, none⟩ v5 = w.setRow g #[v0, v1, v2, v3, v4, v5] := by
  rw [setCell_eq_setRow w g 0 _ t (0, 0) v0 h, setRow_setCell h, setRow_setCell h, setRow_setCell h, setRow_setCell h, setRow_setCell h]
  rfl
end Go.Proofs.Ytjiogneidioknaa
