/- A picture in a block of its own. -/
import Derived.Test.YtjmeaeimpkijmaaGreatDoorBase
import Derived.Test.YtjmeaeimpkijmaaGreatDoorProg
import Derived.Below
namespace Go.Proofs.YtjmeaeimpkijmaaGreatDoor
open Go.RowKit

/-- six cells of a block stay -/
theorem box_kept {W w' : World} {B : Nat} {v0 v1 v2 v3 v4 v5 : Value} (h : W.cell? ⟨B, 0, none⟩ = some v0 ∧ W.cell? ⟨B, 1, none⟩ = some v1 ∧ W.cell? ⟨B, 2, none⟩ = some v2 ∧ W.cell? ⟨B, 3, none⟩ = some v3 ∧ W.cell? ⟨B, 4, none⟩ = some v4 ∧ W.cell? ⟨B, 5, none⟩ = some v5) (b : Below W.heap.size W w') (hB : B < W.heap.size) :
    w'.cell? ⟨B, 0, none⟩ = some v0 ∧ w'.cell? ⟨B, 1, none⟩ = some v1 ∧ w'.cell? ⟨B, 2, none⟩ = some v2 ∧ w'.cell? ⟨B, 3, none⟩ = some v3 ∧ w'.cell? ⟨B, 4, none⟩ = some v4 ∧ w'.cell? ⟨B, 5, none⟩ = some v5 :=
  ⟨(b.cell (p := ⟨B, 0, none⟩) hB).trans h.1, (b.cell (p := ⟨B, 1, none⟩) hB).trans h.2.1, (b.cell (p := ⟨B, 2, none⟩) hB).trans h.2.2.1, (b.cell (p := ⟨B, 3, none⟩) hB).trans h.2.2.2.1, (b.cell (p := ⟨B, 4, none⟩) hB).trans h.2.2.2.2.1, (b.cell (p := ⟨B, 5, none⟩) hB).trans h.2.2.2.2.2⟩
theorem box_new (w : World) (v0 v1 v2 v3 v4 v5 : Value) (T : TypeId) :
    (w.alloc (.cells #[v0, v1, v2, v3, v4, v5] T)).cell? ⟨w.heap.size, 0, none⟩ = some v0 ∧ (w.alloc (.cells #[v0, v1, v2, v3, v4, v5] T)).cell? ⟨w.heap.size, 1, none⟩ = some v1 ∧ (w.alloc (.cells #[v0, v1, v2, v3, v4, v5] T)).cell? ⟨w.heap.size, 2, none⟩ = some v2 ∧ (w.alloc (.cells #[v0, v1, v2, v3, v4, v5] T)).cell? ⟨w.heap.size, 3, none⟩ = some v3 ∧ (w.alloc (.cells #[v0, v1, v2, v3, v4, v5] T)).cell? ⟨w.heap.size, 4, none⟩ = some v4 ∧ (w.alloc (.cells #[v0, v1, v2, v3, v4, v5] T)).cell? ⟨w.heap.size, 5, none⟩ = some v5 := by
  refine ⟨?_, ?_, ?_, ?_, ?_, ?_⟩ <;> (rw [World.cell?_alloc_at _ _ _ _ rfl]; rfl)
theorem box_drew {W w' : World} {lo : Nat} (b : Below lo W.drew w') : Below lo W w' := ((Below.refl lo W).drew).trans b
end Go.Proofs.YtjmeaeimpkijmaaGreatDoor
