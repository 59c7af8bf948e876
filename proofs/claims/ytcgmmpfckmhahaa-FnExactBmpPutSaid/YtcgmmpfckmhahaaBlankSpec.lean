/- A picture of the same kind without points: l8Blank of the specification. -/
import Derived.Test.YtcgmmpfckmhahaaDrawnWalks
import Derived.Test.YtcgmmpfckmhahaaPlainView
import Derived.Deep.RegionHeld3
namespace Go.Proofs.Ytcgmmpfckmhahaa
open Go.RowKit

/-- six cells of a block that is known whole, which can be written -/
theorem box6 {w : World} {B : Nat} {v0 v1 v2 v3 v4 v5 : Value} {T : TypeId} (h : w.heap[B]? = some (.cells #[v0, v1, v2, v3, v4, v5] T (0, 0))) :
    (w.cell? ⟨B, 0, none⟩ = some v0 ∧ w.cell? ⟨B, 1, none⟩ = some v1 ∧ w.cell? ⟨B, 2, none⟩ = some v2 ∧ w.cell? ⟨B, 3, none⟩ = some v3 ∧ w.cell? ⟨B, 4, none⟩ = some v4 ∧ w.cell? ⟨B, 5, none⟩ = some v5) ∧ (w.frozen? ⟨B, 0, none⟩ = false ∧ w.frozen? ⟨B, 1, none⟩ = false ∧ w.frozen? ⟨B, 2, none⟩ = false ∧ w.frozen? ⟨B, 3, none⟩ = false ∧ w.frozen? ⟨B, 4, none⟩ = false ∧ w.frozen? ⟨B, 5, none⟩ = false) := by
  refine ⟨⟨?_, ?_, ?_, ?_, ?_, ?_⟩, ?_, ?_, ?_, ?_, ?_, ?_⟩ <;> simp [World.cell?, World.frozen?, h]

end Go.Proofs.Ytcgmmpfckmhahaa
