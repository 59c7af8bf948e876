/- A list that an answer owns: marks laid into it and found. -/
import Derived.Test.YtjmeaeimpkijmaaGreatDoorHeldWalks
import Derived.Test.YtjmeaeimpkijmaaGreatDoorMarkBase
import Derived.Below
namespace Go.Proofs.YtjmeaeimpkijmaaGreatDoor
open Go.RowKit

def marks (M : Nat) : List Int := (List.range M).map fun i : Nat => (i : Int) + 1
theorem marks_len (M : Nat) : (marks M).length = M := by simp [marks]

theorem own_of {w : World} {b M : Nat} {l : List Int} (hM : l.length = M) (hb : b < w.heap.size) (hc : ∀ i (h : i < l.length), w.cell? ⟨b, i, none⟩ = some (.int .i64 l[i]) ∧ w.frozen? ⟨b, i, none⟩ = false) : Own w b M (fun i => l.getD i 0) := by
  refine ⟨hb, fun i hi => ?_⟩
  have h := hc i (by omega)
  have e : l.getD i 0 = l[i]'(by omega) := by rw [List.getD_eq_getElem?_getD, List.getElem?_eq_getElem (by omega)]; rfl
  show w.cell? ⟨b, i, none⟩ = some (.int .i64 (l.getD i 0)) ∧ _
  rw [e]
  exact h
theorem owns_marks {w : World} {lo b M : Nat} (h : Own w b M (fun i => (i : Int) + 1)) (hlo : lo ≤ b) : Owns w lo (some ⟨b, 0, none⟩) (marks M) := by
  refine .inr ⟨b, rfl, hlo, h.1, fun i hi => ?_⟩
  rw [marks_len] at hi
  have := h.2 i hi
  rw [show (marks M)[i]'(by rw [marks_len]; exact hi) = (i : Int) + 1 from by simp [marks]]
  exact this

end Go.Proofs.YtjmeaeimpkijmaaGreatDoor
