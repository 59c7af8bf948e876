/- Filters of the specification: a row is turned back. -/
import Derived.Test.YtjikjjganloobabFlSpecPut
namespace Go.Proofs.Ytjikjjganloobab
open Go.RowKit

theorem OwnB.textN {w : World} {B L : Nat} {v : Value} {o : List Nat} (h : OwnB w B v L o) : ∃ cap ao, v = .slice ao L cap ∧
    ∀ m, Sem.run Try.prog (convert 22 9 (.slice ao L cap)) (w.drewN m) = .ok (.string ⟨(o.map UInt8.ofNat).toArray⟩) (w.drewN m) := by
  obtain ⟨cap, ao, rfl, _⟩ := h.text
  refine ⟨cap, ao, rfl, fun m => ?_⟩
  obtain ⟨cap', ao', e, h'⟩ := OwnB.text (show OwnB (w.drewN m) B (.slice ao L cap) L o from h)
  cases e
  exact h'

end Go.Proofs.Ytjikjjganloobab
