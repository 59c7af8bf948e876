/- The draw of the laws on rows. -/
import Derived.Test.YtcolgcddhchkhaaDrawWalks
import Derived.Test.YtcolgcddhchkhaaIntOwn
import Derived.Test.YtcolgcddhchkhaaPowWalks
namespace Go.Proofs.Ytcolgcddhchkhaa
open Go.RowKit

theorem Only.grown {B : Nat} {w a b : World} (h : Only B w a) (hB : B < w.heap.size) (g : Below w.heap.size a b) : Only B w b :=
  ⟨h.below.trans (g.mono (Nat.le_of_lt hB)), fun k hk hkB => (g.block k hk).trans (h.rest k hk hkB)⟩

theorem OwnI.same {w w' : World} {B n : Nat} {v : Value} {l : List Int} (h : OwnI w B v n l) (hk : ∀ k, k < w.heap.size → B ≤ k → w'.heap[k]? = w.heap[k]?) : OwnI w' B v n l := by
  refine ⟨h.1, ?_⟩
  rcases h.2 with h2 | ⟨g, cap, cur, hv, hg, hh, r⟩
  · exact .inl h2
  · have hlt : g < w.heap.size := by
      rcases Nat.lt_or_ge g w.heap.size with hlt | hge
      · exact hlt
      · rw [Array.getElem?_eq_none hge] at hh; cases hh
    exact .inr ⟨g, cap, cur, hv, hg, by rw [hk g hlt hg]; exact hh, r⟩
theorem OwnI.only {w w' : World} {B C n : Nat} {v : Value} {l : List Int} (h : OwnI w B v n l) (ho : Only C w w') (hC : C < B) : OwnI w' B v n l := h.same (fun k hk hB => ho.rest k hk (by omega))
theorem OwnI.lower {w : World} {B C n : Nat} {v : Value} {l : List Int} (h : OwnI w B v n l) (hC : C ≤ B) : OwnI w C v n l := by
  refine ⟨h.1, ?_⟩
  rcases h.2 with h2 | ⟨g, cap, cur, hv, hg, r⟩
  · exact .inl h2
  · exact .inr ⟨g, cap, cur, hv, by omega, r⟩

end Go.Proofs.Ytcolgcddhchkhaa
