/- A text as bytes, and back. -/
import Derived.Test.YtgbcjkpmiceddaaStrWalks
import Derived.Laws.IdiomStrings
import Derived.Below
namespace Go.Proofs.Ytgbcjkpmiceddaa
open Go.RowKit

/-- the bytes of a text, laid anew -/
theorem conv_bytes (s : ByteArray) (w : World) : ∃ (cap : Nat) (w2 : World), Sem.run Try.prog (convert 9 22 (.string s)) w = .ok (.slice (some ⟨w.heap.size, 0, none⟩) s.size cap) w2 ∧
    (∀ i (h : i < s.size), w2.cell? ⟨w.heap.size, i, none⟩ = some (.int .u8 ((s[i]).toNat : Int)) ∧ w2.frozen? ⟨w.heap.size, i, none⟩ = false) ∧ Below w.heap.size w w2 ∧ w2.heap.size = w.heap.size + 1 := by
  refine ⟨_, _, run_bytes_of_string w 9 22 5 s Try.underlying9 Try.underlying22 Try.underlying5, ?_, ?_, ?_⟩
  · intro i h
    generalize grownCap w s.size 0 5 = cap
    have hg : (w.drew.alloc (.cells (bytesRow s cap) 5 ((bytesRow s cap).size, (bytesRow s cap).size + 1))).heap[w.heap.size]? = some (.cells (bytesRow s cap) 5 ((bytesRow s cap).size, (bytesRow s cap).size + 1)) := heap_alloc_new w.drew _
    refine ⟨?_, ?_⟩
    · rw [cell_of_row _ _ _ _ _ _ hg, bytesRow_at s cap i h]; rfl
    · unfold World.frozen?
      simp only [hg]
      have hsz : s.size ≤ (bytesRow s cap).size := by unfold bytesRow; simp
      simp
      omega
  · exact (Below.refl _ _).drew.alloc (Nat.le_refl _) _
  · simp

theorem text_back (W : World) (L cap n : Nat) (l : List UInt8) (hn : l.length = n) (hc : ∀ j (hj : j < l.length), W.cell? ⟨L, j, none⟩ = some (.int .u8 ((l[j]).toNat : Int))) :
    Sem.run Try.prog (convert 22 9 (.slice (some ⟨L, 0, none⟩) n cap)) W = .ok (.string ⟨l.toArray⟩) W := by
  subst hn
  refine run_convert_bytes_back W 22 9 5 ⟨L, 0, none⟩ cap l Try.underlying22 Try.underlying5 Try.underlying9 ?_
  intro j hj
  rw [show (⟨L, 0, none⟩ : Addr).add j = ⟨L, j, none⟩ from by simp [Addr.add]; try omega]
  exact hc j hj
end Go.Proofs.Ytgbcjkpmiceddaa
