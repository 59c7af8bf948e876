/- A list of bits (a number and a size each) in memory. -/
import Derived.Test.YtcgmmpfckmhahaaProg
import Derived.Test.YtcgmmpfckmhahaaBase
namespace Go.Proofs.Ytcgmmpfckmhahaa
open Go.RowKit

/-- the slice's cells read as the list: two cells an element -/
def Bits2 (w : World) (a : Option Addr) (l : List (Int × Int)) : Prop :=
  l = [] ∨ ∃ b off, a = some ⟨b, off, none⟩ ∧ b < w.heap.size ∧ ∀ i (h : i < l.length), w.cell? ⟨b, off + i * 2, none⟩ = some (.int .i64 (l[i]).1) ∧ w.cell? ⟨b, off + i * 2 + 1, none⟩ = some (.int .i64 (l[i]).2)

theorem Bits2.kept {w w' : World} {a : Option Addr} {l : List (Int × Int)} (h : Bits2 w a l) (hb : Below w.heap.size w w') : Bits2 w' a l := by
  rcases h with h | ⟨b, off, rfl, hbB, hc⟩
  · exact .inl h
  · exact .inr ⟨b, off, rfl, Nat.lt_of_lt_of_le hbB hb.size, fun i hi => ⟨(hb.cell (p := ⟨b, off + i * 2, none⟩) hbB).trans (hc i hi).1, (hb.cell (p := ⟨b, off + i * 2 + 1, none⟩) hbB).trans (hc i hi).2⟩⟩

/-- what a place of a row of bits holds -/
theorem Bits2.at {w : World} {a : Option Addr} {l : List (Int × Int)} (h : Bits2 w a l) {i : Nat} (hi : i < l.length) :
    ∃ b off, a = some ⟨b, off, none⟩ ∧ b < w.heap.size ∧ w.cell? ⟨b, off + i * 2, none⟩ = some (.int .i64 (l[i]).1) ∧ w.cell? ⟨b, off + i * 2 + 1, none⟩ = some (.int .i64 (l[i]).2) := by
  rcases h with h | ⟨b, off, rfl, hbB, hc⟩
  · rw [h] at hi; simp at hi
  · exact ⟨b, off, rfl, hbB, hc i hi⟩
end Go.Proofs.Ytcgmmpfckmhahaa
