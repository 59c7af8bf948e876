/- A list of tokens (three numbers each) in memory. -/
import Derived.Test.YtmfnepibhhhdcaaProg
import Derived.Test.YtmfnepibhhhdcaaBase
namespace Go.Proofs.Ytmfnepibhhhdcaa
open Go.RowKit

abbrev Tk := Int × Int × Int
/-- the slice's cells read as the list: three cells an element -/
def Toks (w : World) (a : Option Addr) (l : List Tk) : Prop :=
  l = [] ∨ ∃ b off, a = some ⟨b, off, none⟩ ∧ b < w.heap.size ∧ ∀ i (h : i < l.length), w.cell? ⟨b, off + i * 3, none⟩ = some (.int .i64 (l[i]).1) ∧ w.cell? ⟨b, off + i * 3 + 1, none⟩ = some (.int .i64 (l[i]).2.1) ∧ w.cell? ⟨b, off + i * 3 + 2, none⟩ = some (.int .i64 (l[i]).2.2)

theorem Toks.kept {w w' : World} {a : Option Addr} {l : List Tk} (h : Toks w a l) (hb : Below w.heap.size w w') : Toks w' a l := by
  rcases h with h | ⟨b, off, rfl, hbB, hc⟩
  · exact .inl h
  · exact .inr ⟨b, off, rfl, Nat.lt_of_lt_of_le hbB hb.size, fun i hi => ⟨(hb.cell (p := ⟨b, off + i * 3, none⟩) hbB).trans (hc i hi).1, (hb.cell (p := ⟨b, off + i * 3 + 1, none⟩) hbB).trans (hc i hi).2.1, (hb.cell (p := ⟨b, off + i * 3 + 2, none⟩) hbB).trans (hc i hi).2.2⟩⟩

theorem Toks.at {w : World} {a : Option Addr} {l : List Tk} (h : Toks w a l) {i : Nat} (hi : i < l.length) :
    ∃ b off, a = some ⟨b, off, none⟩ ∧ b < w.heap.size ∧ w.cell? ⟨b, off + i * 3, none⟩ = some (.int .i64 (l[i]).1) ∧ w.cell? ⟨b, off + i * 3 + 1, none⟩ = some (.int .i64 (l[i]).2.1) ∧ w.cell? ⟨b, off + i * 3 + 2, none⟩ = some (.int .i64 (l[i]).2.2) := by
  rcases h with h | ⟨b, off, rfl, hbB, hc⟩
  · rw [h] at hi; simp at hi
  · exact ⟨b, off, rfl, hbB, hc i hi⟩
end Go.Proofs.Ytmfnepibhhhdcaa
