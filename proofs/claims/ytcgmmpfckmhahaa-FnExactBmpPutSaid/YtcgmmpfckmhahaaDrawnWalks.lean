/- A picture drawn of what is seen. -/
import Derived.Test.YtcgmmpfckmhahaaPtsWalks
import Derived.Test.YtcgmmpfckmhahaaAppInts
import Derived.Test.YtcgmmpfckmhahaaBoxWalks
namespace Go.Proofs.Ytcgmmpfckmhahaa
open Go.RowKit

/-- two lists of the call's own, in blocks apart -/
def Pair2 (w : World) (lo : Nat) (x : Option Addr) (cs : List Int) (y : Option Addr) (ps : List Int) : Prop :=
  ∃ m, lo ≤ m ∧ Owns w lo x cs ∧ (cs = [] ∨ ∃ b, x = some ⟨b, 0, none⟩ ∧ b < m) ∧ Owns w m y ps

theorem Owns.lower {w : World} {lo lo' : Nat} {a : Option Addr} {l : List Int} (h : Owns w lo a l) (hl : lo' ≤ lo) : Owns w lo' a l := by
  rcases h with e | ⟨b, rfl, hb, h2, h3⟩
  · exact .inl e
  · exact .inr ⟨b, rfl, Nat.le_trans hl hb, h2, h3⟩

theorem Pair2.make {w0 w w' : World} {lo : Nat} {x y : Option Addr} {cs ps : List Int} (hx : Owns w0 lo x cs) (hlo : lo ≤ w.heap.size) (h0 : Below w0.heap.size w0 w) (hb : Below w.heap.size w w') (hy : Owns w' w.heap.size y ps) : Pair2 w' lo x cs y ps := by
  refine ⟨w.heap.size, hlo, (hx.kept h0).kept hb, ?_, hy⟩
  rcases hx with e | ⟨b, rfl, _, h2, _⟩
  · exact .inl e
  · exact .inr ⟨b, rfl, Nat.lt_of_lt_of_le h2 h0.size⟩

theorem Pair2.kept {w w' : World} {lo : Nat} {x y : Option Addr} {cs ps : List Int} (h : Pair2 w lo x cs y ps) (hb : Below w.heap.size w w') : Pair2 w' lo x cs y ps := by
  obtain ⟨m, h1, h2, h3, h4⟩ := h
  exact ⟨m, h1, h2.kept hb, h3, h4.kept hb⟩

theorem below_setRow (w : World) (g : Nat) (cs : Array Value) : Below g w (w.setRow g cs) :=
  ⟨rfl, rfl, rfl, by simp, fun k hk => setRow_other w g k cs (by omega)⟩

theorem Owns.row {w : World} {lo : Nat} {a : Option Addr} {l : List Int} (h : Owns w lo a l) {g : Nat} (hg : g < lo) (cs : Array Value) : Owns (w.setRow g cs) lo a l := by
  rcases h with e | ⟨b, rfl, hb, h2, h3⟩
  · exact .inl e
  · have hh : (w.setRow g cs).heap[b]? = w.heap[b]? := setRow_other w g b cs (by omega)
    exact .inr ⟨b, rfl, hb, by simpa using h2, fun i hi => ⟨(World.cell?_of_block (w := w) (a := ⟨b, i, none⟩) hh).trans (h3 i hi).1, (World.frozen?_of_block (w := w) (a := ⟨b, i, none⟩) hh).trans (h3 i hi).2⟩⟩

theorem Pair2.row {w : World} {g : Nat} {x y : Option Addr} {cs ps : List Int} (h : Pair2 w (g + 1) x cs y ps) (r : Array Value) : Pair2 (w.setRow g r) g x cs y ps := by
  obtain ⟨m, h1, h2, h3, h4⟩ := h
  exact ⟨m, by omega, (h2.row (by omega) r).lower (by omega), h3, h4.row (by omega) r⟩

theorem ownI_of_row {w : World} {B : Nat} {v : Value} {l : List Int} (h : w.ownsRow B 3 1 v l.length (l.map (Value.int .i64))) : OwnI w B v l.length l := h

end Go.Proofs.Ytcgmmpfckmhahaa
