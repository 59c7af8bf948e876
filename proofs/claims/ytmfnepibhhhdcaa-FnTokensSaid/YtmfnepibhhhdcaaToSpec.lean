/- TokensOut of the specification. -/
import Derived.Test.YtmfnepibhhhdcaaToMath
import Derived.Test.YtmfnepibhhhdcaaOwnText
import Derived.Test.YtmfnepibhhhdcaaInWalks
namespace Go.Proofs.Ytmfnepibhhhdcaa
open Go.RowKit

theorem ToT.shape {w : World} {B n : Nat} {v : Value} {l : List UInt8} (h : OwnT w B v n l) : ∃ ao cap, v = .slice ao n cap := by
  rcases h.2 with ⟨rfl, h0⟩ | ⟨g, cap, cur, rfl, _⟩
  · exact ⟨none, 0, by rw [h0]⟩
  · exact ⟨_, _, rfl⟩
theorem ToT.at {w : World} {B n j : Nat} {ao : Option Addr} {cap : Nat} {l : List UInt8} (h : OwnT w B (.slice ao n cap) n l) (hj : j < n) : ∃ g, ao = some ⟨g, 0, none⟩ ∧ w.cell? ⟨g, j, none⟩ = some (.int .u8 (((l.getD j 0).toNat : Nat) : Int)) := by
  rcases h.2 with ⟨h1, h0⟩ | ⟨g, cap', cur, hv, hb, hg, hn, hm, hs, ht⟩
  · omega
  · simp only [Value.slice.injEq] at hv
    obtain ⟨rfl, _, rfl⟩ := hv
    refine ⟨g, rfl, ?_⟩
    have hh : OwnT w B (.slice (some ⟨g, 0, none⟩) n cap) n l := h
    have hc := World.ownsRow.cellAt hh j (by omega)
    rw [hc]
    have hl := hh.len
    simp [u8V, List.getD_eq_getElem?_getD, List.getElem?_eq_getElem (show j < l.length by omega)]
/-- the box of a token -/
def Kx (w : World) (k : Nat) (v s d : Int) : Prop := w.heap[k]? = some (.cells #[.int .i64 v, .int .i64 s, .int .i64 d] 39 (0, 0))
theorem Kx.lt {w : World} {k : Nat} {v s d : Int} (h : Kx w k v s d) : k < w.heap.size := (Array.getElem?_eq_some_iff.1 h).1
theorem Kx.cells {w : World} {k : Nat} {v s d : Int} (h : Kx w k v s d) : w.cell? ⟨k, 0, none⟩ = some (.int .i64 v) ∧ w.cell? ⟨k, 1, none⟩ = some (.int .i64 s) ∧ w.cell? ⟨k, 2, none⟩ = some (.int .i64 d) := by
  refine ⟨?_, ?_, ?_⟩ <;> simp [World.cell?, show w.heap[k]? = _ from h]
theorem Kx.below {w w' : World} {k : Nat} {v s d : Int} (h : Kx w k v s d) (hb : Below w.heap.size w w') : Kx w' k v s d := (hb.block k h.lt).trans h
theorem Kx.not_row {w : World} {k B n : Nat} {v s d : Int} {u : Value} {l : List UInt8} (h : Kx w k v s d) (ho : OwnT w B u n l) : u.ownBlock ≠ some k := by
  rcases ho.2 with ⟨rfl, _⟩ | ⟨g, cap, cur, rfl, _, hg, _⟩
  · intro e; cases e
  · intro e
    have e' : g = k := by simpa [Value.ownBlock] using e
    subst e'
    rw [show w.heap[g]? = _ from h] at hg
    simp at hg
theorem Kx.grew {base g : Nat} {w0 w' : World} {k B n : Nat} {v s d : Int} {u : Value} {l : List UInt8} (h : Kx w0 k v s d) (ho : OwnT w0 B u n l) (hg : Grew base w0 w' u g) : Kx w' k v s d := (hg.block k h.lt (fun e => h.not_row ho e.symm)).trans h

/-- how TokensOut ends -/
def ToEnd (w : World) (ts : List Tk) (e : Ending) (w' : World) : Prop := e = .returned (.tuple #[.string ⟨(To.ansL ts).toArray⟩, .bool (To.ansB ts)]) ∧ Below w.heap.size w w'
theorem toEnd_none {w w' : World} {ts : List Tk} {e : Ending} (h : To.get ts [] = none) (h1 : e = .returned (.tuple #[.string ⟨#[]⟩, .bool false])) (h2 : Below w.heap.size w w') : ToEnd w ts e w' := by
  refine ⟨?_, h2⟩
  unfold To.ansL To.ansB
  rw [h]; exact h1
theorem toEnd_some {w w' : World} {ts : List Tk} {e : Ending} (l : List UInt8) (h : To.get ts [] = some l) (h1 : e = .returned (.tuple #[.string ⟨l.toArray⟩, .bool true])) (h2 : Below w.heap.size w w') : ToEnd w ts e w' := by
  refine ⟨?_, h2⟩
  unfold To.ansL To.ansB
  rw [h]; exact h1
theorem ownT_none2 (w : World) : OwnT (w.alloc (.cells #[] 5)) w.heap.size (.slice (some ⟨w.heap.size, 0, none⟩) 0 0) 0 [] :=
  World.ownsRow_lit w #[] 0 (Nat.le_refl _) (by decide) rfl

end Go.Proofs.Ytmfnepibhhhdcaa
