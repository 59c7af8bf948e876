/- Lists of ints that stay, and one that is copied into a row of its own. -/
import Derived.Test.YtjfihmpnbblomaaMarkWalks
import Derived.Below
namespace Go.Proofs.Ytjfihmpnbblomaa
open Go.RowKit

/-- a list that lay below stays -/
theorem Ints.low {w0 w w' : World} {lo : Nat} {a : Option Addr} {l : List Int} (h0 : Ints w0 a l) (h : Ints w a l) (hb : Below lo w w') (hlo : w0.heap.size ≤ lo) : Ints w' a l := by
  rcases h0 with e | ⟨b, off, rfl, hb0, _⟩
  · exact .inl e
  · rcases h with e | ⟨c, off', e, hc, hcell⟩
    · exact .inl e
    · cases e
      exact .inr ⟨b, off, rfl, Nat.lt_of_lt_of_le hc hb.size, fun i hi => (hb.cell (p := ⟨b, off + i, none⟩) (show b < lo by omega)).trans (hcell i hi)⟩

/-- a list that lay elsewhere stays -/
theorem Ints.aside {w0 w w' : World} {L : Nat} {a : Option Addr} {l : List Int} (h0 : Ints w0 a l) (h : Ints w a l) (hT : Turned L w w') (hlo : w0.heap.size ≤ L) : Ints w' a l := by
  rcases h0 with e | ⟨b, off, rfl, hb0, _⟩
  · exact .inl e
  · exact hT.ints h (fun x e => by cases e; show ¬ b = L; omega)

theorem own_cp (w : World) (zs : List Int) (n : Nat) (hn : zs.length = n) : Own (w.alloc (.cells (cp zs n) 3)) w.heap.size n (fun i => zs.getD i 0) := by
  refine ⟨by simp, fun i hi => ⟨?_, ?_⟩⟩
  · rw [World.cell?_alloc_at _ _ _ _ rfl, cp_get _ _ _ (by omega), if_pos hi]
  · rw [World.frozen?_alloc_at _ _ _ _ rfl]

theorem Own.kept {w w' : World} {b n : Nat} {f : Nat → Int} (h : Own w b n f) (hb : Below w.heap.size w w') : Own w' b n f :=
  ⟨Nat.lt_of_lt_of_le h.1 hb.size, fun i hi => ⟨(hb.cell (p := ⟨b, i, none⟩) h.1).trans (h.2 i hi).1, (hb.frozen (p := ⟨b, i, none⟩) h.1).trans (h.2 i hi).2⟩⟩

theorem drewN_below (w : World) (m : Nat) : Below w.heap.size w (w.drewN m) := below_drewN (Below.refl _ _) _
end Go.Proofs.Ytjfihmpnbblomaa
