/- What stays but two blocks. -/
import Derived.Test.YtmfnepibhhhdcaaOnlyB
namespace Go.Proofs.Ytmfnepibhhhdcaa
open Go.RowKit

/-- nothing below a height has turned but two blocks -/
structure Off (B O base : Nat) (w w' : World) : Prop where
  os : w'.os = w.os
  tape : w'.tape = w.tape
  output : w'.output = w.output
  size : w.heap.size ≤ w'.heap.size
  rest : ∀ k, k < base → k ≠ B → k ≠ O → w'.heap[k]? = w.heap[k]?
theorem Off.refl (B O base : Nat) (w : World) : Off B O base w w := ⟨rfl, rfl, rfl, Nat.le_refl _, fun _ _ _ _ => rfl⟩
theorem Off.trans {B O base : Nat} {a b c : World} (h : Off B O base a b) (g : Off B O base b c) : Off B O base a c :=
  ⟨g.os.trans h.os, g.tape.trans h.tape, g.output.trans h.output, Nat.le_trans h.size g.size, fun k hk h1 h2 => (g.rest k hk h1 h2).trans (h.rest k hk h1 h2)⟩
theorem Off.drewN {B O base : Nat} {a b : World} (h : Off B O base a b) (n : Nat) : Off B O base a (b.drewN n) := ⟨h.os, h.tape, h.output, h.size, h.rest⟩
theorem Off.wide {O base : Nat} {a b : World} (h : Off O O base a b) (B : Nat) : Off B O base a b := ⟨h.os, h.tape, h.output, h.size, fun k hk _ h2 => h.rest k hk h2 h2⟩
theorem Only.off {B : Nat} {w w' : World} (h : Only B w w') (O base : Nat) (hb : base ≤ w.heap.size) : Off B O base w w' := ⟨h.below.os, h.below.tape, h.below.output, h.below.size, fun k hk h1 _ => h.rest k (by omega) h1⟩
theorem Off.below {B O base n : Nat} {w w' : World} (h : Off B O base w w') (h1 : n ≤ B) (h2 : n ≤ O) (h3 : n ≤ base) : Below n w w' := ⟨h.os, h.tape, h.output, h.size, fun k hk => h.rest k (by omega) (by omega) (by omega)⟩
end Go.Proofs.Ytmfnepibhhhdcaa
