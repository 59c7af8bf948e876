/- Marks laid into a list of the call's own, and found again. -/
import Derived.Test.YtjmeaeimpkijmaaGreatDoorOwnRow
namespace Go.Proofs.YtjmeaeimpkijmaaGreatDoor
open Go.RowKit

/-- n cells at the head of block b, which can be written -/
def Own (w : World) (b n : Nat) (f : Nat → Int) : Prop := b < w.heap.size ∧ ∀ i, i < n → w.cell? ⟨b, i, none⟩ = some (.int .i64 (f i)) ∧ w.frozen? ⟨b, i, none⟩ = false

/-- nothing but block b has turned -/
structure Turned (b : Nat) (w w' : World) : Prop where
  os : w'.os = w.os
  tape : w'.tape = w.tape
  output : w'.output = w.output
  size : w'.heap.size = w.heap.size
  rest : ∀ k, k ≠ b → w'.heap[k]? = w.heap[k]?

theorem Turned.refl (b : Nat) (w : World) : Turned b w w := ⟨rfl, rfl, rfl, rfl, fun _ _ => rfl⟩
theorem Turned.set {b : Nat} {w w' : World} (h : Turned b w w') (i : Nat) (v : Value) : Turned b w (w'.setCell ⟨b, i, none⟩ v) :=
  ⟨h.os, h.tape, h.output, by rw [World.size_setCell]; exact h.size, fun k hk => (Below.heap_setCell w' ⟨b, i, none⟩ v k hk).trans (h.rest k hk)⟩
theorem Turned.below {b lo : Nat} {w w' : World} (h : Turned b w w') (hb : lo ≤ b) : Below lo w w' :=
  ⟨h.os, h.tape, h.output, Nat.le_of_eq h.size.symm, fun k hk => h.rest k (by omega)⟩
theorem Turned.ints {b : Nat} {w w' : World} (h : Turned b w w') {a : Option Addr} {zs : List Int} (hI : Ints w a zs) (hne : ∀ x, a = some x → x.block ≠ b) : Ints w' a zs := by
  rcases hI with e | ⟨c, off, rfl, hc, hcell⟩
  · exact .inl e
  · exact .inr ⟨c, off, rfl, by rw [h.size]; exact hc, fun i hi => (World.cell?_of_block (w := w) (a := ⟨c, off + i, none⟩) (h.rest c (hne _ rfl))).trans (hcell i hi)⟩
theorem Turned.owns {b lo : Nat} {w w' : World} (h : Turned b w w') {a : Option Addr} {l : List Int} (hI : Owns w lo a l) (hne : b < lo) : Owns w' lo a l := by
  rcases hI with e | ⟨c, rfl, hlo, hc, hcell⟩
  · exact .inl e
  · refine .inr ⟨c, rfl, hlo, by rw [h.size]; exact hc, fun i hi => ⟨?_, ?_⟩⟩
    · exact (World.cell?_of_block (w := w) (a := ⟨c, i, none⟩) (h.rest c (by omega))).trans (hcell i hi).1
    · exact (World.frozen?_of_block (w := w) (a := ⟨c, i, none⟩) (h.rest c (by omega))).trans (hcell i hi).2
theorem Owns.kept {w w' : World} {lo : Nat} {a : Option Addr} {l : List Int} (h : Owns w lo a l) (hb : Below w.heap.size w w') : Owns w' lo a l := by
  rcases h with e | ⟨c, rfl, hlo, hc, hcell⟩
  · exact .inl e
  · exact .inr ⟨c, rfl, hlo, Nat.lt_of_lt_of_le hc hb.size, fun i hi => ⟨(hb.cell (p := ⟨c, i, none⟩) hc).trans (hcell i hi).1, (hb.frozen (p := ⟨c, i, none⟩) hc).trans (hcell i hi).2⟩⟩

theorem Own.step {w : World} {b n k : Nat} {f g : Nat → Int} (h : Own w b n f) (hk : k < n) (hg : g k = (k : Int) + 1) (hf : ∀ i, i < n → i ≠ k → g i = f i) :
    Own (w.setCell ⟨b, k, none⟩ (.int .i64 ((k : Int) + 1))) b n g := by
  refine ⟨by rw [World.size_setCell]; exact h.1, fun i hi => ⟨?_, ?_⟩⟩
  · by_cases e : i = k
    · subst e; rw [World.cell?_setCell_same _ _ _ (h.2 i hi).1, hg]
    · rw [World.cell?_setCell_other _ _ _ _ (fun q => e (congrArg Addr.off q).symm), (h.2 i hi).1, hf i hi e]
  · rw [World.frozen?_setCell]; exact (h.2 i hi).2

def mix (f : Nat → Int) (k i : Nat) : Int := if i < k then (i : Int) + 1 else f i
theorem mix_lt (f : Nat → Int) {k i : Nat} (h : i < k) : mix f k i = (i : Int) + 1 := if_pos h
theorem mix_ge (f : Nat → Int) {k i : Nat} (h : ¬ i < k) : mix f k i = f i := if_neg h

end Go.Proofs.YtjmeaeimpkijmaaGreatDoor
