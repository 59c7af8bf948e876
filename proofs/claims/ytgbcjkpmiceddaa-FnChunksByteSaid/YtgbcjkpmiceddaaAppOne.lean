/- One int appended to a row of the call's own. -/
import Derived.Test.YtgbcjkpmiceddaaIntOwn
namespace Go.Proofs.Ytgbcjkpmiceddaa
open Go.RowKit

/-- the world behind an append: only v's own row has turned, and new blocks came -/
structure Grew (base : Nat) (w0 w' : World) (v : Value) (g : Nat) : Prop where
  os : w'.os = w0.os
  tape : w'.tape = w0.tape
  output : w'.output = w0.output
  size : w0.heap.size ≤ w'.heap.size
  own : ∀ k, v.ownBlock = some k → base ≤ k ∧ k < w0.heap.size
  block : ∀ k, k < w0.heap.size → some k ≠ v.ownBlock → w'.heap[k]? = w0.heap[k]?
  at_ : v.ownBlock = some g ∨ w0.heap.size ≤ g
  lt : g < w'.heap.size

theorem Grew.below {base g B : Nat} {w0 w' W : World} {v : Value} (h : Grew base w0 w' v g) (hb : Below B W w0) (hB : B ≤ base) (hs : B ≤ w0.heap.size) : Below B W w' :=
  hb.trans ⟨h.os, h.tape, h.output, h.size, fun k hk => h.block k (by omega) (fun e => by have := (h.own k e.symm).1; omega)⟩
theorem Grew.cell {base g : Nat} {w0 w' : World} {v : Value} (h : Grew base w0 w' v g) {a : Addr} (ha : a.block < w0.heap.size) (hf : v.ownBlock ≠ some a.block) : w'.cell? a = w0.cell? a :=
  World.cell?_of_block (w := w0) (h.block a.block ha (fun e => hf e.symm))
theorem Grew.far {base g b cap n : Nat} {w0 w' : World} {v : Value} (h : Grew base w0 w' v g) (hb : b < w0.heap.size) (hf : v.ownBlock ≠ some b) : (Value.slice (some ⟨g, 0, none⟩) n cap).ownBlock ≠ some b := by
  show some g ≠ some b
  intro e
  cases e
  rcases h.at_ with e | e
  · exact hf e
  · omega

theorem Grew.of {base g e size n : Nat} {w0 w' : World} {v : Value} {xs : List Value} {o : Obj} (hown : w0.ownsRow base e size v n xs) (hg : (w0.alloc o).grownBy w' v.ownBlock) (hat : v.ownBlock = some g ∨ g = (w0.alloc o).heap.size) (hlt : g < w'.heap.size) : Grew base w0 w' v g := by
  have hs := hg.size
  rw [World.size_alloc] at hs
  refine ⟨hg.os, hg.tape, hg.output, by omega, fun k hk => World.ownsRow.lt hown k hk, fun k hk hne => ?_, ?_, hlt⟩
  · rw [hg.block k (by rw [World.size_alloc]; omega) hne]; exact Below.heap_alloc _ _ _ hk
  · rcases hat with e | e
    · exact .inl e
    · rw [World.size_alloc] at e; exact .inr (by omega)

theorem OwnI.alloc {w : World} {B n : Nat} {v : Value} {l : List Int} (h : OwnI w B v n l) (o : Obj) : OwnI (w.alloc o) B v n l := World.ownsRow.alloc (show World.ownsRow _ _ _ _ _ _ _ from h) o
theorem OwnI.far {w : World} {B n : Nat} {v : Value} {l : List Int} (h : OwnI w B v n l) {b : Nat} (hb : w.heap.size ≤ b) : v.ownBlock ≠ some b := fun e => by have := (World.ownsRow.lt h b e).2; omega
theorem ownI_nil (w : World) (B : Nat) : OwnI w B (.slice none 0 0) 0 [] := World.ownsRow_nil _ _ _ _

end Go.Proofs.Ytgbcjkpmiceddaa
