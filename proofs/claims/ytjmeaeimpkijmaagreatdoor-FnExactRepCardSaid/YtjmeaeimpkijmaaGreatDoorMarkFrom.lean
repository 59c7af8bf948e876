/- Marks laid into a picture's lists, from a number on, and found again. -/
import Derived.Test.YtjmeaeimpkijmaaGreatDoorDrawnWalks
import Derived.Test.YtjmeaeimpkijmaaGreatDoorMarkRow
namespace Go.Proofs.YtjmeaeimpkijmaaGreatDoor
open Go.RowKit

def mixS (s : Nat) (f : Nat → Int) (k i : Nat) : Int := if i < k then ((s + i : Nat) : Int) else f i
theorem mixS_lt (s : Nat) (f : Nat → Int) {k i : Nat} (h : i < k) : mixS s f k i = ((s + i : Nat) : Int) := if_pos h
theorem mixS_ge (s : Nat) (f : Nat → Int) {k i : Nat} (h : ¬ i < k) : mixS s f k i = f i := if_neg h

theorem Own.stepS {w : World} {b n k : Nat} {f g : Nat → Int} (v : Int) (h : Own w b n f) (hk : k < n) (hg : g k = v) (hf : ∀ i, i < n → i ≠ k → g i = f i) :
    Own (w.setCell ⟨b, k, none⟩ (.int .i64 v)) b n g := by
  refine ⟨by rw [World.size_setCell]; exact h.1, fun i hi => ⟨?_, ?_⟩⟩
  · by_cases e : i = k
    · subst e; rw [World.cell?_setCell_same _ _ _ (h.2 i hi).1, hg]
    · rw [World.cell?_setCell_other _ _ _ _ (fun q => e (congrArg Addr.off q).symm), (h.2 i hi).1, hf i hi e]
  · rw [World.frozen?_setCell]; exact (h.2 i hi).2

/-- marks from s on -/
def marksS (s M : Nat) : List Int := (List.range M).map fun i : Nat => ((s + i : Nat) : Int)
theorem marksS_len (s M : Nat) : (marksS s M).length = M := by simp [marksS]
theorem marksS_get (s M i : Nat) (h : i < M) : (marksS s M)[i]'(by rw [marksS_len]; exact h) = ((s + i : Nat) : Int) := by simp [marksS]

/-- blocks outside of a stretch lie as they lay -/
structure Outside (lo hi : Nat) (w w' : World) : Prop where
  os : w'.os = w.os
  tape : w'.tape = w.tape
  output : w'.output = w.output
  size : w.heap.size ≤ w'.heap.size
  rest : ∀ k, k < w.heap.size → (k < lo ∨ hi ≤ k) → w'.heap[k]? = w.heap[k]?
theorem Outside.trans {lo hi : Nat} {a b c : World} (h : Outside lo hi a b) (g : Outside lo hi b c) : Outside lo hi a c :=
  ⟨g.os.trans h.os, g.tape.trans h.tape, g.output.trans h.output, Nat.le_trans h.size g.size, fun k hk ho => (g.rest k (Nat.lt_of_lt_of_le hk h.size) ho).trans (h.rest k hk ho)⟩
theorem Outside.of_below {lo hi : Nat} {a b : World} (h : Below a.heap.size a b) : Outside lo hi a b := ⟨h.os, h.tape, h.output, h.size, fun k hk _ => h.block k hk⟩
theorem Outside.of_turned {lo hi c : Nat} {a b : World} (h : Turned c a b) (h1 : lo ≤ c) (h2 : c < hi) : Outside lo hi a b := ⟨h.os, h.tape, h.output, Nat.le_of_eq h.size.symm, fun k _ ho => h.rest k (by omega)⟩
theorem Outside.below {lo hi n : Nat} {a b : World} (h : Outside lo hi a b) (hn : n ≤ lo) (hs : n ≤ a.heap.size) : Below n a b := ⟨h.os, h.tape, h.output, h.size, fun k hk => h.rest k (by omega) (.inl (by omega))⟩

theorem Outside.wide {lo hi lo' hi' : Nat} {a b : World} (h : Outside lo hi a b) (h1 : lo' ≤ lo) (h2 : hi ≤ hi') : Outside lo' hi' a b := ⟨h.os, h.tape, h.output, h.size, fun k hk ho => h.rest k hk (by omega)⟩

/-- a list of the call's own in blocks of a stretch -/
def OwnsIn (w : World) (lo hi : Nat) (a : Option Addr) (l : List Int) : Prop :=
  l = [] ∨ ∃ b, a = some ⟨b, 0, none⟩ ∧ lo ≤ b ∧ b < hi ∧ Own w b l.length (fun i => l.getD i 0)
theorem Owns.inn {w : World} {lo : Nat} {a : Option Addr} {l : List Int} (h : Owns w lo a l) : OwnsIn w lo w.heap.size a l := by
  rcases h with e | ⟨b, rfl, h1, h2, h3⟩
  · exact .inl e
  · exact .inr ⟨b, rfl, h1, h2, own_of rfl h2 h3⟩
theorem OwnsIn.ints {w : World} {lo hi : Nat} {a : Option Addr} {l : List Int} (h : OwnsIn w lo hi a l) : Ints w a l := by
  rcases h with e | ⟨b, rfl, h1, h2, h3⟩
  · exact .inl e
  · refine .inr ⟨b, 0, rfl, h3.1, fun i hi => ?_⟩
    have := (h3.2 i hi).1
    rw [Nat.zero_add]
    simpa [List.getElem?_eq_getElem hi] using this
theorem OwnsIn.out {w w' : World} {lo hi lo' hi' : Nat} {a : Option Addr} {l : List Int} (h : OwnsIn w lo hi a l) (g : Outside lo' hi' w w') (ho : hi ≤ lo' ∨ hi' ≤ lo) : OwnsIn w' lo hi a l := by
  rcases h with e | ⟨b, rfl, h1, h2, h3⟩
  · exact .inl e
  · have hb := g.rest b h3.1 (by omega)
    exact .inr ⟨b, rfl, h1, h2, Nat.lt_of_lt_of_le h3.1 g.size, fun i hi => ⟨(World.cell?_of_block (w := w) (a := ⟨b, i, none⟩) hb).trans (h3.2 i hi).1, (World.frozen?_of_block (w := w) (a := ⟨b, i, none⟩) hb).trans (h3.2 i hi).2⟩⟩
theorem OwnsIn.kept {w w' : World} {lo hi : Nat} {a : Option Addr} {l : List Int} (h : OwnsIn w lo hi a l) (g : Below w.heap.size w w') : OwnsIn w' lo hi a l := h.out (Outside.of_below (lo := 0) (hi := 0) g) (by omega)
theorem Ints.out {w0 w w' : World} {lo hi : Nat} {a : Option Addr} {l : List Int} (h0 : Ints w0 a l) (h : Ints w a l) (g : Outside lo hi w w') (hl : w0.heap.size ≤ lo) : Ints w' a l := by
  rcases h0 with e | ⟨b, off, rfl, hb, _⟩
  · exact .inl e
  · rcases h with e | ⟨c, off', e, hc, hcell⟩
    · exact .inl e
    · cases e
      exact .inr ⟨b, off, rfl, Nat.lt_of_lt_of_le hc g.size, fun i hi => (World.cell?_of_block (w := w) (a := ⟨b, off + i, none⟩) (g.rest b hc (by omega))).trans (hcell i hi)⟩

end Go.Proofs.YtjmeaeimpkijmaaGreatDoor
