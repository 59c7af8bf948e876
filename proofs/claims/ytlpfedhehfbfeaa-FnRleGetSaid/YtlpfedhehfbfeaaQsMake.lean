/- Rows made, by the specification. -/
import Derived.Test.YtlpfedhehfbfeaaQsMem
import Derived.Test.YtlpfedhehfbfeaaRlNew
import Derived.Deep.AppendLies
import Derived.Deep.RegionHeld
import Derived.Laws.OwnMore
namespace Go.Proofs.Ytlpfedhehfbfeaa
open Go.RowKit

/-- rows made so far: a list of blocks, in a row that the call owns -/
def rvCells (G : List Nat) (W : Nat) : List Value := G.map fun b => .slice (some ⟨b, 0, none⟩) W W
theorem rvCells_len (G : List Nat) (W : Nat) : (rvCells G W).length = G.length := by simp [rvCells]
structure Mk (w : World) (Q W : Nat) (s : ByteArray) (G : List Nat) (rv : Value) (wr : World) : Prop where
  lr : Lr wr Q s 0 rv 0 0 true
  own : wr.ownsRow (Q + 1) 26 1 rv G.length (rvCells G W)
  nodup : ∀ i j (hi : i < G.length) (hj : j < G.length), i ≠ j → G[i] ≠ G[j]
  low : ∀ b ∈ G, Q < b ∧ b < wr.heap.size
  apart : ∀ b ∈ G, some b ≠ rv.ownBlock
  num : ∀ b ∈ G, ∀ x, x < W → wr.cell? ⟨b, x, none⟩ = some (.int .i64 0) ∧ wr.frozen? ⟨b, x, none⟩ = false
  below : Below Q w wr
theorem Mk.lt {w wr : World} {Q W : Nat} {s : ByteArray} {G : List Nat} {rv : Value} (h : Mk w Q W s G rv wr) : Q < wr.heap.size := (Array.getElem?_eq_some_iff.1 h.lr).1
theorem Mk.drewN {w wr : World} {Q W : Nat} {s : ByteArray} {G : List Nat} {rv : Value} (h : Mk w Q W s G rv wr) (q : Nat) : Mk w Q W s G rv (wr.drewN q) := ⟨h.lr, h.own, h.nodup, h.low, h.apart, h.num, below_drewN h.below q⟩
theorem ownsRow_up {w w' : World} {B n : Nat} {T : TypeId} {v : Value} {l : List Value} (h : w.ownsRow B T 1 v n l) (hb : ∀ k, k < w.heap.size → B ≤ k → w'.heap[k]? = w.heap[k]?) : w'.ownsRow B T 1 v n l := by
  refine ⟨h.1, ?_⟩
  rcases h.2 with h2 | ⟨g, cap, cur, hv, hg, hh, r⟩
  · exact .inl h2
  · exact .inr ⟨g, cap, cur, hv, hg, by rw [hb g (Array.getElem?_eq_some_iff.1 hh).1 hg]; exact hh, r⟩

/-- one row more -/
theorem Mk.more {w wr w4 : World} {Q W : Nat} {s : ByteArray} {G : List Nat} {rv : Value} {g cap : Nat} (h : Mk w Q W s G rv wr)
    (ho : w4.ownsRow (Q + 1) 26 1 (.slice (some ⟨g, 0, none⟩) (G.length + 1) cap) (G.length + 1) (rvCells G W ++ [.slice (some ⟨wr.heap.size, 0, none⟩) W W]))
    (hg : ((wr.alloc (.cells (madeCells #[.int .i64 0] W) 3)).alloc (.cells #[.slice (some ⟨wr.heap.size, 0, none⟩) W W] 26)).grownBy w4 rv.ownBlock) (hat : rv.ownBlock = some g ∨ g = wr.heap.size + 2) :
    Mk w Q W s (G ++ [wr.heap.size]) (.slice (some ⟨g, 0, none⟩) (G.length + 1) cap) (w4.setCell ⟨Q, 2, none⟩ (.slice (some ⟨g, 0, none⟩) (G.length + 1) cap)) := by
  have hQ := h.lt
  have hlt0 := World.ownsRow.lt h.own
  have hz : wr.heap.size + 2 ≤ w4.heap.size := by have := hg.size; simp at this; omega
  have k0 : ∀ k, k < wr.heap.size → some k ≠ rv.ownBlock → w4.heap[k]? = wr.heap[k]? := fun k hk hne => by
    refine (hg.block k (by simp; omega) hne).trans ?_
    exact (Below.heap_alloc _ _ _ (by simp; omega)).trans (Below.heap_alloc _ _ _ hk)
  have hQo : some Q ≠ rv.ownBlock := fun e => by have := (hlt0 Q e.symm).1; omega
  have hbo : some wr.heap.size ≠ rv.ownBlock := fun e => by have := (hlt0 _ e.symm).2; omega
  have hrow : w4.heap[wr.heap.size]? = some (.cells (madeCells #[.int .i64 0] W) 3 (0, 0)) := by
    refine (hg.block _ (by simp; omega) hbo).trans ?_
    exact (Below.heap_alloc _ _ _ (by simp)).trans (World.alloc_heap_new wr _)
  have hlr4 : Lr w4 Q s 0 rv 0 0 true := (k0 Q hQ hQo).trans h.lr
  have hgne : ∀ b, b ∈ G ++ [wr.heap.size] → b ≠ g := fun b hb e => by
    rw [List.mem_append, List.mem_singleton] at hb
    rcases hb with hb | hb
    · rcases hat with hat | hat
      · exact h.apart b hb (by rw [hat, e])
      · have := (h.low b hb).2; omega
    · rcases hat with hat | hat
      · have := (hlt0 g hat).2; omega
      · omega
  refine ⟨hlr4.set rfl, ?_, ?_, ?_, ?_, ?_, ?_⟩
  · rw [List.length_append]
    have e : rvCells (G ++ [wr.heap.size]) W = rvCells G W ++ [.slice (some ⟨wr.heap.size, 0, none⟩) W W] := by simp [rvCells]
    rw [e]
    exact ownsRow_up ho (fun k hk hb => Below.heap_setCell w4 ⟨Q, 2, none⟩ _ k (fun e => by have e2 : k = Q := e; omega))
  · intro i j hi hj hne
    rw [List.length_append] at hi hj
    have hi' : i < G.length + 1 := hi
    have hj' : j < G.length + 1 := hj
    by_cases h1 : i < G.length
    · by_cases h2 : j < G.length
      · rw [List.getElem_append_left h1, List.getElem_append_left h2]; exact h.nodup i j h1 h2 hne
      · rw [List.getElem_append_left h1, List.getElem_append_right (by omega)]
        have := (h.low _ (List.getElem_mem h1)).2
        simp; omega
    · by_cases h2 : j < G.length
      · rw [List.getElem_append_right (by omega), List.getElem_append_left h2]
        have := (h.low _ (List.getElem_mem h2)).2
        simp; omega
      · omega
  · intro b hb
    rw [World.size_setCell]
    rw [List.mem_append, List.mem_singleton] at hb
    rcases hb with hb | rfl
    · have := h.low b hb; omega
    · omega
  · intro b hb e
    have e2 : some b = some g := e
    cases e2
    exact hgne g hb rfl
  · intro b hb x hx
    rw [World.frozen?_setCell]
    rw [List.mem_append, List.mem_singleton] at hb
    rcases hb with hb | rfl
    · have hl := h.low b hb
      rw [World.cell?_setCell_other _ _ _ _ (fun e => by have e2 : Q = b := congrArg Addr.block e; omega)]
      have hs := cellAt_same (k0 b hl.2 (h.apart b hb)) x
      rw [hs.1, hs.2]
      exact h.num b hb x hx
    · rw [World.cell?_setCell_other _ _ _ _ (fun e => by have e2 : Q = wr.heap.size := congrArg Addr.block e; omega)]
      refine ⟨?_, by simp [World.frozen?, hrow]⟩
      rw [cell_of_row _ _ _ _ _ _ hrow, made_get _ _ _ hx]
  · refine Below.setCell (p := ⟨Q, 2, none⟩) ?_ (Nat.le_refl _) _
    refine (((h.below.alloc (by omega) _).alloc (by simp; omega) _).grown hg (by simp; omega) (fun k hk => by have := (hlt0 k hk).1; omega))

/-- all rows made -/
theorem Mk.gd {w wr : World} {Q W : Nat} {s : ByteArray} {G : List Nat} {ao : Option Addr} {cp : Nat} (h : Mk w Q W s G (.slice ao G.length cp) wr) : ∃ R, (G = [] ∨ ao = some ⟨R, 0, none⟩) ∧ R ≠ Q ∧ (G ≠ [] → Q < R ∧ R < wr.heap.size) ∧ Gd (Q + 1) wr R G W Rl.zero := by
  rcases h.own.2 with ⟨_, h0⟩ | ⟨g, cap, cur, e, hg, hh, _⟩
  · have hG : G = [] := List.eq_nil_of_length_eq_zero h0
    subst hG
    exact ⟨Q + 1, .inl rfl, by omega, fun h => absurd rfl h, fun i j hi => (by simp at hi), fun b hb => (by cases hb), fun b hb => (by cases hb), fun y hy => (by simp at hy), fun y hy => (by simp at hy)⟩
  · cases e
    refine ⟨g, .inr rfl, by omega, fun _ => ⟨by omega, (Array.getElem?_eq_some_iff.1 hh).1⟩, h.nodup, fun b hb e => h.apart b hb (by rw [e]; rfl), fun b hb => ⟨by have := (h.low b hb).1; omega, (h.low b hb).2⟩, fun y hy => ?_, fun y hy x hx => h.num _ (List.getElem_mem hy) x hx⟩
    rw [World.ownsRow.cellAt h.own y (by omega)]
    simp [rvCells, hy]

/-- the rows of the specification, made -/
def MkEnd (w : World) (Q W H : Nat) (s : ByteArray) (wr : World) : Prop := ∃ (G : List Nat) (ao : Option Addr) (cp : Nat), G.length = H ∧ Mk w Q W s G (.slice ao G.length cp) wr
theorem l7Rle_new (s : ByteArray) (W : Nat) (w : World) : Mk w w.heap.size W s [] (.slice none 0 0) (w.alloc (.cells #[.string s, .int .i64 0, .slice none 0 0, .int .i64 0, .int .i64 0, .bool true] 74)) := by
  constructor
  · exact World.alloc_heap_new w _
  · exact World.ownsRow_nil _ _ _ _
  · intro i j hi
    simp at hi
  · intro b hb
    cases hb
  · intro b hb
    cases hb
  · intro b hb
    cases hb
  · exact (Below.refl _ _).alloc (Nat.le_refl _) _
end Go.Proofs.Ytlpfedhehfbfeaa
