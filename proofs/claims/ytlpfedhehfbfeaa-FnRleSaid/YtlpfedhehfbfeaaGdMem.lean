/- Rows of numbers in memory. -/
import Derived.Test.YtlpfedhehfbfeaaRlMath
import Derived.Test.YtlpfedhehfbfeaaOnlyB
import Derived.Below
namespace Go.Proofs.Ytlpfedhehfbfeaa
open Go.RowKit

/-- rows of W numbers each, in blocks of their own; R holds where each lies -/
structure Gd (base : Nat) (w : World) (R : Nat) (G : List Nat) (W : Nat) (g : Rl.Grid) : Prop where
  nodup : ∀ i j (hi : i < G.length) (hj : j < G.length), i ≠ j → G[i] ≠ G[j]
  apart : ∀ b ∈ G, b ≠ R
  low : ∀ b ∈ G, base ≤ b ∧ b < w.heap.size
  row : ∀ y (h : y < G.length), w.cell? ⟨R, y, none⟩ = some (.slice (some ⟨G[y], 0, none⟩) W W)
  num : ∀ y (h : y < G.length), ∀ x, x < W → w.cell? ⟨G[y], x, none⟩ = some (.int .i64 (g y x)) ∧ w.frozen? ⟨G[y], x, none⟩ = false
theorem cellAt_same {w w' : World} {k : Nat} (h : w'.heap[k]? = w.heap[k]?) (i : Nat) : w'.cell? ⟨k, i, none⟩ = w.cell? ⟨k, i, none⟩ ∧ w'.frozen? ⟨k, i, none⟩ = w.frozen? ⟨k, i, none⟩ := by
  simp [World.cell?, World.frozen?, h]
/-- rows stay where their blocks stay -/
theorem Gd.same {base : Nat} {w w' : World} {R W : Nat} {G : List Nat} {g : Rl.Grid} (h : Gd base w R G W g) (hs : w.heap.size ≤ w'.heap.size) (hR : 0 < G.length → w'.heap[R]? = w.heap[R]?) (hG : ∀ b ∈ G, w'.heap[b]? = w.heap[b]?) : Gd base w' R G W g :=
  ⟨h.nodup, h.apart, fun b hb => ⟨(h.low b hb).1, Nat.lt_of_lt_of_le (h.low b hb).2 hs⟩, fun y hy => ((cellAt_same (hR (by omega)) y).1).trans (h.row y hy),
    fun y hy x hx => ⟨((cellAt_same (hG _ (List.getElem_mem hy)) x).1).trans (h.num y hy x hx).1, ((cellAt_same (hG _ (List.getElem_mem hy)) x).2).trans (h.num y hy x hx).2⟩⟩
/-- a number put -/
theorem Gd.put {base : Nat} {w : World} {R W : Nat} {G : List Nat} {g : Rl.Grid} (h : Gd base w R G W g) {y x : Nat} (hy : y < G.length) (hx : x < W) (b : Int) : Gd base (w.setCell ⟨G[y], x, none⟩ (.int .i64 b)) R G W (Rl.upd g y x b) := by
  have hne : ∀ b ∈ G, b ≠ R := h.apart
  refine ⟨h.nodup, h.apart, fun b hb => ⟨(h.low b hb).1, by rw [World.size_setCell]; exact (h.low b hb).2⟩, fun y' hy' => ?_, fun y' hy' x' hx' => ?_⟩
  · rw [World.cell?_setCell_other _ _ _ _ (fun e => hne _ (List.getElem_mem hy) (congrArg Addr.block e))]
    exact h.row y' hy'
  · refine ⟨?_, by rw [World.frozen?_setCell]; exact (h.num y' hy' x' hx').2⟩
    by_cases hyy : y' = y
    · subst hyy
      by_cases hxx : x' = x
      · subst hxx
        rw [World.cell?_setCell_same _ _ _ (h.num y' hy' x' hx').1, Rl.upd_same]
      · rw [World.cell?_setCell_other _ _ _ _ (fun e => hxx (congrArg Addr.off e).symm), (h.num y' hy' x' hx').1, Rl.upd_other _ _ _ _ _ _ (fun e => hxx e.2)]
    · rw [World.cell?_setCell_other _ _ _ _ (fun e => h.nodup y y' hy hy' (fun q => hyy q.symm) (congrArg Addr.block e)), (h.num y' hy' x' hx').1, Rl.upd_other _ _ _ _ _ _ (fun e => hyy e.1)]
theorem Gd.base {base base' : Nat} {w : World} {R W : Nat} {G : List Nat} {g : Rl.Grid} (h : Gd base w R G W g) (hb : base' ≤ base) : Gd base' w R G W g :=
  ⟨h.nodup, h.apart, fun b hB => ⟨Nat.le_trans hb (h.low b hB).1, (h.low b hB).2⟩, h.row, h.num⟩
end Go.Proofs.Ytlpfedhehfbfeaa
