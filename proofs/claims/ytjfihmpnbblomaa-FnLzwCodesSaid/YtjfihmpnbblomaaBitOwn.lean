/- A list of bits that a call gathers in a row of its own. -/
import Derived.Test.YtjfihmpnbblomaaBitRow
import Derived.Deep.AppendLies
import Derived.Laws.OwnMore
namespace Go.Proofs.Ytjfihmpnbblomaa
open Go.RowKit

theorem info_bit : (Try.prog.info? 94).map (fun i => (i.zero, i.size, i.bytes)) = some (some (.agg #[.int .i64 0, .int .i64 0]), 2, 16) := by kernel_rfl

/-- bits as they lie in memory -/
def cellsOf : List (Int × Int) → List Value
  | [] => []
  | p :: l => .int .i64 p.1 :: .int .i64 p.2 :: cellsOf l

theorem cellsOf_len : ∀ l : List (Int × Int), (cellsOf l).length = l.length * 2
  | [] => rfl
  | p :: l => by simp only [cellsOf, List.length_cons, cellsOf_len l]; omega
theorem cellsOf_get : ∀ (l : List (Int × Int)) (i : Nat) (h : i < l.length), (cellsOf l)[i * 2]? = some (.int .i64 (l[i]).1) ∧ (cellsOf l)[i * 2 + 1]? = some (.int .i64 (l[i]).2)
  | [], i, h => by simp at h
  | p :: l, 0, h => by simp [cellsOf]
  | p :: l, i + 1, h => by
    have := cellsOf_get l i (by simpa using h)
    rw [show (i + 1) * 2 = i * 2 + 1 + 1 by omega, show i * 2 + 1 + 1 + 1 = i * 2 + 1 + 1 + 1 from rfl]
    simp only [cellsOf, List.getElem?_cons_succ, List.getElem_cons_succ]
    exact this
theorem cellsOf_snoc : ∀ (l : List (Int × Int)) (v s : Int), cellsOf l ++ [.int .i64 v, .int .i64 s] = cellsOf (l ++ [(v, s)])
  | [], v, s => rfl
  | p :: l, v, s => by simp only [cellsOf, List.cons_append, cellsOf_snoc l v s]
theorem cellsOf_put (p : Int × Int) (l : List (Int × Int)) (v s : Int) : ((cellsOf (p :: l)).set 0 (.int .i64 v)).set 1 (.int .i64 s) = cellsOf ((v, s) :: l) := by simp [cellsOf]

/-- the slice v owns the bits l, n of them -/
def OwnP (w : World) (B : Nat) (v : Value) (n : Nat) (l : List (Int × Int)) : Prop := w.ownsRow B 94 2 v n (cellsOf l)

theorem OwnP.len {w : World} {B n : Nat} {v : Value} {l : List (Int × Int)} (h : OwnP w B v n l) : l.length = n := by
  have := h.1
  rw [cellsOf_len] at this; omega

theorem OwnP.bits {w : World} {B n : Nat} {v : Value} {l : List (Int × Int)} (h : OwnP w B v n l) : ∃ ao cap, v = .slice ao n cap ∧ Bits2 w ao l := by
  have hl := h.len
  rcases h.2 with ⟨rfl, h0⟩ | ⟨g, cap, cur, rfl, _, hg, _, _, _, ht⟩
  · subst h0
    exact ⟨none, 0, rfl, .inl (List.eq_nil_of_length_eq_zero hl)⟩
  · refine ⟨some ⟨g, 0, none⟩, cap, rfl, .inr ⟨g, 0, rfl, ?_, fun i hi => ?_⟩⟩
    · rcases Nat.lt_or_ge g w.heap.size with hlt | hge
      · exact hlt
      · rw [Array.getElem?_eq_none hge] at hg; cases hg
    · obtain ⟨c1, c2⟩ := cellsOf_get l i hi
      rw [Nat.zero_add]
      exact ⟨(World.ownsRow.cellAt h (i * 2) (by omega)).trans c1, (World.ownsRow.cellAt h (i * 2 + 1) (by omega)).trans c2⟩

theorem OwnP.more {w : World} {B n g cap : Nat} {l : List (Int × Int)} {v s : Int} (h : w.ownsRow B 94 2 (.slice (some ⟨g, 0, none⟩) (n + 1) cap) (n + 1) (cellsOf l ++ [.int .i64 v, .int .i64 s])) :
    OwnP w B (.slice (some ⟨g, 0, none⟩) (n + 1) cap) (n + 1) (l ++ [(v, s)]) := by
  rw [cellsOf_snoc] at h; exact h

/-- the row stays where only other blocks turn -/
theorem OwnP.same {w w' : World} {B n : Nat} {v : Value} {l : List (Int × Int)} (h : OwnP w B v n l) (hk : ∀ k, k < w.heap.size → B ≤ k → w'.heap[k]? = w.heap[k]?) : OwnP w' B v n l := by
  refine ⟨h.1, ?_⟩
  rcases h.2 with h2 | ⟨g, cap, cur, hv, hg, hh, r⟩
  · exact .inl h2
  · have hlt : g < w.heap.size := by
      rcases Nat.lt_or_ge g w.heap.size with hlt | hge
      · exact hlt
      · rw [Array.getElem?_eq_none hge] at hh; cases hh
    exact .inr ⟨g, cap, cur, hv, hg, by rw [hk g hlt hg]; exact hh, r⟩

/-- the first is another one -/
theorem OwnP.first {w : World} {B n g cap : Nat} {p : Int × Int} {l : List (Int × Int)} (h : OwnP w B (.slice (some ⟨g, 0, none⟩) n cap) n (p :: l)) (v s : Int) :
    OwnP ((w.setCell ⟨g, 0, none⟩ (.int .i64 v)).setCell ⟨g, 1, none⟩ (.int .i64 s)) B (.slice (some ⟨g, 0, none⟩) n cap) n ((v, s) :: l) := by
  have h1 := (World.ownsRow.stored h 0 (.int .i64 v)).1
  have h2 := (World.ownsRow.stored h1 1 (.int .i64 s)).1
  rw [cellsOf_put] at h2
  exact h2

theorem own_none (w : World) : OwnP (w.alloc (.cells #[] 94)) w.heap.size (.slice (some ⟨w.heap.size, 0, none⟩) 0 0) 0 [] :=
  World.ownsRow_lit w #[] 0 (Nat.le_refl _) (by decide) rfl
end Go.Proofs.Ytjfihmpnbblomaa
