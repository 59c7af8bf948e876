/- A list of pieces that a call gathers in a row of its own. -/
import Derived.Test.YtgbcjkpmiceddaaChRow
import Derived.Deep.AppendLies
import Derived.Laws.OwnMore
namespace Go.Proofs.Ytgbcjkpmiceddaa
open Go.RowKit

theorem info_chunk : (Try.prog.info? 46).map (fun i => (i.zero, i.size, i.bytes)) = some (some (.agg #[.string ⟨#[]⟩, .string ⟨#[]⟩]), 2, 32) := by kernel_rfl

/-- pieces as they lie in memory -/
def chCells : List (ByteArray × ByteArray) → List Value
  | [] => []
  | p :: l => .string p.1 :: .string p.2 :: chCells l

theorem chCells_len : ∀ l : List (ByteArray × ByteArray), (chCells l).length = l.length * 2
  | [] => rfl
  | p :: l => by simp only [chCells, List.length_cons, chCells_len l]; omega
theorem chCells_get : ∀ (l : List (ByteArray × ByteArray)) (i : Nat) (h : i < l.length), (chCells l)[i * 2]? = some (.string (l[i]).1) ∧ (chCells l)[i * 2 + 1]? = some (.string (l[i]).2)
  | [], i, h => by simp at h
  | p :: l, 0, h => by simp [chCells]
  | p :: l, i + 1, h => by
    have := chCells_get l i (by simpa using h)
    rw [show (i + 1) * 2 = i * 2 + 1 + 1 by omega, show i * 2 + 1 + 1 + 1 = i * 2 + 1 + 1 + 1 from rfl]
    simp only [chCells, List.getElem?_cons_succ, List.getElem_cons_succ]
    exact this
theorem chCells_snoc : ∀ (l : List (ByteArray × ByteArray)) (v s : ByteArray), chCells l ++ [.string v, .string s] = chCells (l ++ [(v, s)])
  | [], v, s => rfl
  | p :: l, v, s => by simp only [chCells, List.cons_append, chCells_snoc l v s]
theorem chCells_put (p : ByteArray × ByteArray) (l : List (ByteArray × ByteArray)) (v s : ByteArray) : ((chCells (p :: l)).set 0 (.string v)).set 1 (.string s) = chCells ((v, s) :: l) := by simp [chCells]

/-- the slice v owns the pieces l, n of them -/
def OwnC (w : World) (B : Nat) (v : Value) (n : Nat) (l : List (ByteArray × ByteArray)) : Prop := w.ownsRow B 46 2 v n (chCells l)

theorem OwnC.len {w : World} {B n : Nat} {v : Value} {l : List (ByteArray × ByteArray)} (h : OwnC w B v n l) : l.length = n := by
  have := h.1
  rw [chCells_len] at this; omega

theorem OwnC.chs {w : World} {B n : Nat} {v : Value} {l : List (ByteArray × ByteArray)} (h : OwnC w B v n l) : ∃ ao cap, v = .slice ao n cap ∧ Chs2 w ao l := by
  have hl := h.len
  rcases h.2 with ⟨rfl, h0⟩ | ⟨g, cap, cur, rfl, _, hg, _, _, _, ht⟩
  · subst h0
    exact ⟨none, 0, rfl, .inl (List.eq_nil_of_length_eq_zero hl)⟩
  · refine ⟨some ⟨g, 0, none⟩, cap, rfl, .inr ⟨g, 0, rfl, ?_, fun i hi => ?_⟩⟩
    · rcases Nat.lt_or_ge g w.heap.size with hlt | hge
      · exact hlt
      · rw [Array.getElem?_eq_none hge] at hg; cases hg
    · obtain ⟨c1, c2⟩ := chCells_get l i hi
      rw [Nat.zero_add]
      exact ⟨(World.ownsRow.cellAt h (i * 2) (by omega)).trans c1, (World.ownsRow.cellAt h (i * 2 + 1) (by omega)).trans c2⟩

theorem OwnC.more {w : World} {B n g cap : Nat} {l : List (ByteArray × ByteArray)} {v s : ByteArray} (h : w.ownsRow B 46 2 (.slice (some ⟨g, 0, none⟩) (n + 1) cap) (n + 1) (chCells l ++ [.string v, .string s])) :
    OwnC w B (.slice (some ⟨g, 0, none⟩) (n + 1) cap) (n + 1) (l ++ [(v, s)]) := by
  rw [chCells_snoc] at h; exact h

/-- the row stays where only other blocks turn -/
theorem OwnC.same {w w' : World} {B n : Nat} {v : Value} {l : List (ByteArray × ByteArray)} (h : OwnC w B v n l) (hk : ∀ k, k < w.heap.size → B ≤ k → w'.heap[k]? = w.heap[k]?) : OwnC w' B v n l := by
  refine ⟨h.1, ?_⟩
  rcases h.2 with h2 | ⟨g, cap, cur, hv, hg, hh, r⟩
  · exact .inl h2
  · have hlt : g < w.heap.size := by
      rcases Nat.lt_or_ge g w.heap.size with hlt | hge
      · exact hlt
      · rw [Array.getElem?_eq_none hge] at hh; cases hh
    exact .inr ⟨g, cap, cur, hv, hg, by rw [hk g hlt hg]; exact hh, r⟩

/-- the first is another one -/
theorem OwnC.first {w : World} {B n g cap : Nat} {p : ByteArray × ByteArray} {l : List (ByteArray × ByteArray)} (h : OwnC w B (.slice (some ⟨g, 0, none⟩) n cap) n (p :: l)) (v s : ByteArray) :
    OwnC ((w.setCell ⟨g, 0, none⟩ (.string v)).setCell ⟨g, 1, none⟩ (.string s)) B (.slice (some ⟨g, 0, none⟩) n cap) n ((v, s) :: l) := by
  have h1 := (World.ownsRow.stored h 0 (.string v)).1
  have h2 := (World.ownsRow.stored h1 1 (.string s)).1
  rw [chCells_put] at h2
  exact h2

theorem ch_own_none (w : World) : OwnC (w.alloc (.cells #[] 46)) w.heap.size (.slice (some ⟨w.heap.size, 0, none⟩) 0 0) 0 [] :=
  World.ownsRow_lit w #[] 0 (Nat.le_refl _) (by decide) rfl
end Go.Proofs.Ytgbcjkpmiceddaa
