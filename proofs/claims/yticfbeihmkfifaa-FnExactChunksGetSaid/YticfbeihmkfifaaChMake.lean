/- A list of pieces that is made at once, and filled place by place. -/
import Derived.Test.YticfbeihmkfifaaChOwn
import Derived.Laws.MakeOwn
namespace Go.Proofs.Yticfbeihmkfifaa
open Go.RowKit

theorem chCells_set : ∀ (l : List (ByteArray × ByteArray)) (k : Nat) (v s : ByteArray), k < l.length → ((chCells l).set (k * 2) (.string v)).set (k * 2 + 1) (.string s) = chCells (l.set k (v, s))
  | [], k, v, s, h => by simp at h
  | p :: l, 0, v, s, h => by simp [chCells]
  | p :: l, k + 1, v, s, h => by
    have := chCells_set l k v s (by simpa using h)
    rw [show (k + 1) * 2 = k * 2 + 1 + 1 by omega]
    simp only [chCells, List.set_cons_succ]
    rw [this]

theorem OwnC.put {w : World} {B n g cap k : Nat} {l : List (ByteArray × ByteArray)} (h : OwnC w B (.slice (some ⟨g, 0, none⟩) n cap) n l) (hk : k < n) (v s : ByteArray) :
    OwnC ((w.setCell ⟨g, k * 2, none⟩ (.string v)).setCell ⟨g, k * 2 + 1, none⟩ (.string s)) B (.slice (some ⟨g, 0, none⟩) n cap) n (l.set k (v, s)) := by
  have h1 := (World.ownsRow.stored h (k * 2) (.string v)).1
  have h2 := (World.ownsRow.stored h1 (k * 2 + 1) (.string s)).1
  rw [chCells_set l k v s (by rw [h.len]; exact hk)] at h2
  exact h2

/-- the first k are copied, the others are nothing yet -/
def chHalf (l : List (ByteArray × ByteArray)) (k : Nat) : List (ByteArray × ByteArray) := l.take k ++ List.replicate (l.length - k) (⟨#[]⟩, ⟨#[]⟩)
theorem chHalf_zero (l : List (ByteArray × ByteArray)) : chHalf l 0 = List.replicate l.length (⟨#[]⟩, ⟨#[]⟩) := by simp [chHalf]
theorem chHalf_all (l : List (ByteArray × ByteArray)) : chHalf l l.length = l := by simp [chHalf]
theorem chHalf_set (l : List (ByteArray × ByteArray)) (k : Nat) (h : k < l.length) : (chHalf l k).set k ((l[k]).1, (l[k]).2) = chHalf l (k + 1) := by
  unfold chHalf
  rw [List.take_succ_eq_append_getElem h, show l.length - k = (l.length - (k + 1)) + 1 by omega, List.replicate_succ, List.append_assoc]
  have e : (l.take k).length = k := by rw [List.length_take]; omega
  rw [List.set_append_right _ _ (by omega), e, Nat.sub_self]
  rfl
theorem chHalf_get (l : List (ByteArray × ByteArray)) (k : Nat) (h : k < l.length) : k < (chHalf l k).length := by
  unfold chHalf; simp; omega

theorem ch_cells_zero : ∀ n, chCells (List.replicate n (⟨#[]⟩, ⟨#[]⟩)) = List.replicate (n * 2) (.string ⟨#[]⟩)
  | 0 => rfl
  | n + 1 => by rw [List.replicate_succ, chCells, ch_cells_zero n, show (n + 1) * 2 = n * 2 + 1 + 1 by omega, List.replicate_succ, List.replicate_succ]

theorem ch_made_zero (n : Nat) : (madeCells #[Value.string ⟨#[]⟩, .string ⟨#[]⟩] (n * 2)).toList = List.replicate (n * 2) (.string ⟨#[]⟩) := by
  apply List.ext_getElem?
  intro j
  by_cases hj : j < n * 2
  · simp only [madeCells, List.getElem?_replicate, if_pos hj]
    have : j % 2 = 0 ∨ j % 2 = 1 := by omega
    rcases this with h | h <;> simp [hj, h]
  · rw [List.getElem?_eq_none (by simp [size_madeCells]; omega), List.getElem?_eq_none (by simp; omega)]

theorem make_chunks (n : Nat) (hl : n ≤ 2000000) (w : World) :
    (Instr.makeSlice 48 (.int .i64 (n : Int)) (.int .i64 (n : Int))).run Try.prog w = .ok (.slice (some ⟨w.heap.size, 0, none⟩) n n) (w.alloc (.cells (madeCells #[.string ⟨#[]⟩, .string ⟨#[]⟩] (n * 2)) 91)) := by
  obtain ⟨i0, hi, hz0, hz1, hz2⟩ := info_parts info_chunk
  have h := run_make (P := Try.prog) w 48 91 i0 (.agg #[.string ⟨#[]⟩, .string ⟨#[]⟩]) Try.underlying48 hi hz0 .i64 .i64 (n : Int) (n : Int) (by omega) (by omega) (by rw [hz2]; omega) (by omega)
  rw [h, Int.toNat_natCast, hz1]
  rfl

theorem own_chmade (w : World) (l : List (ByteArray × ByteArray)) (hl : l.length ≤ 2000000) : OwnC (w.alloc (.cells (madeCells #[.string ⟨#[]⟩, .string ⟨#[]⟩] (l.length * 2)) 91)) w.heap.size (.slice (some ⟨w.heap.size, 0, none⟩) l.length l.length) l.length (chHalf l 0) := by
  unfold OwnC
  rw [chHalf_zero, ch_cells_zero, ← ch_made_zero]
  exact World.ownsRow_lit w _ l.length (Nat.le_refl _) (by unfold maxLen; omega) (by rw [size_madeCells])

end Go.Proofs.Yticfbeihmkfifaa
