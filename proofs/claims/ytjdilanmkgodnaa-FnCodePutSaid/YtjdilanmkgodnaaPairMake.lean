/- A list of bits that is made at once, and filled place by place. -/
import Derived.Test.YtjdilanmkgodnaaBitOwn
import Derived.Laws.MakeOwn
namespace Go.Proofs.Ytjdilanmkgodnaa
open Go.RowKit

theorem cellsOf_set : ∀ (l : List (Int × Int)) (k : Nat) (v s : Int), k < l.length → ((cellsOf l).set (k * 2) (.int .i64 v)).set (k * 2 + 1) (.int .i64 s) = cellsOf (l.set k (v, s))
  | [], k, v, s, h => by simp at h
  | p :: l, 0, v, s, h => by simp [cellsOf]
  | p :: l, k + 1, v, s, h => by
    have := cellsOf_set l k v s (by simpa using h)
    rw [show (k + 1) * 2 = k * 2 + 1 + 1 by omega]
    simp only [cellsOf, List.set_cons_succ]
    rw [this]

theorem OwnP.put {w : World} {B n g cap k : Nat} {l : List (Int × Int)} (h : OwnP w B (.slice (some ⟨g, 0, none⟩) n cap) n l) (hk : k < n) (v s : Int) :
    OwnP ((w.setCell ⟨g, k * 2, none⟩ (.int .i64 v)).setCell ⟨g, k * 2 + 1, none⟩ (.int .i64 s)) B (.slice (some ⟨g, 0, none⟩) n cap) n (l.set k (v, s)) := by
  have h1 := (World.ownsRow.stored h (k * 2) (.int .i64 v)).1
  have h2 := (World.ownsRow.stored h1 (k * 2 + 1) (.int .i64 s)).1
  rw [cellsOf_set l k v s (by rw [h.len]; exact hk)] at h2
  exact h2

/-- the first k are copied, the others are nothing yet -/
def half (l : List (Int × Int)) (k : Nat) : List (Int × Int) := l.take k ++ List.replicate (l.length - k) (0, 0)
theorem half_zero (l : List (Int × Int)) : half l 0 = List.replicate l.length (0, 0) := by simp [half]
theorem half_all (l : List (Int × Int)) : half l l.length = l := by simp [half]
theorem half_set (l : List (Int × Int)) (k : Nat) (h : k < l.length) : (half l k).set k ((l[k]).1, (l[k]).2) = half l (k + 1) := by
  unfold half
  rw [List.take_succ_eq_append_getElem h, show l.length - k = (l.length - (k + 1)) + 1 by omega, List.replicate_succ, List.append_assoc]
  have e : (l.take k).length = k := by rw [List.length_take]; omega
  rw [List.set_append_right _ _ (by omega), e, Nat.sub_self]
  rfl
theorem half_get (l : List (Int × Int)) (k : Nat) (h : k < l.length) : k < (half l k).length := by
  unfold half; simp; omega

theorem cells_zero : ∀ n, cellsOf (List.replicate n (0, 0)) = List.replicate (n * 2) (.int .i64 0)
  | 0 => rfl
  | n + 1 => by rw [List.replicate_succ, cellsOf, cells_zero n, show (n + 1) * 2 = n * 2 + 1 + 1 by omega, List.replicate_succ, List.replicate_succ]

theorem made_zero (n : Nat) : (madeCells #[Value.int .i64 0, .int .i64 0] (n * 2)).toList = List.replicate (n * 2) (.int .i64 0) := by
  apply List.ext_getElem?
  intro j
  by_cases hj : j < n * 2
  · simp only [madeCells, List.getElem?_replicate, if_pos hj]
    have : j % 2 = 0 ∨ j % 2 = 1 := by omega
    rcases this with h | h <;> simp [hj, h]
  · rw [List.getElem?_eq_none (by simp [size_madeCells]; omega), List.getElem?_eq_none (by simp; omega)]

theorem make_pairs (n : Nat) (hl : n ≤ 2000000) (w : World) :
    (Instr.makeSlice 35 (.int .i64 (n : Int)) (.int .i64 (n : Int))).run Try.prog w = .ok (.slice (some ⟨w.heap.size, 0, none⟩) n n) (w.alloc (.cells (madeCells #[.int .i64 0, .int .i64 0] (n * 2)) 40)) := by
  obtain ⟨i0, hi, hz0, hz1, hz2⟩ := info_parts info_bit
  have h := run_make (P := Try.prog) w 35 40 i0 (.agg #[.int .i64 0, .int .i64 0]) Try.underlying35 hi hz0 .i64 .i64 (n : Int) (n : Int) (by omega) (by omega) (by rw [hz2]; omega) (by omega)
  rw [h, Int.toNat_natCast, hz1]
  rfl

theorem own_made (w : World) (l : List (Int × Int)) (hl : l.length ≤ 2000000) : OwnP (w.alloc (.cells (madeCells #[.int .i64 0, .int .i64 0] (l.length * 2)) 40)) w.heap.size (.slice (some ⟨w.heap.size, 0, none⟩) l.length l.length) l.length (half l 0) := by
  unfold OwnP
  rw [half_zero, cells_zero, ← made_zero]
  exact World.ownsRow_lit w _ l.length (Nat.le_refl _) (by unfold maxLen; omega) (by rw [size_madeCells])

end Go.Proofs.Ytjdilanmkgodnaa
