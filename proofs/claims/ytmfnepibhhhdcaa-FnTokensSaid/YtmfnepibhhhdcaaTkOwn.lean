/- A list of tokens in a row of one's own. -/
import Derived.Test.YtmfnepibhhhdcaaTkRow
import Derived.Deep.AppendLies
import Derived.Laws.OwnMore
import Derived.Laws.MakeOwn
namespace Go.Proofs.Ytmfnepibhhhdcaa
open Go.RowKit

theorem info_tok : (Try.prog.info? 39).map (fun i => (i.zero, i.size, i.bytes)) = some (some (.agg #[.int .i64 0, .int .i64 0, .int .i64 0]), 3, 24) := by kernel_rfl

def tkCells : List Tk → List Value
  | [] => []
  | p :: l => .int .i64 p.1 :: .int .i64 p.2.1 :: .int .i64 p.2.2 :: tkCells l
theorem tkCells_len : ∀ l : List Tk, (tkCells l).length = l.length * 3
  | [] => rfl
  | p :: l => by simp only [tkCells, List.length_cons, tkCells_len l]; omega
theorem tkCells_get : ∀ (l : List Tk) (i : Nat) (h : i < l.length), (tkCells l)[i * 3]? = some (.int .i64 (l[i]).1) ∧ (tkCells l)[i * 3 + 1]? = some (.int .i64 (l[i]).2.1) ∧ (tkCells l)[i * 3 + 2]? = some (.int .i64 (l[i]).2.2)
  | [], i, h => by simp at h
  | p :: l, 0, h => by simp [tkCells]
  | p :: l, i + 1, h => by
    have := tkCells_get l i (by simpa using h)
    rw [show (i + 1) * 3 = i * 3 + 1 + 1 + 1 by omega, show i * 3 + 1 + 1 + 1 + 2 = i * 3 + 2 + 1 + 1 + 1 by omega]
    simp only [tkCells, List.getElem?_cons_succ, List.getElem_cons_succ]
    exact this
theorem tkCells_set : ∀ (l : List Tk) (k : Nat) (v s d : Int), k < l.length → (((tkCells l).set (k * 3) (.int .i64 v)).set (k * 3 + 1) (.int .i64 s)).set (k * 3 + 2) (.int .i64 d) = tkCells (l.set k (v, s, d))
  | [], k, v, s, d, h => by simp at h
  | p :: l, 0, v, s, d, h => by simp [tkCells]
  | p :: l, k + 1, v, s, d, h => by
    have := tkCells_set l k v s d (by simpa using h)
    rw [show (k + 1) * 3 = k * 3 + 1 + 1 + 1 by omega, show k * 3 + 1 + 1 + 1 + 2 = k * 3 + 2 + 1 + 1 + 1 by omega]
    simp only [tkCells, List.set_cons_succ]
    rw [this]

def OwnK (w : World) (B : Nat) (v : Value) (n : Nat) (l : List Tk) : Prop := w.ownsRow B 39 3 v n (tkCells l)
theorem OwnK.len {w : World} {B n : Nat} {v : Value} {l : List Tk} (h : OwnK w B v n l) : l.length = n := by
  have := h.1
  rw [tkCells_len] at this; omega
theorem OwnK.toks {w : World} {B n : Nat} {v : Value} {l : List Tk} (h : OwnK w B v n l) : ∃ ao cap, v = .slice ao n cap ∧ Toks w ao l := by
  have hl := h.len
  rcases h.2 with ⟨rfl, h0⟩ | ⟨g, cap, cur, rfl, _, hg, _, _, _, ht⟩
  · subst h0
    exact ⟨none, 0, rfl, .inl (List.eq_nil_of_length_eq_zero hl)⟩
  · refine ⟨some ⟨g, 0, none⟩, cap, rfl, .inr ⟨g, 0, rfl, (Array.getElem?_eq_some_iff.1 hg).1, fun i hi => ?_⟩⟩
    obtain ⟨c1, c2, c3⟩ := tkCells_get l i hi
    rw [Nat.zero_add]
    exact ⟨(World.ownsRow.cellAt h (i * 3) (by omega)).trans c1, (World.ownsRow.cellAt h (i * 3 + 1) (by omega)).trans c2, (World.ownsRow.cellAt h (i * 3 + 2) (by omega)).trans c3⟩
theorem OwnK.same {w w' : World} {B n : Nat} {v : Value} {l : List Tk} (h : OwnK w B v n l) (hk : ∀ k, k < w.heap.size → B ≤ k → w'.heap[k]? = w.heap[k]?) : OwnK w' B v n l := by
  refine ⟨h.1, ?_⟩
  rcases h.2 with h2 | ⟨g, cap, cur, hv, hg, hh, r⟩
  · exact .inl h2
  · exact .inr ⟨g, cap, cur, hv, hg, by rw [hk g (Array.getElem?_eq_some_iff.1 hh).1 hg]; exact hh, r⟩
theorem OwnK.put {w : World} {B n g cap k : Nat} {l : List Tk} (h : OwnK w B (.slice (some ⟨g, 0, none⟩) n cap) n l) (hk : k < n) (v s d : Int) :
    OwnK (((w.setCell ⟨g, k * 3, none⟩ (.int .i64 v)).setCell ⟨g, k * 3 + 1, none⟩ (.int .i64 s)).setCell ⟨g, k * 3 + 2, none⟩ (.int .i64 d)) B (.slice (some ⟨g, 0, none⟩) n cap) n (l.set k (v, s, d)) := by
  have h1 := (World.ownsRow.stored h (k * 3) (.int .i64 v)).1
  have h2 := (World.ownsRow.stored h1 (k * 3 + 1) (.int .i64 s)).1
  have h3 := (World.ownsRow.stored h2 (k * 3 + 2) (.int .i64 d)).1
  rw [tkCells_set l k v s d (by rw [h.len]; exact hk)] at h3
  exact h3

def tkHalf (l : List Tk) (k : Nat) : List Tk := l.take k ++ List.replicate (l.length - k) (0, 0, 0)
theorem tkHalf_zero (l : List Tk) : tkHalf l 0 = List.replicate l.length (0, 0, 0) := by simp [tkHalf]
theorem tkHalf_all (l : List Tk) : tkHalf l l.length = l := by simp [tkHalf]
theorem tkHalf_set (l : List Tk) (k : Nat) (h : k < l.length) : (tkHalf l k).set k ((l[k]).1, (l[k]).2.1, (l[k]).2.2) = tkHalf l (k + 1) := by
  unfold tkHalf
  rw [List.take_succ_eq_append_getElem h, show l.length - k = (l.length - (k + 1)) + 1 by omega, List.replicate_succ, List.append_assoc]
  have e : (l.take k).length = k := by rw [List.length_take]; omega
  rw [List.set_append_right _ _ (by omega), e, Nat.sub_self]
  rfl
theorem tkHalf_get (l : List Tk) (k : Nat) (h : k < l.length) : k < (tkHalf l k).length := by
  unfold tkHalf; simp; omega
theorem tkCells_zero : ∀ n, tkCells (List.replicate n (0, 0, 0)) = List.replicate (n * 3) (.int .i64 0)
  | 0 => rfl
  | n + 1 => by rw [List.replicate_succ, tkCells, tkCells_zero n, show (n + 1) * 3 = n * 3 + 1 + 1 + 1 by omega, List.replicate_succ, List.replicate_succ, List.replicate_succ]
theorem tk_made (n : Nat) : (madeCells #[Value.int .i64 0, .int .i64 0, .int .i64 0] (n * 3)).toList = List.replicate (n * 3) (.int .i64 0) := by
  apply List.ext_getElem?
  intro j
  by_cases hj : j < n * 3
  · simp only [madeCells, List.getElem?_replicate, if_pos hj]
    have : j % 3 = 0 ∨ j % 3 = 1 ∨ j % 3 = 2 := by omega
    rcases this with h | h | h <;> simp [hj, h]
  · rw [List.getElem?_eq_none (by simp [size_madeCells]; omega), List.getElem?_eq_none (by simp; omega)]
theorem make_toks (n : Nat) (hl : n ≤ 2000000) (w : World) :
    (Instr.makeSlice 31 (.int .i64 (n : Int)) (.int .i64 (n : Int))).run Try.prog w = .ok (.slice (some ⟨w.heap.size, 0, none⟩) n n) (w.alloc (.cells (madeCells #[.int .i64 0, .int .i64 0, .int .i64 0] (n * 3)) 39)) := by
  obtain ⟨i0, hi, hz0, hz1, hz2⟩ := info_parts info_tok
  have h := run_make (P := Try.prog) w 31 39 i0 (.agg #[.int .i64 0, .int .i64 0, .int .i64 0]) Try.underlying31 hi hz0 .i64 .i64 (n : Int) (n : Int) (by omega) (by omega) (by rw [hz2]; omega) (by omega)
  rw [h, Int.toNat_natCast, hz1]
  rfl
theorem own_tkmade (w : World) (l : List Tk) (hl : l.length ≤ 2000000) : OwnK (w.alloc (.cells (madeCells #[.int .i64 0, .int .i64 0, .int .i64 0] (l.length * 3)) 39)) w.heap.size (.slice (some ⟨w.heap.size, 0, none⟩) l.length l.length) l.length (tkHalf l 0) := by
  unfold OwnK
  rw [tkHalf_zero, tkCells_zero, ← tk_made]
  exact World.ownsRow_lit w _ l.length (Nat.le_refl _) (by unfold maxLen; omega) (by rw [size_madeCells])
end Go.Proofs.Ytmfnepibhhhdcaa
