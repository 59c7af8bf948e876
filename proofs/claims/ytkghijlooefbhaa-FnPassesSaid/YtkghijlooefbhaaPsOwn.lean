/- Lists of parts that a call gathers in a row of its own. -/
import Derived.Test.YtkghijlooefbhaaPsMath
import Derived.Test.YtkghijlooefbhaaIntOwn
namespace Go.Proofs.Ytkghijlooefbhaa
open Go.RowKit

theorem info_pass : (Try.prog.info? 30).map (fun i => (i.zero, i.size, i.bytes)) = some (some (.agg #[.int .i64 0, .int .i64 0, .int .i64 0, .int .i64 0, .int .i64 0, .int .i64 0]), 6, 48) := by kernel_rfl

/-- the slice v owns n parts, their numbers being l -/
def OwnPs (w : World) (B : Nat) (v : Value) (n : Nat) (l : List Int) : Prop := w.ownsRow B 30 6 v n (intsV l)

theorem OwnPs.len {w : World} {B n : Nat} {v : Value} {l : List Int} (h : OwnPs w B v n l) : l.length = n * 6 := by
  have := h.1
  rw [intsV_len] at this; omega

theorem OwnPs.owns {w : World} {B n : Nat} {v : Value} {l : List Int} (h : OwnPs w B v n l) : ∃ ao cap, v = .slice ao n cap ∧ Owns w B ao l := by
  have hl := h.len
  rcases h.2 with ⟨rfl, h0⟩ | ⟨g, cap, cur, rfl, hgB, hg, _, _, _, ht⟩
  · subst h0
    exact ⟨none, 0, rfl, .inl (List.eq_nil_of_length_eq_zero (by omega))⟩
  · refine ⟨some ⟨g, 0, none⟩, cap, rfl, .inr ⟨g, rfl, hgB, ?_, fun i hi => ⟨?_, ?_⟩⟩⟩
    · rcases Nat.lt_or_ge g w.heap.size with hlt | hge
      · exact hlt
      · rw [Array.getElem?_eq_none hge] at hg; cases hg
    · exact (World.ownsRow.cellAt h i (by omega)).trans (intsV_get l i hi)
    · exact World.ownsRow.frozenAt h i

theorem OwnPs.more {w : World} {B n g cap : Nat} {l : List Int} {a b c d e f : Int} (h : w.ownsRow B 30 6 (.slice (some ⟨g, 0, none⟩) (n + 1) cap) (n + 1) (intsV l ++ [.int .i64 a, .int .i64 b, .int .i64 c, .int .i64 d, .int .i64 e, .int .i64 f])) :
    OwnPs w B (.slice (some ⟨g, 0, none⟩) (n + 1) cap) (n + 1) (l ++ [a, b, c, d, e, f]) := by
  have e : intsV l ++ [.int .i64 a, .int .i64 b, .int .i64 c, .int .i64 d, .int .i64 e, .int .i64 f] = intsV (l ++ [a, b, c, d, e, f]) := by simp [intsV]
  rw [e] at h; exact h

theorem ownPs_none (w : World) : OwnPs (w.alloc (.cells #[] 30)) w.heap.size (.slice (some ⟨w.heap.size, 0, none⟩) 0 0) 0 [] :=
  World.ownsRow_lit w #[] 0 (Nat.le_refl _) (by decide) rfl
theorem ownPs_nil (w : World) (B : Nat) : OwnPs w B (.slice none 0 0) 0 [] := World.ownsRow_nil _ _ _ _
theorem alloc2_new (w : World) (o o' : Obj) : ((w.alloc o).alloc o').heap[w.heap.size + 1]? = some o' := by
  have := heap_alloc_new (w.alloc o) o'; rw [World.size_alloc] at this; exact this

/-- sizes of pictures -/
def SzOk (wd hi : Int) : Prop := (1 ≤ wd ∧ wd ≤ 20) ∧ (1 ≤ hi ∧ hi ≤ 20)
open Classical in
/-- how many parts are told -/
noncomputable def psN (wd hi : Int) : Nat := if SzOk wd hi then Ps.cnt wd.toNat hi.toNat 7 else 0
open Classical in
/-- their numbers -/
noncomputable def psL (wd hi : Int) : List Int := if SzOk wd hi then Ps.flat wd.toNat hi.toNat 7 else []
theorem ps_yes {wd hi : Int} (h : SzOk wd hi) : psN wd hi = Ps.cnt wd.toNat hi.toNat 7 ∧ psL wd hi = Ps.flat wd.toNat hi.toNat 7 := ⟨if_pos h, if_pos h⟩
theorem ps_no {wd hi : Int} (h : ¬ SzOk wd hi) : psN wd hi = 0 ∧ psL wd hi = [] := ⟨if_neg h, if_neg h⟩
theorem ps_len (wd hi : Int) : (psL wd hi).length = psN wd hi * 6 ∧ psN wd hi ≤ 7 := by
  rcases Classical.em (SzOk wd hi) with h | h
  · rw [(ps_yes h).1, (ps_yes h).2]; exact ⟨Ps.flat_len _ _ _, Ps.cnt_le _ _ _⟩
  · rw [(ps_no h).1, (ps_no h).2]; exact ⟨rfl, by omega⟩
end Go.Proofs.Ytkghijlooefbhaa
