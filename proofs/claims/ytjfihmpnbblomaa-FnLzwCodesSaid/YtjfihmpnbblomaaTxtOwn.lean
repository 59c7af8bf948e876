/- A list of texts that a call gathers in a row of its own; it may be cut short. -/
import Derived.Test.YtjfihmpnbblomaaAppOne
namespace Go.Proofs.Ytjfihmpnbblomaa
open Go.RowKit

theorem info_string : (Try.prog.info? 9).map (fun i => (i.zero, i.size, i.bytes)) = some (some (.string ⟨#[]⟩), 1, 16) := by kernel_rfl
/-- texts as they lie in memory -/
def txtsV (l : List ByteArray) : List Value := l.map fun x : ByteArray => Value.string x
theorem txtsV_len (l : List ByteArray) : (txtsV l).length = l.length := by simp [txtsV]
theorem txtsV_get (l : List ByteArray) (j : Nat) (h : j < l.length) : (txtsV l)[j]? = some (.string l[j]) := by simp [txtsV, h]
theorem txtsV_snoc (l : List ByteArray) (x : ByteArray) : txtsV l ++ [.string x] = txtsV (l ++ [x]) := by simp [txtsV]

/-- the slice v owns the texts l, n of them -/
def OwnL (w : World) (B : Nat) (v : Value) (n : Nat) (l : List ByteArray) : Prop := w.ownsRow B 9 1 v n (txtsV l)
theorem OwnL.len {w : World} {B n : Nat} {v : Value} {l : List ByteArray} (h : OwnL w B v n l) : l.length = n := by
  have := h.1
  rw [txtsV_len] at this; omega
theorem OwnL.more {w : World} {B n g cap : Nat} {l : List ByteArray} {x : ByteArray} (h : w.ownsRow B 9 1 (.slice (some ⟨g, 0, none⟩) (n + 1) cap) (n + 1) (txtsV l ++ [.string x])) :
    OwnL w B (.slice (some ⟨g, 0, none⟩) (n + 1) cap) (n + 1) (l ++ [x]) := by
  rw [txtsV_snoc] at h; exact h
theorem OwnL.drewN {w : World} {B n : Nat} {v : Value} {l : List ByteArray} (h : OwnL w B v n l) (m : Nat) : OwnL (w.drewN m) B v n l := h
theorem OwnL.drew {w : World} {B n : Nat} {v : Value} {l : List ByteArray} (h : OwnL w B v n l) : OwnL w.drew B v n l := h
theorem OwnL.alloc {w : World} {B n : Nat} {v : Value} {l : List ByteArray} (h : OwnL w B v n l) (o : Obj) : OwnL (w.alloc o) B v n l := World.ownsRow.alloc (show World.ownsRow _ _ _ _ _ _ _ from h) o
theorem OwnL.far {w : World} {B n : Nat} {v : Value} {l : List ByteArray} (h : OwnL w B v n l) {b : Nat} (hb : w.heap.size ≤ b) : v.ownBlock ≠ some b := fun e => by have := (World.ownsRow.lt h b e).2; omega
theorem OwnL.cell {w : World} {B n g cap : Nat} {l : List ByteArray} (h : OwnL w B (.slice (some ⟨g, 0, none⟩) n cap) n l) (i : Nat) (hi : i < l.length) : w.cell? ⟨g, i, none⟩ = some (.string l[i]) := by
  have hl := h.len
  exact (World.ownsRow.cellAt h i (by omega)).trans (txtsV_get l i hi)
/-- a row that is not empty has a block -/
theorem OwnL.open {w : World} {B n : Nat} {v : Value} {l : List ByteArray} (h : OwnL w B v n l) (hn : 0 < n) : ∃ g cap, v = .slice (some ⟨g, 0, none⟩) n cap ∧ n ≤ cap ∧ B ≤ g ∧ g < w.heap.size := by
  rcases h.2 with ⟨_, h0⟩ | ⟨g, cap, cur, rfl, hgB, hg, h1, _⟩
  · omega
  · refine ⟨g, cap, rfl, h1, hgB, ?_⟩
    rcases Nat.lt_or_ge g w.heap.size with hlt | hge
    · exact hlt
    · rw [Array.getElem?_eq_none hge] at hg; cases hg
/-- it may be cut short -/
theorem OwnL.cut {w : World} {B n g cap : Nat} {l : List ByteArray} (h : OwnL w B (.slice (some ⟨g, 0, none⟩) n cap) n l) {m : Nat} (hm : m ≤ n) : OwnL w B (.slice (some ⟨g, 0, none⟩) m cap) m (l.take m) := by
  have hl := h.len
  refine ⟨by rw [txtsV_len, List.length_take]; omega, ?_⟩
  rcases h.2 with ⟨h0, _⟩ | ⟨g', cap', cur, e, hgB, hg, h1, h2, h3, h4⟩
  · cases h0
  · cases e
    refine .inr ⟨g, cap, cur, rfl, hgB, hg, by omega, h2, h3, ?_⟩
    rw [Nat.mul_one] at h4 ⊢
    have : cur.toList.take m = (cur.toList.take n).take m := by rw [List.take_take, Nat.min_eq_left hm]
    rw [this, h4, txtsV, txtsV, List.map_take]
/-- nothing but other blocks have turned -/
theorem OwnL.kept {w w' : World} {B n : Nat} {v : Value} {l : List ByteArray} (h : OwnL w B v n l) (hb : ∀ k, v.ownBlock = some k → w'.heap[k]? = w.heap[k]?) : OwnL w' B v n l := by
  refine ⟨h.1, ?_⟩
  rcases h.2 with h0 | ⟨g, cap, cur, rfl, hgB, hg, r⟩
  · exact .inl h0
  · exact .inr ⟨g, cap, cur, rfl, hgB, (hb g rfl).trans hg, r⟩
theorem OwnL.down {w : World} {B B' n : Nat} {v : Value} {l : List ByteArray} (h : OwnL w B v n l) (hB : B' ≤ B) : OwnL w B' v n l := by
  refine ⟨h.1, ?_⟩
  rcases h.2 with h0 | ⟨g, cap, cur, rfl, hgB, r⟩
  · exact .inl h0
  · exact .inr ⟨g, cap, cur, rfl, Nat.le_trans hB hgB, r⟩
theorem OwnL.lt {w : World} {B n : Nat} {v : Value} {l : List ByteArray} (h : OwnL w B v n l) : ∀ k, v.ownBlock = some k → B ≤ k ∧ k < w.heap.size := fun k hk => World.ownsRow.lt h k hk

theorem wpList_appL {ops : Array Oper} {rest : List Oper} {o : Oper} {a : Act} {Q : Exit → Act → World → Prop} (w0 : World) (hgd : o.guard = none) (s x : Operand)
    (ho : o.op = .call { callee := .builtin .append, args := #[s, x], argTypes := #[43, 43] })
    (base : Nat) (v : Value) (n : Nat) (l : List ByteArray) (z : ByteArray) (hs : a.eval s = v) (hown : OwnL w0 base v n l) (hx : a.eval x = .slice (some ⟨w0.heap.size, 0, none⟩) 1 1) (hn : n ≤ 2000000) (hb : base ≤ w0.heap.size)
    (h : ∀ g cap w', OwnL w' base (.slice (some ⟨g, 0, none⟩) (n + 1) cap) (n + 1) (l ++ [z]) → Grew base w0 w' v g → wpList Try.prog ops Q rest (a.put o.dst (.slice (some ⟨g, 0, none⟩) (n + 1) cap)) w') :
    wpList Try.prog ops Q (o :: rest) a (w0.alloc (.cells #[.string z] 9)) := by
  obtain ⟨i0, hi0, hz0, hz1, hz2⟩ := info_parts info_string
  refine wpList_append_lies _ hgd s x _ ho base 9 i0 (.string ⟨#[]⟩) 1 16 Try.underlying43 hi0 hz0 hz1 hz2 rfl (by decide) v n (txtsV l) hs (World.ownsRow.alloc (show World.ownsRow _ _ _ _ _ _ _ from hown) _) ⟨w0.heap.size, 0, none⟩ 1 1 [.string z] hx rfl (World.news_of_block (heap_alloc_new _ _)) (fun u hu => by simp at hu; subst hu; rfl) (by decide) (by unfold maxLen; omega) (by omega) (by rw [World.size_alloc]; omega) _ rfl ?_
  intro g cap w' hown' hg hat hlt
  exact h g cap w' (OwnL.more hown') (Grew.of hown hg hat hlt)

/-- the same at a step of a region that draws its order -/
theorem step_appL {ops : Array Oper} {o : Oper} {a : Act} {K : Act → World → Prop} {Q : Exit → Act → World → Prop} {E : Prop} (w0 : World) (hgd : o.guard = none) (s x : Operand)
    (ho : o.op = .call { callee := .builtin .append, args := #[s, x], argTypes := #[43, 43] })
    (base : Nat) (v : Value) (n : Nat) (l : List ByteArray) (z : ByteArray) (hs : a.eval s = v) (hown : OwnL w0 base v n l) (hx : a.eval x = .slice (some ⟨w0.heap.size, 0, none⟩) 1 1) (hn : n ≤ 2000000) (hb : base ≤ w0.heap.size)
    (h : ∀ g cap w', OwnL w' base (.slice (some ⟨g, 0, none⟩) (n + 1) cap) (n + 1) (l ++ [z]) → Grew base w0 w' v g → K (a.put o.dst (.slice (some ⟨g, 0, none⟩) (n + 1) cap)) w') :
    if Region.wanted o (yielded ops a.tmps) = true then Oper.wp Try.prog o a (w0.alloc (.cells #[.string z] 9)) K Q else E := by
  obtain ⟨i0, hi0, hz0, hz1, hz2⟩ := info_parts info_string
  refine step_append_lies _ hgd s x _ ho base 9 i0 (.string ⟨#[]⟩) 1 16 Try.underlying43 hi0 hz0 hz1 hz2 rfl (by decide) v n (txtsV l) hs (World.ownsRow.alloc (show World.ownsRow _ _ _ _ _ _ _ from hown) _) ⟨w0.heap.size, 0, none⟩ 1 1 [.string z] hx rfl (World.news_of_block (heap_alloc_new _ _)) (fun u hu => by simp at hu; subst hu; rfl) (by decide) (by unfold maxLen; omega) (by omega) (by rw [World.size_alloc]; omega) _ rfl ?_
  intro g cap w' hown' hg hat hlt
  exact h g cap w' (OwnL.more hown') (Grew.of hown hg hat hlt)
theorem Grew.of2 {base g e size n : Nat} {w w' : World} {v : Value} {xs : List Value} (hown : w.ownsRow base e size v n xs) (hg : w.grownBy w' v.ownBlock) (hat : v.ownBlock = some g ∨ g = w.heap.size) (hlt : g < w'.heap.size) : Grew base w w' v g :=
  ⟨hg.os, hg.tape, hg.output, hg.size, fun k hk => World.ownsRow.lt hown k hk, fun k hk hne => hg.block k hk hne, hat.imp id (fun e => by omega), hlt⟩

/-- one text in a block of its own -/
def LayT (v : Value) (w : World) (x : ByteArray) : Prop := ∃ b : Nat, v = .slice (some ⟨b, 0, none⟩) 1 1 ∧ w.cell? ⟨b, 0, none⟩ = some (.string x)
theorem LayT.kept {v : Value} {w w' : World} {x : ByteArray} (h : LayT v w x) (hb : Below w.heap.size w w') : LayT v w' x := by
  obtain ⟨b, h1, h2⟩ := h
  exact ⟨b, h1, (hb.cell (p := ⟨b, 0, none⟩) (World.block_lt_of_cell? w _ h2)).trans h2⟩
theorem layT_new (w : World) (x : ByteArray) : LayT (.slice (some ⟨w.heap.size, 0, none⟩) 1 1) (w.alloc (.cells #[.string x] 9)) x := ⟨w.heap.size, rfl, by simp⟩

/-- a text that lies somewhere appended, at a step of a region that draws its order -/
theorem step_appT {ops : Array Oper} {o : Oper} {a : Act} {K : Act → World → Prop} {Q : Exit → Act → World → Prop} {E : Prop} (w : World) (hgd : o.guard = none) (s x : Operand)
    (ho : o.op = .call { callee := .builtin .append, args := #[s, x], argTypes := #[43, 43] })
    (base : Nat) (v : Value) (n : Nat) (l : List ByteArray) (z : ByteArray) (b : Nat) (hs : a.eval s = v) (hown : OwnL w base v n l) (hx : a.eval x = .slice (some ⟨b, 0, none⟩) 1 1) (hc : w.cell? ⟨b, 0, none⟩ = some (.string z)) (hn : n ≤ 2000000) (hb : base ≤ w.heap.size)
    (h : ∀ g cap w', OwnL w' base (.slice (some ⟨g, 0, none⟩) (n + 1) cap) (n + 1) (l ++ [z]) → Grew base w w' v g → K (a.put o.dst (.slice (some ⟨g, 0, none⟩) (n + 1) cap)) w') :
    if Region.wanted o (yielded ops a.tmps) = true then Oper.wp Try.prog o a w K Q else E := by
  obtain ⟨i0, hi0, hz0, hz1, hz2⟩ := info_parts info_string
  refine step_append_lies _ hgd s x _ ho base 9 i0 (.string ⟨#[]⟩) 1 16 Try.underlying43 hi0 hz0 hz1 hz2 rfl (by decide) v n (txtsV l) hs hown ⟨b, 0, none⟩ 1 1 [.string z] hx rfl ?_ (fun u hu => by simp at hu; subst hu; rfl) (by decide) (by unfold maxLen; omega) (by omega) hb _ rfl ?_
  · intro j u hj
    match j, hj with
    | 0, hj => simp at hj; subst hj; simpa [Addr.add] using hc
  · intro g cap w' hown' hg hat hlt
    exact h g cap w' (OwnL.more hown') (Grew.of2 hown hg hat hlt)
end Go.Proofs.Ytjfihmpnbblomaa

