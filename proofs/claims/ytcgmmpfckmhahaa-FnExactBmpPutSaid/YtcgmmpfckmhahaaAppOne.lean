/- One int appended to a row of the call's own. -/
import Derived.Test.YtcgmmpfckmhahaaIntOwn
namespace Go.Proofs.Ytcgmmpfckmhahaa
open Go.RowKit

/-- the world behind an append: only v's own row has turned, and new blocks came -/
structure Grew (base : Nat) (w0 w' : World) (v : Value) (g : Nat) : Prop where
  os : w'.os = w0.os
  tape : w'.tape = w0.tape
  output : w'.output = w0.output
  size : w0.heap.size ≤ w'.heap.size
  own : ∀ k, v.ownBlock = some k → base ≤ k ∧ k < w0.heap.size
  block : ∀ k, k < w0.heap.size → some k ≠ v.ownBlock → w'.heap[k]? = w0.heap[k]?
  at_ : v.ownBlock = some g ∨ w0.heap.size ≤ g
  lt : g < w'.heap.size

theorem Grew.below {base g B : Nat} {w0 w' W : World} {v : Value} (h : Grew base w0 w' v g) (hb : Below B W w0) (hB : B ≤ base) (hs : B ≤ w0.heap.size) : Below B W w' :=
  hb.trans ⟨h.os, h.tape, h.output, h.size, fun k hk => h.block k (by omega) (fun e => by have := (h.own k e.symm).1; omega)⟩
theorem Grew.cell {base g : Nat} {w0 w' : World} {v : Value} (h : Grew base w0 w' v g) {a : Addr} (ha : a.block < w0.heap.size) (hf : v.ownBlock ≠ some a.block) : w'.cell? a = w0.cell? a :=
  World.cell?_of_block (w := w0) (h.block a.block ha (fun e => hf e.symm))
theorem Grew.far {base g b cap n : Nat} {w0 w' : World} {v : Value} (h : Grew base w0 w' v g) (hb : b < w0.heap.size) (hf : v.ownBlock ≠ some b) : (Value.slice (some ⟨g, 0, none⟩) n cap).ownBlock ≠ some b := by
  show some g ≠ some b
  intro e
  cases e
  rcases h.at_ with e | e
  · exact hf e
  · omega

theorem Grew.of {base g e size n : Nat} {w0 w' : World} {v : Value} {xs : List Value} {o : Obj} (hown : w0.ownsRow base e size v n xs) (hg : (w0.alloc o).grownBy w' v.ownBlock) (hat : v.ownBlock = some g ∨ g = (w0.alloc o).heap.size) (hlt : g < w'.heap.size) : Grew base w0 w' v g := by
  have hs := hg.size
  rw [World.size_alloc] at hs
  refine ⟨hg.os, hg.tape, hg.output, by omega, fun k hk => World.ownsRow.lt hown k hk, fun k hk hne => ?_, ?_, hlt⟩
  · rw [hg.block k (by rw [World.size_alloc]; omega) hne]; exact Below.heap_alloc _ _ _ hk
  · rcases hat with e | e
    · exact .inl e
    · rw [World.size_alloc] at e; exact .inr (by omega)

theorem wpList_app1 {ops : Array Oper} {rest : List Oper} {o : Oper} {a : Act} {Q : Exit → Act → World → Prop} (w0 : World) (hgd : o.guard = none) (s x : Operand)
    (ho : o.op = .call { callee := .builtin .append, args := #[s, x], argTypes := #[22, 22] })
    (base : Nat) (v : Value) (n : Nat) (l : List Int) (z : Int) (hs : a.eval s = v) (hown : OwnI w0 base v n l) (hx : a.eval x = .slice (some ⟨w0.heap.size, 0, none⟩) 1 1) (hn : n ≤ 2000000) (hb : base ≤ w0.heap.size)
    (h : ∀ g cap w', OwnI w' base (.slice (some ⟨g, 0, none⟩) (n + 1) cap) (n + 1) (l ++ [z]) → Grew base w0 w' v g → wpList Try.prog ops Q rest (a.put o.dst (.slice (some ⟨g, 0, none⟩) (n + 1) cap)) w') :
    wpList Try.prog ops Q (o :: rest) a (w0.alloc (.cells #[.int .i64 z] 3)) := by
  obtain ⟨i0, hi0, hz0, hz1, hz2⟩ := info_parts info_int
  refine wpList_append_lies _ hgd s x _ ho base 3 i0 (.int .i64 0) 1 8 Try.underlying22 hi0 hz0 hz1 hz2 rfl (by decide) v n (intsV l) hs (World.ownsRow.alloc (show World.ownsRow _ _ _ _ _ _ _ from hown) _) ⟨w0.heap.size, 0, none⟩ 1 1 [.int .i64 z] hx rfl (World.news_of_block (heap_alloc_new _ _)) (fun u hu => by simp at hu; subst hu; rfl) (by decide) (by unfold maxLen; omega) (by omega) (by rw [World.size_alloc]; omega) _ rfl ?_
  intro g cap w' hown' hg hat hlt
  exact h g cap w' (OwnI.more hown') (Grew.of hown hg hat hlt)

theorem OwnI.alloc {w : World} {B n : Nat} {v : Value} {l : List Int} (h : OwnI w B v n l) (o : Obj) : OwnI (w.alloc o) B v n l := World.ownsRow.alloc (show World.ownsRow _ _ _ _ _ _ _ from h) o
theorem OwnI.far {w : World} {B n : Nat} {v : Value} {l : List Int} (h : OwnI w B v n l) {b : Nat} (hb : w.heap.size ≤ b) : v.ownBlock ≠ some b := fun e => by have := (World.ownsRow.lt h b e).2; omega
theorem ownI_nil (w : World) (B : Nat) : OwnI w B (.slice none 0 0) 0 [] := World.ownsRow_nil _ _ _ _

/-- the same at a step of a region that draws its order -/
theorem step_app1 {ops : Array Oper} {o : Oper} {a : Act} {K : Act → World → Prop} {Q : Exit → Act → World → Prop} {E : Prop} (w0 : World) (hgd : o.guard = none) (s x : Operand)
    (ho : o.op = .call { callee := .builtin .append, args := #[s, x], argTypes := #[22, 22] })
    (base : Nat) (v : Value) (n : Nat) (l : List Int) (z : Int) (hs : a.eval s = v) (hown : OwnI w0 base v n l) (hx : a.eval x = .slice (some ⟨w0.heap.size, 0, none⟩) 1 1) (hn : n ≤ 2000000) (hb : base ≤ w0.heap.size)
    (h : ∀ g cap w', OwnI w' base (.slice (some ⟨g, 0, none⟩) (n + 1) cap) (n + 1) (l ++ [z]) → Grew base w0 w' v g → K (a.put o.dst (.slice (some ⟨g, 0, none⟩) (n + 1) cap)) w') :
    if Region.wanted o (yielded ops a.tmps) = true then Oper.wp Try.prog o a (w0.alloc (.cells #[.int .i64 z] 3)) K Q else E := by
  obtain ⟨i0, hi0, hz0, hz1, hz2⟩ := info_parts info_int
  refine step_append_lies _ hgd s x _ ho base 3 i0 (.int .i64 0) 1 8 Try.underlying22 hi0 hz0 hz1 hz2 rfl (by decide) v n (intsV l) hs (World.ownsRow.alloc (show World.ownsRow _ _ _ _ _ _ _ from hown) _) ⟨w0.heap.size, 0, none⟩ 1 1 [.int .i64 z] hx rfl (World.news_of_block (heap_alloc_new _ _)) (fun u hu => by simp at hu; subst hu; rfl) (by decide) (by unfold maxLen; omega) (by omega) (by rw [World.size_alloc]; omega) _ rfl ?_
  intro g cap w' hown' hg hat hlt
  exact h g cap w' (OwnI.more hown') (Grew.of hown hg hat hlt)
end Go.Proofs.Ytcgmmpfckmhahaa
