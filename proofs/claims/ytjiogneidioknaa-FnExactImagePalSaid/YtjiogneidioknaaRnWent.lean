/- What a round of a loop over an iterator may do: new blocks, a row of the call's own, one box. -/
import Derived.RangeFuncNested
import Derived.RangeFuncBound
import Derived.RangeFuncCalls
import Derived.RangeFuncLeaves
import Derived.Shelf.Abstract
import Derived.RangeFuncBox
import Derived.Test.YtjiogneidioknaaBase
namespace Go.Proofs.Ytjiogneidioknaa
open Go.RowKit Go.Shelf

/-- what lies below n₀ is as it was, but for the block o -/
def Beside (o n₀ : Nat) (W W' : World) : Prop := W.heap.size ≤ W'.heap.size ∧ ∀ k, k < n₀ → k ≠ o → W'.heap[k]? = W.heap[k]?
theorem Beside.trans {o n₀ : Nat} {A B C : World} (h : Beside o n₀ A B) (k : Beside o n₀ B C) : Beside o n₀ A C := ⟨Nat.le_trans h.1 k.1, fun i hi ho => (k.2 i hi ho).trans (h.2 i hi ho)⟩
theorem Beside.of {o n₀ : Nat} {A B : World} (h : Below n₀ A B) : Beside o n₀ A B := ⟨h.size, fun i hi _ => h.block i hi⟩
theorem Beside.book {o n₀ : Nat} {w : World} (hn : n₀ ≤ w.heap.size) (W : World) (l : Nat) (x x' : Obj) (hl : w.heap.size ≤ l) (h : W.heap[l]? = some x) (h1 : x.isCells = false) (h2 : x.isWalk = false) : Beside o n₀ W (W.putObj l x') := .of (belowK_b hn W l x x' hl h h1 h2)

/-- from W to W': new blocks, rows from n₀ on that are no T, and the box A -/
structure Went (A n₀ : Nat) (T : TypeId) (W W' : World) : Prop where
  ko : KeepsOthers W W'
  bs : Beside A n₀ W W'
  bl : Below A W W'
  bx : ∀ (k : Nat) (cs : Array Value) (fr : Nat × Nat), W.heap[k]? = some (.cells cs T fr) → W'.heap[k]? = some (.cells cs T fr)

theorem Went.refl (A n₀ : Nat) (T : TypeId) (W : World) : Went A n₀ T W W := ⟨.refl _, .of (Below.refl _ _), Below.refl _ _, fun _ _ _ h => h⟩
theorem Went.trans {A n₀ : Nat} {T : TypeId} {W X Y : World} (h : Went A n₀ T W X) (k : Went A n₀ T X Y) : Went A n₀ T W Y :=
  ⟨h.ko.trans k.ko, h.bs.trans k.bs, h.bl.trans k.bl, fun i cs fr hi => k.bx i cs fr (h.bx i cs fr hi)⟩
theorem Went.drew {A n₀ : Nat} {T : TypeId} {W X : World} (h : Went A n₀ T W X) : Went A n₀ T W X.drew :=
  h.trans ⟨KeepsOthers.drew _, .of (Below.refl _ _).drew, (Below.refl _ _).drew, fun _ _ _ h => h⟩
theorem Went.alloc {A n₀ : Nat} {T : TypeId} {W X : World} (h : Went A n₀ T W X) (hn : n₀ ≤ X.heap.size) (hA : A ≤ X.heap.size) (o : Obj) : Went A n₀ T W (X.alloc o) :=
  h.trans ⟨KeepsOthers.alloc _ _, .of ((Below.refl _ _).alloc hn _), (Below.refl _ _).alloc hA _, fun k _ _ hk => (Below.heap_alloc X o k (Array.getElem?_eq_some_iff.1 hk).1).trans hk⟩
/-- an append to a row of the call's own -/
theorem Went.append {A n₀ k : Nat} {T e : TypeId} {W X Y : World} {v : Value} {xs : List Value} (h : Went A n₀ T W X) (hrow : X.ownsRow n₀ e 1 v k xs) (hT : T ≠ e) (hg : X.grownBy Y v.ownBlock) (hn : n₀ ≤ X.heap.size) (hA : A ≤ n₀) : Went A n₀ T W Y := by
  have hown : ∀ (j : Nat), v.ownBlock = some j → n₀ ≤ j ∧ ∃ cur, X.heap[j]? = some (.cells cur e (0, 0)) := fun j hj => by
    rcases hrow.2 with ⟨rfl, _⟩ | ⟨g, cap, cur, rfl, h1, h2, _⟩
    · cases hj
    · simp [Value.ownBlock] at hj; subst hj; exact ⟨h1, cur, h2⟩
  refine h.trans ⟨KeepsOthers.of_grownBy hg (fun j o ej hj => ?_), .of ((Below.refl _ _).grown hg hn (fun j hj => (hown j hj).1)), (Below.refl _ _).grown hg (by omega) (fun j hj => Nat.le_trans hA (hown j hj).1), fun j cs fr hj => ?_⟩
  · obtain ⟨_, cur, hc⟩ := hown j ej
    rw [hc] at hj; cases hj; rfl
  · refine (hg.block j (Array.getElem?_eq_some_iff.1 hj).1 (fun ej => ?_)).trans hj
    obtain ⟨_, cur, hc⟩ := hown j ej.symm
    rw [hc] at hj; cases hj; exact hT rfl
/-- a store into the box -/
theorem Went.store {A n₀ : Nat} {T t : TypeId} {W X : World} {u : Value} (h : Went A n₀ T W X) (hb : Boxed X A t u) (hT : T ≠ t) (v : Value) : Went A n₀ T W (X.setCell ⟨A, 0, none⟩ v) := by
  have hk : ∀ k, k ≠ A → (X.setCell ⟨A, 0, none⟩ v).heap[k]? = X.heap[k]? := fun k hk => Below.heap_setCell X ⟨A, 0, none⟩ v k hk
  refine h.trans ⟨KeepsOthers.setCell _ _ _, ⟨by simp, fun k _ hne => hk k hne⟩, (Below.refl A X).setCell (p := ⟨A, 0, none⟩) (Nat.le_refl _) _, fun k cs fr hc => ?_⟩
  by_cases e : k = A
  · subst e
    rw [show X.heap[k]? = _ from hb] at hc; cases hc; exact (hT rfl).elim
  · rw [hk k e]; exact hc
/-- a call that makes new blocks alone -/
theorem Went.call {A n₀ : Nat} {T : TypeId} {W X Y : World} (h : Went A n₀ T W X) (b : Below X.heap.size X Y) (hn : n₀ ≤ X.heap.size) (hA : A ≤ n₀) : Went A n₀ T W Y :=
  h.trans ⟨⟨b.size, fun k o hk _ => (b.block k (Array.getElem?_eq_some_iff.1 hk).1).trans hk⟩, .of (b.mono hn), b.mono (by omega), fun k _ _ hk => (b.block k (Array.getElem?_eq_some_iff.1 hk).1).trans hk⟩

theorem lt_of_at {w : World} {k : Nat} {o : Obj} (h : w.heap[k]? = some o) : k < w.heap.size := (Array.getElem?_eq_some_iff.1 h).1
theorem cell_two0 {w : World} {k : Nat} {a b : Value} {T : TypeId} (h : w.heap[k]? = some (.cells #[a, b] T (0, 0))) : w.cell? ⟨k, 0, none⟩ = some a := by simp [World.cell?, h]
theorem cell_two1 {w : World} {k : Nat} {a b : Value} {T : TypeId} (h : w.heap[k]? = some (.cells #[a, b] T (0, 0))) : w.cell? ⟨k, 1, none⟩ = some b := by simp [World.cell?, h]

end Go.Proofs.Ytjiogneidioknaa
