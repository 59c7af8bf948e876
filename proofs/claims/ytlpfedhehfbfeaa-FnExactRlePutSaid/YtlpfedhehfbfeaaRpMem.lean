/- Marks of loops over iterators, and what a round may do beside a row of the call's own. -/
import Derived.Test.YtlpfedhehfbfeaaRnIterP
import Derived.Test.YtlpfedhehfbfeaaRtImpl
import Derived.Test.YtlpfedhehfbfeaaReMath
namespace Go.Proofs.Ytlpfedhehfbfeaa
open Go.RowKit Go.Shelf

/-- the mark that a loop over an iterator leaves -/
def markOf (D : Nat) : Deferred := { target := .collected D, args := #[] }
/-- marks that are still open -/
def Marks (lo hi : Nat) (Ds : List Nat) (W : World) : Prop := Ds.Nodup ∧ ∀ D ∈ Ds, lo ≤ D ∧ D < hi ∧ W.heap[D]? = some (.deferred (some []))
theorem Marks.others {lo hi : Nat} {Ds : List Nat} {W W' : World} (h : Marks lo hi Ds W) (k : KeepsOthers W W') : Marks lo hi Ds W' :=
  ⟨h.1, fun D hD => ⟨(h.2 D hD).1, (h.2 D hD).2.1, k.same D _ (h.2 D hD).2.2 rfl⟩⟩
theorem Marks.up {lo hi hi' : Nat} {Ds : List Nat} {W : World} (h : Marks lo hi Ds W) (k : hi ≤ hi') : Marks lo hi' Ds W :=
  ⟨h.1, fun D hD => ⟨(h.2 D hD).1, Nat.lt_of_lt_of_le (h.2 D hD).2.1 k, (h.2 D hD).2.2⟩⟩
theorem Marks.below {lo hi m : Nat} {Ds : List Nat} {W W' : World} (h : Marks lo hi Ds W) (b : Below m W W') (hm : hi ≤ m) : Marks lo hi Ds W' :=
  ⟨h.1, fun D hD => ⟨(h.2 D hD).1, (h.2 D hD).2.1, (b.block D (by have := (h.2 D hD).2.1; omega)).trans (h.2 D hD).2.2⟩⟩
theorem Marks.cons {lo hi hi' D : Nat} {Ds : List Nat} {W : World} (h : Marks lo hi Ds W) (h1 : hi ≤ D) (h2 : lo ≤ D) (hD : W.heap[D]? = some (.deferred (some []))) (h3 : D < hi') : Marks lo hi' (D :: Ds) W := by
  refine ⟨List.nodup_cons.2 ⟨fun hm => by have := (h.2 D hm).2.1; omega, h.1⟩, fun E hE => ?_⟩
  rcases List.mem_cons.1 hE with rfl | hE
  · exact ⟨h2, h3, hD⟩
  · exact ⟨(h.2 E hE).1, by have := (h.2 E hE).2.1; omega, (h.2 E hE).2.2⟩
/-- the function leaves -/
theorem leaves_marks {F : Fence} {n : Nat} {P : Program} {fn : Func} {tmps : Array Value} {R : Ending → World → Prop} {v : Value} (hv : ∀ W, (results fn tmps).run P W = .ok v W) (lo hi : Nat) :
    ∀ (Ds : List Nat) (W : World), Marks lo hi Ds W → (∀ W', Below lo W W' → R (.returned v) W') → LeavesInM F n P fn tmps R (Ds.map markOf) .returning W
  | [], W, _, hR => ⟨v, hv W, hR W (Below.refl _ _)⟩
  | D :: Ds, W, h, hR => by
    have hD := h.2 D (by simp)
    have hN := List.nodup_cons.1 h.1
    have hb : Below lo W (W.putObj D (.deferred none)) := (Below.refl lo W).grown (grownBy_putObj' W D (.deferred none)) (by have := lt_of_at hD.2.2; omega) (fun k e => by cases e; exact hD.1)
    refine ⟨by simp, .inl ⟨D, _, rfl, run_takeDeferred hD.2.2, ?_⟩⟩
    refine leaves_marks hv lo hi Ds _ ⟨hN.2, fun E hE => ?_⟩ (fun W' hW' => hR W' (hb.trans hW'))
    have hE' := h.2 E (by simp [hE])
    refine ⟨hE'.1, hE'.2.1, ?_⟩
    exact ((grownBy_putObj' W D (.deferred none)).block E (lt_of_at hE'.2.2) (fun e => by cases e; exact hN.1 hE)).trans hE'.2.2

/-- from W to W': new blocks, rows that P names or from n₀ on that are no T, and the box A -/
structure WentP (P : Nat → Prop) (A n₀ : Nat) (T : TypeId) (W W' : World) : Prop where
  ko : KeepsOthers W W'
  bs : BsP P n₀ W W'
  bl : Below A W W'
  bx : ∀ (k : Nat) (cs : Array Value) (fr : Nat × Nat), W.heap[k]? = some (.cells cs T fr) → W'.heap[k]? = some (.cells cs T fr)
theorem WentP.refl (P : Nat → Prop) (A n₀ : Nat) (T : TypeId) (W : World) : WentP P A n₀ T W W := ⟨.refl _, .of (Below.refl _ _), Below.refl _ _, fun _ _ _ h => h⟩
theorem WentP.trans {P : Nat → Prop} {A n₀ : Nat} {T : TypeId} {W X Y : World} (h : WentP P A n₀ T W X) (k : WentP P A n₀ T X Y) : WentP P A n₀ T W Y :=
  ⟨h.ko.trans k.ko, h.bs.trans k.bs, h.bl.trans k.bl, fun i cs fr hi => k.bx i cs fr (h.bx i cs fr hi)⟩
theorem WentP.drew {P : Nat → Prop} {A n₀ : Nat} {T : TypeId} {W X : World} (h : WentP P A n₀ T W X) : WentP P A n₀ T W X.drew :=
  h.trans ⟨KeepsOthers.drew _, .of (Below.refl _ _).drew, (Below.refl _ _).drew, fun _ _ _ h => h⟩
theorem WentP.alloc {P : Nat → Prop} {A n₀ : Nat} {T : TypeId} {W X : World} (h : WentP P A n₀ T W X) (hn : n₀ ≤ X.heap.size) (hA : A ≤ X.heap.size) (o : Obj) : WentP P A n₀ T W (X.alloc o) :=
  h.trans ⟨KeepsOthers.alloc _ _, .of ((Below.refl _ _).alloc hn _), (Below.refl _ _).alloc hA _, fun k _ _ hk => (Below.heap_alloc X o k (Array.getElem?_eq_some_iff.1 hk).1).trans hk⟩
/-- an append to a row of the call's own -/
theorem WentP.append {P : Nat → Prop} {A n₀ lo k : Nat} {T e : TypeId} {W X Y : World} {v : Value} {xs : List Value} (h : WentP P A n₀ T W X) (hrow : X.ownsRow lo e 1 v k xs) (hP : ∀ j, v.ownBlock = some j → P j ∨ n₀ ≤ j) (hT : T ≠ e) (hg : X.grownBy Y v.ownBlock) (hn : n₀ ≤ X.heap.size) (hA : A ≤ lo) (hA2 : A ≤ X.heap.size) : WentP P A n₀ T W Y := by
  have hown : ∀ (j : Nat), v.ownBlock = some j → lo ≤ j ∧ ∃ cur, X.heap[j]? = some (.cells cur e (0, 0)) := fun j hj => by
    rcases hrow.2 with ⟨rfl, _⟩ | ⟨g, cap, cur, rfl, h1, h2, _⟩
    · cases hj
    · simp [Value.ownBlock] at hj; subst hj; exact ⟨h1, cur, h2⟩
  refine h.trans ⟨KeepsOthers.of_grownBy hg (fun j o ej hj => ?_), ⟨hg.size, fun j hj hp => ?_⟩, (Below.refl _ _).grown hg hA2 (fun j hj => Nat.le_trans hA (hown j hj).1), fun j cs fr hj => ?_⟩
  · obtain ⟨_, cur, hc⟩ := hown j ej
    rw [hc] at hj; cases hj; rfl
  · refine hg.block j (by omega) (fun ej => ?_)
    rcases hP j ej.symm with h1 | h1
    · exact hp h1
    · omega
  · refine (hg.block j (Array.getElem?_eq_some_iff.1 hj).1 (fun ej => ?_)).trans hj
    obtain ⟨_, cur, hc⟩ := hown j ej.symm
    rw [hc] at hj; cases hj; exact hT rfl
/-- a store into the box -/
theorem WentP.store {P : Nat → Prop} {A n₀ : Nat} {T t : TypeId} {W X : World} {u : Value} (h : WentP P A n₀ T W X) (hb : Boxed X A t u) (hP : P A) (hT : T ≠ t) (v : Value) : WentP P A n₀ T W (X.setCell ⟨A, 0, none⟩ v) := by
  have hk : ∀ k, k ≠ A → (X.setCell ⟨A, 0, none⟩ v).heap[k]? = X.heap[k]? := fun k hk => Below.heap_setCell X ⟨A, 0, none⟩ v k hk
  refine h.trans ⟨KeepsOthers.setCell _ _ _, ⟨by simp, fun k _ hne => hk k (fun e => hne (e ▸ hP))⟩, (Below.refl A X).setCell (p := ⟨A, 0, none⟩) (Nat.le_refl _) _, fun k cs fr hc => ?_⟩
  by_cases e : k = A
  · subst e
    rw [show X.heap[k]? = _ from hb] at hc; cases hc; exact (hT rfl).elim
  · rw [hk k e]; exact hc

/-- between two rounds of a row: the text so far in a row of the call's own -/
def ReI (w : World) (P : Nat → Prop) (n₀ : Nat) (Ds : List Nat) (q0 : List UInt8) (l : List Int) (N : Nat) (pre : List (RI.St N 255)) (W : World) : Prop :=
  (∃ v, Boxed W w.heap.size 22 v ∧ OwnT W (w.heap.size + 1) v (q0 ++ Re.flat l (pre.map Subtype.val)).length (q0 ++ Re.flat l (pre.map Subtype.val)) ∧ (∀ j, v.ownBlock = some j → P j ∨ n₀ ≤ j)) ∧
  Below w.heap.size w W ∧ n₀ ≤ W.heap.size ∧ Marks (w.heap.size + 1) n₀ Ds W
theorem reI_own (w : World) (P : Nat → Prop) (n₀ : Nat) (Ds : List Nat) (q0 : List UInt8) (l : List Int) (N B : Nat) (hB : n₀ ≤ B) (hn : w.heap.size + 1 ≤ n₀) : OwnFrom B (ReI w P n₀ Ds q0 l N) := by
  rintro pre X Y row ⟨⟨v, hv, hr, hp⟩, hb, hs, hm⟩ hg hrow
  have hne : ∀ k, k < n₀ → some k ≠ row := fun k hk e => by have := (hrow k e.symm).1; omega
  refine ⟨⟨v, hv.kept hg (hne _ (by omega)), World.ownsRow.kept (show World.ownsRow _ _ _ _ _ _ _ from hr) hg ?_, hp⟩, hb.grown hg hb.size (fun k e => by have := (hrow k e).1; omega), Nat.le_trans hs hg.size, hm.1, fun D hD => ⟨(hm.2 D hD).1, (hm.2 D hD).2.1, (hg.block D (lt_of_at (hm.2 D hD).2.2) (hne _ (hm.2 D hD).2.1)).trans (hm.2 D hD).2.2⟩⟩
  by_cases h0 : v.ownBlock = none
  · exact .inl h0
  · refine .inr (fun e => ?_)
    rcases (show World.ownsRow _ _ _ _ _ _ _ from hr).2 with ⟨rfl, _⟩ | ⟨g, cap, cur, rfl, _, h2, _⟩
    · exact h0 rfl
    · obtain ⟨_, o, ho, hc⟩ := hrow g e.symm
      rw [h2] at ho; cases ho; cases hc
theorem re_end {w : World} {P : Nat → Prop} {n₀ : Nat} {Ds : List Nat} {q0 : List UInt8} {l : List Int} {N : Nat} {pre : List (RI.St N 255)} {x : RI.St N 255} {W W' : World} {T : TypeId} {v : Value} {m : Nat} {q : List UInt8} (hI : ReI w P n₀ Ds q0 l N pre W) (hw : WentP P w.heap.size n₀ T W W')
    (hb : Boxed W' w.heap.size 22 v) (hr : OwnT W' (w.heap.size + 1) v m q) (hP : ∀ j, v.ownBlock = some j → P j ∨ n₀ ≤ j) (hq : q = q0 ++ Re.flat l (pre.map Subtype.val) ++ Re.piece l x.1) (B : Nat) : KeepsFrom B W W' ∧ BsP P n₀ W W' ∧ ReI w P n₀ Ds q0 l N (pre ++ [x]) W' := by
  obtain ⟨_, hbel, hs, hm⟩ := hI
  refine ⟨hw.ko.from _, hw.bs, ⟨v, hb, ?_, hP⟩, hbel.trans hw.bl, Nat.le_trans hs hw.bs.1, hm.others hw.ko⟩
  rw [List.map_append, List.map_singleton, Re.flat_snoc, ← List.append_assoc, ← hq, hr.len]
  exact hr
end Go.Proofs.Ytlpfedhehfbfeaa
