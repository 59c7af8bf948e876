/- A heap of nodes in memory: put in, taken out. -/
import Derived.Deep.AppendLies
import Derived.Deep.RegionLaw
import Derived.OwnWalk
import Derived.Test.YthfdnloeicbgkaaKFInflatex0
namespace Go.Proofs.Ythfdnloeicbgkaa
open Go.RowKit

/-- the heap: a box, and a row of its own from lo on -/
def Hep (W : World) (Hb lo : Nat) (l : List Nat) : Prop := ∃ v, Boxed W Hb 182 v ∧ W.ownsRow lo 140 1 v l.length (l.map ptN)
def HStays : Obj → Prop
  | .cells _ t _ => t ≠ 140
  | _ => True
/-- what is done to a heap -/
structure HpG (L Hb : Nat) (W W' : World) : Prop where
  low : Below L W W'
  same : ∀ (k : Nat) (o : Obj), W.heap[k]? = some o → k ≠ Hb → HStays o → W'.heap[k]? = some o
theorem HpG.refl (L Hb : Nat) (W : World) : HpG L Hb W W := ⟨Below.refl _ _, fun _ _ h _ _ => h⟩
theorem HpG.trans {L Hb : Nat} {A B C : World} (h : HpG L Hb A B) (k : HpG L Hb B C) : HpG L Hb A C := ⟨h.low.trans k.low, fun i o h1 h2 h3 => k.same i o (h.same i o h1 h2 h3) h2 h3⟩
theorem HpG.drewN (L Hb : Nat) (W : World) (q : Nat) : HpG L Hb W (W.drewN q) := ⟨below_drewN (Below.refl _ _) q, fun _ _ h _ _ => h⟩
theorem HpG.below {L Hb : Nat} {W W' : World} (h : Below W.heap.size W W') (hL : L ≤ W.heap.size) : HpG L Hb W W' := ⟨h.mono hL, fun k _ h1 _ _ => (h.block k (Array.getElem?_eq_some_iff.1 h1).1).trans h1⟩
theorem HpG.keys {L Hb : Nat} {W W' : World} {K : Nat → Hp.Key} {l : List Nat} (h : HpG L Hb W W') (hK : KeysAt W K l) (hb : ∃ v, Boxed W Hb 182 v) : KeysAt W' K l := fun k hk => by
  obtain ⟨s, x, y, e⟩ := hK k hk
  obtain ⟨v, hv⟩ := hb
  refine ⟨s, x, y, h.same k _ e (fun ek => ?_) (by show (161 : TypeId) ≠ 140; decide)⟩
  rw [ek, show W.heap[Hb]? = _ from hv] at e
  cases e
theorem Hep.box {W : World} {Hb lo : Nat} {l : List Nat} (h : Hep W Hb lo l) : ∃ v, Boxed W Hb 182 v := by
  obtain ⟨v, h1, _⟩ := h; exact ⟨v, h1⟩
theorem Hep.drewN {W : World} {Hb lo : Nat} {l : List Nat} (h : Hep W Hb lo l) (q : Nat) : Hep (W.drewN q) Hb lo l := by
  obtain ⟨v, h1, h2⟩ := h
  exact ⟨v, h1, World.ownsRow.kept h2 (row := none) ⟨rfl, rfl, rfl, Nat.le_refl _, fun _ _ _ => rfl⟩ (by cases v.ownBlock <;> simp)⟩
theorem Hep.below {W W' : World} {Hb lo : Nat} {l : List Nat} (h : Hep W Hb lo l) (hb : Below W.heap.size W W') : Hep W' Hb lo l := by
  obtain ⟨v, h1, h2⟩ := h
  refine ⟨v, (hb.block Hb h1.lt).trans h1, World.ownsRow.kept h2 (row := none) ⟨hb.os, hb.tape, hb.output, hb.size, fun k hk _ => hb.block k hk⟩ (by cases v.ownBlock <;> simp)⟩
theorem getD_ptN {l : List Nat} {i : Nat} (h : i < l.length) : (l.map ptN)[i]? = some (ptN (l.getD i 0)) := by
  rw [List.getElem?_map, List.getD_eq_getElem?_getD, List.getElem?_eq_getElem h]; rfl
/-- a heap that is not empty -/
theorem Hep.row {W : World} {Hb lo : Nat} {l : List Nat} (h : Hep W Hb lo l) (h0 : 0 < l.length) : ∃ g cap, lo ≤ g ∧ Boxed W Hb 182 (.slice (some ⟨g, 0, none⟩) l.length cap) ∧ RowN W g l.length l ∧ W.ownsRow lo 140 1 (.slice (some ⟨g, 0, none⟩) l.length cap) l.length (l.map ptN) ∧ l.length ≤ cap := by
  obtain ⟨v, h1, h2⟩ := h
  rcases h2.2 with ⟨rfl, h0'⟩ | ⟨g, cap, cur, rfl, hg, hh, hn, hc, _⟩
  · omega
  · refine ⟨g, cap, hg, h1, ⟨cur, hh, rfl, fun i hi => ?_⟩, h2, by omega⟩
    have := World.ownsRow.cellAt h2 i (by omega)
    rw [getD_ptN hi] at this
    simpa [World.cell?, hh] using this
theorem Hep.swap {W : World} {Hb lo g cap : Nat} {l : List Nat} {i j : Nat} (hB : Boxed W Hb 182 (.slice (some ⟨g, 0, none⟩) l.length cap)) (hR : W.ownsRow lo 140 1 (.slice (some ⟨g, 0, none⟩) l.length cap) l.length (l.map ptN)) (q : Nat) :
    Hep (((W.setCell ⟨g, i, none⟩ (ptN (l.getD j 0))).setCell ⟨g, j, none⟩ (ptN (l.getD i 0))).drewN q) Hb lo (Hp.sw l i j) := by
  have hne := hB.not_row (by decide) hR
  have hne' : Hb ≠ g := fun e => hne (by rw [e]; rfl)
  have h1 := (World.ownsRow.stored hR i (ptN (l.getD j 0))).1
  have h2 := (World.ownsRow.stored h1 j (ptN (l.getD i 0))).1
  refine Hep.drewN ⟨.slice (some ⟨g, 0, none⟩) l.length cap, ?_, ?_⟩ q
  · exact ((Below.heap_setCell _ ⟨g, j, none⟩ _ Hb hne').trans (Below.heap_setCell _ ⟨g, i, none⟩ _ Hb hne')).trans hB
  · have e : ((l.map ptN).set i (ptN (l.getD j 0))).set j (ptN (l.getD i 0)) = (Hp.sw l i j).map ptN := by unfold Hp.sw; rw [List.map_set, List.map_set]
    rw [e] at h2
    rw [Hp.sw_len]
    exact h2
theorem HpG.swap {L Hb lo g cap n : Nat} {W : World} {xs : List Value} {i j : Nat} {u v : Value} (hR : W.ownsRow lo 140 1 (.slice (some ⟨g, 0, none⟩) n cap) n xs) (hL : L ≤ lo) (hg : lo ≤ g) (q : Nat) :
    HpG L Hb W (((W.setCell ⟨g, i, none⟩ u).setCell ⟨g, j, none⟩ v).drewN q) := by
  refine ⟨below_drewN (((Below.refl _ _).setCell (p := ⟨g, i, none⟩) (by show L ≤ g; omega) _).setCell (p := ⟨g, j, none⟩) (by show L ≤ g; omega) _) q, fun k o h1 _ h3 => ?_⟩
  have hk : k ≠ g := fun e => by
    rcases hR.2 with ⟨e1, _⟩ | ⟨g', cap', cur, e1, _, hh, _⟩
    · cases e1
    · cases e1
      rw [e, hh] at h1
      cases h1
      exact h3 rfl
  exact ((Below.heap_setCell _ ⟨g, j, none⟩ _ k hk).trans (Below.heap_setCell _ ⟨g, i, none⟩ _ k hk)).trans h1

end Go.Proofs.Ythfdnloeicbgkaa
