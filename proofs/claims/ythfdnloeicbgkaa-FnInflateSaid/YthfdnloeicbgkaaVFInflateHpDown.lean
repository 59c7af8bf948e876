/- A heap of nodes in memory: one goes down. -/
import Derived.Test.YthfdnloeicbgkaaVFInflateHpOps
namespace Go.Proofs.Ythfdnloeicbgkaa
open Go.RowKit

/-- all that is known of a heap between two steps -/
structure HpT (K : Nat → Hp.Key) (L Hb lo g cap N : Nat) (l l0 : List Nat) (w W : World) : Prop where
  perm : l.Perm l0
  len : l.length = N
  hep : Hep W Hb lo l
  box : Boxed W Hb 182 (.slice (some ⟨g, 0, none⟩) N cap)
  row : RowN W g N l
  own : W.ownsRow lo 140 1 (.slice (some ⟨g, 0, none⟩) N cap) N (l.map ptN)
  at_ : lo ≤ g
  keys : KeysAt W K l
  grow : HpG L Hb w W
theorem HpT.drewN {K : Nat → Hp.Key} {L Hb lo g cap N : Nat} {l l0 : List Nat} {w W : World} (h : HpT K L Hb lo g cap N l l0 w W) (q : Nat) : HpT K L Hb lo g cap N l l0 w (W.drewN q) :=
  ⟨h.perm, h.len, h.hep.drewN q, h.box, h.row, h.own, h.at_, h.keys, h.grow.trans (HpG.drewN _ _ _ q)⟩
theorem HpT.swap {K : Nat → Hp.Key} {L Hb lo g cap N i j : Nat} {l l0 : List Nat} {w W : World} (h : HpT K L Hb lo g cap N l l0 w W) (hL : L ≤ lo) (hi : i < N) (hj : j < N) (q : Nat) : HpT K L Hb lo g cap N (Hp.sw l i j) l0 w (((W.setCell ⟨g, i, none⟩ (ptN (l.getD j 0))).setCell ⟨g, j, none⟩ (ptN (l.getD i 0))).drewN q) := by
  obtain ⟨h1, h2, h3, h4, h5, h6, h7, h8, h9⟩ := h
  have hg := HpG.swap (L := L) (Hb := Hb) (i := i) (j := j) (u := ptN (l.getD j 0)) (v := ptN (l.getD i 0)) h6 hL h7 q
  have hhep := Hep.swap (i := i) (j := j) (l := l) (by rw [h2]; exact h4) (by rw [h2]; exact h6) q
  have hne := h4.not_row (by decide) h6
  have hbx : Boxed (((W.setCell ⟨g, i, none⟩ (ptN (l.getD j 0))).setCell ⟨g, j, none⟩ (ptN (l.getD i 0))).drewN q) Hb 182 (.slice (some ⟨g, 0, none⟩) N cap) := by
    have hne' : Hb ≠ g := fun e => hne (by rw [e]; rfl)
    exact ((Below.heap_setCell _ ⟨g, j, none⟩ _ Hb hne').trans (Below.heap_setCell _ ⟨g, i, none⟩ _ Hb hne')).trans h4
  have hsl : (Hp.sw l i j).length = N := by rw [Hp.sw_len, h2]
  obtain ⟨g', cap', hg', hB', hRN', hOR', _⟩ := hhep.row (by omega)
  have e : Value.slice (some ⟨g', 0, none⟩) (Hp.sw l i j).length cap' = Value.slice (some ⟨g, 0, none⟩) N cap := by
    have h10 := hbx
    unfold Boxed at hB' h10
    rw [hB'] at h10
    simpa using h10
  rw [hsl] at e hRN' hOR'
  injection e with e1 e2 e3
  injection e1 with e4
  injection e4 with e5
  subst e5
  subst e3
  exact ⟨(Hp.sw_perm (by omega) (by omega)).trans h1, hsl, hhep, hbx, hRN', hOR', h7, hg.keys (fun k hk => h8 k ((Hp.sw_perm (by omega) (by omega)).mem_iff.1 hk)) ⟨_, h4⟩, h9.trans hg⟩
end Go.Proofs.Ythfdnloeicbgkaa
