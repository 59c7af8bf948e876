/- The tree of a code is grown. -/
import Derived.Test.YthfdnloeicbgkaaKFInflatex2
import Derived.Test.YthfdnloeicbgkaaKFInflatex0
namespace Go.Proofs.Ythfdnloeicbgkaa
open Go.RowKit
open Ct (Tr Nt)

/-- between two steps -/
structure GrS (L Hb lo : Nat) (w W : World) (K : Nat → Hp.Key) (ks l : List Nat) (ts : List Nt) (P : Nat) : Prop where
  hep : Hep W Hb lo l
  heap : Hp.Heap K l l.length
  perm : l.Perm ks
  gs : Gs W K ks ts P
  low : Below L w W
theorem GrS.drewN {L Hb lo : Nat} {w W : World} {K : Nat → Hp.Key} {ks l : List Nat} {ts : List Nt} {P : Nat} (h : GrS L Hb lo w W K ks l ts P) (q : Nat) : GrS L Hb lo w (W.drewN q) K ks l ts P :=
  ⟨h.hep.drewN q, h.heap, h.perm, h.gs.kept (fun _ _ e => e), below_drewN h.low q⟩
/-- the leaves -/
def initT (zs : List Int) : Nat → List Nt
  | 0 => []
  | k + 1 => if 0 < zs.getD k 0 then initT zs k ++ [((zs.getD k 0).toNat, .leaf k)] else initT zs k
theorem initT_len (zs : List Int) : ∀ k, (initT zs k).length ≤ k
  | 0 => Nat.le_refl _
  | k + 1 => by
    have := initT_len zs k
    unfold initT
    split
    · rw [List.length_append, List.length_singleton]; omega
    · omega
def iterT (ts : List Nt) : Nat → List Nt
  | 0 => ts
  | j + 1 => Ct.step (iterT ts j)
end Go.Proofs.Ythfdnloeicbgkaa
