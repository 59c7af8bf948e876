/- Symbols as bits: the mathematics. -/
import Derived.Test.YtjdilanmkgodnaaMakeBound
import Derived.Test.YtjdilanmkgodnaaCodeMath
import Derived.Test.YtjdilanmkgodnaaTurnWalks
namespace Go.Proofs.Ytjdilanmkgodnaa
namespace Cp

/-- the bits of a symbol -/
def bit (ls : List Int) (s : Nat) : Int × Int := (((turned ((Mk.mk ls).getD s 0).toNat (ls.getD s 0).toNat : Nat) : Int), ls.getD s 0)
/-- those of all symbols -/
def all (ls : List Int) : List (Int × Int) := (List.range ls.length).map (bit ls)
theorem all_len (ls : List Int) : (all ls).length = ls.length := by simp [all]
theorem all_get (ls : List Int) (s : Nat) (h : s < (all ls).length) : (all ls)[s] = bit ls s := by simp [all]

/-- symbols that a code has -/
def Good (ls : List Int) (z : Int) : Prop := 0 ≤ z ∧ z < (ls.length : Int) ∧ ls.getD z.toNat 0 ≠ 0
def Ok (zs ls : List Int) : Prop := Cd.okB ls = true ∧ zs.length ≤ 9000 ∧ ∀ z ∈ zs, Good ls z
open Classical in
noncomputable def put (zs ls : List Int) : List (Int × Int) := if Ok zs ls then zs.map (fun z => bit ls z.toNat) else []
theorem put_yes {zs ls : List Int} (h : Ok zs ls) : put zs ls = zs.map (fun z => bit ls z.toNat) := by unfold put; rw [if_pos h]
theorem put_no {zs ls : List Int} (h : ¬ Ok zs ls) : put zs ls = [] := by unfold put; rw [if_neg h]
theorem put_len (zs ls : List Int) : (put zs ls).length ≤ 9000 := by
  rcases Classical.em (Ok zs ls) with g | g
  · rw [put_yes g, List.length_map]; exact g.2.1
  · rw [put_no g]; simp

/-- what a code's length and number are -/
theorem parts {ls : List Int} (h : Cd.okB ls = true) (s : Nat) (hs : s < ls.length) : ∃ V S : Nat, (Mk.mk ls).getD s 0 = (V : Int) ∧ ls.getD s 0 = (S : Int) ∧ V ≤ 9830400 ∧ S ≤ 15 := by
  have hl : ls.length ≤ 300 := by
    unfold Cd.okB at h; simp only [Bool.and_eq_true, decide_eq_true_eq] at h; exact h.1
  have hv : Cd.valid ls = true := by
    unfold Cd.okB at h; simp only [Bool.and_eq_true, decide_eq_true_eq] at h; exact h.2.1
  have hm : s < (Mk.mk ls).length := by rw [Mk.mk_len]; exact hs
  have e1 : (Mk.mk ls).getD s 0 = (Mk.mk ls)[s] := by rw [List.getD_eq_getElem?_getD, List.getElem?_eq_getElem hm]; rfl
  have e2 : ls.getD s 0 = ls[s] := by rw [List.getD_eq_getElem?_getD, List.getElem?_eq_getElem hs]; rfl
  have h1 := Mk.mk_small ls hl _ (List.getElem_mem hm)
  have h2 : Cd.okLen ls[s] = true := by
    unfold Cd.valid at hv; exact List.all_eq_true.1 hv _ (List.getElem_mem hs)
  unfold Cd.okLen at h2
  simp only [Bool.and_eq_true, decide_eq_true_eq] at h2
  obtain ⟨V, hV⟩ := Int.eq_ofNat_of_zero_le h1.1
  obtain ⟨S, hS⟩ := Int.eq_ofNat_of_zero_le h2.1
  exact ⟨V, S, by rw [e1, hV], by rw [e2, hS], by omega, by omega⟩
theorem bit_of {ls : List Int} {s V S : Nat} (hV : (Mk.mk ls).getD s 0 = (V : Int)) (hS : ls.getD s 0 = (S : Int)) : bit ls s = (((turned V S : Nat) : Int), (S : Int)) := by
  unfold bit; rw [hV, hS, Int.toNat_natCast, Int.toNat_natCast]
end Cp
end Go.Proofs.Ytjdilanmkgodnaa
