/- ImageColor of both sides, for every picture and place. -/
import Derived.Test.YtcahppmnfoopkaaColSpec
import Derived.Test.YtcahppmnfoopkaaColRule
import Derived.Test.YtcahppmnfoopkaaAtWalks
namespace Go.Proofs.Ytcahppmnfoopkaa
open Go.RowKit
namespace Im
theorem ok_of' {k d wd hi : Int} {cs ps : List Int} (h : okB k d wd hi cs ps = true) : Ok k d wd hi cs ps := @of_decide_eq_true _ (Classical.propDecidable _) h
/-- whether a point is there -/
noncomputable def coB (k d wd hi x y : Int) (cs ps : List Int) : Bool := okB k d wd hi cs ps && inB x y wd hi
/-- its colour -/
noncomputable def coV (k d wd hi x y : Int) (cs ps : List Int) : Int := if coB k d wd hi x y cs ps = true then colOf k d.toNat cs (ps.getD (y * wd + x).toNat 0) else 0
theorem co_no {k d wd hi x y : Int} {cs ps : List Int} (h : coB k d wd hi x y cs ps = false) : coV k d wd hi x y cs ps = 0 := by unfold coV; rw [h]; rfl
theorem co_yes {k wd hi x y : Int} {D : Nat} {cs ps : List Int} (h : coB k (D : Int) wd hi x y cs ps = true) {pn I X Y Wd : Nat} (g : Spot wd hi x y pn I X Y Wd) : coV k (D : Int) wd hi x y cs ps = colOf k D cs (ps.getD I 0) := by
  unfold coV; rw [if_pos h, g.x, g.y, g.wd, g.i, Int.toNat_natCast]
  congr 1

theorem kinds {k : Int} {D : Nat} (h : (D : Int) ∈ depL k) : (k = 1 ∧ (D = 1 ∨ D = 2 ∨ D = 4 ∨ D = 8)) ∨ (k = 2 ∧ D = 24) ∨ (k = 3 ∧ D = 32) ∨ (k = 4 ∧ (D = 1 ∨ D = 2 ∨ D = 4 ∨ D = 8)) := by
  unfold depL at h
  split at h
  · next e => simp at h; rcases e with rfl | rfl
              · exact .inl ⟨rfl, by omega⟩
              · exact .inr (.inr (.inr ⟨rfl, by omega⟩))
  · split at h
    · next e => simp at h; exact .inr (.inl ⟨e, by omega⟩)
    · split at h
      · next e => simp at h; exact .inr (.inr (.inl ⟨e, by omega⟩))
      · simp at h

/-- each point of a picture that is ok is one that has a colour -/
theorem pt_ok {k wd hi : Int} {D : Nat} {cs ps : List Int} (h : Ok k (D : Int) wd hi cs ps) (I : Nat) (hI : I < ps.length) : ∃ p : Nat, ps.getD I 0 = (p : Int) ∧ PtOk k D cs p := by
  have hm := h.2.2.2.2.2 ps[I] (List.getElem_mem hI)
  have e : ps.getD I 0 = ps[I] := by rw [List.getD_eq_getElem?_getD, List.getElem?_eq_getElem hI]; rfl
  rw [e]
  obtain ⟨p, hp⟩ := Int.eq_ofNat_of_zero_le hm.1
  refine ⟨p, hp, ?_⟩
  have hle := hm.2
  rw [hp] at hle
  have hc := h.2.2.2.1
  rcases kinds h.1 with ⟨rfl, hD⟩ | ⟨rfl, rfl⟩ | ⟨rfl, _⟩ | ⟨rfl, hD⟩
  · refine .inl ⟨rfl, hD, ?_⟩
    unfold most at hle
    rw [if_neg (by decide), Int.toNat_natCast] at hle
    omega
  · refine .inr (.inl ⟨rfl, ?_⟩)
    unfold most at hle
    rw [if_neg (by decide), Int.toNat_natCast] at hle
    have : ((2 ^ 24 : Nat) : Int) = 16777216 := by decide
    omega
  · exact .inr (.inr (.inl rfl))
  · refine .inr (.inr (.inr ⟨rfl, ?_, (hc.2 rfl).2.2⟩))
    unfold most at hle
    rw [if_pos rfl] at hle
    omega
end Im
end Go.Proofs.Ytcahppmnfoopkaa
