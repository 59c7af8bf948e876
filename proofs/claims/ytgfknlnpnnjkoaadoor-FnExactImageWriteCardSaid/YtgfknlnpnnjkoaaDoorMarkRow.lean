/- A list that an answer owns: marks laid into it and found. -/
import Derived.Test.YtgfknlnpnnjkoaaDoorHeldWalks
import Derived.Test.YtgfknlnpnnjkoaaDoorMarkBase
import Derived.Below
namespace Go.Proofs.YtgfknlnpnnjkoaaDoor
open Go.RowKit

def marks (M : Nat) : List Int := (List.range M).map fun i : Nat => (i : Int) + 1
theorem marks_len (M : Nat) : (marks M).length = M := by simp [marks]

theorem own_of {w : World} {b M : Nat} {l : List Int} (hM : l.length = M) (hb : b < w.heap.size) (hc : ∀ i (h : i < l.length), w.cell? ⟨b, i, none⟩ = some (.int .i64 l[i]) ∧ w.frozen? ⟨b, i, none⟩ = false) : Own w b M (fun i => l.getD i 0) := by
  refine ⟨hb, fun i hi => ?_⟩
  have h := hc i (by omega)
  have e : l.getD i 0 = l[i]'(by omega) := by rw [List.getD_eq_getElem?_getD, List.getElem?_eq_getElem (by omega)]; rfl
  show w.cell? ⟨b, i, none⟩ = some (.int .i64 (l.getD i 0)) ∧ _
  rw [e]
  exact h
theorem owns_marks {w : World} {lo b M : Nat} (h : Own w b M (fun i => (i : Int) + 1)) (hlo : lo ≤ b) : Owns w lo (some ⟨b, 0, none⟩) (marks M) := by
  refine .inr ⟨b, rfl, hlo, h.1, fun i hi => ?_⟩
  rw [marks_len] at hi
  have := h.2 i hi
  rw [show (marks M)[i]'(by rw [marks_len]; exact hi) = (i : Int) + 1 from by simp [marks]]
  exact this

theorem mark_g (x : Option Addr) (M c : Nat) (l : List Int) (lo : Nat) (w : World) (h : Owns w lo x l) (hM : l.length = M) (hn : M ≤ 2000000) (hlo : lo ≤ w.heap.size) :
    Calls Tryd.prog 40 #[.slice x M c, .int .i64 1] w fun e w' => e = .returned (.int .i64 ((M : Int) + 1)) ∧ Owns w' lo x (marks M) ∧ Below lo w w' := by
  rcases h with e | ⟨b, rfl, hb, hbs, hc⟩
  · rw [e] at hM
    have h0 : M = 0 := by rw [← hM]; rfl
    subst h0
    refine (mark_nil x c w).mono ?_
    rintro e w' ⟨rfl, rfl⟩
    exact ⟨rfl, .inl rfl, Below.refl _ _⟩
  · refine (mark_own b M c _ w (own_of hM hbs hc) hn).mono ?_
    rintro e w' ⟨rfl, hO, hT⟩
    exact ⟨rfl, owns_marks hO hb, hT.below hb⟩

theorem held_g (x : Option Addr) (M c : Nat) (lo : Nat) (w : World) (h : Owns w lo x (marks M)) (hn : M ≤ 2000000) :
    Calls Tryd.prog 41 #[.slice x M c, .int .i64 1] w fun e w' => e = .returned (.int .i64 ((M : Int) + 1)) ∧ w' = w := by
  rcases h with e | ⟨b, rfl, hb, hbs, hc⟩
  · have h0 : M = 0 := by rw [← marks_len M, e]; rfl
    subst h0
    exact held_nil x c w
  · refine held_own b M c w ⟨hbs, fun i hi => ?_⟩ hn
    have := hc i (by rw [marks_len]; exact hi)
    rw [show (marks M)[i]'(by rw [marks_len]; exact hi) = (i : Int) + 1 from by simp [marks]] at this
    exact this
end Go.Proofs.YtgfknlnpnnjkoaaDoor
