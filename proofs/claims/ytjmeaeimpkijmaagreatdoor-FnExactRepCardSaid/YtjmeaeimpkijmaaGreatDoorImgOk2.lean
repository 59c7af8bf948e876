/- ImageOk of the program: the colours are looked at. -/
import Derived.Test.YtjmeaeimpkijmaaGreatDoorImgOk
namespace Go.Proofs.YtjmeaeimpkijmaaGreatDoor
open Go.RowKit

set_option maxHeartbeats 2000000 in
set_option maxRecDepth 20000 in
theorem imageOk_d (k d wd hi : Int) (ca : Option Addr) (cn cc : Nat) (pa : Option Addr) (pn pc : Nat) (w : World) (cs : List Int) (hc : Ints w ca cs) (hcn : cs.length = cn) (hcl : cn ≤ 1048576) (hd : d ∈ depL k) (hw : 1 ≤ wd ∧ wd ≤ 20) (hh : 1 ≤ hi ∧ hi ≤ 20) (hco : ¬ Im.ColOk k d cs) :
    Calls Tryz.prog 28 #[.agg #[.int .i64 k, .int .i64 d, .int .i64 wd, .int .i64 hi, .slice ca cn cc, .slice pa pn pc]] w fun e w' => e = .returned (.bool false) ∧ Below w.heap.size w w' := by
  have HDS : Hid (∀ w : World, Calls Tryz.prog 55 #[.int .i64 k] w fun e w' => (∃ ao c, e = .returned (.slice ao (depL k).length c) ∧ Ints w' ao (depL k)) ∧ Below w.heap.size w w') := fun w => depthsOf_any k w
  have HCT : Hid (∀ (ao : Option Addr) (c : Nat) (w : World), Ints w ao (depL k) → Calls Tryz.prog 54 #[.slice ao (depL k).length c, .int .i64 d] w fun e w' => e = .returned (.bool true) ∧ w' = w) := by
    intro ao c w hI
    have := contains_any ao _ c (depL k) d w hI rfl (by have := depL_len k; omega)
    rw [decide_eq_true hd] at this; exact this
  have HSW : Hid (∀ w : World, Calls Tryz.prog 56 #[.int .i64 wd] w fun e w' => e = .returned (.bool true) ∧ w' = w) := by
    intro w
    have := sizeOk_any wd w
    rw [beyB_no (by omega)] at this; exact this
  have HSH : Hid (∀ w : World, Calls Tryz.prog 56 #[.int .i64 hi] w fun e w' => e = .returned (.bool true) ∧ w' = w) := by
    intro w
    have := sizeOk_any hi w
    rw [beyB_no (by omega)] at this; exact this
  have HCO : Hid (∀ w' : World, Ints w' ca cs → Calls Tryz.prog 57 #[.agg #[.int .i64 k, .int .i64 d, .int .i64 wd, .int .i64 hi, .slice ca cn cc, .slice pa pn pc]] w' fun e w'' => e = .returned (.bool false) ∧ Below w'.heap.size w' w'') := by
    intro w' hI
    have := colorsOk_any k d wd hi ca cn cc pa pn pc cs w' hI hcn hcl hd
    rw [Im.colB_no hco] at this; exact this
  have HIC : Hid (∀ w', Below w.heap.size w w' → Ints w' ca cs) := fun w' b => hc.kept b
  clear hd hw hh hco hc hcn
  generalize (depL k).length = L at *
  go_enter Tryz.func28, Tryz.ntmps28
  go_wp2_with fail
  go_region_held3 (fun w' => w'.cell? ⟨w.heap.size, 0, none⟩ = some (.int .i64 k) ∧ w'.cell? ⟨w.heap.size, 1, none⟩ = some (.int .i64 d) ∧ w'.cell? ⟨w.heap.size, 2, none⟩ = some (.int .i64 wd) ∧ w'.cell? ⟨w.heap.size, 3, none⟩ = some (.int .i64 hi) ∧ w'.cell? ⟨w.heap.size, 4, none⟩ = some (.slice ca cn cc) ∧ w'.cell? ⟨w.heap.size, 5, none⟩ = some (.slice pa pn pc)) (go_keep) (first | (go_at_call 55; refine (HDS.out _).mono ?_; rintro e w2 ⟨⟨ao, c, rfl, hI⟩, b2⟩; have HI : Hid (Ints w2 ao (depL k)) := hI; clear hI; obtain ⟨k0, k1, k2, k3, k4, k5⟩ := box_kept (box_new w _ _ _ _ _ _ 31) (box_drew b2) (by simp); have bw2 : Below w.heap.size w w2 := ((Below.refl w.heap.size w).alloc (Nat.le_refl _) _).trans ((box_drew b2).mono (by simp))) | (go_at_call 54; refine (HCT.out _ _ _ HI.out).mono ?_; rintro e w3 ⟨rfl, hw3⟩; have hv3 := hw3.symm; subst hv3) | (go_at_call_of 56 (Value.int IntKind.i64 wd); refine (HSW.out _).mono ?_; rintro e w4 ⟨rfl, hw4⟩; have hv4 := hw4.symm; subst hv4) | (go_at_call_of 56 (Value.int IntKind.i64 hi); refine (HSH.out _).mono ?_; rintro e w5 ⟨rfl, hw5⟩; have hv5 := hw5.symm; subst hv5) | (go_at_call 57; refine (HCO.out _ (HIC.out _ bw2)).mono ?_; rintro e w6 ⟨rfl, b6⟩; obtain ⟨q0, q1, q2, q3, q4, q5⟩ := box_kept ⟨k0, k1, k2, k3, k4, k5⟩ b6 (Nat.lt_of_lt_of_le (by simp) b2.size)))
  all_goals
    have bel : Below w.heap.size w w6 := bw2.trans (b6.mono bw2.size)
    clear b6 bw2
    clear b2
    go_wp2_with fail
    go_ret
    exact ⟨rfl, bel⟩

end Go.Proofs.YtjmeaeimpkijmaaGreatDoor
