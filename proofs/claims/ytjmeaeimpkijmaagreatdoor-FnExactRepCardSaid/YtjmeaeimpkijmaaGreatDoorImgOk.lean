/- ImageOk of the program. -/
import Derived.Test.YtjmeaeimpkijmaaGreatDoorImgCol
import Derived.Test.YtjmeaeimpkijmaaGreatDoorBoxWalks
namespace Go.Proofs.YtjmeaeimpkijmaaGreatDoor
open Go.RowKit

set_option maxHeartbeats 1000000 in
theorem colorsOk_other (k d wd hi : Int) (ca : Option Addr) (cn cc : Nat) (pa : Option Addr) (pn pc : Nat) (cs : List Int) (w : World) (hn : cs.length = cn) (hk : k ≠ 4) :
    Calls Tryz.prog 57 #[.agg #[.int .i64 k, .int .i64 d, .int .i64 wd, .int .i64 hi, .slice ca cn cc, .slice pa pn pc]] w fun e w' => e = .returned (.bool (Im.colB k d cs)) ∧ Below w.heap.size w w' := by
  have bel : Below w.heap.size w (w.alloc (.cells #[.int .i64 k, .int .i64 d, .int .i64 wd, .int .i64 hi, .slice ca cn cc, .slice pa pn pc] 31)) := (Below.refl _ _).alloc (Nat.le_refl _) _
  have hk' : (k == 4) = false := by simpa using hk
  by_cases h0 : cn = 0
  · have HC : Hid (Im.colB k d cs = true) := Im.colB_yes ⟨fun _ => by omega, fun e => absurd e hk⟩
    subst h0
    go_enter Tryz.func57, Tryz.ntmps57
    go_wp2_with fail
    go_ret
    exact ⟨by rw [HC.out]; rfl, bel⟩
  · have HC : Hid (Im.colB k d cs = false) := Im.colB_no (fun g => by have := g.1 hk; omega)
    have h0' : ((cn : Int) == 0) = false := by simp; omega
    go_enter Tryz.func57, Tryz.ntmps57
    go_wp2_with fail
    go_ret
    exact ⟨by rw [HC.out]; first | rfl | simp [h0'], bel⟩

theorem colorsOk_any (k d wd hi : Int) (ca : Option Addr) (cn cc : Nat) (pa : Option Addr) (pn pc : Nat) (cs : List Int) (w : World) (h : Ints w ca cs) (hn : cs.length = cn) (hl : cn ≤ 1048576) (hd : d ∈ depL k) :
    Calls Tryz.prog 57 #[.agg #[.int .i64 k, .int .i64 d, .int .i64 wd, .int .i64 hi, .slice ca cn cc, .slice pa pn pc]] w fun e w' => e = .returned (.bool (Im.colB k d cs)) ∧ Below w.heap.size w w' := by
  by_cases hk : k = 4
  · subst hk
    have h4 := Im.dep4 hd
    obtain ⟨D, rfl⟩ := Int.eq_ofNat_of_zero_le (show 0 ≤ d by omega)
    exact colorsOk_four D wd hi ca cn cc pa pn pc cs w h hn hl (by omega)
  · exact colorsOk_other k d wd hi ca cn cc pa pn pc cs w hn hk

set_option maxHeartbeats 2000000 in
set_option maxRecDepth 20000 in
theorem imageOk_a (k d wd hi : Int) (ca : Option Addr) (cn cc : Nat) (pa : Option Addr) (pn pc : Nat) (w : World) (hd : d ∉ depL k) :
    Calls Tryz.prog 28 #[.agg #[.int .i64 k, .int .i64 d, .int .i64 wd, .int .i64 hi, .slice ca cn cc, .slice pa pn pc]] w fun e w' => e = .returned (.bool false) ∧ Below w.heap.size w w' := by
  have HDS : Hid (∀ w : World, Calls Tryz.prog 55 #[.int .i64 k] w fun e w' => (∃ ao c, e = .returned (.slice ao (depL k).length c) ∧ Ints w' ao (depL k)) ∧ Below w.heap.size w w') := fun w => depthsOf_any k w
  have HCT : Hid (∀ (ao : Option Addr) (c : Nat) (w : World), Ints w ao (depL k) → Calls Tryz.prog 54 #[.slice ao (depL k).length c, .int .i64 d] w fun e w' => e = .returned (.bool false) ∧ w' = w) := by
    intro ao c w hI
    have := contains_any ao _ c (depL k) d w hI rfl (by have := depL_len k; omega)
    rw [decide_eq_false hd] at this; exact this
  clear hd
  generalize (depL k).length = L at *
  go_enter Tryz.func28, Tryz.ntmps28
  go_wp2_with fail
  first | go_region_with (first | (go_at_call 55; refine (HDS.out _).mono ?_; rintro e w2 ⟨⟨ao, c, rfl, hI⟩, b2⟩; have HI : Hid (Ints w2 ao (depL k)) := hI; clear hI; obtain ⟨k0, k1, k2, k3, k4, k5⟩ := box_kept (box_new w _ _ _ _ _ _ 31) (box_drew b2) (by simp)) | (go_at_call 54; refine (HCT.out _ _ _ HI.out).mono ?_; rintro e w3 ⟨rfl, hw3⟩; have hv3 := hw3.symm; subst hv3)) | fail
  all_goals
    have bel : Below w.heap.size w w2 := ((Below.refl w.heap.size w).alloc (Nat.le_refl _) _).trans ((box_drew b2).mono (by simp))
    clear b2
    go_wp2_with fail
    go_ret
    exact ⟨rfl, bel⟩

set_option maxHeartbeats 2000000 in
set_option maxRecDepth 20000 in
theorem imageOk_b (k d wd hi : Int) (ca : Option Addr) (cn cc : Nat) (pa : Option Addr) (pn pc : Nat) (w : World) (hd : d ∈ depL k) (hw : ¬ (1 ≤ wd ∧ wd ≤ 20)) :
    Calls Tryz.prog 28 #[.agg #[.int .i64 k, .int .i64 d, .int .i64 wd, .int .i64 hi, .slice ca cn cc, .slice pa pn pc]] w fun e w' => e = .returned (.bool false) ∧ Below w.heap.size w w' := by
  have HDS : Hid (∀ w : World, Calls Tryz.prog 55 #[.int .i64 k] w fun e w' => (∃ ao c, e = .returned (.slice ao (depL k).length c) ∧ Ints w' ao (depL k)) ∧ Below w.heap.size w w') := fun w => depthsOf_any k w
  have HCT : Hid (∀ (ao : Option Addr) (c : Nat) (w : World), Ints w ao (depL k) → Calls Tryz.prog 54 #[.slice ao (depL k).length c, .int .i64 d] w fun e w' => e = .returned (.bool true) ∧ w' = w) := by
    intro ao c w hI
    have := contains_any ao _ c (depL k) d w hI rfl (by have := depL_len k; omega)
    rw [decide_eq_true hd] at this; exact this
  have HSW : Hid (∀ w : World, Calls Tryz.prog 56 #[.int .i64 wd] w fun e w' => e = .returned (.bool false) ∧ w' = w) := by
    intro w
    have := sizeOk_any wd w
    rw [beyB_yes (by omega)] at this; exact this
  clear hd hw
  generalize (depL k).length = L at *
  go_enter Tryz.func28, Tryz.ntmps28
  go_wp2_with fail
  first | go_region_with (first | (go_at_call 55; refine (HDS.out _).mono ?_; rintro e w2 ⟨⟨ao, c, rfl, hI⟩, b2⟩; have HI : Hid (Ints w2 ao (depL k)) := hI; clear hI; obtain ⟨k0, k1, k2, k3, k4, k5⟩ := box_kept (box_new w _ _ _ _ _ _ 31) (box_drew b2) (by simp)) | (go_at_call 54; refine (HCT.out _ _ _ HI.out).mono ?_; rintro e w3 ⟨rfl, hw3⟩; have hv3 := hw3.symm; subst hv3) | (go_at_call_of 56 (Value.int IntKind.i64 wd); refine (HSW.out _).mono ?_; rintro e w4 ⟨rfl, hw4⟩; have hv4 := hw4.symm; subst hv4)) | fail
  all_goals
    have bel : Below w.heap.size w w2 := ((Below.refl w.heap.size w).alloc (Nat.le_refl _) _).trans ((box_drew b2).mono (by simp))
    clear b2
    go_wp2_with fail
    go_ret
    exact ⟨rfl, bel⟩

set_option maxHeartbeats 2000000 in
set_option maxRecDepth 20000 in
theorem imageOk_c (k d wd hi : Int) (ca : Option Addr) (cn cc : Nat) (pa : Option Addr) (pn pc : Nat) (w : World) (hd : d ∈ depL k) (hw : 1 ≤ wd ∧ wd ≤ 20) (hh : ¬ (1 ≤ hi ∧ hi ≤ 20)) :
    Calls Tryz.prog 28 #[.agg #[.int .i64 k, .int .i64 d, .int .i64 wd, .int .i64 hi, .slice ca cn cc, .slice pa pn pc]] w fun e w' => e = .returned (.bool false) ∧ Below w.heap.size w w' := by
  have HDS : Hid (∀ w : World, Calls Tryz.prog 55 #[.int .i64 k] w fun e w' => (∃ ao c, e = .returned (.slice ao (depL k).length c) ∧ Ints w' ao (depL k)) ∧ Below w.heap.size w w') := fun w => depthsOf_any k w
  have HCT : Hid (∀ (ao : Option Addr) (c : Nat) (w : World), Ints w ao (depL k) → Calls Tryz.prog 54 #[.slice ao (depL k).length c, .int .i64 d] w fun e w' => e = .returned (.bool true) ∧ w' = w) := by
    intro ao c w hI
    have := contains_any ao _ c (depL k) d w hI rfl (by have := depL_len k; omega)
    rw [decide_eq_true hd] at this; exact this
  have HSW : Hid (∀ w : World, Calls Tryz.prog 56 #[.int .i64 wd] w fun e w' => e = .returned (.bool true) ∧ w' = w) := by
    intro w
    have := sizeOk_any wd w
    rw [beyB_no (by omega)] at this; exact this
  have HSH : Hid (∀ w : World, Calls Tryz.prog 56 #[.int .i64 hi] w fun e w' => e = .returned (.bool false) ∧ w' = w) := by
    intro w
    have := sizeOk_any hi w
    rw [beyB_yes (by omega)] at this; exact this
  clear hd hw hh
  generalize (depL k).length = L at *
  go_enter Tryz.func28, Tryz.ntmps28
  go_wp2_with fail
  first | go_region_with (first | (go_at_call 55; refine (HDS.out _).mono ?_; rintro e w2 ⟨⟨ao, c, rfl, hI⟩, b2⟩; have HI : Hid (Ints w2 ao (depL k)) := hI; clear hI; obtain ⟨k0, k1, k2, k3, k4, k5⟩ := box_kept (box_new w _ _ _ _ _ _ 31) (box_drew b2) (by simp)) | (go_at_call 54; refine (HCT.out _ _ _ HI.out).mono ?_; rintro e w3 ⟨rfl, hw3⟩; have hv3 := hw3.symm; subst hv3) | (go_at_call_of 56 (Value.int IntKind.i64 wd); refine (HSW.out _).mono ?_; rintro e w4 ⟨rfl, hw4⟩; have hv4 := hw4.symm; subst hv4) | (go_at_call_of 56 (Value.int IntKind.i64 hi); refine (HSH.out _).mono ?_; rintro e w5 ⟨rfl, hw5⟩; have hv5 := hw5.symm; subst hv5)) | fail
  all_goals
    have bel : Below w.heap.size w w2 := ((Below.refl w.heap.size w).alloc (Nat.le_refl _) _).trans ((box_drew b2).mono (by simp))
    clear b2
    go_wp2_with fail
    go_ret
    exact ⟨rfl, bel⟩

end Go.Proofs.YtjmeaeimpkijmaaGreatDoor
