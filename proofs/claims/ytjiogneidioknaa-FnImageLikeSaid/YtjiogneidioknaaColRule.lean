/- The rule of a picture's colours, and the view by it. -/
import Derived.Test.YtjiogneidioknaaColWalks
import Derived.Laws.EntriesVeiled
namespace Go.Proofs.Ytjiogneidioknaa
open Go.RowKit

set_option maxHeartbeats 1000000 in
theorem rule_gray (D : Nat) (wd hi : Int) (ca : Option Addr) (cn cc : Nat) (pa : Option Addr) (pn pc : Nat) (w : World) (hD : D = 1 ∨ D = 2 ∨ D = 4 ∨ D = 8) :
    Calls Try.prog 60 #[.agg #[.int .i64 1, .int .i64 (D : Int), .int .i64 wd, .int .i64 hi, .slice ca cn cc, .slice pa pn pc]] w fun e w' => (∃ A B, e = .returned (.func (.func 65) #[] #[.pointer (some ⟨A, 0, none⟩), .pointer (some ⟨B, 0, none⟩)]) ∧ w'.cell? ⟨A, 0, none⟩ = some (.func (.func 64) #[] #[]) ∧ w'.cell? ⟨B, 0, none⟩ = some (.int .i64 (stepOf D : Int)) ∧ A < w'.heap.size ∧ B < w'.heap.size) ∧ Below w.heap.size w w' := by
  rcases hD with rfl | rfl | rfl | rfl
  all_goals
    go_enter Try.func60, Try.ntmps60
    go_wp2_with fail
    go_ret
    refine ⟨⟨w.heap.size + 1, w.heap.size + 1 + 1, rfl, ?_, ?_, by simp, by simp⟩, ((((Below.refl w.heap.size w).alloc (Nat.le_refl _) _).alloc (by simp) _).alloc (by simp; omega) _)⟩
    · refine (World.cell?_alloc_past _ _ _ (by simp)).trans ?_
      rw [World.cell?_alloc_at _ _ _ _ (by simp)]; rfl
    · rw [World.cell?_alloc_at _ _ _ _ (by simp)]; rfl

set_option maxHeartbeats 1000000 in
theorem rule_pal (d : Int) (wd hi : Int) (ca : Option Addr) (cn cc : Nat) (pa : Option Addr) (pn pc : Nat) (w : World) :
    Calls Try.prog 60 #[.agg #[.int .i64 4, .int .i64 d, .int .i64 wd, .int .i64 hi, .slice ca cn cc, .slice pa pn pc]] w fun e w' => (∃ A B, e = .returned (.func (.func 66) #[] #[.pointer (some ⟨A, 0, none⟩), .pointer (some ⟨B, 0, none⟩)]) ∧ w'.cell? ⟨A, 0, none⟩ = some (.func (.func 64) #[] #[]) ∧ w'.cell? ⟨B, 4, none⟩ = some (.slice ca cn cc) ∧ A < w'.heap.size ∧ B < w'.heap.size) ∧ Below w.heap.size w w' := by
  go_enter Try.func60, Try.ntmps60
  go_wp2_with fail
  go_ret
  refine ⟨⟨w.heap.size + 1, w.heap.size, rfl, ?_, ?_, by simp, by simp; omega⟩, (((Below.refl w.heap.size w).alloc (Nat.le_refl _) _).alloc (by simp) _)⟩
  · rw [World.cell?_alloc_at _ _ _ _ (by simp)]; rfl
  · refine (World.cell?_alloc_past _ _ _ (by simp)).trans ?_
    rw [World.cell?_alloc_at _ _ _ _ rfl]; rfl

set_option maxHeartbeats 1000000 in
theorem rule_rgb (d : Int) (wd hi : Int) (ca : Option Addr) (cn cc : Nat) (pa : Option Addr) (pn pc : Nat) (w : World) :
    Calls Try.prog 60 #[.agg #[.int .i64 2, .int .i64 d, .int .i64 wd, .int .i64 hi, .slice ca cn cc, .slice pa pn pc]] w fun e w' => e = .returned (.func (.func 64) #[] #[]) ∧ Below w.heap.size w w' := by
  go_enter Try.func60, Try.ntmps60
  go_wp2_with fail
  go_ret
  exact ⟨rfl, (((Below.refl w.heap.size w).alloc (Nat.le_refl _) _).alloc (by simp) _)⟩

set_option maxHeartbeats 1000000 in
theorem rule_rgba (d : Int) (wd hi : Int) (ca : Option Addr) (cn cc : Nat) (pa : Option Addr) (pn pc : Nat) (w : World) :
    Calls Try.prog 60 #[.agg #[.int .i64 3, .int .i64 d, .int .i64 wd, .int .i64 hi, .slice ca cn cc, .slice pa pn pc]] w fun e w' => e = .returned (.func (.func 67) #[] #[]) ∧ Below w.heap.size w w' := by
  go_enter Try.func60, Try.ntmps60
  go_wp2_with fail
  go_ret
  exact ⟨rfl, (((Below.refl w.heap.size w).alloc (Nat.le_refl _) _).alloc (by simp) _)⟩

set_option maxHeartbeats 1000000 in
set_option maxRecDepth 20000 in
theorem colored_gray (D : Nat) (wd hi : Int) (ca : Option Addr) (cn cc : Nat) (pa : Option Addr) (pn pc : Nat) (w : World) (hD : D = 1 ∨ D = 2 ∨ D = 4 ∨ D = 8) :
    Calls Try.prog 44 #[.agg #[.int .i64 1, .int .i64 (D : Int), .int .i64 wd, .int .i64 hi, .slice ca cn cc, .slice pa pn pc]] w fun e w' => (∃ A B, e = .returned (.iface 56 (.agg #[.iface 49 (.agg #[.int .i64 1, .int .i64 (D : Int), .int .i64 wd, .int .i64 hi, .slice ca cn cc, .slice pa pn pc]), .func (.func 65) #[] #[.pointer (some ⟨A, 0, none⟩), .pointer (some ⟨B, 0, none⟩)]])) ∧ w'.cell? ⟨A, 0, none⟩ = some (.func (.func 64) #[] #[]) ∧ w'.cell? ⟨B, 0, none⟩ = some (.int .i64 (stepOf D : Int)) ∧ A < w'.heap.size ∧ B < w'.heap.size) ∧ Below w.heap.size w w' := by
  have HR : Hid (∀ w : World, Calls Try.prog 60 #[.agg #[.int .i64 1, .int .i64 (D : Int), .int .i64 wd, .int .i64 hi, .slice ca cn cc, .slice pa pn pc]] w fun e w' => (∃ A B, e = .returned (.func (.func 65) #[] #[.pointer (some ⟨A, 0, none⟩), .pointer (some ⟨B, 0, none⟩)]) ∧ w'.cell? ⟨A, 0, none⟩ = some (.func (.func 64) #[] #[]) ∧ w'.cell? ⟨B, 0, none⟩ = some (.int .i64 (stepOf D : Int)) ∧ A < w'.heap.size ∧ B < w'.heap.size) ∧ Below w.heap.size w w') := fun w => rule_gray D wd hi ca cn cc pa pn pc w hD
  go_enter Try.func44, Try.ntmps44
  go_wp2_with fail
  go_region_held3 (fun w' => w'.cell? ⟨w.heap.size, 0, none⟩ = some (.int .i64 1) ∧ w'.cell? ⟨w.heap.size, 1, none⟩ = some (.int .i64 (D : Int)) ∧ w'.cell? ⟨w.heap.size, 2, none⟩ = some (.int .i64 wd) ∧ w'.cell? ⟨w.heap.size, 3, none⟩ = some (.int .i64 hi) ∧ w'.cell? ⟨w.heap.size, 4, none⟩ = some (.slice ca cn cc) ∧ w'.cell? ⟨w.heap.size, 5, none⟩ = some (.slice pa pn pc)) (go_keep) ((go_at_call 60; refine (HR.out _).mono ?_; rintro e w2 ⟨⟨A, B, rfl, hA, hB, hA2, hB2⟩, b2⟩; have HF : Hid (w2.cell? ⟨A, 0, none⟩ = some (.func (.func 64) #[] #[]) ∧ w2.cell? ⟨B, 0, none⟩ = some (.int .i64 (stepOf D : Int)) ∧ A < w2.heap.size ∧ B < w2.heap.size) := ⟨hA, hB, hA2, hB2⟩; clear hA hB hA2 hB2; obtain ⟨k0, k1, k2, k3, k4, k5⟩ := box_kept (box_new w _ _ _ _ _ _ 26) (box_drew b2) (by simp)))
  all_goals
    have bel2 : Below w.heap.size w w2 := ((Below.refl w.heap.size w).alloc (Nat.le_refl _) _).trans ((box_drew b2).mono (by simp))
    clear b2
    go_wp2_with fail
    go_ret
    exact ⟨⟨A, B, rfl, HF.out⟩, bel2⟩

set_option maxHeartbeats 1000000 in
set_option maxRecDepth 20000 in
theorem colored_pal (d : Int) (wd hi : Int) (ca : Option Addr) (cn cc : Nat) (pa : Option Addr) (pn pc : Nat) (w : World) :
    Calls Try.prog 44 #[.agg #[.int .i64 4, .int .i64 d, .int .i64 wd, .int .i64 hi, .slice ca cn cc, .slice pa pn pc]] w fun e w' => (∃ A B, e = .returned (.iface 56 (.agg #[.iface 49 (.agg #[.int .i64 4, .int .i64 d, .int .i64 wd, .int .i64 hi, .slice ca cn cc, .slice pa pn pc]), .func (.func 66) #[] #[.pointer (some ⟨A, 0, none⟩), .pointer (some ⟨B, 0, none⟩)]])) ∧ w'.cell? ⟨A, 0, none⟩ = some (.func (.func 64) #[] #[]) ∧ w'.cell? ⟨B, 4, none⟩ = some (.slice ca cn cc) ∧ A < w'.heap.size ∧ B < w'.heap.size) ∧ Below w.heap.size w w' := by
  have HR : Hid (∀ w : World, Calls Try.prog 60 #[.agg #[.int .i64 4, .int .i64 d, .int .i64 wd, .int .i64 hi, .slice ca cn cc, .slice pa pn pc]] w fun e w' => (∃ A B, e = .returned (.func (.func 66) #[] #[.pointer (some ⟨A, 0, none⟩), .pointer (some ⟨B, 0, none⟩)]) ∧ w'.cell? ⟨A, 0, none⟩ = some (.func (.func 64) #[] #[]) ∧ w'.cell? ⟨B, 4, none⟩ = some (.slice ca cn cc) ∧ A < w'.heap.size ∧ B < w'.heap.size) ∧ Below w.heap.size w w') := fun w => rule_pal d wd hi ca cn cc pa pn pc w
  go_enter Try.func44, Try.ntmps44
  go_wp2_with fail
  go_region_held3 (fun w' => w'.cell? ⟨w.heap.size, 0, none⟩ = some (.int .i64 4) ∧ w'.cell? ⟨w.heap.size, 1, none⟩ = some (.int .i64 d) ∧ w'.cell? ⟨w.heap.size, 2, none⟩ = some (.int .i64 wd) ∧ w'.cell? ⟨w.heap.size, 3, none⟩ = some (.int .i64 hi) ∧ w'.cell? ⟨w.heap.size, 4, none⟩ = some (.slice ca cn cc) ∧ w'.cell? ⟨w.heap.size, 5, none⟩ = some (.slice pa pn pc)) (go_keep) ((go_at_call 60; refine (HR.out _).mono ?_; rintro e w2 ⟨⟨A, B, rfl, hA, hB, hA2, hB2⟩, b2⟩; have HF : Hid (w2.cell? ⟨A, 0, none⟩ = some (.func (.func 64) #[] #[]) ∧ w2.cell? ⟨B, 4, none⟩ = some (.slice ca cn cc) ∧ A < w2.heap.size ∧ B < w2.heap.size) := ⟨hA, hB, hA2, hB2⟩; clear hA hB hA2 hB2; obtain ⟨k0, k1, k2, k3, k4, k5⟩ := box_kept (box_new w _ _ _ _ _ _ 26) (box_drew b2) (by simp)))
  all_goals
    have bel2 : Below w.heap.size w w2 := ((Below.refl w.heap.size w).alloc (Nat.le_refl _) _).trans ((box_drew b2).mono (by simp))
    clear b2
    go_wp2_with fail
    go_ret
    exact ⟨⟨A, B, rfl, HF.out⟩, bel2⟩

set_option maxHeartbeats 1000000 in
set_option maxRecDepth 20000 in
theorem colored_rgb (d : Int) (wd hi : Int) (ca : Option Addr) (cn cc : Nat) (pa : Option Addr) (pn pc : Nat) (w : World) :
    Calls Try.prog 44 #[.agg #[.int .i64 2, .int .i64 d, .int .i64 wd, .int .i64 hi, .slice ca cn cc, .slice pa pn pc]] w fun e w' => e = .returned (.iface 56 (.agg #[.iface 49 (.agg #[.int .i64 2, .int .i64 d, .int .i64 wd, .int .i64 hi, .slice ca cn cc, .slice pa pn pc]), .func (.func 64) #[] #[]])) ∧ Below w.heap.size w w' := by
  have HR : Hid (∀ w : World, Calls Try.prog 60 #[.agg #[.int .i64 2, .int .i64 d, .int .i64 wd, .int .i64 hi, .slice ca cn cc, .slice pa pn pc]] w fun e w' => e = .returned (.func (.func 64) #[] #[]) ∧ Below w.heap.size w w') := fun w => rule_rgb d wd hi ca cn cc pa pn pc w
  go_enter Try.func44, Try.ntmps44
  go_wp2_with fail
  go_region_held3 (fun w' => w'.cell? ⟨w.heap.size, 0, none⟩ = some (.int .i64 2) ∧ w'.cell? ⟨w.heap.size, 1, none⟩ = some (.int .i64 d) ∧ w'.cell? ⟨w.heap.size, 2, none⟩ = some (.int .i64 wd) ∧ w'.cell? ⟨w.heap.size, 3, none⟩ = some (.int .i64 hi) ∧ w'.cell? ⟨w.heap.size, 4, none⟩ = some (.slice ca cn cc) ∧ w'.cell? ⟨w.heap.size, 5, none⟩ = some (.slice pa pn pc)) (go_keep) ((go_at_call 60; refine (HR.out _).mono ?_; rintro e w2 ⟨rfl, b2⟩; obtain ⟨k0, k1, k2, k3, k4, k5⟩ := box_kept (box_new w _ _ _ _ _ _ 26) (box_drew b2) (by simp)))
  all_goals
    have bel2 : Below w.heap.size w w2 := ((Below.refl w.heap.size w).alloc (Nat.le_refl _) _).trans ((box_drew b2).mono (by simp))
    clear b2
    go_wp2_with fail
    go_ret
    exact ⟨rfl, bel2⟩

set_option maxHeartbeats 1000000 in
set_option maxRecDepth 20000 in
theorem colored_rgba (d : Int) (wd hi : Int) (ca : Option Addr) (cn cc : Nat) (pa : Option Addr) (pn pc : Nat) (w : World) :
    Calls Try.prog 44 #[.agg #[.int .i64 3, .int .i64 d, .int .i64 wd, .int .i64 hi, .slice ca cn cc, .slice pa pn pc]] w fun e w' => e = .returned (.iface 56 (.agg #[.iface 49 (.agg #[.int .i64 3, .int .i64 d, .int .i64 wd, .int .i64 hi, .slice ca cn cc, .slice pa pn pc]), .func (.func 67) #[] #[]])) ∧ Below w.heap.size w w' := by
  have HR : Hid (∀ w : World, Calls Try.prog 60 #[.agg #[.int .i64 3, .int .i64 d, .int .i64 wd, .int .i64 hi, .slice ca cn cc, .slice pa pn pc]] w fun e w' => e = .returned (.func (.func 67) #[] #[]) ∧ Below w.heap.size w w') := fun w => rule_rgba d wd hi ca cn cc pa pn pc w
  go_enter Try.func44, Try.ntmps44
  go_wp2_with fail
  go_region_held3 (fun w' => w'.cell? ⟨w.heap.size, 0, none⟩ = some (.int .i64 3) ∧ w'.cell? ⟨w.heap.size, 1, none⟩ = some (.int .i64 d) ∧ w'.cell? ⟨w.heap.size, 2, none⟩ = some (.int .i64 wd) ∧ w'.cell? ⟨w.heap.size, 3, none⟩ = some (.int .i64 hi) ∧ w'.cell? ⟨w.heap.size, 4, none⟩ = some (.slice ca cn cc) ∧ w'.cell? ⟨w.heap.size, 5, none⟩ = some (.slice pa pn pc)) (go_keep) ((go_at_call 60; refine (HR.out _).mono ?_; rintro e w2 ⟨rfl, b2⟩; obtain ⟨k0, k1, k2, k3, k4, k5⟩ := box_kept (box_new w _ _ _ _ _ _ 26) (box_drew b2) (by simp)))
  all_goals
    have bel2 : Below w.heap.size w w2 := ((Below.refl w.heap.size w).alloc (Nat.le_refl _) _).trans ((box_drew b2).mono (by simp))
    clear b2
    go_wp2_with fail
    go_ret
    exact ⟨rfl, bel2⟩

end Go.Proofs.Ytjiogneidioknaa
