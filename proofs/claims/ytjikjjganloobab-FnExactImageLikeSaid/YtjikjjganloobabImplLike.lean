/- ImageLike of the program. -/
import Derived.Test.YtjikjjganloobabColSeen
import Derived.Test.YtjikjjganloobabPicLaw
import Derived.Deep.RegionHeld3
namespace Go.Proofs.Ytjikjjganloobab
open Go.RowKit

set_option maxHeartbeats 1000000 in
set_option maxRecDepth 20000 in
theorem impl_like_bad1 (k d wd hi : Int) (ca : Option Addr) (cn cc : Nat) (pa : Option Addr) (pn pc : Nat) (k2 d2 wd2 hi2 : Int) (ca2 : Option Addr) (cn2 cc2 : Nat) (pa2 : Option Addr) (pn2 pc2 : Nat) (w : World) (hOA : (∀ w', Below w.heap.size w w' → Calls Try.prog 45 #[.agg #[.int .i64 k, .int .i64 d, .int .i64 wd, .int .i64 hi, .slice ca cn cc, .slice pa pn pc]] w' fun e w'' => e = .returned (.bool false) ∧ Below w'.heap.size w' w'')) :
    Calls Try.prog 25 #[.agg #[.int .i64 k, .int .i64 d, .int .i64 wd, .int .i64 hi, .slice ca cn cc, .slice pa pn pc], .agg #[.int .i64 k2, .int .i64 d2, .int .i64 wd2, .int .i64 hi2, .slice ca2 cn2 cc2, .slice pa2 pn2 pc2]] w fun e w' => e = .returned (.bool false) ∧ Below w.heap.size w w' := by
  have hB0 : Below w.heap.size w ((w.alloc (.cells #[.int .i64 k, .int .i64 d, .int .i64 wd, .int .i64 hi, .slice ca cn cc, .slice pa pn pc] 36)).alloc (.cells #[.int .i64 k2, .int .i64 d2, .int .i64 wd2, .int .i64 hi2, .slice ca2 cn2 cc2, .slice pa2 pn2 pc2] 36)) := ((Below.refl _ _).alloc (Nat.le_refl _) _).alloc (by simp) _
  have A0 : Hid (Bx ((w.alloc (.cells #[.int .i64 k, .int .i64 d, .int .i64 wd, .int .i64 hi, .slice ca cn cc, .slice pa pn pc] 36)).alloc (.cells #[.int .i64 k2, .int .i64 d2, .int .i64 wd2, .int .i64 hi2, .slice ca2 cn2 cc2, .slice pa2 pn2 pc2] 36)) w.heap.size (.int .i64 k) (.int .i64 d) (.int .i64 wd) (.int .i64 hi) (.slice ca cn cc) (.slice pa pn pc)) := (bx_new w _ _ _ _ _ _ 36).kept ((Below.refl _ _).alloc (Nat.le_refl _) _)
  have B0 : Hid (Bx ((w.alloc (.cells #[.int .i64 k, .int .i64 d, .int .i64 wd, .int .i64 hi, .slice ca cn cc, .slice pa pn pc] 36)).alloc (.cells #[.int .i64 k2, .int .i64 d2, .int .i64 wd2, .int .i64 hi2, .slice ca2 cn2 cc2, .slice pa2 pn2 pc2] 36)) (w.heap.size + 1) (.int .i64 k2) (.int .i64 d2) (.int .i64 wd2) (.int .i64 hi2) (.slice ca2 cn2 cc2) (.slice pa2 pn2 pc2)) := by
    have := bx_new (w.alloc (.cells #[.int .i64 k, .int .i64 d, .int .i64 wd, .int .i64 hi, .slice ca cn cc, .slice pa pn pc] 36)) (.int .i64 k2) (.int .i64 d2) (.int .i64 wd2) (.int .i64 hi2) (.slice ca2 cn2 cc2) (.slice pa2 pn2 pc2) 36
    rw [World.size_alloc] at this; exact this
  have HOA : Hid (∀ w', Below w.heap.size w w' → Calls Try.prog 45 #[.agg #[.int .i64 k, .int .i64 d, .int .i64 wd, .int .i64 hi, .slice ca cn cc, .slice pa pn pc]] w' fun e w'' => e = .returned (.bool false) ∧ Below w'.heap.size w' w'') := hOA
  clear hOA
  go_enter Try.func25, Try.ntmps25
  go_wp2_with fail
  refine (HOA.out _ hB0).mono ?_
  rintro e w1 ⟨rfl, b1⟩
  have A1 : Hid (Bx w1 w.heap.size (.int .i64 k) (.int .i64 d) (.int .i64 wd) (.int .i64 hi) (.slice ca cn cc) (.slice pa pn pc)) := A0.out.kept b1
  have B1 : Hid (Bx w1 (w.heap.size + 1) (.int .i64 k2) (.int .i64 d2) (.int .i64 wd2) (.int .i64 hi2) (.slice ca2 cn2 cc2) (.slice pa2 pn2 pc2)) := B0.out.kept b1
  have bel1 : Below w.heap.size w w1 := hB0.trans (b1.mono hB0.size)
  clear b1 hB0 A0 B0 HOA
  clear A1 B1
  go_wp2_with fail
  go_ret
  exact ⟨rfl, bel1⟩

set_option maxHeartbeats 1000000 in
set_option maxRecDepth 20000 in
theorem impl_like_bad2 (k d wd hi : Int) (ca : Option Addr) (cn cc : Nat) (pa : Option Addr) (pn pc : Nat) (k2 d2 wd2 hi2 : Int) (ca2 : Option Addr) (cn2 cc2 : Nat) (pa2 : Option Addr) (pn2 pc2 : Nat) (w : World) (hOA : (∀ w', Below w.heap.size w w' → Calls Try.prog 45 #[.agg #[.int .i64 k, .int .i64 d, .int .i64 wd, .int .i64 hi, .slice ca cn cc, .slice pa pn pc]] w' fun e w'' => e = .returned (.bool true) ∧ Below w'.heap.size w' w'')) (hOB : (∀ w', Below w.heap.size w w' → Calls Try.prog 45 #[.agg #[.int .i64 k2, .int .i64 d2, .int .i64 wd2, .int .i64 hi2, .slice ca2 cn2 cc2, .slice pa2 pn2 pc2]] w' fun e w'' => e = .returned (.bool false) ∧ Below w'.heap.size w' w'')) :
    Calls Try.prog 25 #[.agg #[.int .i64 k, .int .i64 d, .int .i64 wd, .int .i64 hi, .slice ca cn cc, .slice pa pn pc], .agg #[.int .i64 k2, .int .i64 d2, .int .i64 wd2, .int .i64 hi2, .slice ca2 cn2 cc2, .slice pa2 pn2 pc2]] w fun e w' => e = .returned (.bool false) ∧ Below w.heap.size w w' := by
  have hB0 : Below w.heap.size w ((w.alloc (.cells #[.int .i64 k, .int .i64 d, .int .i64 wd, .int .i64 hi, .slice ca cn cc, .slice pa pn pc] 36)).alloc (.cells #[.int .i64 k2, .int .i64 d2, .int .i64 wd2, .int .i64 hi2, .slice ca2 cn2 cc2, .slice pa2 pn2 pc2] 36)) := ((Below.refl _ _).alloc (Nat.le_refl _) _).alloc (by simp) _
  have A0 : Hid (Bx ((w.alloc (.cells #[.int .i64 k, .int .i64 d, .int .i64 wd, .int .i64 hi, .slice ca cn cc, .slice pa pn pc] 36)).alloc (.cells #[.int .i64 k2, .int .i64 d2, .int .i64 wd2, .int .i64 hi2, .slice ca2 cn2 cc2, .slice pa2 pn2 pc2] 36)) w.heap.size (.int .i64 k) (.int .i64 d) (.int .i64 wd) (.int .i64 hi) (.slice ca cn cc) (.slice pa pn pc)) := (bx_new w _ _ _ _ _ _ 36).kept ((Below.refl _ _).alloc (Nat.le_refl _) _)
  have B0 : Hid (Bx ((w.alloc (.cells #[.int .i64 k, .int .i64 d, .int .i64 wd, .int .i64 hi, .slice ca cn cc, .slice pa pn pc] 36)).alloc (.cells #[.int .i64 k2, .int .i64 d2, .int .i64 wd2, .int .i64 hi2, .slice ca2 cn2 cc2, .slice pa2 pn2 pc2] 36)) (w.heap.size + 1) (.int .i64 k2) (.int .i64 d2) (.int .i64 wd2) (.int .i64 hi2) (.slice ca2 cn2 cc2) (.slice pa2 pn2 pc2)) := by
    have := bx_new (w.alloc (.cells #[.int .i64 k, .int .i64 d, .int .i64 wd, .int .i64 hi, .slice ca cn cc, .slice pa pn pc] 36)) (.int .i64 k2) (.int .i64 d2) (.int .i64 wd2) (.int .i64 hi2) (.slice ca2 cn2 cc2) (.slice pa2 pn2 pc2) 36
    rw [World.size_alloc] at this; exact this
  have HOA : Hid (∀ w', Below w.heap.size w w' → Calls Try.prog 45 #[.agg #[.int .i64 k, .int .i64 d, .int .i64 wd, .int .i64 hi, .slice ca cn cc, .slice pa pn pc]] w' fun e w'' => e = .returned (.bool true) ∧ Below w'.heap.size w' w'') := hOA
  have HOB : Hid (∀ w', Below w.heap.size w w' → Calls Try.prog 45 #[.agg #[.int .i64 k2, .int .i64 d2, .int .i64 wd2, .int .i64 hi2, .slice ca2 cn2 cc2, .slice pa2 pn2 pc2]] w' fun e w'' => e = .returned (.bool false) ∧ Below w'.heap.size w' w'') := hOB
  clear hOA hOB
  go_enter Try.func25, Try.ntmps25
  go_wp2_with fail
  refine (HOA.out _ hB0).mono ?_
  rintro e w1 ⟨rfl, b1⟩
  have A1 : Hid (Bx w1 w.heap.size (.int .i64 k) (.int .i64 d) (.int .i64 wd) (.int .i64 hi) (.slice ca cn cc) (.slice pa pn pc)) := A0.out.kept b1
  have B1 : Hid (Bx w1 (w.heap.size + 1) (.int .i64 k2) (.int .i64 d2) (.int .i64 wd2) (.int .i64 hi2) (.slice ca2 cn2 cc2) (.slice pa2 pn2 pc2)) := B0.out.kept b1
  have bel1 : Below w.heap.size w w1 := hB0.trans (b1.mono hB0.size)
  clear b1 hB0 A0 B0 HOA
  obtain ⟨_, p0, p1, p2, p3, p4, p5⟩ := B1.out
  go_wp2_with fail
  refine (HOB.out _ bel1).mono ?_
  rintro e w2 ⟨rfl, b2⟩
  have A2 : Hid (Bx w2 w.heap.size (.int .i64 k) (.int .i64 d) (.int .i64 wd) (.int .i64 hi) (.slice ca cn cc) (.slice pa pn pc)) := A1.out.kept b2
  have B2 : Hid (Bx w2 (w.heap.size + 1) (.int .i64 k2) (.int .i64 d2) (.int .i64 wd2) (.int .i64 hi2) (.slice ca2 cn2 cc2) (.slice pa2 pn2 pc2)) := B1.out.kept b2
  have bel2 : Below w.heap.size w w2 := bel1.trans (b2.mono bel1.size)
  clear b2 bel1 A1 B1 HOB p0 p1 p2 p3 p4 p5
  obtain ⟨_, a0, a1, a2, a3, a4, a5⟩ := A2.out
  obtain ⟨_, p0, p1, p2, p3, p4, p5⟩ := B2.out
  clear A2 B2
  go_wp2_with fail
  go_ret
  exact ⟨rfl, bel2⟩

set_option maxHeartbeats 1000000 in
set_option maxRecDepth 20000 in
theorem impl_like_wide (k d wd hi : Int) (ca : Option Addr) (cn cc : Nat) (pa : Option Addr) (pn pc : Nat) (k2 d2 wd2 hi2 : Int) (ca2 : Option Addr) (cn2 cc2 : Nat) (pa2 : Option Addr) (pn2 pc2 : Nat) (w : World) (hno : ¬ wd = wd2) (hOA : (∀ w', Below w.heap.size w w' → Calls Try.prog 45 #[.agg #[.int .i64 k, .int .i64 d, .int .i64 wd, .int .i64 hi, .slice ca cn cc, .slice pa pn pc]] w' fun e w'' => e = .returned (.bool true) ∧ Below w'.heap.size w' w'')) (hOB : (∀ w', Below w.heap.size w w' → Calls Try.prog 45 #[.agg #[.int .i64 k2, .int .i64 d2, .int .i64 wd2, .int .i64 hi2, .slice ca2 cn2 cc2, .slice pa2 pn2 pc2]] w' fun e w'' => e = .returned (.bool true) ∧ Below w'.heap.size w' w'')) :
    Calls Try.prog 25 #[.agg #[.int .i64 k, .int .i64 d, .int .i64 wd, .int .i64 hi, .slice ca cn cc, .slice pa pn pc], .agg #[.int .i64 k2, .int .i64 d2, .int .i64 wd2, .int .i64 hi2, .slice ca2 cn2 cc2, .slice pa2 pn2 pc2]] w fun e w' => e = .returned (.bool false) ∧ Below w.heap.size w w' := by
  have hB0 : Below w.heap.size w ((w.alloc (.cells #[.int .i64 k, .int .i64 d, .int .i64 wd, .int .i64 hi, .slice ca cn cc, .slice pa pn pc] 36)).alloc (.cells #[.int .i64 k2, .int .i64 d2, .int .i64 wd2, .int .i64 hi2, .slice ca2 cn2 cc2, .slice pa2 pn2 pc2] 36)) := ((Below.refl _ _).alloc (Nat.le_refl _) _).alloc (by simp) _
  have A0 : Hid (Bx ((w.alloc (.cells #[.int .i64 k, .int .i64 d, .int .i64 wd, .int .i64 hi, .slice ca cn cc, .slice pa pn pc] 36)).alloc (.cells #[.int .i64 k2, .int .i64 d2, .int .i64 wd2, .int .i64 hi2, .slice ca2 cn2 cc2, .slice pa2 pn2 pc2] 36)) w.heap.size (.int .i64 k) (.int .i64 d) (.int .i64 wd) (.int .i64 hi) (.slice ca cn cc) (.slice pa pn pc)) := (bx_new w _ _ _ _ _ _ 36).kept ((Below.refl _ _).alloc (Nat.le_refl _) _)
  have B0 : Hid (Bx ((w.alloc (.cells #[.int .i64 k, .int .i64 d, .int .i64 wd, .int .i64 hi, .slice ca cn cc, .slice pa pn pc] 36)).alloc (.cells #[.int .i64 k2, .int .i64 d2, .int .i64 wd2, .int .i64 hi2, .slice ca2 cn2 cc2, .slice pa2 pn2 pc2] 36)) (w.heap.size + 1) (.int .i64 k2) (.int .i64 d2) (.int .i64 wd2) (.int .i64 hi2) (.slice ca2 cn2 cc2) (.slice pa2 pn2 pc2)) := by
    have := bx_new (w.alloc (.cells #[.int .i64 k, .int .i64 d, .int .i64 wd, .int .i64 hi, .slice ca cn cc, .slice pa pn pc] 36)) (.int .i64 k2) (.int .i64 d2) (.int .i64 wd2) (.int .i64 hi2) (.slice ca2 cn2 cc2) (.slice pa2 pn2 pc2) 36
    rw [World.size_alloc] at this; exact this
  have HOA : Hid (∀ w', Below w.heap.size w w' → Calls Try.prog 45 #[.agg #[.int .i64 k, .int .i64 d, .int .i64 wd, .int .i64 hi, .slice ca cn cc, .slice pa pn pc]] w' fun e w'' => e = .returned (.bool true) ∧ Below w'.heap.size w' w'') := hOA
  have HOB : Hid (∀ w', Below w.heap.size w w' → Calls Try.prog 45 #[.agg #[.int .i64 k2, .int .i64 d2, .int .i64 wd2, .int .i64 hi2, .slice ca2 cn2 cc2, .slice pa2 pn2 pc2]] w' fun e w'' => e = .returned (.bool true) ∧ Below w'.heap.size w' w'') := hOB
  clear hOA hOB
  have hbne : (wd == wd2) = false := by rw [beq_eq_false_iff_ne]; exact hno
  go_enter Try.func25, Try.ntmps25
  go_wp2_with fail
  refine (HOA.out _ hB0).mono ?_
  rintro e w1 ⟨rfl, b1⟩
  have A1 : Hid (Bx w1 w.heap.size (.int .i64 k) (.int .i64 d) (.int .i64 wd) (.int .i64 hi) (.slice ca cn cc) (.slice pa pn pc)) := A0.out.kept b1
  have B1 : Hid (Bx w1 (w.heap.size + 1) (.int .i64 k2) (.int .i64 d2) (.int .i64 wd2) (.int .i64 hi2) (.slice ca2 cn2 cc2) (.slice pa2 pn2 pc2)) := B0.out.kept b1
  have bel1 : Below w.heap.size w w1 := hB0.trans (b1.mono hB0.size)
  clear b1 hB0 A0 B0 HOA
  obtain ⟨_, p0, p1, p2, p3, p4, p5⟩ := B1.out
  go_wp2_with fail
  refine (HOB.out _ bel1).mono ?_
  rintro e w2 ⟨rfl, b2⟩
  have A2 : Hid (Bx w2 w.heap.size (.int .i64 k) (.int .i64 d) (.int .i64 wd) (.int .i64 hi) (.slice ca cn cc) (.slice pa pn pc)) := A1.out.kept b2
  have B2 : Hid (Bx w2 (w.heap.size + 1) (.int .i64 k2) (.int .i64 d2) (.int .i64 wd2) (.int .i64 hi2) (.slice ca2 cn2 cc2) (.slice pa2 pn2 pc2)) := B1.out.kept b2
  have bel2 : Below w.heap.size w w2 := bel1.trans (b2.mono bel1.size)
  clear b2 bel1 A1 B1 HOB p0 p1 p2 p3 p4 p5
  obtain ⟨_, a0, a1, a2, a3, a4, a5⟩ := A2.out
  obtain ⟨_, p0, p1, p2, p3, p4, p5⟩ := B2.out
  clear A2 B2
  go_wp2_with fail
  go_ret
  exact ⟨rfl, bel2⟩

set_option maxHeartbeats 1000000 in
set_option maxRecDepth 20000 in
theorem impl_like_high (k d wd hi : Int) (ca : Option Addr) (cn cc : Nat) (pa : Option Addr) (pn pc : Nat) (k2 d2 hi2 : Int) (ca2 : Option Addr) (cn2 cc2 : Nat) (pa2 : Option Addr) (pn2 pc2 : Nat) (w : World) (hno : ¬ hi = hi2) (hOA : (∀ w', Below w.heap.size w w' → Calls Try.prog 45 #[.agg #[.int .i64 k, .int .i64 d, .int .i64 wd, .int .i64 hi, .slice ca cn cc, .slice pa pn pc]] w' fun e w'' => e = .returned (.bool true) ∧ Below w'.heap.size w' w'')) (hOB : (∀ w', Below w.heap.size w w' → Calls Try.prog 45 #[.agg #[.int .i64 k2, .int .i64 d2, .int .i64 wd, .int .i64 hi2, .slice ca2 cn2 cc2, .slice pa2 pn2 pc2]] w' fun e w'' => e = .returned (.bool true) ∧ Below w'.heap.size w' w'')) :
    Calls Try.prog 25 #[.agg #[.int .i64 k, .int .i64 d, .int .i64 wd, .int .i64 hi, .slice ca cn cc, .slice pa pn pc], .agg #[.int .i64 k2, .int .i64 d2, .int .i64 wd, .int .i64 hi2, .slice ca2 cn2 cc2, .slice pa2 pn2 pc2]] w fun e w' => e = .returned (.bool false) ∧ Below w.heap.size w w' := by
  have hB0 : Below w.heap.size w ((w.alloc (.cells #[.int .i64 k, .int .i64 d, .int .i64 wd, .int .i64 hi, .slice ca cn cc, .slice pa pn pc] 36)).alloc (.cells #[.int .i64 k2, .int .i64 d2, .int .i64 wd, .int .i64 hi2, .slice ca2 cn2 cc2, .slice pa2 pn2 pc2] 36)) := ((Below.refl _ _).alloc (Nat.le_refl _) _).alloc (by simp) _
  have A0 : Hid (Bx ((w.alloc (.cells #[.int .i64 k, .int .i64 d, .int .i64 wd, .int .i64 hi, .slice ca cn cc, .slice pa pn pc] 36)).alloc (.cells #[.int .i64 k2, .int .i64 d2, .int .i64 wd, .int .i64 hi2, .slice ca2 cn2 cc2, .slice pa2 pn2 pc2] 36)) w.heap.size (.int .i64 k) (.int .i64 d) (.int .i64 wd) (.int .i64 hi) (.slice ca cn cc) (.slice pa pn pc)) := (bx_new w _ _ _ _ _ _ 36).kept ((Below.refl _ _).alloc (Nat.le_refl _) _)
  have B0 : Hid (Bx ((w.alloc (.cells #[.int .i64 k, .int .i64 d, .int .i64 wd, .int .i64 hi, .slice ca cn cc, .slice pa pn pc] 36)).alloc (.cells #[.int .i64 k2, .int .i64 d2, .int .i64 wd, .int .i64 hi2, .slice ca2 cn2 cc2, .slice pa2 pn2 pc2] 36)) (w.heap.size + 1) (.int .i64 k2) (.int .i64 d2) (.int .i64 wd) (.int .i64 hi2) (.slice ca2 cn2 cc2) (.slice pa2 pn2 pc2)) := by
    have := bx_new (w.alloc (.cells #[.int .i64 k, .int .i64 d, .int .i64 wd, .int .i64 hi, .slice ca cn cc, .slice pa pn pc] 36)) (.int .i64 k2) (.int .i64 d2) (.int .i64 wd) (.int .i64 hi2) (.slice ca2 cn2 cc2) (.slice pa2 pn2 pc2) 36
    rw [World.size_alloc] at this; exact this
  have HOA : Hid (∀ w', Below w.heap.size w w' → Calls Try.prog 45 #[.agg #[.int .i64 k, .int .i64 d, .int .i64 wd, .int .i64 hi, .slice ca cn cc, .slice pa pn pc]] w' fun e w'' => e = .returned (.bool true) ∧ Below w'.heap.size w' w'') := hOA
  have HOB : Hid (∀ w', Below w.heap.size w w' → Calls Try.prog 45 #[.agg #[.int .i64 k2, .int .i64 d2, .int .i64 wd, .int .i64 hi2, .slice ca2 cn2 cc2, .slice pa2 pn2 pc2]] w' fun e w'' => e = .returned (.bool true) ∧ Below w'.heap.size w' w'') := hOB
  clear hOA hOB
  have hbne : (hi == hi2) = false := by rw [beq_eq_false_iff_ne]; exact hno
  go_enter Try.func25, Try.ntmps25
  go_wp2_with fail
  refine (HOA.out _ hB0).mono ?_
  rintro e w1 ⟨rfl, b1⟩
  have A1 : Hid (Bx w1 w.heap.size (.int .i64 k) (.int .i64 d) (.int .i64 wd) (.int .i64 hi) (.slice ca cn cc) (.slice pa pn pc)) := A0.out.kept b1
  have B1 : Hid (Bx w1 (w.heap.size + 1) (.int .i64 k2) (.int .i64 d2) (.int .i64 wd) (.int .i64 hi2) (.slice ca2 cn2 cc2) (.slice pa2 pn2 pc2)) := B0.out.kept b1
  have bel1 : Below w.heap.size w w1 := hB0.trans (b1.mono hB0.size)
  clear b1 hB0 A0 B0 HOA
  obtain ⟨_, p0, p1, p2, p3, p4, p5⟩ := B1.out
  go_wp2_with fail
  refine (HOB.out _ bel1).mono ?_
  rintro e w2 ⟨rfl, b2⟩
  have A2 : Hid (Bx w2 w.heap.size (.int .i64 k) (.int .i64 d) (.int .i64 wd) (.int .i64 hi) (.slice ca cn cc) (.slice pa pn pc)) := A1.out.kept b2
  have B2 : Hid (Bx w2 (w.heap.size + 1) (.int .i64 k2) (.int .i64 d2) (.int .i64 wd) (.int .i64 hi2) (.slice ca2 cn2 cc2) (.slice pa2 pn2 pc2)) := B1.out.kept b2
  have bel2 : Below w.heap.size w w2 := bel1.trans (b2.mono bel1.size)
  clear b2 bel1 A1 B1 HOB p0 p1 p2 p3 p4 p5
  obtain ⟨_, a0, a1, a2, a3, a4, a5⟩ := A2.out
  obtain ⟨_, p0, p1, p2, p3, p4, p5⟩ := B2.out
  clear A2 B2
  go_wp2_with fail
  go_ret
  exact ⟨rfl, bel2⟩

set_option maxHeartbeats 8000000 in
set_option maxRecDepth 20000 in
theorem impl_like_yes (k : Int) (D Wd Hi : Nat) (ca : Option Addr) (cn cc : Nat) (pa : Option Addr) (pn pc : Nat) (k2 : Int) (D2 : Nat) (ca2 : Option Addr) (cn2 cc2 : Nat) (pa2 : Option Addr) (pn2 pc2 : Nat) (cs ps cs2 ps2 : List Int) (w : World) (ok : Im.Ok k (D : Int) (Wd : Int) (Hi : Int) cs ps) (ok2 : Im.Ok k2 (D2 : Int) (Wd : Int) (Hi : Int) cs2 ps2) (hc : Ints w ca cs) (hcn : cs.length = cn) (hp : Ints w pa ps) (hpn : ps.length = pn) (hc2 : Ints w ca2 cs2) (hcn2 : cs2.length = cn2) (hp2 : Ints w pa2 ps2) (hpn2 : ps2.length = pn2) (hW : Wd ≤ 20) (hH : Hi ≤ 20) (hm : pn = Wd * Hi) (hm2 : pn2 = Wd * Hi)
    (hOA : (∀ w', Below w.heap.size w w' → Calls Try.prog 45 #[.agg #[.int .i64 k, .int .i64 (D : Int), .int .i64 (Wd : Int), .int .i64 (Hi : Int), .slice ca cn cc, .slice pa pn pc]] w' fun e w'' => e = .returned (.bool true) ∧ Below w'.heap.size w' w'')) (hOB : (∀ w', Below w.heap.size w w' → Calls Try.prog 45 #[.agg #[.int .i64 k2, .int .i64 (D2 : Int), .int .i64 (Wd : Int), .int .i64 (Hi : Int), .slice ca2 cn2 cc2, .slice pa2 pn2 pc2]] w' fun e w'' => e = .returned (.bool true) ∧ Below w'.heap.size w' w'')) :
    Calls Try.prog 25 #[.agg #[.int .i64 k, .int .i64 (D : Int), .int .i64 (Wd : Int), .int .i64 (Hi : Int), .slice ca cn cc, .slice pa pn pc], .agg #[.int .i64 k2, .int .i64 (D2 : Int), .int .i64 (Wd : Int), .int .i64 (Hi : Int), .slice ca2 cn2 cc2, .slice pa2 pn2 pc2]] w fun e w' => e = .returned (.bool (decide (cols k D cs ps = cols k2 D2 cs2 ps2))) ∧ Below w.heap.size w w' := by
  have hB0 : Below w.heap.size w ((w.alloc (.cells #[.int .i64 k, .int .i64 (D : Int), .int .i64 (Wd : Int), .int .i64 (Hi : Int), .slice ca cn cc, .slice pa pn pc] 36)).alloc (.cells #[.int .i64 k2, .int .i64 (D2 : Int), .int .i64 (Wd : Int), .int .i64 (Hi : Int), .slice ca2 cn2 cc2, .slice pa2 pn2 pc2] 36)) := ((Below.refl _ _).alloc (Nat.le_refl _) _).alloc (by simp) _
  have A0 : Hid (Bx ((w.alloc (.cells #[.int .i64 k, .int .i64 (D : Int), .int .i64 (Wd : Int), .int .i64 (Hi : Int), .slice ca cn cc, .slice pa pn pc] 36)).alloc (.cells #[.int .i64 k2, .int .i64 (D2 : Int), .int .i64 (Wd : Int), .int .i64 (Hi : Int), .slice ca2 cn2 cc2, .slice pa2 pn2 pc2] 36)) w.heap.size (.int .i64 k) (.int .i64 (D : Int)) (.int .i64 (Wd : Int)) (.int .i64 (Hi : Int)) (.slice ca cn cc) (.slice pa pn pc)) := (bx_new w _ _ _ _ _ _ 36).kept ((Below.refl _ _).alloc (Nat.le_refl _) _)
  have B0 : Hid (Bx ((w.alloc (.cells #[.int .i64 k, .int .i64 (D : Int), .int .i64 (Wd : Int), .int .i64 (Hi : Int), .slice ca cn cc, .slice pa pn pc] 36)).alloc (.cells #[.int .i64 k2, .int .i64 (D2 : Int), .int .i64 (Wd : Int), .int .i64 (Hi : Int), .slice ca2 cn2 cc2, .slice pa2 pn2 pc2] 36)) (w.heap.size + 1) (.int .i64 k2) (.int .i64 (D2 : Int)) (.int .i64 (Wd : Int)) (.int .i64 (Hi : Int)) (.slice ca2 cn2 cc2) (.slice pa2 pn2 pc2)) := by
    have := bx_new (w.alloc (.cells #[.int .i64 k, .int .i64 (D : Int), .int .i64 (Wd : Int), .int .i64 (Hi : Int), .slice ca cn cc, .slice pa pn pc] 36)) (.int .i64 k2) (.int .i64 (D2 : Int)) (.int .i64 (Wd : Int)) (.int .i64 (Hi : Int)) (.slice ca2 cn2 cc2) (.slice pa2 pn2 pc2) 36
    rw [World.size_alloc] at this; exact this
  have HOA : Hid (∀ w', Below w.heap.size w w' → Calls Try.prog 45 #[.agg #[.int .i64 k, .int .i64 (D : Int), .int .i64 (Wd : Int), .int .i64 (Hi : Int), .slice ca cn cc, .slice pa pn pc]] w' fun e w'' => e = .returned (.bool true) ∧ Below w'.heap.size w' w'') := hOA
  have HOB : Hid (∀ w', Below w.heap.size w w' → Calls Try.prog 45 #[.agg #[.int .i64 k2, .int .i64 (D2 : Int), .int .i64 (Wd : Int), .int .i64 (Hi : Int), .slice ca2 cn2 cc2, .slice pa2 pn2 pc2]] w' fun e w'' => e = .returned (.bool true) ∧ Below w'.heap.size w' w'') := hOB
  have HCA : Hid (∀ w', Below w.heap.size w w' → Calls Try.prog 55 #[.agg #[.int .i64 k, .int .i64 (D : Int), .int .i64 (Wd : Int), .int .i64 (Hi : Int), .slice ca cn cc, .slice pa pn pc]] w' fun e w'' => (∃ V fs rs fa ra, e = .returned (.iface 84 V) ∧ Seen 84 V fs rs fa ra Wd Hi (colF k D cs Wd ps) w''.heap.size w'') ∧ Below w'.heap.size w' w'') := fun w' b => colored_seen k D Wd Hi ca cn cc pa pn pc cs ps w' ok (hc.kept b) hcn (hp.kept b) hpn hW hH hm
  have HCB : Hid (∀ w', Below w.heap.size w w' → Calls Try.prog 55 #[.agg #[.int .i64 k2, .int .i64 (D2 : Int), .int .i64 (Wd : Int), .int .i64 (Hi : Int), .slice ca2 cn2 cc2, .slice pa2 pn2 pc2]] w' fun e w'' => (∃ V fs rs fa ra, e = .returned (.iface 84 V) ∧ Seen 84 V fs rs fa ra Wd Hi (colF k2 D2 cs2 Wd ps2) w''.heap.size w'') ∧ Below w'.heap.size w' w'') := fun w' b => colored_seen k2 D2 Wd Hi ca2 cn2 cc2 pa2 pn2 pc2 cs2 ps2 w' ok2 (hc2.kept b) hcn2 (hp2.kept b) hpn2 hW hH hm2
  have hmul : Wd * Hi ≤ 20 * 20 := Nat.mul_le_mul hW hH
  have HEQ : Hid (∀ (a : Option Addr) (ca : Nat) (b : Option Addr) (cb : Nat) (w : World), Ints w a (upto (ptF Wd (colF k D cs Wd ps)) (Wd * Hi)) → Ints w b (upto (ptF Wd (colF k2 D2 cs2 Wd ps2)) (Wd * Hi)) → Calls Try.prog 52 #[.slice a (Wd * Hi) ca, .slice b (Wd * Hi) cb] w fun e w' => e = .returned (.bool (decide (cols k D cs ps = cols k2 D2 cs2 ps2))) ∧ ∃ q, w' = w.drewN q) := fun a ca b cb w h1 h2 => by
    have := equal_any a (Wd * Hi) ca _ b (Wd * Hi) cb _ w h1 h2 (upto_length _ _) (upto_length _ _) (by omega) (by omega)
    rw [cols_upto k D cs ps Wd Hi (by omega), cols_upto k2 D2 cs2 ps2 Wd Hi (by omega)] at this
    exact this
  clear hOA hOB ok ok2 hc hcn hp hpn hc2 hcn2 hp2 hpn2 hm hm2 hmul
  go_enter Try.func25, Try.ntmps25
  go_wp2_with fail
  refine (HOA.out _ hB0).mono ?_
  rintro e w1 ⟨rfl, b1⟩
  have A1 : Hid (Bx w1 w.heap.size (.int .i64 k) (.int .i64 (D : Int)) (.int .i64 (Wd : Int)) (.int .i64 (Hi : Int)) (.slice ca cn cc) (.slice pa pn pc)) := A0.out.kept b1
  have B1 : Hid (Bx w1 (w.heap.size + 1) (.int .i64 k2) (.int .i64 (D2 : Int)) (.int .i64 (Wd : Int)) (.int .i64 (Hi : Int)) (.slice ca2 cn2 cc2) (.slice pa2 pn2 pc2)) := B0.out.kept b1
  have bel1 : Below w.heap.size w w1 := hB0.trans (b1.mono hB0.size)
  clear b1 hB0 A0 B0 HOA
  obtain ⟨_, p0, p1, p2, p3, p4, p5⟩ := B1.out
  go_wp2_with fail
  refine (HOB.out _ bel1).mono ?_
  rintro e w2 ⟨rfl, b2⟩
  have A2 : Hid (Bx w2 w.heap.size (.int .i64 k) (.int .i64 (D : Int)) (.int .i64 (Wd : Int)) (.int .i64 (Hi : Int)) (.slice ca cn cc) (.slice pa pn pc)) := A1.out.kept b2
  have B2 : Hid (Bx w2 (w.heap.size + 1) (.int .i64 k2) (.int .i64 (D2 : Int)) (.int .i64 (Wd : Int)) (.int .i64 (Hi : Int)) (.slice ca2 cn2 cc2) (.slice pa2 pn2 pc2)) := B1.out.kept b2
  have bel2 : Below w.heap.size w w2 := bel1.trans (b2.mono bel1.size)
  clear b2 bel1 A1 B1 HOB p0 p1 p2 p3 p4 p5
  obtain ⟨_, a0, a1, a2, a3, a4, a5⟩ := A2.out
  obtain ⟨_, p0, p1, p2, p3, p4, p5⟩ := B2.out
  go_wp2_with fail
  go_region_held3 (fun w' => w'.cell? ⟨w.heap.size, 0, none⟩ = some (.int .i64 k) ∧ w'.cell? ⟨w.heap.size, 1, none⟩ = some (.int .i64 (D : Int)) ∧ w'.cell? ⟨w.heap.size, 2, none⟩ = some (.int .i64 (Wd : Int)) ∧ w'.cell? ⟨w.heap.size, 3, none⟩ = some (.int .i64 (Hi : Int)) ∧ w'.cell? ⟨w.heap.size, 4, none⟩ = some (.slice ca cn cc) ∧ w'.cell? ⟨w.heap.size, 5, none⟩ = some (.slice pa pn pc) ∧ w'.cell? ⟨w.heap.size + 1, 0, none⟩ = some (.int .i64 k2) ∧ w'.cell? ⟨w.heap.size + 1, 1, none⟩ = some (.int .i64 (D2 : Int)) ∧ w'.cell? ⟨w.heap.size + 1, 2, none⟩ = some (.int .i64 (Wd : Int)) ∧ w'.cell? ⟨w.heap.size + 1, 3, none⟩ = some (.int .i64 (Hi : Int)) ∧ w'.cell? ⟨w.heap.size + 1, 4, none⟩ = some (.slice ca2 cn2 cc2) ∧ w'.cell? ⟨w.heap.size + 1, 5, none⟩ = some (.slice pa2 pn2 pc2)) (go_keep) (first | (go_at_call_of 55 (Value.slice pa pn pc); refine (HCA.out _ bel2.drew).mono ?_; rintro e w3 ⟨⟨V3, fs3, rs3, fa3, ra3, rfl, S3⟩, b3⟩; have b3' : Below w2.heap.size w2 w3 := box_drew b3; have bel3 : Below w.heap.size w w3 := bel2.trans (b3'.mono bel2.size); have A3 : Hid (Bx w3 w.heap.size (.int .i64 k) (.int .i64 (D : Int)) (.int .i64 (Wd : Int)) (.int .i64 (Hi : Int)) (.slice ca cn cc) (.slice pa pn pc)) := A2.out.kept b3'; have B3 : Hid (Bx w3 (w.heap.size + 1) (.int .i64 k2) (.int .i64 (D2 : Int)) (.int .i64 (Wd : Int)) (.int .i64 (Hi : Int)) (.slice ca2 cn2 cc2) (.slice pa2 pn2 pc2)) := B2.out.kept b3'; obtain ⟨_, m0, m1, m2, m3, m4, m5⟩ := A3.out; obtain ⟨_, n0, n1, n2, n3, n4, n5⟩ := B3.out; have G3 : Hid (Calls Try.prog 53 #[.func (.func 77) #[] #[.pointer (some ⟨w3.heap.size, 0, none⟩)]] (w3.alloc (.cells #[.iface 84 V3] 72)) fun e W' => (∃ y cy, e = .returned (.slice y (Wd * Hi) cy) ∧ Ints W' y (upto (ptF Wd (colF k D cs Wd ps)) (Wd * Hi))) ∧ Below w3.heap.size w3 W') := gathered 84 V3 fs3 rs3 fa3 ra3 Wd Hi _ hW hH w3 S3; clear S3) | (go_at_call_of 54 V3; refine (pointsOf_any _ V3 _).mono ?_; rintro e w4 ⟨rfl, hw4⟩; subst hw4) | (go_at_call_of 53 (Value.pointer (some ⟨w3.heap.size, 0, none⟩)); refine G3.out.mono ?_; rintro e w5 ⟨⟨y5, cy5, rfl, I5⟩, b5⟩; have bel5 : Below w.heap.size w w5 := bel3.trans (b5.mono bel3.size); have HI5 : Hid (Ints w5 y5 (upto (ptF Wd (colF k D cs Wd ps)) (Wd * Hi))) := I5; clear m0 m1 m2 m3 m4 m5 n0 n1 n2 n3 n4 n5 I5; have A5 : Hid (Bx w5 w.heap.size (.int .i64 k) (.int .i64 (D : Int)) (.int .i64 (Wd : Int)) (.int .i64 (Hi : Int)) (.slice ca cn cc) (.slice pa pn pc)) := A3.out.kept b5; have B5 : Hid (Bx w5 (w.heap.size + 1) (.int .i64 k2) (.int .i64 (D2 : Int)) (.int .i64 (Wd : Int)) (.int .i64 (Hi : Int)) (.slice ca2 cn2 cc2) (.slice pa2 pn2 pc2)) := B3.out.kept b5; obtain ⟨_, m0, m1, m2, m3, m4, m5⟩ := A5.out; obtain ⟨_, n0, n1, n2, n3, n4, n5⟩ := B5.out) | (go_at_call_of 55 (Value.slice pa2 pn2 pc2); refine (HCB.out _ bel5).mono ?_; rintro e w6 ⟨⟨V6, fs6, rs6, fa6, ra6, rfl, S6⟩, b6⟩; have bel6 : Below w.heap.size w w6 := bel5.trans (b6.mono bel5.size); clear m0 m1 m2 m3 m4 m5 n0 n1 n2 n3 n4 n5; have A6 : Hid (Bx w6 w.heap.size (.int .i64 k) (.int .i64 (D : Int)) (.int .i64 (Wd : Int)) (.int .i64 (Hi : Int)) (.slice ca cn cc) (.slice pa pn pc)) := A5.out.kept b6; have B6 : Hid (Bx w6 (w.heap.size + 1) (.int .i64 k2) (.int .i64 (D2 : Int)) (.int .i64 (Wd : Int)) (.int .i64 (Hi : Int)) (.slice ca2 cn2 cc2) (.slice pa2 pn2 pc2)) := B5.out.kept b6; obtain ⟨_, m0, m1, m2, m3, m4, m5⟩ := A6.out; obtain ⟨_, n0, n1, n2, n3, n4, n5⟩ := B6.out; have G6 : Hid (Calls Try.prog 53 #[.func (.func 77) #[] #[.pointer (some ⟨w6.heap.size, 0, none⟩)]] (w6.alloc (.cells #[.iface 84 V6] 72)) fun e W' => (∃ y cy, e = .returned (.slice y (Wd * Hi) cy) ∧ Ints W' y (upto (ptF Wd (colF k2 D2 cs2 Wd ps2)) (Wd * Hi))) ∧ Below w6.heap.size w6 W') := gathered 84 V6 fs6 rs6 fa6 ra6 Wd Hi _ hW hH w6 S6; have HI6 : Hid (Ints w6 y5 (upto (ptF Wd (colF k D cs Wd ps)) (Wd * Hi))) := HI5.out.kept b6; clear S6) | (go_at_call_of 54 V6; refine (pointsOf_any _ V6 _).mono ?_; rintro e w7 ⟨rfl, hw7⟩; subst hw7) | (go_at_call_of 53 (Value.pointer (some ⟨w6.heap.size, 0, none⟩)); refine G6.out.mono ?_; rintro e w8 ⟨⟨y8, cy8, rfl, I8⟩, b8⟩; have bel8 : Below w.heap.size w w8 := bel6.trans (b8.mono bel6.size); have HI8 : Hid (Ints w8 y5 (upto (ptF Wd (colF k D cs Wd ps)) (Wd * Hi)) ∧ Ints w8 y8 (upto (ptF Wd (colF k2 D2 cs2 Wd ps2)) (Wd * Hi))) := ⟨HI6.out.kept b8, I8⟩; clear m0 m1 m2 m3 m4 m5 n0 n1 n2 n3 n4 n5 I8; have A8 : Hid (Bx w8 w.heap.size (.int .i64 k) (.int .i64 (D : Int)) (.int .i64 (Wd : Int)) (.int .i64 (Hi : Int)) (.slice ca cn cc) (.slice pa pn pc)) := A6.out.kept b8; have B8 : Hid (Bx w8 (w.heap.size + 1) (.int .i64 k2) (.int .i64 (D2 : Int)) (.int .i64 (Wd : Int)) (.int .i64 (Hi : Int)) (.slice ca2 cn2 cc2) (.slice pa2 pn2 pc2)) := B6.out.kept b8; obtain ⟨_, m0, m1, m2, m3, m4, m5⟩ := A8.out; obtain ⟨_, n0, n1, n2, n3, n4, n5⟩ := B8.out) | (go_at_call 52; refine (HEQ.out y5 cy5 y8 cy8 w8 HI8.out.1 HI8.out.2).mono ?_; rintro e w9 ⟨rfl, q9, hw9⟩; have bel9 : Below w.heap.size w w9 := (by rw [hw9]; exact below_drewN bel8 _); have b9 : Below w8.heap.size w8 w9 := (by rw [hw9]; exact below_drewN (Below.refl _ _) _); clear hw9 m0 m1 m2 m3 m4 m5 n0 n1 n2 n3 n4 n5; have A9 : Hid (Bx w9 w.heap.size (.int .i64 k) (.int .i64 (D : Int)) (.int .i64 (Wd : Int)) (.int .i64 (Hi : Int)) (.slice ca cn cc) (.slice pa pn pc)) := A8.out.kept b9; have B9 : Hid (Bx w9 (w.heap.size + 1) (.int .i64 k2) (.int .i64 (D2 : Int)) (.int .i64 (Wd : Int)) (.int .i64 (Hi : Int)) (.slice ca2 cn2 cc2) (.slice pa2 pn2 pc2)) := B8.out.kept b9; obtain ⟨_, m0, m1, m2, m3, m4, m5⟩ := A9.out; obtain ⟨_, n0, n1, n2, n3, n4, n5⟩ := B9.out))
  all_goals
    clear m0 m1 m2 m3 m4 m5 n0 n1 n2 n3 n4 n5 a0 a1 a2 a3 a4 a5 p0 p1 p2 p3 p4 p5 HCA HCB HEQ
    go_wp2_with fail
    go_ret
    exact ⟨rfl, bel9⟩
end Go.Proofs.Ytjikjjganloobab
