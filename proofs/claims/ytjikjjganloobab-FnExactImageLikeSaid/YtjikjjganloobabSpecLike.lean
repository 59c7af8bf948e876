/- ImageLike of the specification. -/
import Derived.Test.YtjikjjganloobabColSeen
import Derived.Test.YtjikjjganloobabPicLaw
import Derived.Deep.RegionHeld3
namespace Go.Proofs.Ytjikjjganloobab
open Go.RowKit

set_option maxHeartbeats 1000000 in
set_option maxRecDepth 20000 in
theorem spec_like_bad1 (k d wd hi : Int) (ca : Option Addr) (cn cc : Nat) (pa : Option Addr) (pn pc : Nat) (k2 d2 wd2 hi2 : Int) (ca2 : Option Addr) (cn2 cc2 : Nat) (pa2 : Option Addr) (pn2 pc2 : Nat) (w : World) (hOA : (∀ w', Below w.heap.size w w' → Calls Try.prog 42 #[.agg #[.int .i64 k, .int .i64 d, .int .i64 wd, .int .i64 hi, .slice ca cn cc, .slice pa pn pc]] w' fun e w'' => e = .returned (.bool false) ∧ Below w'.heap.size w' w'')) :
    Calls Try.prog 24 #[.agg #[.int .i64 k, .int .i64 d, .int .i64 wd, .int .i64 hi, .slice ca cn cc, .slice pa pn pc], .agg #[.int .i64 k2, .int .i64 d2, .int .i64 wd2, .int .i64 hi2, .slice ca2 cn2 cc2, .slice pa2 pn2 pc2]] w fun e w' => e = .returned (.bool false) ∧ Below w.heap.size w w' := by
  have hB0 : Below w.heap.size w ((w.alloc (.cells #[.int .i64 k, .int .i64 d, .int .i64 wd, .int .i64 hi, .slice ca cn cc, .slice pa pn pc] 36)).alloc (.cells #[.int .i64 k2, .int .i64 d2, .int .i64 wd2, .int .i64 hi2, .slice ca2 cn2 cc2, .slice pa2 pn2 pc2] 36)) := ((Below.refl _ _).alloc (Nat.le_refl _) _).alloc (by simp) _
  have A0 : Hid (Bx ((w.alloc (.cells #[.int .i64 k, .int .i64 d, .int .i64 wd, .int .i64 hi, .slice ca cn cc, .slice pa pn pc] 36)).alloc (.cells #[.int .i64 k2, .int .i64 d2, .int .i64 wd2, .int .i64 hi2, .slice ca2 cn2 cc2, .slice pa2 pn2 pc2] 36)) w.heap.size (.int .i64 k) (.int .i64 d) (.int .i64 wd) (.int .i64 hi) (.slice ca cn cc) (.slice pa pn pc)) := (bx_new w _ _ _ _ _ _ 36).kept ((Below.refl _ _).alloc (Nat.le_refl _) _)
  have B0 : Hid (Bx ((w.alloc (.cells #[.int .i64 k, .int .i64 d, .int .i64 wd, .int .i64 hi, .slice ca cn cc, .slice pa pn pc] 36)).alloc (.cells #[.int .i64 k2, .int .i64 d2, .int .i64 wd2, .int .i64 hi2, .slice ca2 cn2 cc2, .slice pa2 pn2 pc2] 36)) (w.heap.size + 1) (.int .i64 k2) (.int .i64 d2) (.int .i64 wd2) (.int .i64 hi2) (.slice ca2 cn2 cc2) (.slice pa2 pn2 pc2)) := by
    have := bx_new (w.alloc (.cells #[.int .i64 k, .int .i64 d, .int .i64 wd, .int .i64 hi, .slice ca cn cc, .slice pa pn pc] 36)) (.int .i64 k2) (.int .i64 d2) (.int .i64 wd2) (.int .i64 hi2) (.slice ca2 cn2 cc2) (.slice pa2 pn2 pc2) 36
    rw [World.size_alloc] at this; exact this
  have HOA : Hid (∀ w', Below w.heap.size w w' → Calls Try.prog 42 #[.agg #[.int .i64 k, .int .i64 d, .int .i64 wd, .int .i64 hi, .slice ca cn cc, .slice pa pn pc]] w' fun e w'' => e = .returned (.bool false) ∧ Below w'.heap.size w' w'') := hOA
  clear hOA
  go_enter Try.func24, Try.ntmps24
  go_wp2_with fail
  refine (HOA.out _ hB0).mono ?_
  rintro e w1 ⟨rfl, b1⟩
  have A1 : Hid (Bx w1 w.heap.size (.int .i64 k) (.int .i64 d) (.int .i64 wd) (.int .i64 hi) (.slice ca cn cc) (.slice pa pn pc)) := A0.out.kept b1
  have B1 : Hid (Bx w1 (w.heap.size + 1) (.int .i64 k2) (.int .i64 d2) (.int .i64 wd2) (.int .i64 hi2) (.slice ca2 cn2 cc2) (.slice pa2 pn2 pc2)) := B0.out.kept b1
  have bel1 : Below w.heap.size w w1 := hB0.trans (b1.mono hB0.size)
  clear b1 hB0 A0 B0 HOA
  clear A1 B1
  go_wp2_with fail
  go_ret
  exact ⟨rfl, bel1⟩

set_option maxHeartbeats 1000000 in
set_option maxRecDepth 20000 in
theorem spec_like_bad2 (k d wd hi : Int) (ca : Option Addr) (cn cc : Nat) (pa : Option Addr) (pn pc : Nat) (k2 d2 wd2 hi2 : Int) (ca2 : Option Addr) (cn2 cc2 : Nat) (pa2 : Option Addr) (pn2 pc2 : Nat) (w : World) (hOA : (∀ w', Below w.heap.size w w' → Calls Try.prog 42 #[.agg #[.int .i64 k, .int .i64 d, .int .i64 wd, .int .i64 hi, .slice ca cn cc, .slice pa pn pc]] w' fun e w'' => e = .returned (.bool true) ∧ Below w'.heap.size w' w'')) (hOB : (∀ w', Below w.heap.size w w' → Calls Try.prog 42 #[.agg #[.int .i64 k2, .int .i64 d2, .int .i64 wd2, .int .i64 hi2, .slice ca2 cn2 cc2, .slice pa2 pn2 pc2]] w' fun e w'' => e = .returned (.bool false) ∧ Below w'.heap.size w' w'')) :
    Calls Try.prog 24 #[.agg #[.int .i64 k, .int .i64 d, .int .i64 wd, .int .i64 hi, .slice ca cn cc, .slice pa pn pc], .agg #[.int .i64 k2, .int .i64 d2, .int .i64 wd2, .int .i64 hi2, .slice ca2 cn2 cc2, .slice pa2 pn2 pc2]] w fun e w' => e = .returned (.bool false) ∧ Below w.heap.size w w' := by
  have hB0 : Below w.heap.size w ((w.alloc (.cells #[.int .i64 k, .int .i64 d, .int .i64 wd, .int .i64 hi, .slice ca cn cc, .slice pa pn pc] 36)).alloc (.cells #[.int .i64 k2, .int .i64 d2, .int .i64 wd2, .int .i64 hi2, .slice ca2 cn2 cc2, .slice pa2 pn2 pc2] 36)) := ((Below.refl _ _).alloc (Nat.le_refl _) _).alloc (by simp) _
  have A0 : Hid (Bx ((w.alloc (.cells #[.int .i64 k, .int .i64 d, .int .i64 wd, .int .i64 hi, .slice ca cn cc, .slice pa pn pc] 36)).alloc (.cells #[.int .i64 k2, .int .i64 d2, .int .i64 wd2, .int .i64 hi2, .slice ca2 cn2 cc2, .slice pa2 pn2 pc2] 36)) w.heap.size (.int .i64 k) (.int .i64 d) (.int .i64 wd) (.int .i64 hi) (.slice ca cn cc) (.slice pa pn pc)) := (bx_new w _ _ _ _ _ _ 36).kept ((Below.refl _ _).alloc (Nat.le_refl _) _)
  have B0 : Hid (Bx ((w.alloc (.cells #[.int .i64 k, .int .i64 d, .int .i64 wd, .int .i64 hi, .slice ca cn cc, .slice pa pn pc] 36)).alloc (.cells #[.int .i64 k2, .int .i64 d2, .int .i64 wd2, .int .i64 hi2, .slice ca2 cn2 cc2, .slice pa2 pn2 pc2] 36)) (w.heap.size + 1) (.int .i64 k2) (.int .i64 d2) (.int .i64 wd2) (.int .i64 hi2) (.slice ca2 cn2 cc2) (.slice pa2 pn2 pc2)) := by
    have := bx_new (w.alloc (.cells #[.int .i64 k, .int .i64 d, .int .i64 wd, .int .i64 hi, .slice ca cn cc, .slice pa pn pc] 36)) (.int .i64 k2) (.int .i64 d2) (.int .i64 wd2) (.int .i64 hi2) (.slice ca2 cn2 cc2) (.slice pa2 pn2 pc2) 36
    rw [World.size_alloc] at this; exact this
  have HOA : Hid (∀ w', Below w.heap.size w w' → Calls Try.prog 42 #[.agg #[.int .i64 k, .int .i64 d, .int .i64 wd, .int .i64 hi, .slice ca cn cc, .slice pa pn pc]] w' fun e w'' => e = .returned (.bool true) ∧ Below w'.heap.size w' w'') := hOA
  have HOB : Hid (∀ w', Below w.heap.size w w' → Calls Try.prog 42 #[.agg #[.int .i64 k2, .int .i64 d2, .int .i64 wd2, .int .i64 hi2, .slice ca2 cn2 cc2, .slice pa2 pn2 pc2]] w' fun e w'' => e = .returned (.bool false) ∧ Below w'.heap.size w' w'') := hOB
  clear hOA hOB
  go_enter Try.func24, Try.ntmps24
  go_wp2_with fail
  refine (HOA.out _ hB0).mono ?_
  rintro e w1 ⟨rfl, b1⟩
  have A1 : Hid (Bx w1 w.heap.size (.int .i64 k) (.int .i64 d) (.int .i64 wd) (.int .i64 hi) (.slice ca cn cc) (.slice pa pn pc)) := A0.out.kept b1
  have B1 : Hid (Bx w1 (w.heap.size + 1) (.int .i64 k2) (.int .i64 d2) (.int .i64 wd2) (.int .i64 hi2) (.slice ca2 cn2 cc2) (.slice pa2 pn2 pc2)) := B0.out.kept b1
  have bel1 : Below w.heap.size w w1 := hB0.trans (b1.mono hB0.size)
  clear b1 hB0 A0 B0 HOA
  obtain ⟨_, p0, p1, p2, p3, p4, p5⟩ := B1.out
  go_wp2_with fail
  refine (HOB.out _ bel1).mono ?_
  rintro e w2 ⟨rfl, b2⟩
  have A2 : Hid (Bx w2 w.heap.size (.int .i64 k) (.int .i64 d) (.int .i64 wd) (.int .i64 hi) (.slice ca cn cc) (.slice pa pn pc)) := A1.out.kept b2
  have B2 : Hid (Bx w2 (w.heap.size + 1) (.int .i64 k2) (.int .i64 d2) (.int .i64 wd2) (.int .i64 hi2) (.slice ca2 cn2 cc2) (.slice pa2 pn2 pc2)) := B1.out.kept b2
  have bel2 : Below w.heap.size w w2 := bel1.trans (b2.mono bel1.size)
  clear b2 bel1 A1 B1 HOB p0 p1 p2 p3 p4 p5
  obtain ⟨_, a0, a1, a2, a3, a4, a5⟩ := A2.out
  obtain ⟨_, p0, p1, p2, p3, p4, p5⟩ := B2.out
  clear A2 B2
  go_wp2_with fail
  go_ret
  exact ⟨rfl, bel2⟩

set_option maxHeartbeats 1000000 in
set_option maxRecDepth 20000 in
theorem spec_like_wide (k d wd hi : Int) (ca : Option Addr) (cn cc : Nat) (pa : Option Addr) (pn pc : Nat) (k2 d2 wd2 hi2 : Int) (ca2 : Option Addr) (cn2 cc2 : Nat) (pa2 : Option Addr) (pn2 pc2 : Nat) (w : World) (hno : ¬ wd = wd2) (hOA : (∀ w', Below w.heap.size w w' → Calls Try.prog 42 #[.agg #[.int .i64 k, .int .i64 d, .int .i64 wd, .int .i64 hi, .slice ca cn cc, .slice pa pn pc]] w' fun e w'' => e = .returned (.bool true) ∧ Below w'.heap.size w' w'')) (hOB : (∀ w', Below w.heap.size w w' → Calls Try.prog 42 #[.agg #[.int .i64 k2, .int .i64 d2, .int .i64 wd2, .int .i64 hi2, .slice ca2 cn2 cc2, .slice pa2 pn2 pc2]] w' fun e w'' => e = .returned (.bool true) ∧ Below w'.heap.size w' w'')) :
    Calls Try.prog 24 #[.agg #[.int .i64 k, .int .i64 d, .int .i64 wd, .int .i64 hi, .slice ca cn cc, .slice pa pn pc], .agg #[.int .i64 k2, .int .i64 d2, .int .i64 wd2, .int .i64 hi2, .slice ca2 cn2 cc2, .slice pa2 pn2 pc2]] w fun e w' => e = .returned (.bool false) ∧ Below w.heap.size w w' := by
  have hB0 : Below w.heap.size w ((w.alloc (.cells #[.int .i64 k, .int .i64 d, .int .i64 wd, .int .i64 hi, .slice ca cn cc, .slice pa pn pc] 36)).alloc (.cells #[.int .i64 k2, .int .i64 d2, .int .i64 wd2, .int .i64 hi2, .slice ca2 cn2 cc2, .slice pa2 pn2 pc2] 36)) := ((Below.refl _ _).alloc (Nat.le_refl _) _).alloc (by simp) _
  have A0 : Hid (Bx ((w.alloc (.cells #[.int .i64 k, .int .i64 d, .int .i64 wd, .int .i64 hi, .slice ca cn cc, .slice pa pn pc] 36)).alloc (.cells #[.int .i64 k2, .int .i64 d2, .int .i64 wd2, .int .i64 hi2, .slice ca2 cn2 cc2, .slice pa2 pn2 pc2] 36)) w.heap.size (.int .i64 k) (.int .i64 d) (.int .i64 wd) (.int .i64 hi) (.slice ca cn cc) (.slice pa pn pc)) := (bx_new w _ _ _ _ _ _ 36).kept ((Below.refl _ _).alloc (Nat.le_refl _) _)
  have B0 : Hid (Bx ((w.alloc (.cells #[.int .i64 k, .int .i64 d, .int .i64 wd, .int .i64 hi, .slice ca cn cc, .slice pa pn pc] 36)).alloc (.cells #[.int .i64 k2, .int .i64 d2, .int .i64 wd2, .int .i64 hi2, .slice ca2 cn2 cc2, .slice pa2 pn2 pc2] 36)) (w.heap.size + 1) (.int .i64 k2) (.int .i64 d2) (.int .i64 wd2) (.int .i64 hi2) (.slice ca2 cn2 cc2) (.slice pa2 pn2 pc2)) := by
    have := bx_new (w.alloc (.cells #[.int .i64 k, .int .i64 d, .int .i64 wd, .int .i64 hi, .slice ca cn cc, .slice pa pn pc] 36)) (.int .i64 k2) (.int .i64 d2) (.int .i64 wd2) (.int .i64 hi2) (.slice ca2 cn2 cc2) (.slice pa2 pn2 pc2) 36
    rw [World.size_alloc] at this; exact this
  have HOA : Hid (∀ w', Below w.heap.size w w' → Calls Try.prog 42 #[.agg #[.int .i64 k, .int .i64 d, .int .i64 wd, .int .i64 hi, .slice ca cn cc, .slice pa pn pc]] w' fun e w'' => e = .returned (.bool true) ∧ Below w'.heap.size w' w'') := hOA
  have HOB : Hid (∀ w', Below w.heap.size w w' → Calls Try.prog 42 #[.agg #[.int .i64 k2, .int .i64 d2, .int .i64 wd2, .int .i64 hi2, .slice ca2 cn2 cc2, .slice pa2 pn2 pc2]] w' fun e w'' => e = .returned (.bool true) ∧ Below w'.heap.size w' w'') := hOB
  clear hOA hOB
  have hbne : (wd == wd2) = false := by rw [beq_eq_false_iff_ne]; exact hno
  go_enter Try.func24, Try.ntmps24
  go_wp2_with fail
  refine (HOA.out _ hB0).mono ?_
  rintro e w1 ⟨rfl, b1⟩
  have A1 : Hid (Bx w1 w.heap.size (.int .i64 k) (.int .i64 d) (.int .i64 wd) (.int .i64 hi) (.slice ca cn cc) (.slice pa pn pc)) := A0.out.kept b1
  have B1 : Hid (Bx w1 (w.heap.size + 1) (.int .i64 k2) (.int .i64 d2) (.int .i64 wd2) (.int .i64 hi2) (.slice ca2 cn2 cc2) (.slice pa2 pn2 pc2)) := B0.out.kept b1
  have bel1 : Below w.heap.size w w1 := hB0.trans (b1.mono hB0.size)
  clear b1 hB0 A0 B0 HOA
  obtain ⟨_, p0, p1, p2, p3, p4, p5⟩ := B1.out
  go_wp2_with fail
  refine (HOB.out _ bel1).mono ?_
  rintro e w2 ⟨rfl, b2⟩
  have A2 : Hid (Bx w2 w.heap.size (.int .i64 k) (.int .i64 d) (.int .i64 wd) (.int .i64 hi) (.slice ca cn cc) (.slice pa pn pc)) := A1.out.kept b2
  have B2 : Hid (Bx w2 (w.heap.size + 1) (.int .i64 k2) (.int .i64 d2) (.int .i64 wd2) (.int .i64 hi2) (.slice ca2 cn2 cc2) (.slice pa2 pn2 pc2)) := B1.out.kept b2
  have bel2 : Below w.heap.size w w2 := bel1.trans (b2.mono bel1.size)
  clear b2 bel1 A1 B1 HOB p0 p1 p2 p3 p4 p5
  obtain ⟨_, a0, a1, a2, a3, a4, a5⟩ := A2.out
  obtain ⟨_, p0, p1, p2, p3, p4, p5⟩ := B2.out
  clear A2 B2
  go_wp2_with fail
  go_ret
  exact ⟨rfl, bel2⟩

set_option maxHeartbeats 1000000 in
set_option maxRecDepth 20000 in
theorem spec_like_high (k d wd hi : Int) (ca : Option Addr) (cn cc : Nat) (pa : Option Addr) (pn pc : Nat) (k2 d2 hi2 : Int) (ca2 : Option Addr) (cn2 cc2 : Nat) (pa2 : Option Addr) (pn2 pc2 : Nat) (w : World) (hno : ¬ hi = hi2) (hOA : (∀ w', Below w.heap.size w w' → Calls Try.prog 42 #[.agg #[.int .i64 k, .int .i64 d, .int .i64 wd, .int .i64 hi, .slice ca cn cc, .slice pa pn pc]] w' fun e w'' => e = .returned (.bool true) ∧ Below w'.heap.size w' w'')) (hOB : (∀ w', Below w.heap.size w w' → Calls Try.prog 42 #[.agg #[.int .i64 k2, .int .i64 d2, .int .i64 wd, .int .i64 hi2, .slice ca2 cn2 cc2, .slice pa2 pn2 pc2]] w' fun e w'' => e = .returned (.bool true) ∧ Below w'.heap.size w' w'')) :
    Calls Try.prog 24 #[.agg #[.int .i64 k, .int .i64 d, .int .i64 wd, .int .i64 hi, .slice ca cn cc, .slice pa pn pc], .agg #[.int .i64 k2, .int .i64 d2, .int .i64 wd, .int .i64 hi2, .slice ca2 cn2 cc2, .slice pa2 pn2 pc2]] w fun e w' => e = .returned (.bool false) ∧ Below w.heap.size w w' := by
  have hB0 : Below w.heap.size w ((w.alloc (.cells #[.int .i64 k, .int .i64 d, .int .i64 wd, .int .i64 hi, .slice ca cn cc, .slice pa pn pc] 36)).alloc (.cells #[.int .i64 k2, .int .i64 d2, .int .i64 wd, .int .i64 hi2, .slice ca2 cn2 cc2, .slice pa2 pn2 pc2] 36)) := ((Below.refl _ _).alloc (Nat.le_refl _) _).alloc (by simp) _
  have A0 : Hid (Bx ((w.alloc (.cells #[.int .i64 k, .int .i64 d, .int .i64 wd, .int .i64 hi, .slice ca cn cc, .slice pa pn pc] 36)).alloc (.cells #[.int .i64 k2, .int .i64 d2, .int .i64 wd, .int .i64 hi2, .slice ca2 cn2 cc2, .slice pa2 pn2 pc2] 36)) w.heap.size (.int .i64 k) (.int .i64 d) (.int .i64 wd) (.int .i64 hi) (.slice ca cn cc) (.slice pa pn pc)) := (bx_new w _ _ _ _ _ _ 36).kept ((Below.refl _ _).alloc (Nat.le_refl _) _)
  have B0 : Hid (Bx ((w.alloc (.cells #[.int .i64 k, .int .i64 d, .int .i64 wd, .int .i64 hi, .slice ca cn cc, .slice pa pn pc] 36)).alloc (.cells #[.int .i64 k2, .int .i64 d2, .int .i64 wd, .int .i64 hi2, .slice ca2 cn2 cc2, .slice pa2 pn2 pc2] 36)) (w.heap.size + 1) (.int .i64 k2) (.int .i64 d2) (.int .i64 wd) (.int .i64 hi2) (.slice ca2 cn2 cc2) (.slice pa2 pn2 pc2)) := by
    have := bx_new (w.alloc (.cells #[.int .i64 k, .int .i64 d, .int .i64 wd, .int .i64 hi, .slice ca cn cc, .slice pa pn pc] 36)) (.int .i64 k2) (.int .i64 d2) (.int .i64 wd) (.int .i64 hi2) (.slice ca2 cn2 cc2) (.slice pa2 pn2 pc2) 36
    rw [World.size_alloc] at this; exact this
  have HOA : Hid (∀ w', Below w.heap.size w w' → Calls Try.prog 42 #[.agg #[.int .i64 k, .int .i64 d, .int .i64 wd, .int .i64 hi, .slice ca cn cc, .slice pa pn pc]] w' fun e w'' => e = .returned (.bool true) ∧ Below w'.heap.size w' w'') := hOA
  have HOB : Hid (∀ w', Below w.heap.size w w' → Calls Try.prog 42 #[.agg #[.int .i64 k2, .int .i64 d2, .int .i64 wd, .int .i64 hi2, .slice ca2 cn2 cc2, .slice pa2 pn2 pc2]] w' fun e w'' => e = .returned (.bool true) ∧ Below w'.heap.size w' w'') := hOB
  clear hOA hOB
  have hbne : (hi == hi2) = false := by rw [beq_eq_false_iff_ne]; exact hno
  go_enter Try.func24, Try.ntmps24
  go_wp2_with fail
  refine (HOA.out _ hB0).mono ?_
  rintro e w1 ⟨rfl, b1⟩
  have A1 : Hid (Bx w1 w.heap.size (.int .i64 k) (.int .i64 d) (.int .i64 wd) (.int .i64 hi) (.slice ca cn cc) (.slice pa pn pc)) := A0.out.kept b1
  have B1 : Hid (Bx w1 (w.heap.size + 1) (.int .i64 k2) (.int .i64 d2) (.int .i64 wd) (.int .i64 hi2) (.slice ca2 cn2 cc2) (.slice pa2 pn2 pc2)) := B0.out.kept b1
  have bel1 : Below w.heap.size w w1 := hB0.trans (b1.mono hB0.size)
  clear b1 hB0 A0 B0 HOA
  obtain ⟨_, p0, p1, p2, p3, p4, p5⟩ := B1.out
  go_wp2_with fail
  refine (HOB.out _ bel1).mono ?_
  rintro e w2 ⟨rfl, b2⟩
  have A2 : Hid (Bx w2 w.heap.size (.int .i64 k) (.int .i64 d) (.int .i64 wd) (.int .i64 hi) (.slice ca cn cc) (.slice pa pn pc)) := A1.out.kept b2
  have B2 : Hid (Bx w2 (w.heap.size + 1) (.int .i64 k2) (.int .i64 d2) (.int .i64 wd) (.int .i64 hi2) (.slice ca2 cn2 cc2) (.slice pa2 pn2 pc2)) := B1.out.kept b2
  have bel2 : Below w.heap.size w w2 := bel1.trans (b2.mono bel1.size)
  clear b2 bel1 A1 B1 HOB p0 p1 p2 p3 p4 p5
  obtain ⟨_, a0, a1, a2, a3, a4, a5⟩ := A2.out
  obtain ⟨_, p0, p1, p2, p3, p4, p5⟩ := B2.out
  clear A2 B2
  go_wp2_with fail
  go_ret
  exact ⟨rfl, bel2⟩

set_option maxHeartbeats 8000000 in
set_option maxRecDepth 20000 in
theorem spec_like_yes (k : Int) (D Wd Hi : Nat) (ca : Option Addr) (cn cc : Nat) (pa : Option Addr) (pn pc : Nat) (k2 : Int) (D2 : Nat) (ca2 : Option Addr) (cn2 cc2 : Nat) (pa2 : Option Addr) (pn2 pc2 : Nat) (cs ps cs2 ps2 : List Int) (w : World) (ok : Im.Ok k (D : Int) (Wd : Int) (Hi : Int) cs ps) (ok2 : Im.Ok k2 (D2 : Int) (Wd : Int) (Hi : Int) cs2 ps2) (hc : Ints w ca cs) (hcn : cs.length = cn) (hp : Ints w pa ps) (hpn : ps.length = pn) (hc2 : Ints w ca2 cs2) (hcn2 : cs2.length = cn2) (hp2 : Ints w pa2 ps2) (hpn2 : ps2.length = pn2) (hW : Wd ≤ 20) (hH : Hi ≤ 20) (hm : pn = Wd * Hi) (hm2 : pn2 = Wd * Hi)
    (hOA : (∀ w', Below w.heap.size w w' → Calls Try.prog 42 #[.agg #[.int .i64 k, .int .i64 (D : Int), .int .i64 (Wd : Int), .int .i64 (Hi : Int), .slice ca cn cc, .slice pa pn pc]] w' fun e w'' => e = .returned (.bool true) ∧ Below w'.heap.size w' w'')) (hOB : (∀ w', Below w.heap.size w w' → Calls Try.prog 42 #[.agg #[.int .i64 k2, .int .i64 (D2 : Int), .int .i64 (Wd : Int), .int .i64 (Hi : Int), .slice ca2 cn2 cc2, .slice pa2 pn2 pc2]] w' fun e w'' => e = .returned (.bool true) ∧ Below w'.heap.size w' w'')) :
    Calls Try.prog 24 #[.agg #[.int .i64 k, .int .i64 (D : Int), .int .i64 (Wd : Int), .int .i64 (Hi : Int), .slice ca cn cc, .slice pa pn pc], .agg #[.int .i64 k2, .int .i64 (D2 : Int), .int .i64 (Wd : Int), .int .i64 (Hi : Int), .slice ca2 cn2 cc2, .slice pa2 pn2 pc2]] w fun e w' => e = .returned (.bool (decide (cols k D cs ps = cols k2 D2 cs2 ps2))) ∧ Below w.heap.size w w' := by
  have hB0 : Below w.heap.size w ((w.alloc (.cells #[.int .i64 k, .int .i64 (D : Int), .int .i64 (Wd : Int), .int .i64 (Hi : Int), .slice ca cn cc, .slice pa pn pc] 36)).alloc (.cells #[.int .i64 k2, .int .i64 (D2 : Int), .int .i64 (Wd : Int), .int .i64 (Hi : Int), .slice ca2 cn2 cc2, .slice pa2 pn2 pc2] 36)) := ((Below.refl _ _).alloc (Nat.le_refl _) _).alloc (by simp) _
  have A0 : Hid (Bx ((w.alloc (.cells #[.int .i64 k, .int .i64 (D : Int), .int .i64 (Wd : Int), .int .i64 (Hi : Int), .slice ca cn cc, .slice pa pn pc] 36)).alloc (.cells #[.int .i64 k2, .int .i64 (D2 : Int), .int .i64 (Wd : Int), .int .i64 (Hi : Int), .slice ca2 cn2 cc2, .slice pa2 pn2 pc2] 36)) w.heap.size (.int .i64 k) (.int .i64 (D : Int)) (.int .i64 (Wd : Int)) (.int .i64 (Hi : Int)) (.slice ca cn cc) (.slice pa pn pc)) := (bx_new w _ _ _ _ _ _ 36).kept ((Below.refl _ _).alloc (Nat.le_refl _) _)
  have B0 : Hid (Bx ((w.alloc (.cells #[.int .i64 k, .int .i64 (D : Int), .int .i64 (Wd : Int), .int .i64 (Hi : Int), .slice ca cn cc, .slice pa pn pc] 36)).alloc (.cells #[.int .i64 k2, .int .i64 (D2 : Int), .int .i64 (Wd : Int), .int .i64 (Hi : Int), .slice ca2 cn2 cc2, .slice pa2 pn2 pc2] 36)) (w.heap.size + 1) (.int .i64 k2) (.int .i64 (D2 : Int)) (.int .i64 (Wd : Int)) (.int .i64 (Hi : Int)) (.slice ca2 cn2 cc2) (.slice pa2 pn2 pc2)) := by
    have := bx_new (w.alloc (.cells #[.int .i64 k, .int .i64 (D : Int), .int .i64 (Wd : Int), .int .i64 (Hi : Int), .slice ca cn cc, .slice pa pn pc] 36)) (.int .i64 k2) (.int .i64 (D2 : Int)) (.int .i64 (Wd : Int)) (.int .i64 (Hi : Int)) (.slice ca2 cn2 cc2) (.slice pa2 pn2 pc2) 36
    rw [World.size_alloc] at this; exact this
  have HOA : Hid (∀ w', Below w.heap.size w w' → Calls Try.prog 42 #[.agg #[.int .i64 k, .int .i64 (D : Int), .int .i64 (Wd : Int), .int .i64 (Hi : Int), .slice ca cn cc, .slice pa pn pc]] w' fun e w'' => e = .returned (.bool true) ∧ Below w'.heap.size w' w'') := hOA
  have HOB : Hid (∀ w', Below w.heap.size w w' → Calls Try.prog 42 #[.agg #[.int .i64 k2, .int .i64 (D2 : Int), .int .i64 (Wd : Int), .int .i64 (Hi : Int), .slice ca2 cn2 cc2, .slice pa2 pn2 pc2]] w' fun e w'' => e = .returned (.bool true) ∧ Below w'.heap.size w' w'') := hOB
  have HLA : Hid (∀ (x : Nat) (w' : World), Below w.heap.size w w' → PtOk k D cs x → Calls Try.prog 51 #[.agg #[.int .i64 k, .int .i64 (D : Int), .int .i64 (Wd : Int), .int .i64 (Hi : Int), .slice ca cn cc, .slice pa pn pc], .int .i64 (x : Int)] w' fun e w'' => e = .returned (.int .i64 (colOf k D cs (x : Int))) ∧ Below w'.heap.size w' w'') := fun x w' b h => l8Color_any k D x (Wd : Int) (Hi : Int) ca cn cc pa pn pc cs w' (hc.kept b) hcn h
  have HLB : Hid (∀ (x : Nat) (w' : World), Below w.heap.size w w' → PtOk k2 D2 cs2 x → Calls Try.prog 51 #[.agg #[.int .i64 k2, .int .i64 (D2 : Int), .int .i64 (Wd : Int), .int .i64 (Hi : Int), .slice ca2 cn2 cc2, .slice pa2 pn2 pc2], .int .i64 (x : Int)] w' fun e w'' => e = .returned (.int .i64 (colOf k2 D2 cs2 (x : Int))) ∧ Below w'.heap.size w' w'') := fun x w' b h => l8Color_any k2 D2 x (Wd : Int) (Hi : Int) ca2 cn2 cc2 pa2 pn2 pc2 cs2 w' (hc2.kept b) hcn2 h
  have HP : Hid (∀ w', Below w.heap.size w w' → Ints w' pa ps ∧ Ints w' pa2 ps2) := fun w' b => ⟨hp.kept b, hp2.kept b⟩
  have HPO : Hid (∀ j, j < pn → (∃ p : Nat, ps.getD j 0 = (p : Int) ∧ PtOk k D cs p) ∧ (∃ q : Nat, ps2.getD j 0 = (q : Int) ∧ PtOk k2 D2 cs2 q)) := fun j hj => ⟨Im.pt_ok ok j (by omega), Im.pt_ok ok2 j (by omega)⟩
  have HN : Hid (ps.length = pn ∧ ps2.length = pn2 ∧ pn = pn2) := ⟨hpn, hpn2, by omega⟩
  have hmul : Wd * Hi ≤ 20 * 20 := Nat.mul_le_mul hW hH
  have hpb : pn ≤ 400 := by omega
  have hpb2 : pn2 ≤ 400 := by omega
  clear hOA hOB ok ok2 hc hcn hp hpn hc2 hcn2 hp2 hpn2 hm hm2 hmul
  go_enter Try.func24, Try.ntmps24
  go_wp2_with fail
  refine (HOA.out _ hB0).mono ?_
  rintro e w1 ⟨rfl, b1⟩
  have A1 : Hid (Bx w1 w.heap.size (.int .i64 k) (.int .i64 (D : Int)) (.int .i64 (Wd : Int)) (.int .i64 (Hi : Int)) (.slice ca cn cc) (.slice pa pn pc)) := A0.out.kept b1
  have B1 : Hid (Bx w1 (w.heap.size + 1) (.int .i64 k2) (.int .i64 (D2 : Int)) (.int .i64 (Wd : Int)) (.int .i64 (Hi : Int)) (.slice ca2 cn2 cc2) (.slice pa2 pn2 pc2)) := B0.out.kept b1
  have bel1 : Below w.heap.size w w1 := hB0.trans (b1.mono hB0.size)
  clear b1 hB0 A0 B0 HOA
  obtain ⟨_, p0, p1, p2, p3, p4, p5⟩ := B1.out
  go_wp2_with fail
  refine (HOB.out _ bel1).mono ?_
  rintro e w2 ⟨rfl, b2⟩
  have A2 : Hid (Bx w2 w.heap.size (.int .i64 k) (.int .i64 (D : Int)) (.int .i64 (Wd : Int)) (.int .i64 (Hi : Int)) (.slice ca cn cc) (.slice pa pn pc)) := A1.out.kept b2
  have B2 : Hid (Bx w2 (w.heap.size + 1) (.int .i64 k2) (.int .i64 (D2 : Int)) (.int .i64 (Wd : Int)) (.int .i64 (Hi : Int)) (.slice ca2 cn2 cc2) (.slice pa2 pn2 pc2)) := B1.out.kept b2
  have bel2 : Below w.heap.size w w2 := bel1.trans (b2.mono bel1.size)
  clear b2 bel1 A1 B1 HOB p0 p1 p2 p3 p4 p5
  obtain ⟨_, a0, a1, a2, a3, a4, a5⟩ := A2.out
  obtain ⟨_, p0, p1, p2, p3, p4, p5⟩ := B2.out
  go_wp2_with fail
  clear a0 a1 a2 a3 a4 a5 p0 p1 p2 p3 p4 p5
  go_loopw [5] (fun i wr => ∃ j : Nat, j ≤ pn ∧ i = .int .i64 j ∧ (∀ t, t < j → colOf k D cs (ps.getD t 0) = colOf k2 D2 cs2 (ps2.getD t 0)) ∧ Below w2.heap.size w2 wr) (fun i _ => pn - (intOf i).toNat)
  case atStart => exact ⟨0, Nat.zero_le _, rfl, fun t ht => absurd ht (by omega), Below.refl _ _⟩
  case round =>
    obtain ⟨j, hj, rfl, hall, hbel⟩ := hrel
    have HALL : Hid (∀ t, t < j → colOf k D cs (ps.getD t 0) = colOf k2 D2 cs2 (ps2.getD t 0)) := hall
    have Ar : Hid (Bx wr w.heap.size (.int .i64 k) (.int .i64 (D : Int)) (.int .i64 (Wd : Int)) (.int .i64 (Hi : Int)) (.slice ca cn cc) (.slice pa pn pc)) := A2.out.kept hbel
    have Br : Hid (Bx wr (w.heap.size + 1) (.int .i64 k2) (.int .i64 (D2 : Int)) (.int .i64 (Wd : Int)) (.int .i64 (Hi : Int)) (.slice ca2 cn2 cc2) (.slice pa2 pn2 pc2)) := B2.out.kept hbel
    have belr : Below w.heap.size w wr := bel2.trans (hbel.mono bel2.size)
    obtain ⟨_, a0, a1, a2, a3, a4, a5⟩ := Ar.out
    obtain ⟨_, p0, p1, p2, p3, p4, p5⟩ := Br.out
    clear hall
    by_cases hlt : j < pn
    · obtain ⟨⟨p, hp, hPO1⟩, ⟨q, hq, hPO2⟩⟩ := HPO.out j hlt
      have hP1 : Hid (PtOk k D cs p) := hPO1
      have hP2 : Hid (PtOk k2 D2 cs2 q) := hPO2
      clear hPO1 hPO2
      have hj1 : j < ps.length := by have := HN.out.1; omega
      have hj2 : j < ps2.length := by have := HN.out; omega
      obtain ⟨hI1, hI2⟩ := HP.out wr belr
      rcases hI1 with h | ⟨b, off, rfl, hbl, c1⟩
      · rw [h] at hj1; simp at hj1
      · rcases hI2 with h | ⟨b2, off2, rfl, hbl2, c2⟩
        · rw [h] at hj2; simp at hj2
        · have e1 : wr.cell? ⟨b, off + j, none⟩ = some (.int .i64 (p : Int)) := by
            rw [c1 j hj1, ← hp, List.getD_eq_getElem?_getD, List.getElem?_eq_getElem hj1]; rfl
          have e2 : wr.cell? ⟨b2, off2 + j, none⟩ = some (.int .i64 (q : Int)) := by
            rw [c2 j hj2, ← hq, List.getD_eq_getElem?_getD, List.getElem?_eq_getElem hj2]; rfl
          have hji : (j : Int) < (pn : Int) := by omega
          have hji2 : (j : Int) < (pn2 : Int) := by have := HN.out; omega
          have HCC : Hid (colOf k D cs (ps.getD j 0) = colOf k D cs (p : Int) ∧ colOf k2 D2 cs2 (ps2.getD j 0) = colOf k2 D2 cs2 (q : Int)) := ⟨by rw [hp], by rw [hq]⟩
          clear c1 c2 hp hq hj1 hj2
          obtain ⟨u, hu⟩ : ∃ u, u = colOf k D cs (p : Int) := ⟨_, rfl⟩
          obtain ⟨v, hv⟩ : ∃ v, v = colOf k2 D2 cs2 (q : Int) := ⟨_, rfl⟩
          rw [← hu, ← hv] at HCC
          have HLp : Hid (∀ w' : World, Below w.heap.size w w' → Calls Try.prog 51 #[.agg #[.int .i64 k, .int .i64 (D : Int), .int .i64 (Wd : Int), .int .i64 (Hi : Int), .slice ca cn cc, .slice (some ⟨b, off, none⟩) pn pc], .int .i64 (p : Int)] w' fun e w'' => e = .returned (.int .i64 u) ∧ Below w'.heap.size w' w'') := fun w' b => by rw [hu]; exact HLA.out p w' b hP1.out
          have HLq : Hid (∀ w' : World, Below w.heap.size w w' → Calls Try.prog 51 #[.agg #[.int .i64 k2, .int .i64 (D2 : Int), .int .i64 (Wd : Int), .int .i64 (Hi : Int), .slice ca2 cn2 cc2, .slice (some ⟨b2, off2, none⟩) pn2 pc2], .int .i64 (q : Int)] w' fun e w'' => e = .returned (.int .i64 v) ∧ Below w'.heap.size w' w'') := fun w' b => by rw [hv]; exact HLB.out q w' b hP2.out
          clear hu hv HLA HLB hP1 hP2
          by_cases huv : u = v
          · have HAL2 : Hid (∀ t, t < j + 1 → colOf k D cs (ps.getD t 0) = colOf k2 D2 cs2 (ps2.getD t 0)) := fun t ht => by
              by_cases e : t < j
              · exact HALL.out t e
              · have : t = j := by omega
                subst this
                rw [HCC.out.1, HCC.out.2, huv]
            clear HALL HCC
            subst huv
            go_wp2_with fail
            go_region_held3 (fun w' => w'.cell? ⟨w.heap.size, 0, none⟩ = some (.int .i64 k) ∧ w'.cell? ⟨w.heap.size, 1, none⟩ = some (.int .i64 (D : Int)) ∧ w'.cell? ⟨w.heap.size, 2, none⟩ = some (.int .i64 (Wd : Int)) ∧ w'.cell? ⟨w.heap.size, 3, none⟩ = some (.int .i64 (Hi : Int)) ∧ w'.cell? ⟨w.heap.size, 4, none⟩ = some (.slice ca cn cc) ∧ w'.cell? ⟨w.heap.size, 5, none⟩ = some (.slice (some ⟨b, off, none⟩) pn pc) ∧ w'.cell? ⟨w.heap.size + 1, 0, none⟩ = some (.int .i64 k2) ∧ w'.cell? ⟨w.heap.size + 1, 1, none⟩ = some (.int .i64 (D2 : Int)) ∧ w'.cell? ⟨w.heap.size + 1, 2, none⟩ = some (.int .i64 (Wd : Int)) ∧ w'.cell? ⟨w.heap.size + 1, 3, none⟩ = some (.int .i64 (Hi : Int)) ∧ w'.cell? ⟨w.heap.size + 1, 4, none⟩ = some (.slice ca2 cn2 cc2) ∧ w'.cell? ⟨w.heap.size + 1, 5, none⟩ = some (.slice (some ⟨b2, off2, none⟩) pn2 pc2) ∧ w'.cell? ⟨b, off + j, none⟩ = some (.int .i64 (p : Int)) ∧ w'.cell? ⟨b2, off2 + j, none⟩ = some (.int .i64 (q : Int))) (go_keep) (first | (go_at_call_of 51 (Value.slice (some ⟨b, off, none⟩) pn pc); refine (HLp.out wr.drew belr.drew).mono ?_; rintro e w5 ⟨rfl, b5⟩; have b5' : Below wr.heap.size wr w5 := box_drew b5; have bel5 : Below w.heap.size w w5 := belr.trans (b5'.mono belr.size); have r1 := (b5'.cell (p := ⟨b, off + j, none⟩) hbl).trans e1; have r2 := (b5'.cell (p := ⟨b2, off2 + j, none⟩) hbl2).trans e2; have A5 : Hid (Bx w5 w.heap.size (.int .i64 k) (.int .i64 (D : Int)) (.int .i64 (Wd : Int)) (.int .i64 (Hi : Int)) (.slice ca cn cc) (.slice (some ⟨b, off, none⟩) pn pc)) := Ar.out.kept b5'; have B5 : Hid (Bx w5 (w.heap.size + 1) (.int .i64 k2) (.int .i64 (D2 : Int)) (.int .i64 (Wd : Int)) (.int .i64 (Hi : Int)) (.slice ca2 cn2 cc2) (.slice (some ⟨b2, off2, none⟩) pn2 pc2)) := Br.out.kept b5'; obtain ⟨_, m0, m1, m2, m3, m4, m5⟩ := A5.out; obtain ⟨_, n0, n1, n2, n3, n4, n5⟩ := B5.out) | (go_at_call_of 51 (Value.slice (some ⟨b2, off2, none⟩) pn2 pc2); refine (HLq.out w5 bel5).mono ?_; rintro e w6 ⟨rfl, b6⟩; have bel6 : Below w2.heap.size w2 w6 := (hbel.trans (b5'.mono hbel.size)).trans (b6.mono (Nat.le_trans hbel.size b5'.size)); have s1 := (b6.cell (p := ⟨b, off + j, none⟩) (Nat.lt_of_lt_of_le hbl b5'.size)).trans r1; have s2 := (b6.cell (p := ⟨b2, off2 + j, none⟩) (Nat.lt_of_lt_of_le hbl2 b5'.size)).trans r2; clear m0 m1 m2 m3 m4 m5 n0 n1 n2 n3 n4 n5; have A6 : Hid (Bx w6 w.heap.size (.int .i64 k) (.int .i64 (D : Int)) (.int .i64 (Wd : Int)) (.int .i64 (Hi : Int)) (.slice ca cn cc) (.slice (some ⟨b, off, none⟩) pn pc)) := A5.out.kept b6; have B6 : Hid (Bx w6 (w.heap.size + 1) (.int .i64 k2) (.int .i64 (D2 : Int)) (.int .i64 (Wd : Int)) (.int .i64 (Hi : Int)) (.slice ca2 cn2 cc2) (.slice (some ⟨b2, off2, none⟩) pn2 pc2)) := B5.out.kept b6; obtain ⟨_, m0, m1, m2, m3, m4, m5⟩ := A6.out; obtain ⟨_, n0, n1, n2, n3, n4, n5⟩ := B6.out))
            all_goals
              clear m0 m1 m2 m3 m4 m5 n0 n1 n2 n3 n4 n5 a0 a1 a2 a3 a4 a5 p0 p1 p2 p3 p4 p5 e1 e2 r1 r2 s1 s2 hbel
              go_wp2_with fail
              go_roundw
              case rel => exact ⟨j + 1, by omega, by go_num, HAL2.out, bel6⟩
              case measure => simp [intOf]; omega
          · have HD : Hid (decide (cols k D cs ps = cols k2 D2 cs2 ps2) = false) := decide_eq_false (fun e => huv (by
              have h1 : (cols k D cs ps).getD j (colOf k D cs 0) = (cols k2 D2 cs2 ps2).getD j (colOf k D cs 0) := by rw [e]
              have hl1 := HN.out.1
              have hl2 := HN.out.2
              have f1 : (cols k D cs ps).getD j (colOf k D cs 0) = colOf k D cs (ps.getD j 0) := by
                simp [cols, show j < ps.length by omega]
              have f2 : (cols k2 D2 cs2 ps2).getD j (colOf k D cs 0) = colOf k2 D2 cs2 (ps2.getD j 0) := by
                simp [cols, show j < ps2.length by omega]
              rw [f1, f2, HCC.out.1, HCC.out.2] at h1
              exact h1))
            have hbne : (u == v) = false := by rw [beq_eq_false_iff_ne]; exact huv
            clear HALL HCC
            go_wp2_with fail
            go_region_held3 (fun w' => w'.cell? ⟨w.heap.size, 0, none⟩ = some (.int .i64 k) ∧ w'.cell? ⟨w.heap.size, 1, none⟩ = some (.int .i64 (D : Int)) ∧ w'.cell? ⟨w.heap.size, 2, none⟩ = some (.int .i64 (Wd : Int)) ∧ w'.cell? ⟨w.heap.size, 3, none⟩ = some (.int .i64 (Hi : Int)) ∧ w'.cell? ⟨w.heap.size, 4, none⟩ = some (.slice ca cn cc) ∧ w'.cell? ⟨w.heap.size, 5, none⟩ = some (.slice (some ⟨b, off, none⟩) pn pc) ∧ w'.cell? ⟨w.heap.size + 1, 0, none⟩ = some (.int .i64 k2) ∧ w'.cell? ⟨w.heap.size + 1, 1, none⟩ = some (.int .i64 (D2 : Int)) ∧ w'.cell? ⟨w.heap.size + 1, 2, none⟩ = some (.int .i64 (Wd : Int)) ∧ w'.cell? ⟨w.heap.size + 1, 3, none⟩ = some (.int .i64 (Hi : Int)) ∧ w'.cell? ⟨w.heap.size + 1, 4, none⟩ = some (.slice ca2 cn2 cc2) ∧ w'.cell? ⟨w.heap.size + 1, 5, none⟩ = some (.slice (some ⟨b2, off2, none⟩) pn2 pc2) ∧ w'.cell? ⟨b, off + j, none⟩ = some (.int .i64 (p : Int)) ∧ w'.cell? ⟨b2, off2 + j, none⟩ = some (.int .i64 (q : Int))) (go_keep) (first | (go_at_call_of 51 (Value.slice (some ⟨b, off, none⟩) pn pc); refine (HLp.out wr.drew belr.drew).mono ?_; rintro e w5 ⟨rfl, b5⟩; have b5' : Below wr.heap.size wr w5 := box_drew b5; have bel5 : Below w.heap.size w w5 := belr.trans (b5'.mono belr.size); have r1 := (b5'.cell (p := ⟨b, off + j, none⟩) hbl).trans e1; have r2 := (b5'.cell (p := ⟨b2, off2 + j, none⟩) hbl2).trans e2; have A5 : Hid (Bx w5 w.heap.size (.int .i64 k) (.int .i64 (D : Int)) (.int .i64 (Wd : Int)) (.int .i64 (Hi : Int)) (.slice ca cn cc) (.slice (some ⟨b, off, none⟩) pn pc)) := Ar.out.kept b5'; have B5 : Hid (Bx w5 (w.heap.size + 1) (.int .i64 k2) (.int .i64 (D2 : Int)) (.int .i64 (Wd : Int)) (.int .i64 (Hi : Int)) (.slice ca2 cn2 cc2) (.slice (some ⟨b2, off2, none⟩) pn2 pc2)) := Br.out.kept b5'; obtain ⟨_, m0, m1, m2, m3, m4, m5⟩ := A5.out; obtain ⟨_, n0, n1, n2, n3, n4, n5⟩ := B5.out) | (go_at_call_of 51 (Value.slice (some ⟨b2, off2, none⟩) pn2 pc2); refine (HLq.out w5 bel5).mono ?_; rintro e w6 ⟨rfl, b6⟩; have bel6 : Below w2.heap.size w2 w6 := (hbel.trans (b5'.mono hbel.size)).trans (b6.mono (Nat.le_trans hbel.size b5'.size)); have s1 := (b6.cell (p := ⟨b, off + j, none⟩) (Nat.lt_of_lt_of_le hbl b5'.size)).trans r1; have s2 := (b6.cell (p := ⟨b2, off2 + j, none⟩) (Nat.lt_of_lt_of_le hbl2 b5'.size)).trans r2; clear m0 m1 m2 m3 m4 m5 n0 n1 n2 n3 n4 n5; have A6 : Hid (Bx w6 w.heap.size (.int .i64 k) (.int .i64 (D : Int)) (.int .i64 (Wd : Int)) (.int .i64 (Hi : Int)) (.slice ca cn cc) (.slice (some ⟨b, off, none⟩) pn pc)) := A5.out.kept b6; have B6 : Hid (Bx w6 (w.heap.size + 1) (.int .i64 k2) (.int .i64 (D2 : Int)) (.int .i64 (Wd : Int)) (.int .i64 (Hi : Int)) (.slice ca2 cn2 cc2) (.slice (some ⟨b2, off2, none⟩) pn2 pc2)) := B5.out.kept b6; obtain ⟨_, m0, m1, m2, m3, m4, m5⟩ := A6.out; obtain ⟨_, n0, n1, n2, n3, n4, n5⟩ := B6.out))
            all_goals
              clear m0 m1 m2 m3 m4 m5 n0 n1 n2 n3 n4 n5 a0 a1 a2 a3 a4 a5 p0 p1 p2 p3 p4 p5 e1 e2 r1 r2 s1 s2 hbel
              have bel9 : Below w.heap.size w w6 := bel2.trans (bel6.mono bel2.size)
              go_wp2_with fail
              go_ret
              exact ⟨by rw [HD.out]; rfl, bel9⟩
    · have HD : Hid (decide (cols k D cs ps = cols k2 D2 cs2 ps2) = true) := decide_eq_true (by
        have hl := HN.out
        apply List.ext_getElem
        · simp [cols]; omega
        · intro i h1 h2
          have hi1 : i < ps.length := by simpa [cols] using h1
          have hi2 : i < ps2.length := by simpa [cols] using h2
          have := HALL.out i (by omega)
          rw [List.getD_eq_getElem?_getD, List.getElem?_eq_getElem hi1, List.getD_eq_getElem?_getD, List.getElem?_eq_getElem hi2] at this
          simpa [cols] using this)
      have hlt' : ¬ (j : Int) < (pn : Int) := by omega
      clear HALL
      go_wp2_with fail
      go_ret
      exact ⟨by rw [HD.out]; rfl, belr⟩
end Go.Proofs.Ytjikjjganloobab
