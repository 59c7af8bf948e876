/- Texts laid together: ImplLike, SpecLike, TopLike, AnyDraw, RowCode, DrawRgb, WiInts, WiImage, ColImpl, LawImageRgb, PalBack, AtTop, PicMath, LawImagePal. -/
import Derived.Test.YtjiogneidioknaaColSeen
import Derived.Test.YtjiogneidioknaaPicLaw
import Derived.Deep.RegionHeld3
import Derived.Test.YtjiogneidioknaaKFnImagePal
import Derived.Test.YtjiogneidioknaaSpoil
import Derived.Test.YtjiogneidioknaaImgDraw
import Derived.Test.YtjiogneidioknaaDrawWalks
import Derived.Test.YtjiogneidioknaaIntsWalks
import Derived.Test.YtjiogneidioknaaBoxWalks
import Derived.Deep.DeepCutAuto
import Derived.Test.YtjiogneidioknaaColTop
import Derived.Test.YtjiogneidioknaaAtWalks
import Derived.Test.YtjiogneidioknaaPtsWalks
import Derived.BigQuiet
/- ImageLike of the program. -/
namespace Go.Proofs.Ytjiogneidioknaa
open Go.RowKit

set_option maxHeartbeats 1000000 in
set_option maxRecDepth 20000 in
theorem impl_like_bad1 (k d wd hi : Int) (ca : Option Addr) (cn cc : Nat) (pa : Option Addr) (pn pc : Nat) (k2 d2 wd2 hi2 : Int) (ca2 : Option Addr) (cn2 cc2 : Nat) (pa2 : Option Addr) (pn2 pc2 : Nat) (w : World) (hOA : (∀ w', Below w.heap.size w w' → Calls Try.prog 16 #[.agg #[.int .i64 k, .int .i64 d, .int .i64 wd, .int .i64 hi, .slice ca cn cc, .slice pa pn pc]] w' fun e w'' => e = .returned (.bool false) ∧ Below w'.heap.size w' w'')) :
    Calls Try.prog 14 #[.agg #[.int .i64 k, .int .i64 d, .int .i64 wd, .int .i64 hi, .slice ca cn cc, .slice pa pn pc], .agg #[.int .i64 k2, .int .i64 d2, .int .i64 wd2, .int .i64 hi2, .slice ca2 cn2 cc2, .slice pa2 pn2 pc2]] w fun e w' => e = .returned (.bool false) ∧ Below w.heap.size w w' := by
  have hB0 : Below w.heap.size w ((w.alloc (.cells #[.int .i64 k, .int .i64 d, .int .i64 wd, .int .i64 hi, .slice ca cn cc, .slice pa pn pc] 26)).alloc (.cells #[.int .i64 k2, .int .i64 d2, .int .i64 wd2, .int .i64 hi2, .slice ca2 cn2 cc2, .slice pa2 pn2 pc2] 26)) := ((Below.refl _ _).alloc (Nat.le_refl _) _).alloc (by simp) _
  have A0 : Hid (Bx ((w.alloc (.cells #[.int .i64 k, .int .i64 d, .int .i64 wd, .int .i64 hi, .slice ca cn cc, .slice pa pn pc] 26)).alloc (.cells #[.int .i64 k2, .int .i64 d2, .int .i64 wd2, .int .i64 hi2, .slice ca2 cn2 cc2, .slice pa2 pn2 pc2] 26)) w.heap.size (.int .i64 k) (.int .i64 d) (.int .i64 wd) (.int .i64 hi) (.slice ca cn cc) (.slice pa pn pc)) := (bx_new w _ _ _ _ _ _ 26).kept ((Below.refl _ _).alloc (Nat.le_refl _) _)
  have B0 : Hid (Bx ((w.alloc (.cells #[.int .i64 k, .int .i64 d, .int .i64 wd, .int .i64 hi, .slice ca cn cc, .slice pa pn pc] 26)).alloc (.cells #[.int .i64 k2, .int .i64 d2, .int .i64 wd2, .int .i64 hi2, .slice ca2 cn2 cc2, .slice pa2 pn2 pc2] 26)) (w.heap.size + 1) (.int .i64 k2) (.int .i64 d2) (.int .i64 wd2) (.int .i64 hi2) (.slice ca2 cn2 cc2) (.slice pa2 pn2 pc2)) := by
    have := bx_new (w.alloc (.cells #[.int .i64 k, .int .i64 d, .int .i64 wd, .int .i64 hi, .slice ca cn cc, .slice pa pn pc] 26)) (.int .i64 k2) (.int .i64 d2) (.int .i64 wd2) (.int .i64 hi2) (.slice ca2 cn2 cc2) (.slice pa2 pn2 pc2) 26
    rw [World.size_alloc] at this; exact this
  have HOA : Hid (∀ w', Below w.heap.size w w' → Calls Try.prog 16 #[.agg #[.int .i64 k, .int .i64 d, .int .i64 wd, .int .i64 hi, .slice ca cn cc, .slice pa pn pc]] w' fun e w'' => e = .returned (.bool false) ∧ Below w'.heap.size w' w'') := hOA
  clear hOA
  go_enter Try.func14, Try.ntmps14
  go_wp2_with fail
  refine (HOA.out _ hB0).mono ?_
  rintro e w1 ⟨rfl, b1⟩
  have A1 : Hid (Bx w1 w.heap.size (.int .i64 k) (.int .i64 d) (.int .i64 wd) (.int .i64 hi) (.slice ca cn cc) (.slice pa pn pc)) := A0.out.kept b1
  have B1 : Hid (Bx w1 (w.heap.size + 1) (.int .i64 k2) (.int .i64 d2) (.int .i64 wd2) (.int .i64 hi2) (.slice ca2 cn2 cc2) (.slice pa2 pn2 pc2)) := B0.out.kept b1
  have bel1 : Below w.heap.size w w1 := hB0.trans (b1.mono hB0.size)
  clear b1 hB0 A0 B0 HOA
  clear A1 B1
  go_wp2_with fail
  go_ret
  exact ⟨rfl, bel1⟩

set_option maxHeartbeats 1000000 in
set_option maxRecDepth 20000 in
theorem impl_like_bad2 (k d wd hi : Int) (ca : Option Addr) (cn cc : Nat) (pa : Option Addr) (pn pc : Nat) (k2 d2 wd2 hi2 : Int) (ca2 : Option Addr) (cn2 cc2 : Nat) (pa2 : Option Addr) (pn2 pc2 : Nat) (w : World) (hOA : (∀ w', Below w.heap.size w w' → Calls Try.prog 16 #[.agg #[.int .i64 k, .int .i64 d, .int .i64 wd, .int .i64 hi, .slice ca cn cc, .slice pa pn pc]] w' fun e w'' => e = .returned (.bool true) ∧ Below w'.heap.size w' w'')) (hOB : (∀ w', Below w.heap.size w w' → Calls Try.prog 16 #[.agg #[.int .i64 k2, .int .i64 d2, .int .i64 wd2, .int .i64 hi2, .slice ca2 cn2 cc2, .slice pa2 pn2 pc2]] w' fun e w'' => e = .returned (.bool false) ∧ Below w'.heap.size w' w'')) :
    Calls Try.prog 14 #[.agg #[.int .i64 k, .int .i64 d, .int .i64 wd, .int .i64 hi, .slice ca cn cc, .slice pa pn pc], .agg #[.int .i64 k2, .int .i64 d2, .int .i64 wd2, .int .i64 hi2, .slice ca2 cn2 cc2, .slice pa2 pn2 pc2]] w fun e w' => e = .returned (.bool false) ∧ Below w.heap.size w w' := by
  have hB0 : Below w.heap.size w ((w.alloc (.cells #[.int .i64 k, .int .i64 d, .int .i64 wd, .int .i64 hi, .slice ca cn cc, .slice pa pn pc] 26)).alloc (.cells #[.int .i64 k2, .int .i64 d2, .int .i64 wd2, .int .i64 hi2, .slice ca2 cn2 cc2, .slice pa2 pn2 pc2] 26)) := ((Below.refl _ _).alloc (Nat.le_refl _) _).alloc (by simp) _
  have A0 : Hid (Bx ((w.alloc (.cells #[.int .i64 k, .int .i64 d, .int .i64 wd, .int .i64 hi, .slice ca cn cc, .slice pa pn pc] 26)).alloc (.cells #[.int .i64 k2, .int .i64 d2, .int .i64 wd2, .int .i64 hi2, .slice ca2 cn2 cc2, .slice pa2 pn2 pc2] 26)) w.heap.size (.int .i64 k) (.int .i64 d) (.int .i64 wd) (.int .i64 hi) (.slice ca cn cc) (.slice pa pn pc)) := (bx_new w _ _ _ _ _ _ 26).kept ((Below.refl _ _).alloc (Nat.le_refl _) _)
  have B0 : Hid (Bx ((w.alloc (.cells #[.int .i64 k, .int .i64 d, .int .i64 wd, .int .i64 hi, .slice ca cn cc, .slice pa pn pc] 26)).alloc (.cells #[.int .i64 k2, .int .i64 d2, .int .i64 wd2, .int .i64 hi2, .slice ca2 cn2 cc2, .slice pa2 pn2 pc2] 26)) (w.heap.size + 1) (.int .i64 k2) (.int .i64 d2) (.int .i64 wd2) (.int .i64 hi2) (.slice ca2 cn2 cc2) (.slice pa2 pn2 pc2)) := by
    have := bx_new (w.alloc (.cells #[.int .i64 k, .int .i64 d, .int .i64 wd, .int .i64 hi, .slice ca cn cc, .slice pa pn pc] 26)) (.int .i64 k2) (.int .i64 d2) (.int .i64 wd2) (.int .i64 hi2) (.slice ca2 cn2 cc2) (.slice pa2 pn2 pc2) 26
    rw [World.size_alloc] at this; exact this
  have HOA : Hid (∀ w', Below w.heap.size w w' → Calls Try.prog 16 #[.agg #[.int .i64 k, .int .i64 d, .int .i64 wd, .int .i64 hi, .slice ca cn cc, .slice pa pn pc]] w' fun e w'' => e = .returned (.bool true) ∧ Below w'.heap.size w' w'') := hOA
  have HOB : Hid (∀ w', Below w.heap.size w w' → Calls Try.prog 16 #[.agg #[.int .i64 k2, .int .i64 d2, .int .i64 wd2, .int .i64 hi2, .slice ca2 cn2 cc2, .slice pa2 pn2 pc2]] w' fun e w'' => e = .returned (.bool false) ∧ Below w'.heap.size w' w'') := hOB
  clear hOA hOB
  go_enter Try.func14, Try.ntmps14
  go_wp2_with fail
  refine (HOA.out _ hB0).mono ?_
  rintro e w1 ⟨rfl, b1⟩
  have A1 : Hid (Bx w1 w.heap.size (.int .i64 k) (.int .i64 d) (.int .i64 wd) (.int .i64 hi) (.slice ca cn cc) (.slice pa pn pc)) := A0.out.kept b1
  have B1 : Hid (Bx w1 (w.heap.size + 1) (.int .i64 k2) (.int .i64 d2) (.int .i64 wd2) (.int .i64 hi2) (.slice ca2 cn2 cc2) (.slice pa2 pn2 pc2)) := B0.out.kept b1
  have bel1 : Below w.heap.size w w1 := hB0.trans (b1.mono hB0.size)
  clear b1 hB0 A0 B0 HOA
  obtain ⟨_, p0, p1, p2, p3, p4, p5⟩ := B1.out
  go_wp2_with fail
  refine (HOB.out _ bel1).mono ?_
  rintro e w2 ⟨rfl, b2⟩
  have A2 : Hid (Bx w2 w.heap.size (.int .i64 k) (.int .i64 d) (.int .i64 wd) (.int .i64 hi) (.slice ca cn cc) (.slice pa pn pc)) := A1.out.kept b2
  have B2 : Hid (Bx w2 (w.heap.size + 1) (.int .i64 k2) (.int .i64 d2) (.int .i64 wd2) (.int .i64 hi2) (.slice ca2 cn2 cc2) (.slice pa2 pn2 pc2)) := B1.out.kept b2
  have bel2 : Below w.heap.size w w2 := bel1.trans (b2.mono bel1.size)
  clear b2 bel1 A1 B1 HOB p0 p1 p2 p3 p4 p5
  obtain ⟨_, a0, a1, a2, a3, a4, a5⟩ := A2.out
  obtain ⟨_, p0, p1, p2, p3, p4, p5⟩ := B2.out
  clear A2 B2
  go_wp2_with fail
  go_ret
  exact ⟨rfl, bel2⟩

set_option maxHeartbeats 1000000 in
set_option maxRecDepth 20000 in
theorem impl_like_wide (k d wd hi : Int) (ca : Option Addr) (cn cc : Nat) (pa : Option Addr) (pn pc : Nat) (k2 d2 wd2 hi2 : Int) (ca2 : Option Addr) (cn2 cc2 : Nat) (pa2 : Option Addr) (pn2 pc2 : Nat) (w : World) (hno : ¬ wd = wd2) (hOA : (∀ w', Below w.heap.size w w' → Calls Try.prog 16 #[.agg #[.int .i64 k, .int .i64 d, .int .i64 wd, .int .i64 hi, .slice ca cn cc, .slice pa pn pc]] w' fun e w'' => e = .returned (.bool true) ∧ Below w'.heap.size w' w'')) (hOB : (∀ w', Below w.heap.size w w' → Calls Try.prog 16 #[.agg #[.int .i64 k2, .int .i64 d2, .int .i64 wd2, .int .i64 hi2, .slice ca2 cn2 cc2, .slice pa2 pn2 pc2]] w' fun e w'' => e = .returned (.bool true) ∧ Below w'.heap.size w' w'')) :
    Calls Try.prog 14 #[.agg #[.int .i64 k, .int .i64 d, .int .i64 wd, .int .i64 hi, .slice ca cn cc, .slice pa pn pc], .agg #[.int .i64 k2, .int .i64 d2, .int .i64 wd2, .int .i64 hi2, .slice ca2 cn2 cc2, .slice pa2 pn2 pc2]] w fun e w' => e = .returned (.bool false) ∧ Below w.heap.size w w' := by
  have hB0 : Below w.heap.size w ((w.alloc (.cells #[.int .i64 k, .int .i64 d, .int .i64 wd, .int .i64 hi, .slice ca cn cc, .slice pa pn pc] 26)).alloc (.cells #[.int .i64 k2, .int .i64 d2, .int .i64 wd2, .int .i64 hi2, .slice ca2 cn2 cc2, .slice pa2 pn2 pc2] 26)) := ((Below.refl _ _).alloc (Nat.le_refl _) _).alloc (by simp) _
  have A0 : Hid (Bx ((w.alloc (.cells #[.int .i64 k, .int .i64 d, .int .i64 wd, .int .i64 hi, .slice ca cn cc, .slice pa pn pc] 26)).alloc (.cells #[.int .i64 k2, .int .i64 d2, .int .i64 wd2, .int .i64 hi2, .slice ca2 cn2 cc2, .slice pa2 pn2 pc2] 26)) w.heap.size (.int .i64 k) (.int .i64 d) (.int .i64 wd) (.int .i64 hi) (.slice ca cn cc) (.slice pa pn pc)) := (bx_new w _ _ _ _ _ _ 26).kept ((Below.refl _ _).alloc (Nat.le_refl _) _)
  have B0 : Hid (Bx ((w.alloc (.cells #[.int .i64 k, .int .i64 d, .int .i64 wd, .int .i64 hi, .slice ca cn cc, .slice pa pn pc] 26)).alloc (.cells #[.int .i64 k2, .int .i64 d2, .int .i64 wd2, .int .i64 hi2, .slice ca2 cn2 cc2, .slice pa2 pn2 pc2] 26)) (w.heap.size + 1) (.int .i64 k2) (.int .i64 d2) (.int .i64 wd2) (.int .i64 hi2) (.slice ca2 cn2 cc2) (.slice pa2 pn2 pc2)) := by
    have := bx_new (w.alloc (.cells #[.int .i64 k, .int .i64 d, .int .i64 wd, .int .i64 hi, .slice ca cn cc, .slice pa pn pc] 26)) (.int .i64 k2) (.int .i64 d2) (.int .i64 wd2) (.int .i64 hi2) (.slice ca2 cn2 cc2) (.slice pa2 pn2 pc2) 26
    rw [World.size_alloc] at this; exact this
  have HOA : Hid (∀ w', Below w.heap.size w w' → Calls Try.prog 16 #[.agg #[.int .i64 k, .int .i64 d, .int .i64 wd, .int .i64 hi, .slice ca cn cc, .slice pa pn pc]] w' fun e w'' => e = .returned (.bool true) ∧ Below w'.heap.size w' w'') := hOA
  have HOB : Hid (∀ w', Below w.heap.size w w' → Calls Try.prog 16 #[.agg #[.int .i64 k2, .int .i64 d2, .int .i64 wd2, .int .i64 hi2, .slice ca2 cn2 cc2, .slice pa2 pn2 pc2]] w' fun e w'' => e = .returned (.bool true) ∧ Below w'.heap.size w' w'') := hOB
  clear hOA hOB
  have hbne : (wd == wd2) = false := by rw [beq_eq_false_iff_ne]; exact hno
  go_enter Try.func14, Try.ntmps14
  go_wp2_with fail
  refine (HOA.out _ hB0).mono ?_
  rintro e w1 ⟨rfl, b1⟩
  have A1 : Hid (Bx w1 w.heap.size (.int .i64 k) (.int .i64 d) (.int .i64 wd) (.int .i64 hi) (.slice ca cn cc) (.slice pa pn pc)) := A0.out.kept b1
  have B1 : Hid (Bx w1 (w.heap.size + 1) (.int .i64 k2) (.int .i64 d2) (.int .i64 wd2) (.int .i64 hi2) (.slice ca2 cn2 cc2) (.slice pa2 pn2 pc2)) := B0.out.kept b1
  have bel1 : Below w.heap.size w w1 := hB0.trans (b1.mono hB0.size)
  clear b1 hB0 A0 B0 HOA
  obtain ⟨_, p0, p1, p2, p3, p4, p5⟩ := B1.out
  go_wp2_with fail
  refine (HOB.out _ bel1).mono ?_
  rintro e w2 ⟨rfl, b2⟩
  have A2 : Hid (Bx w2 w.heap.size (.int .i64 k) (.int .i64 d) (.int .i64 wd) (.int .i64 hi) (.slice ca cn cc) (.slice pa pn pc)) := A1.out.kept b2
  have B2 : Hid (Bx w2 (w.heap.size + 1) (.int .i64 k2) (.int .i64 d2) (.int .i64 wd2) (.int .i64 hi2) (.slice ca2 cn2 cc2) (.slice pa2 pn2 pc2)) := B1.out.kept b2
  have bel2 : Below w.heap.size w w2 := bel1.trans (b2.mono bel1.size)
  clear b2 bel1 A1 B1 HOB p0 p1 p2 p3 p4 p5
  obtain ⟨_, a0, a1, a2, a3, a4, a5⟩ := A2.out
  obtain ⟨_, p0, p1, p2, p3, p4, p5⟩ := B2.out
  clear A2 B2
  go_wp2_with fail
  go_ret
  exact ⟨rfl, bel2⟩

set_option maxHeartbeats 1000000 in
set_option maxRecDepth 20000 in
theorem impl_like_high (k d wd hi : Int) (ca : Option Addr) (cn cc : Nat) (pa : Option Addr) (pn pc : Nat) (k2 d2 hi2 : Int) (ca2 : Option Addr) (cn2 cc2 : Nat) (pa2 : Option Addr) (pn2 pc2 : Nat) (w : World) (hno : ¬ hi = hi2) (hOA : (∀ w', Below w.heap.size w w' → Calls Try.prog 16 #[.agg #[.int .i64 k, .int .i64 d, .int .i64 wd, .int .i64 hi, .slice ca cn cc, .slice pa pn pc]] w' fun e w'' => e = .returned (.bool true) ∧ Below w'.heap.size w' w'')) (hOB : (∀ w', Below w.heap.size w w' → Calls Try.prog 16 #[.agg #[.int .i64 k2, .int .i64 d2, .int .i64 wd, .int .i64 hi2, .slice ca2 cn2 cc2, .slice pa2 pn2 pc2]] w' fun e w'' => e = .returned (.bool true) ∧ Below w'.heap.size w' w'')) :
    Calls Try.prog 14 #[.agg #[.int .i64 k, .int .i64 d, .int .i64 wd, .int .i64 hi, .slice ca cn cc, .slice pa pn pc], .agg #[.int .i64 k2, .int .i64 d2, .int .i64 wd, .int .i64 hi2, .slice ca2 cn2 cc2, .slice pa2 pn2 pc2]] w fun e w' => e = .returned (.bool false) ∧ Below w.heap.size w w' := by
  have hB0 : Below w.heap.size w ((w.alloc (.cells #[.int .i64 k, .int .i64 d, .int .i64 wd, .int .i64 hi, .slice ca cn cc, .slice pa pn pc] 26)).alloc (.cells #[.int .i64 k2, .int .i64 d2, .int .i64 wd, .int .i64 hi2, .slice ca2 cn2 cc2, .slice pa2 pn2 pc2] 26)) := ((Below.refl _ _).alloc (Nat.le_refl _) _).alloc (by simp) _
  have A0 : Hid (Bx ((w.alloc (.cells #[.int .i64 k, .int .i64 d, .int .i64 wd, .int .i64 hi, .slice ca cn cc, .slice pa pn pc] 26)).alloc (.cells #[.int .i64 k2, .int .i64 d2, .int .i64 wd, .int .i64 hi2, .slice ca2 cn2 cc2, .slice pa2 pn2 pc2] 26)) w.heap.size (.int .i64 k) (.int .i64 d) (.int .i64 wd) (.int .i64 hi) (.slice ca cn cc) (.slice pa pn pc)) := (bx_new w _ _ _ _ _ _ 26).kept ((Below.refl _ _).alloc (Nat.le_refl _) _)
  have B0 : Hid (Bx ((w.alloc (.cells #[.int .i64 k, .int .i64 d, .int .i64 wd, .int .i64 hi, .slice ca cn cc, .slice pa pn pc] 26)).alloc (.cells #[.int .i64 k2, .int .i64 d2, .int .i64 wd, .int .i64 hi2, .slice ca2 cn2 cc2, .slice pa2 pn2 pc2] 26)) (w.heap.size + 1) (.int .i64 k2) (.int .i64 d2) (.int .i64 wd) (.int .i64 hi2) (.slice ca2 cn2 cc2) (.slice pa2 pn2 pc2)) := by
    have := bx_new (w.alloc (.cells #[.int .i64 k, .int .i64 d, .int .i64 wd, .int .i64 hi, .slice ca cn cc, .slice pa pn pc] 26)) (.int .i64 k2) (.int .i64 d2) (.int .i64 wd) (.int .i64 hi2) (.slice ca2 cn2 cc2) (.slice pa2 pn2 pc2) 26
    rw [World.size_alloc] at this; exact this
  have HOA : Hid (∀ w', Below w.heap.size w w' → Calls Try.prog 16 #[.agg #[.int .i64 k, .int .i64 d, .int .i64 wd, .int .i64 hi, .slice ca cn cc, .slice pa pn pc]] w' fun e w'' => e = .returned (.bool true) ∧ Below w'.heap.size w' w'') := hOA
  have HOB : Hid (∀ w', Below w.heap.size w w' → Calls Try.prog 16 #[.agg #[.int .i64 k2, .int .i64 d2, .int .i64 wd, .int .i64 hi2, .slice ca2 cn2 cc2, .slice pa2 pn2 pc2]] w' fun e w'' => e = .returned (.bool true) ∧ Below w'.heap.size w' w'') := hOB
  clear hOA hOB
  have hbne : (hi == hi2) = false := by rw [beq_eq_false_iff_ne]; exact hno
  go_enter Try.func14, Try.ntmps14
  go_wp2_with fail
  refine (HOA.out _ hB0).mono ?_
  rintro e w1 ⟨rfl, b1⟩
  have A1 : Hid (Bx w1 w.heap.size (.int .i64 k) (.int .i64 d) (.int .i64 wd) (.int .i64 hi) (.slice ca cn cc) (.slice pa pn pc)) := A0.out.kept b1
  have B1 : Hid (Bx w1 (w.heap.size + 1) (.int .i64 k2) (.int .i64 d2) (.int .i64 wd) (.int .i64 hi2) (.slice ca2 cn2 cc2) (.slice pa2 pn2 pc2)) := B0.out.kept b1
  have bel1 : Below w.heap.size w w1 := hB0.trans (b1.mono hB0.size)
  clear b1 hB0 A0 B0 HOA
  obtain ⟨_, p0, p1, p2, p3, p4, p5⟩ := B1.out
  go_wp2_with fail
  refine (HOB.out _ bel1).mono ?_
  rintro e w2 ⟨rfl, b2⟩
  have A2 : Hid (Bx w2 w.heap.size (.int .i64 k) (.int .i64 d) (.int .i64 wd) (.int .i64 hi) (.slice ca cn cc) (.slice pa pn pc)) := A1.out.kept b2
  have B2 : Hid (Bx w2 (w.heap.size + 1) (.int .i64 k2) (.int .i64 d2) (.int .i64 wd) (.int .i64 hi2) (.slice ca2 cn2 cc2) (.slice pa2 pn2 pc2)) := B1.out.kept b2
  have bel2 : Below w.heap.size w w2 := bel1.trans (b2.mono bel1.size)
  clear b2 bel1 A1 B1 HOB p0 p1 p2 p3 p4 p5
  obtain ⟨_, a0, a1, a2, a3, a4, a5⟩ := A2.out
  obtain ⟨_, p0, p1, p2, p3, p4, p5⟩ := B2.out
  clear A2 B2
  go_wp2_with fail
  go_ret
  exact ⟨rfl, bel2⟩

set_option maxHeartbeats 8000000 in
set_option maxRecDepth 20000 in
theorem impl_like_yes (k : Int) (D Wd Hi : Nat) (ca : Option Addr) (cn cc : Nat) (pa : Option Addr) (pn pc : Nat) (k2 : Int) (D2 : Nat) (ca2 : Option Addr) (cn2 cc2 : Nat) (pa2 : Option Addr) (pn2 pc2 : Nat) (cs ps cs2 ps2 : List Int) (w : World) (ok : Im.Ok k (D : Int) (Wd : Int) (Hi : Int) cs ps) (ok2 : Im.Ok k2 (D2 : Int) (Wd : Int) (Hi : Int) cs2 ps2) (hc : Ints w ca cs) (hcn : cs.length = cn) (hp : Ints w pa ps) (hpn : ps.length = pn) (hc2 : Ints w ca2 cs2) (hcn2 : cs2.length = cn2) (hp2 : Ints w pa2 ps2) (hpn2 : ps2.length = pn2) (hW : Wd ≤ 20) (hH : Hi ≤ 20) (hm : pn = Wd * Hi) (hm2 : pn2 = Wd * Hi)
    (hOA : (∀ w', Below w.heap.size w w' → Calls Try.prog 16 #[.agg #[.int .i64 k, .int .i64 (D : Int), .int .i64 (Wd : Int), .int .i64 (Hi : Int), .slice ca cn cc, .slice pa pn pc]] w' fun e w'' => e = .returned (.bool true) ∧ Below w'.heap.size w' w'')) (hOB : (∀ w', Below w.heap.size w w' → Calls Try.prog 16 #[.agg #[.int .i64 k2, .int .i64 (D2 : Int), .int .i64 (Wd : Int), .int .i64 (Hi : Int), .slice ca2 cn2 cc2, .slice pa2 pn2 pc2]] w' fun e w'' => e = .returned (.bool true) ∧ Below w'.heap.size w' w'')) :
    Calls Try.prog 14 #[.agg #[.int .i64 k, .int .i64 (D : Int), .int .i64 (Wd : Int), .int .i64 (Hi : Int), .slice ca cn cc, .slice pa pn pc], .agg #[.int .i64 k2, .int .i64 (D2 : Int), .int .i64 (Wd : Int), .int .i64 (Hi : Int), .slice ca2 cn2 cc2, .slice pa2 pn2 pc2]] w fun e w' => e = .returned (.bool (decide (cols k D cs ps = cols k2 D2 cs2 ps2))) ∧ Below w.heap.size w w' := by
  have hB0 : Below w.heap.size w ((w.alloc (.cells #[.int .i64 k, .int .i64 (D : Int), .int .i64 (Wd : Int), .int .i64 (Hi : Int), .slice ca cn cc, .slice pa pn pc] 26)).alloc (.cells #[.int .i64 k2, .int .i64 (D2 : Int), .int .i64 (Wd : Int), .int .i64 (Hi : Int), .slice ca2 cn2 cc2, .slice pa2 pn2 pc2] 26)) := ((Below.refl _ _).alloc (Nat.le_refl _) _).alloc (by simp) _
  have A0 : Hid (Bx ((w.alloc (.cells #[.int .i64 k, .int .i64 (D : Int), .int .i64 (Wd : Int), .int .i64 (Hi : Int), .slice ca cn cc, .slice pa pn pc] 26)).alloc (.cells #[.int .i64 k2, .int .i64 (D2 : Int), .int .i64 (Wd : Int), .int .i64 (Hi : Int), .slice ca2 cn2 cc2, .slice pa2 pn2 pc2] 26)) w.heap.size (.int .i64 k) (.int .i64 (D : Int)) (.int .i64 (Wd : Int)) (.int .i64 (Hi : Int)) (.slice ca cn cc) (.slice pa pn pc)) := (bx_new w _ _ _ _ _ _ 26).kept ((Below.refl _ _).alloc (Nat.le_refl _) _)
  have B0 : Hid (Bx ((w.alloc (.cells #[.int .i64 k, .int .i64 (D : Int), .int .i64 (Wd : Int), .int .i64 (Hi : Int), .slice ca cn cc, .slice pa pn pc] 26)).alloc (.cells #[.int .i64 k2, .int .i64 (D2 : Int), .int .i64 (Wd : Int), .int .i64 (Hi : Int), .slice ca2 cn2 cc2, .slice pa2 pn2 pc2] 26)) (w.heap.size + 1) (.int .i64 k2) (.int .i64 (D2 : Int)) (.int .i64 (Wd : Int)) (.int .i64 (Hi : Int)) (.slice ca2 cn2 cc2) (.slice pa2 pn2 pc2)) := by
    have := bx_new (w.alloc (.cells #[.int .i64 k, .int .i64 (D : Int), .int .i64 (Wd : Int), .int .i64 (Hi : Int), .slice ca cn cc, .slice pa pn pc] 26)) (.int .i64 k2) (.int .i64 (D2 : Int)) (.int .i64 (Wd : Int)) (.int .i64 (Hi : Int)) (.slice ca2 cn2 cc2) (.slice pa2 pn2 pc2) 26
    rw [World.size_alloc] at this; exact this
  have HOA : Hid (∀ w', Below w.heap.size w w' → Calls Try.prog 16 #[.agg #[.int .i64 k, .int .i64 (D : Int), .int .i64 (Wd : Int), .int .i64 (Hi : Int), .slice ca cn cc, .slice pa pn pc]] w' fun e w'' => e = .returned (.bool true) ∧ Below w'.heap.size w' w'') := hOA
  have HOB : Hid (∀ w', Below w.heap.size w w' → Calls Try.prog 16 #[.agg #[.int .i64 k2, .int .i64 (D2 : Int), .int .i64 (Wd : Int), .int .i64 (Hi : Int), .slice ca2 cn2 cc2, .slice pa2 pn2 pc2]] w' fun e w'' => e = .returned (.bool true) ∧ Below w'.heap.size w' w'') := hOB
  have HCA : Hid (∀ w', Below w.heap.size w w' → Calls Try.prog 44 #[.agg #[.int .i64 k, .int .i64 (D : Int), .int .i64 (Wd : Int), .int .i64 (Hi : Int), .slice ca cn cc, .slice pa pn pc]] w' fun e w'' => (∃ V fs rs fa ra, e = .returned (.iface 56 V) ∧ Seen 56 V fs rs fa ra Wd Hi (colF k D cs Wd ps) w''.heap.size w'') ∧ Below w'.heap.size w' w'') := fun w' b => colored_seen k D Wd Hi ca cn cc pa pn pc cs ps w' ok (hc.kept b) hcn (hp.kept b) hpn hW hH hm
  have HCB : Hid (∀ w', Below w.heap.size w w' → Calls Try.prog 44 #[.agg #[.int .i64 k2, .int .i64 (D2 : Int), .int .i64 (Wd : Int), .int .i64 (Hi : Int), .slice ca2 cn2 cc2, .slice pa2 pn2 pc2]] w' fun e w'' => (∃ V fs rs fa ra, e = .returned (.iface 56 V) ∧ Seen 56 V fs rs fa ra Wd Hi (colF k2 D2 cs2 Wd ps2) w''.heap.size w'') ∧ Below w'.heap.size w' w'') := fun w' b => colored_seen k2 D2 Wd Hi ca2 cn2 cc2 pa2 pn2 pc2 cs2 ps2 w' ok2 (hc2.kept b) hcn2 (hp2.kept b) hpn2 hW hH hm2
  have hmul : Wd * Hi ≤ 20 * 20 := Nat.mul_le_mul hW hH
  have HEQ : Hid (∀ (a : Option Addr) (ca : Nat) (b : Option Addr) (cb : Nat) (w : World), Ints w a (upto (ptF Wd (colF k D cs Wd ps)) (Wd * Hi)) → Ints w b (upto (ptF Wd (colF k2 D2 cs2 Wd ps2)) (Wd * Hi)) → Calls Try.prog 42 #[.slice a (Wd * Hi) ca, .slice b (Wd * Hi) cb] w fun e w' => e = .returned (.bool (decide (cols k D cs ps = cols k2 D2 cs2 ps2))) ∧ ∃ q, w' = w.drewN q) := fun a ca b cb w h1 h2 => by
    have := equal_any a (Wd * Hi) ca _ b (Wd * Hi) cb _ w h1 h2 (upto_length _ _) (upto_length _ _) (by omega) (by omega)
    rw [cols_upto k D cs ps Wd Hi (by omega), cols_upto k2 D2 cs2 ps2 Wd Hi (by omega)] at this
    exact this
  clear hOA hOB ok ok2 hc hcn hp hpn hc2 hcn2 hp2 hpn2 hm hm2 hmul
  go_enter Try.func14, Try.ntmps14
  go_wp2_with fail
  refine (HOA.out _ hB0).mono ?_
  rintro e w1 ⟨rfl, b1⟩
  have A1 : Hid (Bx w1 w.heap.size (.int .i64 k) (.int .i64 (D : Int)) (.int .i64 (Wd : Int)) (.int .i64 (Hi : Int)) (.slice ca cn cc) (.slice pa pn pc)) := A0.out.kept b1
  have B1 : Hid (Bx w1 (w.heap.size + 1) (.int .i64 k2) (.int .i64 (D2 : Int)) (.int .i64 (Wd : Int)) (.int .i64 (Hi : Int)) (.slice ca2 cn2 cc2) (.slice pa2 pn2 pc2)) := B0.out.kept b1
  have bel1 : Below w.heap.size w w1 := hB0.trans (b1.mono hB0.size)
  clear b1 hB0 A0 B0 HOA
  obtain ⟨_, p0, p1, p2, p3, p4, p5⟩ := B1.out
  go_wp2_with fail
  refine (HOB.out _ bel1).mono ?_
  rintro e w2 ⟨rfl, b2⟩
  have A2 : Hid (Bx w2 w.heap.size (.int .i64 k) (.int .i64 (D : Int)) (.int .i64 (Wd : Int)) (.int .i64 (Hi : Int)) (.slice ca cn cc) (.slice pa pn pc)) := A1.out.kept b2
  have B2 : Hid (Bx w2 (w.heap.size + 1) (.int .i64 k2) (.int .i64 (D2 : Int)) (.int .i64 (Wd : Int)) (.int .i64 (Hi : Int)) (.slice ca2 cn2 cc2) (.slice pa2 pn2 pc2)) := B1.out.kept b2
  have bel2 : Below w.heap.size w w2 := bel1.trans (b2.mono bel1.size)
  clear b2 bel1 A1 B1 HOB p0 p1 p2 p3 p4 p5
  obtain ⟨_, a0, a1, a2, a3, a4, a5⟩ := A2.out
  obtain ⟨_, p0, p1, p2, p3, p4, p5⟩ := B2.out
  go_wp2_with fail
  go_region_held3 (fun w' => w'.cell? ⟨w.heap.size, 0, none⟩ = some (.int .i64 k) ∧ w'.cell? ⟨w.heap.size, 1, none⟩ = some (.int .i64 (D : Int)) ∧ w'.cell? ⟨w.heap.size, 2, none⟩ = some (.int .i64 (Wd : Int)) ∧ w'.cell? ⟨w.heap.size, 3, none⟩ = some (.int .i64 (Hi : Int)) ∧ w'.cell? ⟨w.heap.size, 4, none⟩ = some (.slice ca cn cc) ∧ w'.cell? ⟨w.heap.size, 5, none⟩ = some (.slice pa pn pc) ∧ w'.cell? ⟨w.heap.size + 1, 0, none⟩ = some (.int .i64 k2) ∧ w'.cell? ⟨w.heap.size + 1, 1, none⟩ = some (.int .i64 (D2 : Int)) ∧ w'.cell? ⟨w.heap.size + 1, 2, none⟩ = some (.int .i64 (Wd : Int)) ∧ w'.cell? ⟨w.heap.size + 1, 3, none⟩ = some (.int .i64 (Hi : Int)) ∧ w'.cell? ⟨w.heap.size + 1, 4, none⟩ = some (.slice ca2 cn2 cc2) ∧ w'.cell? ⟨w.heap.size + 1, 5, none⟩ = some (.slice pa2 pn2 pc2)) (go_keep) (first | (go_at_call_of 44 (Value.slice pa pn pc); refine (HCA.out _ bel2.drew).mono ?_; rintro e w3 ⟨⟨V3, fs3, rs3, fa3, ra3, rfl, S3⟩, b3⟩; have b3' : Below w2.heap.size w2 w3 := box_drew b3; have bel3 : Below w.heap.size w w3 := bel2.trans (b3'.mono bel2.size); have A3 : Hid (Bx w3 w.heap.size (.int .i64 k) (.int .i64 (D : Int)) (.int .i64 (Wd : Int)) (.int .i64 (Hi : Int)) (.slice ca cn cc) (.slice pa pn pc)) := A2.out.kept b3'; have B3 : Hid (Bx w3 (w.heap.size + 1) (.int .i64 k2) (.int .i64 (D2 : Int)) (.int .i64 (Wd : Int)) (.int .i64 (Hi : Int)) (.slice ca2 cn2 cc2) (.slice pa2 pn2 pc2)) := B2.out.kept b3'; obtain ⟨_, m0, m1, m2, m3, m4, m5⟩ := A3.out; obtain ⟨_, n0, n1, n2, n3, n4, n5⟩ := B3.out; have G3 : Hid (Calls Try.prog 43 #[.func (.func 56) #[] #[.pointer (some ⟨w3.heap.size, 0, none⟩)]] (w3.alloc (.cells #[.iface 56 V3] 54)) fun e W' => (∃ y cy, e = .returned (.slice y (Wd * Hi) cy) ∧ Ints W' y (upto (ptF Wd (colF k D cs Wd ps)) (Wd * Hi))) ∧ Below w3.heap.size w3 W') := gathered 56 V3 fs3 rs3 fa3 ra3 Wd Hi _ hW hH w3 S3; clear S3) | (go_at_call_of 29 V3; refine (pointsOf_any _ V3 _).mono ?_; rintro e w4 ⟨rfl, hw4⟩; subst hw4) | (go_at_call_of 43 (Value.pointer (some ⟨w3.heap.size, 0, none⟩)); refine G3.out.mono ?_; rintro e w5 ⟨⟨y5, cy5, rfl, I5⟩, b5⟩; have bel5 : Below w.heap.size w w5 := bel3.trans (b5.mono bel3.size); have HI5 : Hid (Ints w5 y5 (upto (ptF Wd (colF k D cs Wd ps)) (Wd * Hi))) := I5; clear m0 m1 m2 m3 m4 m5 n0 n1 n2 n3 n4 n5 I5; have A5 : Hid (Bx w5 w.heap.size (.int .i64 k) (.int .i64 (D : Int)) (.int .i64 (Wd : Int)) (.int .i64 (Hi : Int)) (.slice ca cn cc) (.slice pa pn pc)) := A3.out.kept b5; have B5 : Hid (Bx w5 (w.heap.size + 1) (.int .i64 k2) (.int .i64 (D2 : Int)) (.int .i64 (Wd : Int)) (.int .i64 (Hi : Int)) (.slice ca2 cn2 cc2) (.slice pa2 pn2 pc2)) := B3.out.kept b5; obtain ⟨_, m0, m1, m2, m3, m4, m5⟩ := A5.out; obtain ⟨_, n0, n1, n2, n3, n4, n5⟩ := B5.out) | (go_at_call_of 44 (Value.slice pa2 pn2 pc2); refine (HCB.out _ bel5).mono ?_; rintro e w6 ⟨⟨V6, fs6, rs6, fa6, ra6, rfl, S6⟩, b6⟩; have bel6 : Below w.heap.size w w6 := bel5.trans (b6.mono bel5.size); clear m0 m1 m2 m3 m4 m5 n0 n1 n2 n3 n4 n5; have A6 : Hid (Bx w6 w.heap.size (.int .i64 k) (.int .i64 (D : Int)) (.int .i64 (Wd : Int)) (.int .i64 (Hi : Int)) (.slice ca cn cc) (.slice pa pn pc)) := A5.out.kept b6; have B6 : Hid (Bx w6 (w.heap.size + 1) (.int .i64 k2) (.int .i64 (D2 : Int)) (.int .i64 (Wd : Int)) (.int .i64 (Hi : Int)) (.slice ca2 cn2 cc2) (.slice pa2 pn2 pc2)) := B5.out.kept b6; obtain ⟨_, m0, m1, m2, m3, m4, m5⟩ := A6.out; obtain ⟨_, n0, n1, n2, n3, n4, n5⟩ := B6.out; have G6 : Hid (Calls Try.prog 43 #[.func (.func 56) #[] #[.pointer (some ⟨w6.heap.size, 0, none⟩)]] (w6.alloc (.cells #[.iface 56 V6] 54)) fun e W' => (∃ y cy, e = .returned (.slice y (Wd * Hi) cy) ∧ Ints W' y (upto (ptF Wd (colF k2 D2 cs2 Wd ps2)) (Wd * Hi))) ∧ Below w6.heap.size w6 W') := gathered 56 V6 fs6 rs6 fa6 ra6 Wd Hi _ hW hH w6 S6; have HI6 : Hid (Ints w6 y5 (upto (ptF Wd (colF k D cs Wd ps)) (Wd * Hi))) := HI5.out.kept b6; clear S6) | (go_at_call_of 29 V6; refine (pointsOf_any _ V6 _).mono ?_; rintro e w7 ⟨rfl, hw7⟩; subst hw7) | (go_at_call_of 43 (Value.pointer (some ⟨w6.heap.size, 0, none⟩)); refine G6.out.mono ?_; rintro e w8 ⟨⟨y8, cy8, rfl, I8⟩, b8⟩; have bel8 : Below w.heap.size w w8 := bel6.trans (b8.mono bel6.size); have HI8 : Hid (Ints w8 y5 (upto (ptF Wd (colF k D cs Wd ps)) (Wd * Hi)) ∧ Ints w8 y8 (upto (ptF Wd (colF k2 D2 cs2 Wd ps2)) (Wd * Hi))) := ⟨HI6.out.kept b8, I8⟩; clear m0 m1 m2 m3 m4 m5 n0 n1 n2 n3 n4 n5 I8; have A8 : Hid (Bx w8 w.heap.size (.int .i64 k) (.int .i64 (D : Int)) (.int .i64 (Wd : Int)) (.int .i64 (Hi : Int)) (.slice ca cn cc) (.slice pa pn pc)) := A6.out.kept b8; have B8 : Hid (Bx w8 (w.heap.size + 1) (.int .i64 k2) (.int .i64 (D2 : Int)) (.int .i64 (Wd : Int)) (.int .i64 (Hi : Int)) (.slice ca2 cn2 cc2) (.slice pa2 pn2 pc2)) := B6.out.kept b8; obtain ⟨_, m0, m1, m2, m3, m4, m5⟩ := A8.out; obtain ⟨_, n0, n1, n2, n3, n4, n5⟩ := B8.out) | (go_at_call 42; refine (HEQ.out y5 cy5 y8 cy8 w8 HI8.out.1 HI8.out.2).mono ?_; rintro e w9 ⟨rfl, q9, hw9⟩; have bel9 : Below w.heap.size w w9 := (by rw [hw9]; exact below_drewN bel8 _); have b9 : Below w8.heap.size w8 w9 := (by rw [hw9]; exact below_drewN (Below.refl _ _) _); clear hw9 m0 m1 m2 m3 m4 m5 n0 n1 n2 n3 n4 n5; have A9 : Hid (Bx w9 w.heap.size (.int .i64 k) (.int .i64 (D : Int)) (.int .i64 (Wd : Int)) (.int .i64 (Hi : Int)) (.slice ca cn cc) (.slice pa pn pc)) := A8.out.kept b9; have B9 : Hid (Bx w9 (w.heap.size + 1) (.int .i64 k2) (.int .i64 (D2 : Int)) (.int .i64 (Wd : Int)) (.int .i64 (Hi : Int)) (.slice ca2 cn2 cc2) (.slice pa2 pn2 pc2)) := B8.out.kept b9; obtain ⟨_, m0, m1, m2, m3, m4, m5⟩ := A9.out; obtain ⟨_, n0, n1, n2, n3, n4, n5⟩ := B9.out))
  all_goals
    clear m0 m1 m2 m3 m4 m5 n0 n1 n2 n3 n4 n5 a0 a1 a2 a3 a4 a5 p0 p1 p2 p3 p4 p5 HCA HCB HEQ
    go_wp2_with fail
    go_ret
    exact ⟨rfl, bel9⟩
end Go.Proofs.Ytjiogneidioknaa

/- ImageLike of the specification. -/
namespace Go.Proofs.Ytjiogneidioknaa
open Go.RowKit

set_option maxHeartbeats 1000000 in
set_option maxRecDepth 20000 in
theorem spec_like_bad1 (k d wd hi : Int) (ca : Option Addr) (cn cc : Nat) (pa : Option Addr) (pn pc : Nat) (k2 d2 wd2 hi2 : Int) (ca2 : Option Addr) (cn2 cc2 : Nat) (pa2 : Option Addr) (pn2 pc2 : Nat) (w : World) (hOA : (∀ w', Below w.heap.size w w' → Calls Try.prog 17 #[.agg #[.int .i64 k, .int .i64 d, .int .i64 wd, .int .i64 hi, .slice ca cn cc, .slice pa pn pc]] w' fun e w'' => e = .returned (.bool false) ∧ Below w'.heap.size w' w'')) :
    Calls Try.prog 15 #[.agg #[.int .i64 k, .int .i64 d, .int .i64 wd, .int .i64 hi, .slice ca cn cc, .slice pa pn pc], .agg #[.int .i64 k2, .int .i64 d2, .int .i64 wd2, .int .i64 hi2, .slice ca2 cn2 cc2, .slice pa2 pn2 pc2]] w fun e w' => e = .returned (.bool false) ∧ Below w.heap.size w w' := by
  have hB0 : Below w.heap.size w ((w.alloc (.cells #[.int .i64 k, .int .i64 d, .int .i64 wd, .int .i64 hi, .slice ca cn cc, .slice pa pn pc] 26)).alloc (.cells #[.int .i64 k2, .int .i64 d2, .int .i64 wd2, .int .i64 hi2, .slice ca2 cn2 cc2, .slice pa2 pn2 pc2] 26)) := ((Below.refl _ _).alloc (Nat.le_refl _) _).alloc (by simp) _
  have A0 : Hid (Bx ((w.alloc (.cells #[.int .i64 k, .int .i64 d, .int .i64 wd, .int .i64 hi, .slice ca cn cc, .slice pa pn pc] 26)).alloc (.cells #[.int .i64 k2, .int .i64 d2, .int .i64 wd2, .int .i64 hi2, .slice ca2 cn2 cc2, .slice pa2 pn2 pc2] 26)) w.heap.size (.int .i64 k) (.int .i64 d) (.int .i64 wd) (.int .i64 hi) (.slice ca cn cc) (.slice pa pn pc)) := (bx_new w _ _ _ _ _ _ 26).kept ((Below.refl _ _).alloc (Nat.le_refl _) _)
  have B0 : Hid (Bx ((w.alloc (.cells #[.int .i64 k, .int .i64 d, .int .i64 wd, .int .i64 hi, .slice ca cn cc, .slice pa pn pc] 26)).alloc (.cells #[.int .i64 k2, .int .i64 d2, .int .i64 wd2, .int .i64 hi2, .slice ca2 cn2 cc2, .slice pa2 pn2 pc2] 26)) (w.heap.size + 1) (.int .i64 k2) (.int .i64 d2) (.int .i64 wd2) (.int .i64 hi2) (.slice ca2 cn2 cc2) (.slice pa2 pn2 pc2)) := by
    have := bx_new (w.alloc (.cells #[.int .i64 k, .int .i64 d, .int .i64 wd, .int .i64 hi, .slice ca cn cc, .slice pa pn pc] 26)) (.int .i64 k2) (.int .i64 d2) (.int .i64 wd2) (.int .i64 hi2) (.slice ca2 cn2 cc2) (.slice pa2 pn2 pc2) 26
    rw [World.size_alloc] at this; exact this
  have HOA : Hid (∀ w', Below w.heap.size w w' → Calls Try.prog 17 #[.agg #[.int .i64 k, .int .i64 d, .int .i64 wd, .int .i64 hi, .slice ca cn cc, .slice pa pn pc]] w' fun e w'' => e = .returned (.bool false) ∧ Below w'.heap.size w' w'') := hOA
  clear hOA
  go_enter Try.func15, Try.ntmps15
  go_wp2_with fail
  refine (HOA.out _ hB0).mono ?_
  rintro e w1 ⟨rfl, b1⟩
  have A1 : Hid (Bx w1 w.heap.size (.int .i64 k) (.int .i64 d) (.int .i64 wd) (.int .i64 hi) (.slice ca cn cc) (.slice pa pn pc)) := A0.out.kept b1
  have B1 : Hid (Bx w1 (w.heap.size + 1) (.int .i64 k2) (.int .i64 d2) (.int .i64 wd2) (.int .i64 hi2) (.slice ca2 cn2 cc2) (.slice pa2 pn2 pc2)) := B0.out.kept b1
  have bel1 : Below w.heap.size w w1 := hB0.trans (b1.mono hB0.size)
  clear b1 hB0 A0 B0 HOA
  clear A1 B1
  go_wp2_with fail
  go_ret
  exact ⟨rfl, bel1⟩

set_option maxHeartbeats 1000000 in
set_option maxRecDepth 20000 in
theorem spec_like_bad2 (k d wd hi : Int) (ca : Option Addr) (cn cc : Nat) (pa : Option Addr) (pn pc : Nat) (k2 d2 wd2 hi2 : Int) (ca2 : Option Addr) (cn2 cc2 : Nat) (pa2 : Option Addr) (pn2 pc2 : Nat) (w : World) (hOA : (∀ w', Below w.heap.size w w' → Calls Try.prog 17 #[.agg #[.int .i64 k, .int .i64 d, .int .i64 wd, .int .i64 hi, .slice ca cn cc, .slice pa pn pc]] w' fun e w'' => e = .returned (.bool true) ∧ Below w'.heap.size w' w'')) (hOB : (∀ w', Below w.heap.size w w' → Calls Try.prog 17 #[.agg #[.int .i64 k2, .int .i64 d2, .int .i64 wd2, .int .i64 hi2, .slice ca2 cn2 cc2, .slice pa2 pn2 pc2]] w' fun e w'' => e = .returned (.bool false) ∧ Below w'.heap.size w' w'')) :
    Calls Try.prog 15 #[.agg #[.int .i64 k, .int .i64 d, .int .i64 wd, .int .i64 hi, .slice ca cn cc, .slice pa pn pc], .agg #[.int .i64 k2, .int .i64 d2, .int .i64 wd2, .int .i64 hi2, .slice ca2 cn2 cc2, .slice pa2 pn2 pc2]] w fun e w' => e = .returned (.bool false) ∧ Below w.heap.size w w' := by
  have hB0 : Below w.heap.size w ((w.alloc (.cells #[.int .i64 k, .int .i64 d, .int .i64 wd, .int .i64 hi, .slice ca cn cc, .slice pa pn pc] 26)).alloc (.cells #[.int .i64 k2, .int .i64 d2, .int .i64 wd2, .int .i64 hi2, .slice ca2 cn2 cc2, .slice pa2 pn2 pc2] 26)) := ((Below.refl _ _).alloc (Nat.le_refl _) _).alloc (by simp) _
  have A0 : Hid (Bx ((w.alloc (.cells #[.int .i64 k, .int .i64 d, .int .i64 wd, .int .i64 hi, .slice ca cn cc, .slice pa pn pc] 26)).alloc (.cells #[.int .i64 k2, .int .i64 d2, .int .i64 wd2, .int .i64 hi2, .slice ca2 cn2 cc2, .slice pa2 pn2 pc2] 26)) w.heap.size (.int .i64 k) (.int .i64 d) (.int .i64 wd) (.int .i64 hi) (.slice ca cn cc) (.slice pa pn pc)) := (bx_new w _ _ _ _ _ _ 26).kept ((Below.refl _ _).alloc (Nat.le_refl _) _)
  have B0 : Hid (Bx ((w.alloc (.cells #[.int .i64 k, .int .i64 d, .int .i64 wd, .int .i64 hi, .slice ca cn cc, .slice pa pn pc] 26)).alloc (.cells #[.int .i64 k2, .int .i64 d2, .int .i64 wd2, .int .i64 hi2, .slice ca2 cn2 cc2, .slice pa2 pn2 pc2] 26)) (w.heap.size + 1) (.int .i64 k2) (.int .i64 d2) (.int .i64 wd2) (.int .i64 hi2) (.slice ca2 cn2 cc2) (.slice pa2 pn2 pc2)) := by
    have := bx_new (w.alloc (.cells #[.int .i64 k, .int .i64 d, .int .i64 wd, .int .i64 hi, .slice ca cn cc, .slice pa pn pc] 26)) (.int .i64 k2) (.int .i64 d2) (.int .i64 wd2) (.int .i64 hi2) (.slice ca2 cn2 cc2) (.slice pa2 pn2 pc2) 26
    rw [World.size_alloc] at this; exact this
  have HOA : Hid (∀ w', Below w.heap.size w w' → Calls Try.prog 17 #[.agg #[.int .i64 k, .int .i64 d, .int .i64 wd, .int .i64 hi, .slice ca cn cc, .slice pa pn pc]] w' fun e w'' => e = .returned (.bool true) ∧ Below w'.heap.size w' w'') := hOA
  have HOB : Hid (∀ w', Below w.heap.size w w' → Calls Try.prog 17 #[.agg #[.int .i64 k2, .int .i64 d2, .int .i64 wd2, .int .i64 hi2, .slice ca2 cn2 cc2, .slice pa2 pn2 pc2]] w' fun e w'' => e = .returned (.bool false) ∧ Below w'.heap.size w' w'') := hOB
  clear hOA hOB
  go_enter Try.func15, Try.ntmps15
  go_wp2_with fail
  refine (HOA.out _ hB0).mono ?_
  rintro e w1 ⟨rfl, b1⟩
  have A1 : Hid (Bx w1 w.heap.size (.int .i64 k) (.int .i64 d) (.int .i64 wd) (.int .i64 hi) (.slice ca cn cc) (.slice pa pn pc)) := A0.out.kept b1
  have B1 : Hid (Bx w1 (w.heap.size + 1) (.int .i64 k2) (.int .i64 d2) (.int .i64 wd2) (.int .i64 hi2) (.slice ca2 cn2 cc2) (.slice pa2 pn2 pc2)) := B0.out.kept b1
  have bel1 : Below w.heap.size w w1 := hB0.trans (b1.mono hB0.size)
  clear b1 hB0 A0 B0 HOA
  obtain ⟨_, p0, p1, p2, p3, p4, p5⟩ := B1.out
  go_wp2_with fail
  refine (HOB.out _ bel1).mono ?_
  rintro e w2 ⟨rfl, b2⟩
  have A2 : Hid (Bx w2 w.heap.size (.int .i64 k) (.int .i64 d) (.int .i64 wd) (.int .i64 hi) (.slice ca cn cc) (.slice pa pn pc)) := A1.out.kept b2
  have B2 : Hid (Bx w2 (w.heap.size + 1) (.int .i64 k2) (.int .i64 d2) (.int .i64 wd2) (.int .i64 hi2) (.slice ca2 cn2 cc2) (.slice pa2 pn2 pc2)) := B1.out.kept b2
  have bel2 : Below w.heap.size w w2 := bel1.trans (b2.mono bel1.size)
  clear b2 bel1 A1 B1 HOB p0 p1 p2 p3 p4 p5
  obtain ⟨_, a0, a1, a2, a3, a4, a5⟩ := A2.out
  obtain ⟨_, p0, p1, p2, p3, p4, p5⟩ := B2.out
  clear A2 B2
  go_wp2_with fail
  go_ret
  exact ⟨rfl, bel2⟩

set_option maxHeartbeats 1000000 in
set_option maxRecDepth 20000 in
theorem spec_like_wide (k d wd hi : Int) (ca : Option Addr) (cn cc : Nat) (pa : Option Addr) (pn pc : Nat) (k2 d2 wd2 hi2 : Int) (ca2 : Option Addr) (cn2 cc2 : Nat) (pa2 : Option Addr) (pn2 pc2 : Nat) (w : World) (hno : ¬ wd = wd2) (hOA : (∀ w', Below w.heap.size w w' → Calls Try.prog 17 #[.agg #[.int .i64 k, .int .i64 d, .int .i64 wd, .int .i64 hi, .slice ca cn cc, .slice pa pn pc]] w' fun e w'' => e = .returned (.bool true) ∧ Below w'.heap.size w' w'')) (hOB : (∀ w', Below w.heap.size w w' → Calls Try.prog 17 #[.agg #[.int .i64 k2, .int .i64 d2, .int .i64 wd2, .int .i64 hi2, .slice ca2 cn2 cc2, .slice pa2 pn2 pc2]] w' fun e w'' => e = .returned (.bool true) ∧ Below w'.heap.size w' w'')) :
    Calls Try.prog 15 #[.agg #[.int .i64 k, .int .i64 d, .int .i64 wd, .int .i64 hi, .slice ca cn cc, .slice pa pn pc], .agg #[.int .i64 k2, .int .i64 d2, .int .i64 wd2, .int .i64 hi2, .slice ca2 cn2 cc2, .slice pa2 pn2 pc2]] w fun e w' => e = .returned (.bool false) ∧ Below w.heap.size w w' := by
  have hB0 : Below w.heap.size w ((w.alloc (.cells #[.int .i64 k, .int .i64 d, .int .i64 wd, .int .i64 hi, .slice ca cn cc, .slice pa pn pc] 26)).alloc (.cells #[.int .i64 k2, .int .i64 d2, .int .i64 wd2, .int .i64 hi2, .slice ca2 cn2 cc2, .slice pa2 pn2 pc2] 26)) := ((Below.refl _ _).alloc (Nat.le_refl _) _).alloc (by simp) _
  have A0 : Hid (Bx ((w.alloc (.cells #[.int .i64 k, .int .i64 d, .int .i64 wd, .int .i64 hi, .slice ca cn cc, .slice pa pn pc] 26)).alloc (.cells #[.int .i64 k2, .int .i64 d2, .int .i64 wd2, .int .i64 hi2, .slice ca2 cn2 cc2, .slice pa2 pn2 pc2] 26)) w.heap.size (.int .i64 k) (.int .i64 d) (.int .i64 wd) (.int .i64 hi) (.slice ca cn cc) (.slice pa pn pc)) := (bx_new w _ _ _ _ _ _ 26).kept ((Below.refl _ _).alloc (Nat.le_refl _) _)
  have B0 : Hid (Bx ((w.alloc (.cells #[.int .i64 k, .int .i64 d, .int .i64 wd, .int .i64 hi, .slice ca cn cc, .slice pa pn pc] 26)).alloc (.cells #[.int .i64 k2, .int .i64 d2, .int .i64 wd2, .int .i64 hi2, .slice ca2 cn2 cc2, .slice pa2 pn2 pc2] 26)) (w.heap.size + 1) (.int .i64 k2) (.int .i64 d2) (.int .i64 wd2) (.int .i64 hi2) (.slice ca2 cn2 cc2) (.slice pa2 pn2 pc2)) := by
    have := bx_new (w.alloc (.cells #[.int .i64 k, .int .i64 d, .int .i64 wd, .int .i64 hi, .slice ca cn cc, .slice pa pn pc] 26)) (.int .i64 k2) (.int .i64 d2) (.int .i64 wd2) (.int .i64 hi2) (.slice ca2 cn2 cc2) (.slice pa2 pn2 pc2) 26
    rw [World.size_alloc] at this; exact this
  have HOA : Hid (∀ w', Below w.heap.size w w' → Calls Try.prog 17 #[.agg #[.int .i64 k, .int .i64 d, .int .i64 wd, .int .i64 hi, .slice ca cn cc, .slice pa pn pc]] w' fun e w'' => e = .returned (.bool true) ∧ Below w'.heap.size w' w'') := hOA
  have HOB : Hid (∀ w', Below w.heap.size w w' → Calls Try.prog 17 #[.agg #[.int .i64 k2, .int .i64 d2, .int .i64 wd2, .int .i64 hi2, .slice ca2 cn2 cc2, .slice pa2 pn2 pc2]] w' fun e w'' => e = .returned (.bool true) ∧ Below w'.heap.size w' w'') := hOB
  clear hOA hOB
  have hbne : (wd == wd2) = false := by rw [beq_eq_false_iff_ne]; exact hno
  go_enter Try.func15, Try.ntmps15
  go_wp2_with fail
  refine (HOA.out _ hB0).mono ?_
  rintro e w1 ⟨rfl, b1⟩
  have A1 : Hid (Bx w1 w.heap.size (.int .i64 k) (.int .i64 d) (.int .i64 wd) (.int .i64 hi) (.slice ca cn cc) (.slice pa pn pc)) := A0.out.kept b1
  have B1 : Hid (Bx w1 (w.heap.size + 1) (.int .i64 k2) (.int .i64 d2) (.int .i64 wd2) (.int .i64 hi2) (.slice ca2 cn2 cc2) (.slice pa2 pn2 pc2)) := B0.out.kept b1
  have bel1 : Below w.heap.size w w1 := hB0.trans (b1.mono hB0.size)
  clear b1 hB0 A0 B0 HOA
  obtain ⟨_, p0, p1, p2, p3, p4, p5⟩ := B1.out
  go_wp2_with fail
  refine (HOB.out _ bel1).mono ?_
  rintro e w2 ⟨rfl, b2⟩
  have A2 : Hid (Bx w2 w.heap.size (.int .i64 k) (.int .i64 d) (.int .i64 wd) (.int .i64 hi) (.slice ca cn cc) (.slice pa pn pc)) := A1.out.kept b2
  have B2 : Hid (Bx w2 (w.heap.size + 1) (.int .i64 k2) (.int .i64 d2) (.int .i64 wd2) (.int .i64 hi2) (.slice ca2 cn2 cc2) (.slice pa2 pn2 pc2)) := B1.out.kept b2
  have bel2 : Below w.heap.size w w2 := bel1.trans (b2.mono bel1.size)
  clear b2 bel1 A1 B1 HOB p0 p1 p2 p3 p4 p5
  obtain ⟨_, a0, a1, a2, a3, a4, a5⟩ := A2.out
  obtain ⟨_, p0, p1, p2, p3, p4, p5⟩ := B2.out
  clear A2 B2
  go_wp2_with fail
  go_ret
  exact ⟨rfl, bel2⟩

set_option maxHeartbeats 1000000 in
set_option maxRecDepth 20000 in
theorem spec_like_high (k d wd hi : Int) (ca : Option Addr) (cn cc : Nat) (pa : Option Addr) (pn pc : Nat) (k2 d2 hi2 : Int) (ca2 : Option Addr) (cn2 cc2 : Nat) (pa2 : Option Addr) (pn2 pc2 : Nat) (w : World) (hno : ¬ hi = hi2) (hOA : (∀ w', Below w.heap.size w w' → Calls Try.prog 17 #[.agg #[.int .i64 k, .int .i64 d, .int .i64 wd, .int .i64 hi, .slice ca cn cc, .slice pa pn pc]] w' fun e w'' => e = .returned (.bool true) ∧ Below w'.heap.size w' w'')) (hOB : (∀ w', Below w.heap.size w w' → Calls Try.prog 17 #[.agg #[.int .i64 k2, .int .i64 d2, .int .i64 wd, .int .i64 hi2, .slice ca2 cn2 cc2, .slice pa2 pn2 pc2]] w' fun e w'' => e = .returned (.bool true) ∧ Below w'.heap.size w' w'')) :
    Calls Try.prog 15 #[.agg #[.int .i64 k, .int .i64 d, .int .i64 wd, .int .i64 hi, .slice ca cn cc, .slice pa pn pc], .agg #[.int .i64 k2, .int .i64 d2, .int .i64 wd, .int .i64 hi2, .slice ca2 cn2 cc2, .slice pa2 pn2 pc2]] w fun e w' => e = .returned (.bool false) ∧ Below w.heap.size w w' := by
  have hB0 : Below w.heap.size w ((w.alloc (.cells #[.int .i64 k, .int .i64 d, .int .i64 wd, .int .i64 hi, .slice ca cn cc, .slice pa pn pc] 26)).alloc (.cells #[.int .i64 k2, .int .i64 d2, .int .i64 wd, .int .i64 hi2, .slice ca2 cn2 cc2, .slice pa2 pn2 pc2] 26)) := ((Below.refl _ _).alloc (Nat.le_refl _) _).alloc (by simp) _
  have A0 : Hid (Bx ((w.alloc (.cells #[.int .i64 k, .int .i64 d, .int .i64 wd, .int .i64 hi, .slice ca cn cc, .slice pa pn pc] 26)).alloc (.cells #[.int .i64 k2, .int .i64 d2, .int .i64 wd, .int .i64 hi2, .slice ca2 cn2 cc2, .slice pa2 pn2 pc2] 26)) w.heap.size (.int .i64 k) (.int .i64 d) (.int .i64 wd) (.int .i64 hi) (.slice ca cn cc) (.slice pa pn pc)) := (bx_new w _ _ _ _ _ _ 26).kept ((Below.refl _ _).alloc (Nat.le_refl _) _)
  have B0 : Hid (Bx ((w.alloc (.cells #[.int .i64 k, .int .i64 d, .int .i64 wd, .int .i64 hi, .slice ca cn cc, .slice pa pn pc] 26)).alloc (.cells #[.int .i64 k2, .int .i64 d2, .int .i64 wd, .int .i64 hi2, .slice ca2 cn2 cc2, .slice pa2 pn2 pc2] 26)) (w.heap.size + 1) (.int .i64 k2) (.int .i64 d2) (.int .i64 wd) (.int .i64 hi2) (.slice ca2 cn2 cc2) (.slice pa2 pn2 pc2)) := by
    have := bx_new (w.alloc (.cells #[.int .i64 k, .int .i64 d, .int .i64 wd, .int .i64 hi, .slice ca cn cc, .slice pa pn pc] 26)) (.int .i64 k2) (.int .i64 d2) (.int .i64 wd) (.int .i64 hi2) (.slice ca2 cn2 cc2) (.slice pa2 pn2 pc2) 26
    rw [World.size_alloc] at this; exact this
  have HOA : Hid (∀ w', Below w.heap.size w w' → Calls Try.prog 17 #[.agg #[.int .i64 k, .int .i64 d, .int .i64 wd, .int .i64 hi, .slice ca cn cc, .slice pa pn pc]] w' fun e w'' => e = .returned (.bool true) ∧ Below w'.heap.size w' w'') := hOA
  have HOB : Hid (∀ w', Below w.heap.size w w' → Calls Try.prog 17 #[.agg #[.int .i64 k2, .int .i64 d2, .int .i64 wd, .int .i64 hi2, .slice ca2 cn2 cc2, .slice pa2 pn2 pc2]] w' fun e w'' => e = .returned (.bool true) ∧ Below w'.heap.size w' w'') := hOB
  clear hOA hOB
  have hbne : (hi == hi2) = false := by rw [beq_eq_false_iff_ne]; exact hno
  go_enter Try.func15, Try.ntmps15
  go_wp2_with fail
  refine (HOA.out _ hB0).mono ?_
  rintro e w1 ⟨rfl, b1⟩
  have A1 : Hid (Bx w1 w.heap.size (.int .i64 k) (.int .i64 d) (.int .i64 wd) (.int .i64 hi) (.slice ca cn cc) (.slice pa pn pc)) := A0.out.kept b1
  have B1 : Hid (Bx w1 (w.heap.size + 1) (.int .i64 k2) (.int .i64 d2) (.int .i64 wd) (.int .i64 hi2) (.slice ca2 cn2 cc2) (.slice pa2 pn2 pc2)) := B0.out.kept b1
  have bel1 : Below w.heap.size w w1 := hB0.trans (b1.mono hB0.size)
  clear b1 hB0 A0 B0 HOA
  obtain ⟨_, p0, p1, p2, p3, p4, p5⟩ := B1.out
  go_wp2_with fail
  refine (HOB.out _ bel1).mono ?_
  rintro e w2 ⟨rfl, b2⟩
  have A2 : Hid (Bx w2 w.heap.size (.int .i64 k) (.int .i64 d) (.int .i64 wd) (.int .i64 hi) (.slice ca cn cc) (.slice pa pn pc)) := A1.out.kept b2
  have B2 : Hid (Bx w2 (w.heap.size + 1) (.int .i64 k2) (.int .i64 d2) (.int .i64 wd) (.int .i64 hi2) (.slice ca2 cn2 cc2) (.slice pa2 pn2 pc2)) := B1.out.kept b2
  have bel2 : Below w.heap.size w w2 := bel1.trans (b2.mono bel1.size)
  clear b2 bel1 A1 B1 HOB p0 p1 p2 p3 p4 p5
  obtain ⟨_, a0, a1, a2, a3, a4, a5⟩ := A2.out
  obtain ⟨_, p0, p1, p2, p3, p4, p5⟩ := B2.out
  clear A2 B2
  go_wp2_with fail
  go_ret
  exact ⟨rfl, bel2⟩

set_option maxHeartbeats 8000000 in
set_option maxRecDepth 20000 in
theorem spec_like_yes (k : Int) (D Wd Hi : Nat) (ca : Option Addr) (cn cc : Nat) (pa : Option Addr) (pn pc : Nat) (k2 : Int) (D2 : Nat) (ca2 : Option Addr) (cn2 cc2 : Nat) (pa2 : Option Addr) (pn2 pc2 : Nat) (cs ps cs2 ps2 : List Int) (w : World) (ok : Im.Ok k (D : Int) (Wd : Int) (Hi : Int) cs ps) (ok2 : Im.Ok k2 (D2 : Int) (Wd : Int) (Hi : Int) cs2 ps2) (hc : Ints w ca cs) (hcn : cs.length = cn) (hp : Ints w pa ps) (hpn : ps.length = pn) (hc2 : Ints w ca2 cs2) (hcn2 : cs2.length = cn2) (hp2 : Ints w pa2 ps2) (hpn2 : ps2.length = pn2) (hW : Wd ≤ 20) (hH : Hi ≤ 20) (hm : pn = Wd * Hi) (hm2 : pn2 = Wd * Hi)
    (hOA : (∀ w', Below w.heap.size w w' → Calls Try.prog 17 #[.agg #[.int .i64 k, .int .i64 (D : Int), .int .i64 (Wd : Int), .int .i64 (Hi : Int), .slice ca cn cc, .slice pa pn pc]] w' fun e w'' => e = .returned (.bool true) ∧ Below w'.heap.size w' w'')) (hOB : (∀ w', Below w.heap.size w w' → Calls Try.prog 17 #[.agg #[.int .i64 k2, .int .i64 (D2 : Int), .int .i64 (Wd : Int), .int .i64 (Hi : Int), .slice ca2 cn2 cc2, .slice pa2 pn2 pc2]] w' fun e w'' => e = .returned (.bool true) ∧ Below w'.heap.size w' w'')) :
    Calls Try.prog 15 #[.agg #[.int .i64 k, .int .i64 (D : Int), .int .i64 (Wd : Int), .int .i64 (Hi : Int), .slice ca cn cc, .slice pa pn pc], .agg #[.int .i64 k2, .int .i64 (D2 : Int), .int .i64 (Wd : Int), .int .i64 (Hi : Int), .slice ca2 cn2 cc2, .slice pa2 pn2 pc2]] w fun e w' => e = .returned (.bool (decide (cols k D cs ps = cols k2 D2 cs2 ps2))) ∧ Below w.heap.size w w' := by
  have hB0 : Below w.heap.size w ((w.alloc (.cells #[.int .i64 k, .int .i64 (D : Int), .int .i64 (Wd : Int), .int .i64 (Hi : Int), .slice ca cn cc, .slice pa pn pc] 26)).alloc (.cells #[.int .i64 k2, .int .i64 (D2 : Int), .int .i64 (Wd : Int), .int .i64 (Hi : Int), .slice ca2 cn2 cc2, .slice pa2 pn2 pc2] 26)) := ((Below.refl _ _).alloc (Nat.le_refl _) _).alloc (by simp) _
  have A0 : Hid (Bx ((w.alloc (.cells #[.int .i64 k, .int .i64 (D : Int), .int .i64 (Wd : Int), .int .i64 (Hi : Int), .slice ca cn cc, .slice pa pn pc] 26)).alloc (.cells #[.int .i64 k2, .int .i64 (D2 : Int), .int .i64 (Wd : Int), .int .i64 (Hi : Int), .slice ca2 cn2 cc2, .slice pa2 pn2 pc2] 26)) w.heap.size (.int .i64 k) (.int .i64 (D : Int)) (.int .i64 (Wd : Int)) (.int .i64 (Hi : Int)) (.slice ca cn cc) (.slice pa pn pc)) := (bx_new w _ _ _ _ _ _ 26).kept ((Below.refl _ _).alloc (Nat.le_refl _) _)
  have B0 : Hid (Bx ((w.alloc (.cells #[.int .i64 k, .int .i64 (D : Int), .int .i64 (Wd : Int), .int .i64 (Hi : Int), .slice ca cn cc, .slice pa pn pc] 26)).alloc (.cells #[.int .i64 k2, .int .i64 (D2 : Int), .int .i64 (Wd : Int), .int .i64 (Hi : Int), .slice ca2 cn2 cc2, .slice pa2 pn2 pc2] 26)) (w.heap.size + 1) (.int .i64 k2) (.int .i64 (D2 : Int)) (.int .i64 (Wd : Int)) (.int .i64 (Hi : Int)) (.slice ca2 cn2 cc2) (.slice pa2 pn2 pc2)) := by
    have := bx_new (w.alloc (.cells #[.int .i64 k, .int .i64 (D : Int), .int .i64 (Wd : Int), .int .i64 (Hi : Int), .slice ca cn cc, .slice pa pn pc] 26)) (.int .i64 k2) (.int .i64 (D2 : Int)) (.int .i64 (Wd : Int)) (.int .i64 (Hi : Int)) (.slice ca2 cn2 cc2) (.slice pa2 pn2 pc2) 26
    rw [World.size_alloc] at this; exact this
  have HOA : Hid (∀ w', Below w.heap.size w w' → Calls Try.prog 17 #[.agg #[.int .i64 k, .int .i64 (D : Int), .int .i64 (Wd : Int), .int .i64 (Hi : Int), .slice ca cn cc, .slice pa pn pc]] w' fun e w'' => e = .returned (.bool true) ∧ Below w'.heap.size w' w'') := hOA
  have HOB : Hid (∀ w', Below w.heap.size w w' → Calls Try.prog 17 #[.agg #[.int .i64 k2, .int .i64 (D2 : Int), .int .i64 (Wd : Int), .int .i64 (Hi : Int), .slice ca2 cn2 cc2, .slice pa2 pn2 pc2]] w' fun e w'' => e = .returned (.bool true) ∧ Below w'.heap.size w' w'') := hOB
  have HLA : Hid (∀ (x : Nat) (w' : World), Below w.heap.size w w' → PtOk k D cs x → Calls Try.prog 45 #[.agg #[.int .i64 k, .int .i64 (D : Int), .int .i64 (Wd : Int), .int .i64 (Hi : Int), .slice ca cn cc, .slice pa pn pc], .int .i64 (x : Int)] w' fun e w'' => e = .returned (.int .i64 (colOf k D cs (x : Int))) ∧ Below w'.heap.size w' w'') := fun x w' b h => l8Color_any k D x (Wd : Int) (Hi : Int) ca cn cc pa pn pc cs w' (hc.kept b) hcn h
  have HLB : Hid (∀ (x : Nat) (w' : World), Below w.heap.size w w' → PtOk k2 D2 cs2 x → Calls Try.prog 45 #[.agg #[.int .i64 k2, .int .i64 (D2 : Int), .int .i64 (Wd : Int), .int .i64 (Hi : Int), .slice ca2 cn2 cc2, .slice pa2 pn2 pc2], .int .i64 (x : Int)] w' fun e w'' => e = .returned (.int .i64 (colOf k2 D2 cs2 (x : Int))) ∧ Below w'.heap.size w' w'') := fun x w' b h => l8Color_any k2 D2 x (Wd : Int) (Hi : Int) ca2 cn2 cc2 pa2 pn2 pc2 cs2 w' (hc2.kept b) hcn2 h
  have HP : Hid (∀ w', Below w.heap.size w w' → Ints w' pa ps ∧ Ints w' pa2 ps2) := fun w' b => ⟨hp.kept b, hp2.kept b⟩
  have HPO : Hid (∀ j, j < pn → (∃ p : Nat, ps.getD j 0 = (p : Int) ∧ PtOk k D cs p) ∧ (∃ q : Nat, ps2.getD j 0 = (q : Int) ∧ PtOk k2 D2 cs2 q)) := fun j hj => ⟨Im.pt_ok ok j (by omega), Im.pt_ok ok2 j (by omega)⟩
  have HN : Hid (ps.length = pn ∧ ps2.length = pn2 ∧ pn = pn2) := ⟨hpn, hpn2, by omega⟩
  have hmul : Wd * Hi ≤ 20 * 20 := Nat.mul_le_mul hW hH
  have hpb : pn ≤ 400 := by omega
  have hpb2 : pn2 ≤ 400 := by omega
  clear hOA hOB ok ok2 hc hcn hp hpn hc2 hcn2 hp2 hpn2 hm hm2 hmul
  go_enter Try.func15, Try.ntmps15
  go_wp2_with fail
  refine (HOA.out _ hB0).mono ?_
  rintro e w1 ⟨rfl, b1⟩
  have A1 : Hid (Bx w1 w.heap.size (.int .i64 k) (.int .i64 (D : Int)) (.int .i64 (Wd : Int)) (.int .i64 (Hi : Int)) (.slice ca cn cc) (.slice pa pn pc)) := A0.out.kept b1
  have B1 : Hid (Bx w1 (w.heap.size + 1) (.int .i64 k2) (.int .i64 (D2 : Int)) (.int .i64 (Wd : Int)) (.int .i64 (Hi : Int)) (.slice ca2 cn2 cc2) (.slice pa2 pn2 pc2)) := B0.out.kept b1
  have bel1 : Below w.heap.size w w1 := hB0.trans (b1.mono hB0.size)
  clear b1 hB0 A0 B0 HOA
  obtain ⟨_, p0, p1, p2, p3, p4, p5⟩ := B1.out
  go_wp2_with fail
  refine (HOB.out _ bel1).mono ?_
  rintro e w2 ⟨rfl, b2⟩
  have A2 : Hid (Bx w2 w.heap.size (.int .i64 k) (.int .i64 (D : Int)) (.int .i64 (Wd : Int)) (.int .i64 (Hi : Int)) (.slice ca cn cc) (.slice pa pn pc)) := A1.out.kept b2
  have B2 : Hid (Bx w2 (w.heap.size + 1) (.int .i64 k2) (.int .i64 (D2 : Int)) (.int .i64 (Wd : Int)) (.int .i64 (Hi : Int)) (.slice ca2 cn2 cc2) (.slice pa2 pn2 pc2)) := B1.out.kept b2
  have bel2 : Below w.heap.size w w2 := bel1.trans (b2.mono bel1.size)
  clear b2 bel1 A1 B1 HOB p0 p1 p2 p3 p4 p5
  obtain ⟨_, a0, a1, a2, a3, a4, a5⟩ := A2.out
  obtain ⟨_, p0, p1, p2, p3, p4, p5⟩ := B2.out
  go_wp2_with fail
  clear a0 a1 a2 a3 a4 a5 p0 p1 p2 p3 p4 p5
  go_loopw [5] (fun i wr => ∃ j : Nat, j ≤ pn ∧ i = .int .i64 j ∧ (∀ t, t < j → colOf k D cs (ps.getD t 0) = colOf k2 D2 cs2 (ps2.getD t 0)) ∧ Below w2.heap.size w2 wr) (fun i _ => pn - (intOf i).toNat)
  case atStart => exact ⟨0, Nat.zero_le _, rfl, fun t ht => absurd ht (by omega), Below.refl _ _⟩
  case round =>
    obtain ⟨j, hj, rfl, hall, hbel⟩ := hrel
    have HALL : Hid (∀ t, t < j → colOf k D cs (ps.getD t 0) = colOf k2 D2 cs2 (ps2.getD t 0)) := hall
    have Ar : Hid (Bx wr w.heap.size (.int .i64 k) (.int .i64 (D : Int)) (.int .i64 (Wd : Int)) (.int .i64 (Hi : Int)) (.slice ca cn cc) (.slice pa pn pc)) := A2.out.kept hbel
    have Br : Hid (Bx wr (w.heap.size + 1) (.int .i64 k2) (.int .i64 (D2 : Int)) (.int .i64 (Wd : Int)) (.int .i64 (Hi : Int)) (.slice ca2 cn2 cc2) (.slice pa2 pn2 pc2)) := B2.out.kept hbel
    have belr : Below w.heap.size w wr := bel2.trans (hbel.mono bel2.size)
    obtain ⟨_, a0, a1, a2, a3, a4, a5⟩ := Ar.out
    obtain ⟨_, p0, p1, p2, p3, p4, p5⟩ := Br.out
    clear hall
    by_cases hlt : j < pn
    · obtain ⟨⟨p, hp, hPO1⟩, ⟨q, hq, hPO2⟩⟩ := HPO.out j hlt
      have hP1 : Hid (PtOk k D cs p) := hPO1
      have hP2 : Hid (PtOk k2 D2 cs2 q) := hPO2
      clear hPO1 hPO2
      have hj1 : j < ps.length := by have := HN.out.1; omega
      have hj2 : j < ps2.length := by have := HN.out; omega
      obtain ⟨hI1, hI2⟩ := HP.out wr belr
      rcases hI1 with h | ⟨b, off, rfl, hbl, c1⟩
      · rw [h] at hj1; simp at hj1
      · rcases hI2 with h | ⟨b2, off2, rfl, hbl2, c2⟩
        · rw [h] at hj2; simp at hj2
        · have e1 : wr.cell? ⟨b, off + j, none⟩ = some (.int .i64 (p : Int)) := by
            rw [c1 j hj1, ← hp, List.getD_eq_getElem?_getD, List.getElem?_eq_getElem hj1]; rfl
          have e2 : wr.cell? ⟨b2, off2 + j, none⟩ = some (.int .i64 (q : Int)) := by
            rw [c2 j hj2, ← hq, List.getD_eq_getElem?_getD, List.getElem?_eq_getElem hj2]; rfl
          have hji : (j : Int) < (pn : Int) := by omega
          have hji2 : (j : Int) < (pn2 : Int) := by have := HN.out; omega
          have HCC : Hid (colOf k D cs (ps.getD j 0) = colOf k D cs (p : Int) ∧ colOf k2 D2 cs2 (ps2.getD j 0) = colOf k2 D2 cs2 (q : Int)) := ⟨by rw [hp], by rw [hq]⟩
          clear c1 c2 hp hq hj1 hj2
          obtain ⟨u, hu⟩ : ∃ u, u = colOf k D cs (p : Int) := ⟨_, rfl⟩
          obtain ⟨v, hv⟩ : ∃ v, v = colOf k2 D2 cs2 (q : Int) := ⟨_, rfl⟩
          rw [← hu, ← hv] at HCC
          have HLp : Hid (∀ w' : World, Below w.heap.size w w' → Calls Try.prog 45 #[.agg #[.int .i64 k, .int .i64 (D : Int), .int .i64 (Wd : Int), .int .i64 (Hi : Int), .slice ca cn cc, .slice (some ⟨b, off, none⟩) pn pc], .int .i64 (p : Int)] w' fun e w'' => e = .returned (.int .i64 u) ∧ Below w'.heap.size w' w'') := fun w' b => by rw [hu]; exact HLA.out p w' b hP1.out
          have HLq : Hid (∀ w' : World, Below w.heap.size w w' → Calls Try.prog 45 #[.agg #[.int .i64 k2, .int .i64 (D2 : Int), .int .i64 (Wd : Int), .int .i64 (Hi : Int), .slice ca2 cn2 cc2, .slice (some ⟨b2, off2, none⟩) pn2 pc2], .int .i64 (q : Int)] w' fun e w'' => e = .returned (.int .i64 v) ∧ Below w'.heap.size w' w'') := fun w' b => by rw [hv]; exact HLB.out q w' b hP2.out
          clear hu hv HLA HLB hP1 hP2
          by_cases huv : u = v
          · have HAL2 : Hid (∀ t, t < j + 1 → colOf k D cs (ps.getD t 0) = colOf k2 D2 cs2 (ps2.getD t 0)) := fun t ht => by
              by_cases e : t < j
              · exact HALL.out t e
              · have : t = j := by omega
                subst this
                rw [HCC.out.1, HCC.out.2, huv]
            clear HALL HCC
            subst huv
            go_wp2_with fail
            go_region_held3 (fun w' => w'.cell? ⟨w.heap.size, 0, none⟩ = some (.int .i64 k) ∧ w'.cell? ⟨w.heap.size, 1, none⟩ = some (.int .i64 (D : Int)) ∧ w'.cell? ⟨w.heap.size, 2, none⟩ = some (.int .i64 (Wd : Int)) ∧ w'.cell? ⟨w.heap.size, 3, none⟩ = some (.int .i64 (Hi : Int)) ∧ w'.cell? ⟨w.heap.size, 4, none⟩ = some (.slice ca cn cc) ∧ w'.cell? ⟨w.heap.size, 5, none⟩ = some (.slice (some ⟨b, off, none⟩) pn pc) ∧ w'.cell? ⟨w.heap.size + 1, 0, none⟩ = some (.int .i64 k2) ∧ w'.cell? ⟨w.heap.size + 1, 1, none⟩ = some (.int .i64 (D2 : Int)) ∧ w'.cell? ⟨w.heap.size + 1, 2, none⟩ = some (.int .i64 (Wd : Int)) ∧ w'.cell? ⟨w.heap.size + 1, 3, none⟩ = some (.int .i64 (Hi : Int)) ∧ w'.cell? ⟨w.heap.size + 1, 4, none⟩ = some (.slice ca2 cn2 cc2) ∧ w'.cell? ⟨w.heap.size + 1, 5, none⟩ = some (.slice (some ⟨b2, off2, none⟩) pn2 pc2) ∧ w'.cell? ⟨b, off + j, none⟩ = some (.int .i64 (p : Int)) ∧ w'.cell? ⟨b2, off2 + j, none⟩ = some (.int .i64 (q : Int))) (go_keep) (first | (go_at_call_of 45 (Value.slice (some ⟨b, off, none⟩) pn pc); refine (HLp.out wr.drew belr.drew).mono ?_; rintro e w5 ⟨rfl, b5⟩; have b5' : Below wr.heap.size wr w5 := box_drew b5; have bel5 : Below w.heap.size w w5 := belr.trans (b5'.mono belr.size); have r1 := (b5'.cell (p := ⟨b, off + j, none⟩) hbl).trans e1; have r2 := (b5'.cell (p := ⟨b2, off2 + j, none⟩) hbl2).trans e2; have A5 : Hid (Bx w5 w.heap.size (.int .i64 k) (.int .i64 (D : Int)) (.int .i64 (Wd : Int)) (.int .i64 (Hi : Int)) (.slice ca cn cc) (.slice (some ⟨b, off, none⟩) pn pc)) := Ar.out.kept b5'; have B5 : Hid (Bx w5 (w.heap.size + 1) (.int .i64 k2) (.int .i64 (D2 : Int)) (.int .i64 (Wd : Int)) (.int .i64 (Hi : Int)) (.slice ca2 cn2 cc2) (.slice (some ⟨b2, off2, none⟩) pn2 pc2)) := Br.out.kept b5'; obtain ⟨_, m0, m1, m2, m3, m4, m5⟩ := A5.out; obtain ⟨_, n0, n1, n2, n3, n4, n5⟩ := B5.out) | (go_at_call_of 45 (Value.slice (some ⟨b2, off2, none⟩) pn2 pc2); refine (HLq.out w5 bel5).mono ?_; rintro e w6 ⟨rfl, b6⟩; have bel6 : Below w2.heap.size w2 w6 := (hbel.trans (b5'.mono hbel.size)).trans (b6.mono (Nat.le_trans hbel.size b5'.size)); have s1 := (b6.cell (p := ⟨b, off + j, none⟩) (Nat.lt_of_lt_of_le hbl b5'.size)).trans r1; have s2 := (b6.cell (p := ⟨b2, off2 + j, none⟩) (Nat.lt_of_lt_of_le hbl2 b5'.size)).trans r2; clear m0 m1 m2 m3 m4 m5 n0 n1 n2 n3 n4 n5; have A6 : Hid (Bx w6 w.heap.size (.int .i64 k) (.int .i64 (D : Int)) (.int .i64 (Wd : Int)) (.int .i64 (Hi : Int)) (.slice ca cn cc) (.slice (some ⟨b, off, none⟩) pn pc)) := A5.out.kept b6; have B6 : Hid (Bx w6 (w.heap.size + 1) (.int .i64 k2) (.int .i64 (D2 : Int)) (.int .i64 (Wd : Int)) (.int .i64 (Hi : Int)) (.slice ca2 cn2 cc2) (.slice (some ⟨b2, off2, none⟩) pn2 pc2)) := B5.out.kept b6; obtain ⟨_, m0, m1, m2, m3, m4, m5⟩ := A6.out; obtain ⟨_, n0, n1, n2, n3, n4, n5⟩ := B6.out))
            all_goals
              clear m0 m1 m2 m3 m4 m5 n0 n1 n2 n3 n4 n5 a0 a1 a2 a3 a4 a5 p0 p1 p2 p3 p4 p5 e1 e2 r1 r2 s1 s2 hbel
              go_wp2_with fail
              go_roundw
              case rel => exact ⟨j + 1, by omega, by go_num, HAL2.out, bel6⟩
              case measure => simp [intOf]; omega
          · have HD : Hid (decide (cols k D cs ps = cols k2 D2 cs2 ps2) = false) := decide_eq_false (fun e => huv (by
              have h1 : (cols k D cs ps).getD j (colOf k D cs 0) = (cols k2 D2 cs2 ps2).getD j (colOf k D cs 0) := by rw [e]
              have hl1 := HN.out.1
              have hl2 := HN.out.2
              have f1 : (cols k D cs ps).getD j (colOf k D cs 0) = colOf k D cs (ps.getD j 0) := by
                simp [cols, show j < ps.length by omega]
              have f2 : (cols k2 D2 cs2 ps2).getD j (colOf k D cs 0) = colOf k2 D2 cs2 (ps2.getD j 0) := by
                simp [cols, show j < ps2.length by omega]
              rw [f1, f2, HCC.out.1, HCC.out.2] at h1
              exact h1))
            have hbne : (u == v) = false := by rw [beq_eq_false_iff_ne]; exact huv
            clear HALL HCC
            go_wp2_with fail
            go_region_held3 (fun w' => w'.cell? ⟨w.heap.size, 0, none⟩ = some (.int .i64 k) ∧ w'.cell? ⟨w.heap.size, 1, none⟩ = some (.int .i64 (D : Int)) ∧ w'.cell? ⟨w.heap.size, 2, none⟩ = some (.int .i64 (Wd : Int)) ∧ w'.cell? ⟨w.heap.size, 3, none⟩ = some (.int .i64 (Hi : Int)) ∧ w'.cell? ⟨w.heap.size, 4, none⟩ = some (.slice ca cn cc) ∧ w'.cell? ⟨w.heap.size, 5, none⟩ = some (.slice (some ⟨b, off, none⟩) pn pc) ∧ w'.cell? ⟨w.heap.size + 1, 0, none⟩ = some (.int .i64 k2) ∧ w'.cell? ⟨w.heap.size + 1, 1, none⟩ = some (.int .i64 (D2 : Int)) ∧ w'.cell? ⟨w.heap.size + 1, 2, none⟩ = some (.int .i64 (Wd : Int)) ∧ w'.cell? ⟨w.heap.size + 1, 3, none⟩ = some (.int .i64 (Hi : Int)) ∧ w'.cell? ⟨w.heap.size + 1, 4, none⟩ = some (.slice ca2 cn2 cc2) ∧ w'.cell? ⟨w.heap.size + 1, 5, none⟩ = some (.slice (some ⟨b2, off2, none⟩) pn2 pc2) ∧ w'.cell? ⟨b, off + j, none⟩ = some (.int .i64 (p : Int)) ∧ w'.cell? ⟨b2, off2 + j, none⟩ = some (.int .i64 (q : Int))) (go_keep) (first | (go_at_call_of 45 (Value.slice (some ⟨b, off, none⟩) pn pc); refine (HLp.out wr.drew belr.drew).mono ?_; rintro e w5 ⟨rfl, b5⟩; have b5' : Below wr.heap.size wr w5 := box_drew b5; have bel5 : Below w.heap.size w w5 := belr.trans (b5'.mono belr.size); have r1 := (b5'.cell (p := ⟨b, off + j, none⟩) hbl).trans e1; have r2 := (b5'.cell (p := ⟨b2, off2 + j, none⟩) hbl2).trans e2; have A5 : Hid (Bx w5 w.heap.size (.int .i64 k) (.int .i64 (D : Int)) (.int .i64 (Wd : Int)) (.int .i64 (Hi : Int)) (.slice ca cn cc) (.slice (some ⟨b, off, none⟩) pn pc)) := Ar.out.kept b5'; have B5 : Hid (Bx w5 (w.heap.size + 1) (.int .i64 k2) (.int .i64 (D2 : Int)) (.int .i64 (Wd : Int)) (.int .i64 (Hi : Int)) (.slice ca2 cn2 cc2) (.slice (some ⟨b2, off2, none⟩) pn2 pc2)) := Br.out.kept b5'; obtain ⟨_, m0, m1, m2, m3, m4, m5⟩ := A5.out; obtain ⟨_, n0, n1, n2, n3, n4, n5⟩ := B5.out) | (go_at_call_of 45 (Value.slice (some ⟨b2, off2, none⟩) pn2 pc2); refine (HLq.out w5 bel5).mono ?_; rintro e w6 ⟨rfl, b6⟩; have bel6 : Below w2.heap.size w2 w6 := (hbel.trans (b5'.mono hbel.size)).trans (b6.mono (Nat.le_trans hbel.size b5'.size)); have s1 := (b6.cell (p := ⟨b, off + j, none⟩) (Nat.lt_of_lt_of_le hbl b5'.size)).trans r1; have s2 := (b6.cell (p := ⟨b2, off2 + j, none⟩) (Nat.lt_of_lt_of_le hbl2 b5'.size)).trans r2; clear m0 m1 m2 m3 m4 m5 n0 n1 n2 n3 n4 n5; have A6 : Hid (Bx w6 w.heap.size (.int .i64 k) (.int .i64 (D : Int)) (.int .i64 (Wd : Int)) (.int .i64 (Hi : Int)) (.slice ca cn cc) (.slice (some ⟨b, off, none⟩) pn pc)) := A5.out.kept b6; have B6 : Hid (Bx w6 (w.heap.size + 1) (.int .i64 k2) (.int .i64 (D2 : Int)) (.int .i64 (Wd : Int)) (.int .i64 (Hi : Int)) (.slice ca2 cn2 cc2) (.slice (some ⟨b2, off2, none⟩) pn2 pc2)) := B5.out.kept b6; obtain ⟨_, m0, m1, m2, m3, m4, m5⟩ := A6.out; obtain ⟨_, n0, n1, n2, n3, n4, n5⟩ := B6.out))
            all_goals
              clear m0 m1 m2 m3 m4 m5 n0 n1 n2 n3 n4 n5 a0 a1 a2 a3 a4 a5 p0 p1 p2 p3 p4 p5 e1 e2 r1 r2 s1 s2 hbel
              have bel9 : Below w.heap.size w w6 := bel2.trans (bel6.mono bel2.size)
              go_wp2_with fail
              go_ret
              exact ⟨by rw [HD.out]; rfl, bel9⟩
    · have HD : Hid (decide (cols k D cs ps = cols k2 D2 cs2 ps2) = true) := decide_eq_true (by
        have hl := HN.out
        apply List.ext_getElem
        · simp [cols]; omega
        · intro i h1 h2
          have hi1 : i < ps.length := by simpa [cols] using h1
          have hi2 : i < ps2.length := by simpa [cols] using h2
          have := HALL.out i (by omega)
          rw [List.getD_eq_getElem?_getD, List.getElem?_eq_getElem hi1, List.getD_eq_getElem?_getD, List.getElem?_eq_getElem hi2] at this
          simpa [cols] using this)
      have hlt' : ¬ (j : Int) < (pn : Int) := by omega
      clear HALL
      go_wp2_with fail
      go_ret
      exact ⟨by rw [HD.out]; rfl, belr⟩
end Go.Proofs.Ytjiogneidioknaa

/- ImageLike at every two pictures, of both. -/
namespace Go.Proofs.Ytjiogneidioknaa
open Go.RowKit

/-- two pictures look the same -/
noncomputable def likeB (k d wd hi : Int) (cs ps : List Int) (k2 d2 wd2 hi2 : Int) (cs2 ps2 : List Int) : Bool :=
  Im.okB k d wd hi cs ps && Im.okB k2 d2 wd2 hi2 cs2 ps2 && decide (wd = wd2) && decide (hi = hi2) && decide (cols k d.toNat cs ps = cols k2 d2.toNat cs2 ps2)
theorem like_no {k d wd hi : Int} {cs ps : List Int} {k2 d2 wd2 hi2 : Int} {cs2 ps2 : List Int} (h : Im.okB k d wd hi cs ps = false ∨ Im.okB k2 d2 wd2 hi2 cs2 ps2 = false ∨ ¬ wd = wd2 ∨ ¬ hi = hi2) : likeB k d wd hi cs ps k2 d2 wd2 hi2 cs2 ps2 = false := by
  unfold likeB
  rcases h with h | h | h | h <;> simp [h]
theorem like_yes {k wd hi : Int} {D : Nat} {cs ps : List Int} {k2 : Int} {D2 : Nat} {cs2 ps2 : List Int} (h : Im.okB k (D : Int) wd hi cs ps = true) (h2 : Im.okB k2 (D2 : Int) wd hi cs2 ps2 = true) : likeB k (D : Int) wd hi cs ps k2 (D2 : Int) wd hi cs2 ps2 = decide (cols k D cs ps = cols k2 D2 cs2 ps2) := by
  unfold likeB
  rw [h, h2, Int.toNat_natCast, Int.toNat_natCast]; simp

theorem spec_like (k d wd hi : Int) (x : Option Addr) (cn cc : Nat) (y : Option Addr) (pn pc : Nat) (k2 d2 wd2 hi2 : Int) (x2 : Option Addr) (cn2 cc2 : Nat) (y2 : Option Addr) (pn2 pc2 : Nat) (cs ps cs2 ps2 : List Int) (w : World) (H1 : Ints w x cs) (hcn : cs.length = cn) (hcl : cn ≤ 1048576) (H2 : Ints w y ps) (hpn : ps.length = pn) (_hpl : pn ≤ 1048576) (H21 : Ints w x2 cs2) (hcn2 : cs2.length = cn2) (hcl2 : cn2 ≤ 1048576) (H22 : Ints w y2 ps2) (hpn2 : ps2.length = pn2) (_hpl2 : pn2 ≤ 1048576) :
    Calls Try.prog 15 #[.agg #[.int .i64 k, .int .i64 d, .int .i64 wd, .int .i64 hi, .slice x cn cc, .slice y pn pc], .agg #[.int .i64 k2, .int .i64 d2, .int .i64 wd2, .int .i64 hi2, .slice x2 cn2 cc2, .slice y2 pn2 pc2]] w fun e w' => e = .returned (.bool (likeB k d wd hi cs ps k2 d2 wd2 hi2 cs2 ps2)) ∧ Below w.heap.size w w' := by
  rcases hok : Im.okB k d wd hi cs ps with _ | _
  · rw [like_no (.inl hok)]
    exact spec_like_bad1 k d wd hi x cn cc y pn pc k2 d2 wd2 hi2 x2 cn2 cc2 y2 pn2 pc2 w (fun w'' b => by have := spec_imageOk k d wd hi x cn cc y pn pc w'' cs ps (H1.kept b) hcn (by omega) (H2.kept b) hpn; rw [hok] at this; exact this)
  · rcases hok2 : Im.okB k2 d2 wd2 hi2 cs2 ps2 with _ | _
    · rw [like_no (.inr (.inl hok2))]
      exact spec_like_bad2 k d wd hi x cn cc y pn pc k2 d2 wd2 hi2 x2 cn2 cc2 y2 pn2 pc2 w (fun w'' b => by have := spec_imageOk k d wd hi x cn cc y pn pc w'' cs ps (H1.kept b) hcn (by omega) (H2.kept b) hpn; rw [hok] at this; exact this) (fun w'' b => by have := spec_imageOk k2 d2 wd2 hi2 x2 cn2 cc2 y2 pn2 pc2 w'' cs2 ps2 (H21.kept b) hcn2 (by omega) (H22.kept b) hpn2; rw [hok2] at this; exact this)
    · by_cases hw : wd = wd2
      · subst hw
        by_cases hh : hi = hi2
        · subst hh
          have O1 := Im.okB_open hok
          have O2 := Im.okB_open hok2
          have R1 := O1
          have R2 := O2
          obtain ⟨q1, q2, q3, _, q5, _⟩ := R1
          obtain ⟨q7, _, _, _, q6, _⟩ := R2
          obtain ⟨D, rfl, _⟩ := Im.dep_all q1
          obtain ⟨D2, rfl, _⟩ := Im.dep_all q7
          obtain ⟨Wd, rfl⟩ := Int.eq_ofNat_of_zero_le (show 0 ≤ wd by omega)
          obtain ⟨Hi, rfl⟩ := Int.eq_ofNat_of_zero_le (show 0 ≤ hi by omega)
          have em : ((Wd * Hi : Nat) : Int) = (Wd : Int) * (Hi : Int) := by simp
          have hm : pn = Wd * Hi := by omega
          have hm2 : pn2 = Wd * Hi := by omega
          rw [like_yes hok hok2]
          exact spec_like_yes k D Wd Hi x cn cc y pn pc k2 D2 x2 cn2 cc2 y2 pn2 pc2 cs ps cs2 ps2 w O1 O2 H1 hcn H2 hpn H21 hcn2 H22 hpn2 (by omega) (by omega) hm hm2 (fun w'' b => by have := spec_imageOk k D Wd Hi x cn cc y pn pc w'' cs ps (H1.kept b) hcn (by omega) (H2.kept b) hpn; rw [hok] at this; exact this) (fun w'' b => by have := spec_imageOk k2 D2 Wd Hi x2 cn2 cc2 y2 pn2 pc2 w'' cs2 ps2 (H21.kept b) hcn2 (by omega) (H22.kept b) hpn2; rw [hok2] at this; exact this)
        · rw [like_no (.inr (.inr (.inr hh)))]
          exact spec_like_high k d wd hi x cn cc y pn pc k2 d2 hi2 x2 cn2 cc2 y2 pn2 pc2 w hh (fun w'' b => by have := spec_imageOk k d wd hi x cn cc y pn pc w'' cs ps (H1.kept b) hcn (by omega) (H2.kept b) hpn; rw [hok] at this; exact this) (fun w'' b => by have := spec_imageOk k2 d2 wd hi2 x2 cn2 cc2 y2 pn2 pc2 w'' cs2 ps2 (H21.kept b) hcn2 (by omega) (H22.kept b) hpn2; rw [hok2] at this; exact this)
      · rw [like_no (.inr (.inr (.inl hw)))]
        exact spec_like_wide k d wd hi x cn cc y pn pc k2 d2 wd2 hi2 x2 cn2 cc2 y2 pn2 pc2 w hw (fun w'' b => by have := spec_imageOk k d wd hi x cn cc y pn pc w'' cs ps (H1.kept b) hcn (by omega) (H2.kept b) hpn; rw [hok] at this; exact this) (fun w'' b => by have := spec_imageOk k2 d2 wd2 hi2 x2 cn2 cc2 y2 pn2 pc2 w'' cs2 ps2 (H21.kept b) hcn2 (by omega) (H22.kept b) hpn2; rw [hok2] at this; exact this)

theorem impl_like (k d wd hi : Int) (x : Option Addr) (cn cc : Nat) (y : Option Addr) (pn pc : Nat) (k2 d2 wd2 hi2 : Int) (x2 : Option Addr) (cn2 cc2 : Nat) (y2 : Option Addr) (pn2 pc2 : Nat) (cs ps cs2 ps2 : List Int) (w : World) (H1 : Ints w x cs) (hcn : cs.length = cn) (hcl : cn ≤ 1048576) (H2 : Ints w y ps) (hpn : ps.length = pn) (hpl : pn ≤ 1048576) (H21 : Ints w x2 cs2) (hcn2 : cs2.length = cn2) (hcl2 : cn2 ≤ 1048576) (H22 : Ints w y2 ps2) (hpn2 : ps2.length = pn2) (hpl2 : pn2 ≤ 1048576) :
    Calls Try.prog 14 #[.agg #[.int .i64 k, .int .i64 d, .int .i64 wd, .int .i64 hi, .slice x cn cc, .slice y pn pc], .agg #[.int .i64 k2, .int .i64 d2, .int .i64 wd2, .int .i64 hi2, .slice x2 cn2 cc2, .slice y2 pn2 pc2]] w fun e w' => e = .returned (.bool (likeB k d wd hi cs ps k2 d2 wd2 hi2 cs2 ps2)) ∧ Below w.heap.size w w' := by
  rcases hok : Im.okB k d wd hi cs ps with _ | _
  · rw [like_no (.inl hok)]
    exact impl_like_bad1 k d wd hi x cn cc y pn pc k2 d2 wd2 hi2 x2 cn2 cc2 y2 pn2 pc2 w (fun w'' b => by have := impl_imageOk k d wd hi x cn cc y pn pc w'' cs ps (H1.kept b) hcn (by omega) (H2.kept b) hpn (by omega); rw [hok] at this; exact this)
  · rcases hok2 : Im.okB k2 d2 wd2 hi2 cs2 ps2 with _ | _
    · rw [like_no (.inr (.inl hok2))]
      exact impl_like_bad2 k d wd hi x cn cc y pn pc k2 d2 wd2 hi2 x2 cn2 cc2 y2 pn2 pc2 w (fun w'' b => by have := impl_imageOk k d wd hi x cn cc y pn pc w'' cs ps (H1.kept b) hcn (by omega) (H2.kept b) hpn (by omega); rw [hok] at this; exact this) (fun w'' b => by have := impl_imageOk k2 d2 wd2 hi2 x2 cn2 cc2 y2 pn2 pc2 w'' cs2 ps2 (H21.kept b) hcn2 (by omega) (H22.kept b) hpn2 (by omega); rw [hok2] at this; exact this)
    · by_cases hw : wd = wd2
      · subst hw
        by_cases hh : hi = hi2
        · subst hh
          have O1 := Im.okB_open hok
          have O2 := Im.okB_open hok2
          have R1 := O1
          have R2 := O2
          obtain ⟨q1, q2, q3, _, q5, _⟩ := R1
          obtain ⟨q7, _, _, _, q6, _⟩ := R2
          obtain ⟨D, rfl, _⟩ := Im.dep_all q1
          obtain ⟨D2, rfl, _⟩ := Im.dep_all q7
          obtain ⟨Wd, rfl⟩ := Int.eq_ofNat_of_zero_le (show 0 ≤ wd by omega)
          obtain ⟨Hi, rfl⟩ := Int.eq_ofNat_of_zero_le (show 0 ≤ hi by omega)
          have em : ((Wd * Hi : Nat) : Int) = (Wd : Int) * (Hi : Int) := by simp
          have hm : pn = Wd * Hi := by omega
          have hm2 : pn2 = Wd * Hi := by omega
          rw [like_yes hok hok2]
          exact impl_like_yes k D Wd Hi x cn cc y pn pc k2 D2 x2 cn2 cc2 y2 pn2 pc2 cs ps cs2 ps2 w O1 O2 H1 hcn H2 hpn H21 hcn2 H22 hpn2 (by omega) (by omega) hm hm2 (fun w'' b => by have := impl_imageOk k D Wd Hi x cn cc y pn pc w'' cs ps (H1.kept b) hcn (by omega) (H2.kept b) hpn (by omega); rw [hok] at this; exact this) (fun w'' b => by have := impl_imageOk k2 D2 Wd Hi x2 cn2 cc2 y2 pn2 pc2 w'' cs2 ps2 (H21.kept b) hcn2 (by omega) (H22.kept b) hpn2 (by omega); rw [hok2] at this; exact this)
        · rw [like_no (.inr (.inr (.inr hh)))]
          exact impl_like_high k d wd hi x cn cc y pn pc k2 d2 hi2 x2 cn2 cc2 y2 pn2 pc2 w hh (fun w'' b => by have := impl_imageOk k d wd hi x cn cc y pn pc w'' cs ps (H1.kept b) hcn (by omega) (H2.kept b) hpn (by omega); rw [hok] at this; exact this) (fun w'' b => by have := impl_imageOk k2 d2 wd hi2 x2 cn2 cc2 y2 pn2 pc2 w'' cs2 ps2 (H21.kept b) hcn2 (by omega) (H22.kept b) hpn2 (by omega); rw [hok2] at this; exact this)
      · rw [like_no (.inr (.inr (.inl hw)))]
        exact impl_like_wide k d wd hi x cn cc y pn pc k2 d2 wd2 hi2 x2 cn2 cc2 y2 pn2 pc2 w hw (fun w'' b => by have := impl_imageOk k d wd hi x cn cc y pn pc w'' cs ps (H1.kept b) hcn (by omega) (H2.kept b) hpn (by omega); rw [hok] at this; exact this) (fun w'' b => by have := impl_imageOk k2 d2 wd2 hi2 x2 cn2 cc2 y2 pn2 pc2 w'' cs2 ps2 (H21.kept b) hcn2 (by omega) (H22.kept b) hpn2 (by omega); rw [hok2] at this; exact this)
end Go.Proofs.Ytjiogneidioknaa

/- The draw of any picture: l14Any. -/
namespace Go.Proofs.Ytjiogneidioknaa
open Go.RowKit

theorem Only.refl_lt {B : Nat} {w : World} (o : Obj) (h : B < w.heap.size) : Only B w (w.alloc o) := (Only.refl B w).alloc h o

theorem AnyOut.up {lo lo' : Nat} {e : Ending} {w : World} (h : AnyOut lo e w) (hl : lo' ≤ lo) : AnyOut lo' e w := by
  obtain ⟨k, d, wd, hi, a, n, c, cs, b, m, cc, ps, he, h1, h2, h3, h4, h5, r⟩ := h
  exact ⟨k, d, wd, hi, a, n, c, cs, b, m, cc, ps, he, h1.lower hl, h2, h3, h4, h5.lower hl, r⟩

/-- the box of a picture, and a result's box ahead of it -/
structure BX (w wc : World) (B X q : Nat) (k d wd hi : Int) (a : Option Addr) (n c : Nat) (b : Option Addr) (m cc : Nat) : Prop where
  rd : RdAt wc B q
  only : Only B w wc
  res : wc.heap[w.heap.size]? = some (.cells #[.int .i64 0, .int .i64 0, .int .i64 0, .int .i64 0, .slice none 0 0, .slice none 0 0] 26 (0, 0))
  box : wc.heap[X]? = some (.cells #[.int .i64 k, .int .i64 d, .int .i64 wd, .int .i64 hi, .slice a n c, .slice b m cc] 26 (0, 0))
  lt : B < w.heap.size

set_option maxHeartbeats 2000000 in
set_option maxRecDepth 20000 in
theorem l14Any_any (B p : Nat) (w : World) (hr : RdAt w B p) (hp : p ≤ 100000) :
    Calls Try.prog 37 #[.pointer (some ⟨B, 0, none⟩)] w fun e w' => AnyOut w.heap.size e w' ∧ (∃ q, q ≤ p + 6000 ∧ RdAt w' B q) ∧ Only B w w' := by
  have hlt := hr.lt
  obtain ⟨W0, hW0⟩ : ∃ W0, W0 = w.alloc (.cells #[.int .i64 0, .int .i64 0, .int .i64 0, .int .i64 0, .slice none 0 0, .slice none 0 0] 26) := ⟨_, rfl⟩
  have hs0 : W0.heap.size = w.heap.size + 1 := by rw [hW0]; simp
  have HR0 : Hid (RdAt W0 B p) := by rw [hW0]; exact hr.alloc _
  have HO0 : Hid (Only B w W0) := by rw [hW0]; exact Only.refl_lt _ hlt
  have HZ0 : Hid (W0.heap[w.heap.size]? = some (.cells #[.int .i64 0, .int .i64 0, .int .i64 0, .int .i64 0, .slice none 0 0, .slice none 0 0] 26 (0, 0))) := by rw [hW0]; exact heap_alloc_new _ _
  have HIM : Hid (Calls Try.prog 39 #[.pointer (some ⟨B, 0, none⟩)] W0 fun e w' => PicOut W0.heap.size e w' ∧ (∃ q, q ≤ p + 5000 ∧ RdAt w' B q) ∧ Only B W0 w') := l14Image_any B p W0 HR0.out hp
  clear hr
  go_enter Try.func37, Try.ntmps37
  go_upto_region 1 with fail
  rw [← hW0]
  clear hW0
  go_wp2_with fail
  refine HIM.out.mono ?_
  rintro e w1 ⟨⟨k, d, wd, hi, a, n, c, cs, b, m, cc, ps, rfl, h4, h5, hm, hwd1, hwd2, hhi1, hhi2, hn, hk1, hk2, hd⟩, ⟨q, hq, hR1⟩, hO1⟩
  have hB0 : Below w.heap.size w w1 → True := fun _ => trivial
  have hm4 : m ≤ 400 := by rw [hm]; exact Nat.mul_le_mul hwd2 hhi2
  have hm1 : 1 ≤ m := by rw [hm]; exact Nat.mul_pos hwd1 hhi1
  have hsz1 : W0.heap.size ≤ w1.heap.size := hO1.below.size
  have hw1 : w.heap.size < w1.heap.size := by omega
  have HX : Hid (BX w (w1.alloc (.cells #[.int .i64 (k : Int), .int .i64 (d : Int), .int .i64 (wd : Int), .int .i64 (hi : Int), .slice a n c, .slice b m cc] 26)) B w1.heap.size q k d wd hi a n c b m cc) :=
    ⟨hR1.alloc _, (HO0.out.trans hO1).alloc hR1.lt _, (heap_alloc_old _ _ (by omega)).trans ((hO1.rest _ (by omega) (by omega)).trans HZ0.out), heap_alloc_new _ _, hlt⟩
  have HI : Hid (IntsFrom (w1.alloc (.cells #[.int .i64 (k : Int), .int .i64 (d : Int), .int .i64 (wd : Int), .int .i64 (hi : Int), .slice a n c, .slice b m cc] 26)) (w.heap.size + 1) a cs ∧ IntsFrom (w1.alloc (.cells #[.int .i64 (k : Int), .int .i64 (d : Int), .int .i64 (wd : Int), .int .i64 (hi : Int), .slice a n c, .slice b m cc] 26)) (w.heap.size + 1) b ps ∧ n ≤ c ∧ m ≤ cc ∧ cs.length = n ∧ ps.length = m) :=
    ⟨by rw [← hs0]; exact (h4.old _).from, by rw [← hs0]; exact (h5.old _).from, h4.cap, h5.cap, h4.len, h5.len⟩
  clear HIM HR0 HO0 HZ0 h4 h5 hm hR1 hO1 hB0 hsz1 hs0
  go_wp2_with fail
  refine (pick_named B q _ _ HX.out.rd (by omega) (by omega) (by omega)).mono ?_
  rintro e w2 ⟨v, rfl, hv, hR2, hO2, hs2⟩
  have HX2 : Hid (BX w w2 B w1.heap.size (q + 1) k d wd hi a n c b m cc) :=
    ⟨hR2, HX.out.only.trans hO2, (hO2.rest _ (lt_of_block HX.out.res) (by omega)).trans HX.out.res, (hO2.rest _ (lt_of_block HX.out.box) (by omega)).trans HX.out.box, hlt⟩
  have HI2 : Hid (IntsFrom w2 (w.heap.size + 1) a cs ∧ IntsFrom w2 (w.heap.size + 1) b ps ∧ n ≤ c ∧ m ≤ cc ∧ cs.length = n ∧ ps.length = m) := by
    obtain ⟨i1, i2, r⟩ := HI.out
    exact ⟨i1.only hO2 (by omega), i2.only hO2 (by omega), r⟩
  clear HX HI hR2 hO2 hs2
  generalize w1.heap.size = X at *
  obtain ⟨⟨z0, z1, z2, z3, z4, z5⟩, y0, y1, y2, y3, y4, y5⟩ := box6 HX2.out.box
  by_cases h0 : v = 0
  · subst h0
    have HSP : Hid (Calls Try.prog 57 #[.pointer (some ⟨B, 0, none⟩), .agg #[.int .i64 (k : Int), .int .i64 (d : Int), .int .i64 (wd : Int), .int .i64 (hi : Int), .slice a n c, .slice b m cc]] w2 fun e w' => AnyOut w2.heap.size e w' ∧ (∃ q', q' ≤ q + 1 + 5 ∧ RdAt w' B q') ∧ Only B w2 w') :=
      l14Spoil_any B (q + 1) k d wd hi a n c b m cc cs ps w2 HX2.out.rd (by omega) HI2.out.1.ints HI2.out.2.2.2.2.1 hn HI2.out.2.1.ints HI2.out.2.2.2.2.2 hm1 hm4 ⟨hk1, hk2⟩ hd (by omega) (by omega)
    go_wp2_with fail
    refine HSP.out.mono ?_
    rintro e w3 ⟨⟨k3, d3, wd3, hi3, a3, n3, c3, cs3, b3, m3, cc3, ps3, rfl, i4, l4, l4', k4, i5, l5, l5', k5, bd⟩, ⟨q3, hq3, hR3⟩, hO3⟩
    have hres : w3.heap[w.heap.size]? = some (.cells #[.int .i64 0, .int .i64 0, .int .i64 0, .int .i64 0, .slice none 0 0, .slice none 0 0] 26 (0, 0)) := (hO3.rest _ (lt_of_block HX2.out.res) (by omega)).trans HX2.out.res
    have hsz2 : w.heap.size < w2.heap.size := lt_of_block HX2.out.res
    have HF : Hid (IntsFrom w3 (w.heap.size + 1) a3 cs3 ∧ IntsFrom w3 (w.heap.size + 1) b3 ps3 ∧ RdAt w3 B q3 ∧ Only B w w3) := ⟨i4.lower (by omega), i5.lower (by omega), hR3, HX2.out.only.trans hO3⟩
    have HL : Hid (cs3.length = n3 ∧ n3 ≤ 1000 ∧ n3 ≤ c3 ∧ ps3.length = m3 ∧ m3 ≤ 1000 ∧ m3 ≤ cc3 ∧ q3 ≤ p + 6000 ∧ 0 ≤ k3 ∧ k3 ≤ 100 ∧ 0 ≤ d3 ∧ d3 ≤ 100 ∧ 0 ≤ wd3 ∧ wd3 ≤ 100 ∧ 0 ≤ hi3 ∧ hi3 ≤ 100) := ⟨l4, l4', k4, l5, l5', k5, by omega, bd⟩
    clear HSP i4 i5 hR3 hO3 z0 z1 z2 z3 z4 z5 y0 y1 y2 y3 y4 y5 HX2 HI2 l4 l4' k4 l5 l5' k5 bd hq3
    have hI6 : (Try.prog.info? 26).map (·.size) = some (#[Value.int .i64 k3, .int .i64 d3, .int .i64 wd3, .int .i64 hi3, .slice a3 n3 c3, .slice b3 m3 cc3]).size := by kernel_rfl
    have h16 : (#[Value.int .i64 k3, .int .i64 d3, .int .i64 wd3, .int .i64 hi3, .slice a3 n3 c3, .slice b3 m3 cc3]).all (·.oneCell') = true := by simp [Value.oneCell']
    go_wp2_with (refine wpList_store_row rfl 26 (.tmp 2) (.tmp 11) rfl w.heap.size #[.int .i64 k3, .int .i64 d3, .int .i64 wd3, .int .i64 hi3, .slice a3 n3 c3, .slice b3 m3 cc3] rfl rfl 26 #[.int .i64 0, .int .i64 0, .int .i64 0, .int .i64 0, .slice none 0 0, .slice none 0 0] hres hI6 rfl h16 ?_)
    have hs2 := setRow_heap w3 w.heap.size _ #[.int .i64 k3, .int .i64 d3, .int .i64 wd3, .int .i64 hi3, .slice a3 n3 c3, .slice b3 m3 cc3] _ _ hres
    obtain ⟨f1, f2, f3, f4⟩ := HF.out
    obtain ⟨g1, g2, g3, g4, g5, g6, g7, g8⟩ := HL.out
    refine bodyPost_ret_by (results_cell_row (p := 2) (ty := 26) (by kernel_rfl) _ _ w.heap.size 26 _ (0, 0) _ rfl hs2 Try.underlying26 rfl (by kernel_rfl)) rfl
      ⟨⟨k3, d3, wd3, hi3, a3, n3, c3, cs3, b3, m3, cc3, ps3, rfl, (f1.row (by omega) _).lower (by omega), g1, g2, g3, (f2.row (by omega) _).lower (by omega), g4, g5, g6, g8⟩, ⟨q3, g7, f3.kept ((below_setRow _ _ _).mono hlt)⟩, f4.grown hlt ((below_setRow _ _ _).mono (Nat.le_refl _))⟩
  · have h0i : ¬ (v : Int) = 0 := by omega
    have hres := HX2.out.res
    have HL : Hid (cs.length = n ∧ n ≤ 1000 ∧ n ≤ c ∧ ps.length = m ∧ m ≤ 1000 ∧ m ≤ cc ∧ q + 1 ≤ p + 6000 ∧ (0 : Int) ≤ k ∧ (k : Int) ≤ 100 ∧ (0 : Int) ≤ d ∧ (d : Int) ≤ 100 ∧ (0 : Int) ≤ wd ∧ (wd : Int) ≤ 100 ∧ (0 : Int) ≤ hi ∧ (hi : Int) ≤ 100) := ⟨HI2.out.2.2.2.2.1, by omega, HI2.out.2.2.1, HI2.out.2.2.2.2.2, by omega, HI2.out.2.2.2.1, by omega, by omega, by omega, by omega, by omega, by omega, by omega, by omega, by omega⟩
    have hI6 : (Try.prog.info? 26).map (·.size) = some (#[Value.int .i64 (k : Int), .int .i64 (d : Int), .int .i64 (wd : Int), .int .i64 (hi : Int), .slice a n c, .slice b m cc]).size := by kernel_rfl
    have h16 : (#[Value.int .i64 (k : Int), .int .i64 (d : Int), .int .i64 (wd : Int), .int .i64 (hi : Int), .slice a n c, .slice b m cc]).all (·.oneCell') = true := by simp [Value.oneCell']
    go_wp2_with (refine wpList_store_row rfl 26 (.tmp 2) (.tmp 12) rfl w.heap.size #[.int .i64 (k : Int), .int .i64 (d : Int), .int .i64 (wd : Int), .int .i64 (hi : Int), .slice a n c, .slice b m cc] rfl rfl 26 #[.int .i64 0, .int .i64 0, .int .i64 0, .int .i64 0, .slice none 0 0, .slice none 0 0] hres hI6 rfl h16 ?_)
    have hs2 := setRow_heap w2 w.heap.size _ #[.int .i64 (k : Int), .int .i64 (d : Int), .int .i64 (wd : Int), .int .i64 (hi : Int), .slice a n c, .slice b m cc] _ _ hres
    obtain ⟨f1, f2, _⟩ := HI2.out
    obtain ⟨g1, g2, g3, g4, g5, g6, g7, g8⟩ := HL.out
    refine bodyPost_ret_by (results_cell_row (p := 2) (ty := 26) (by kernel_rfl) _ _ w.heap.size 26 _ (0, 0) _ rfl hs2 Try.underlying26 rfl (by kernel_rfl)) rfl
      ⟨⟨k, d, wd, hi, a, n, c, cs, b, m, cc, ps, rfl, (f1.row (by omega) _).lower (by omega), g1, g2, g3, (f2.row (by omega) _).lower (by omega), g4, g5, g6, g8⟩, ⟨q + 1, g7, HX2.out.rd.kept ((below_setRow _ _ _).mono hlt)⟩, HX2.out.only.grown hlt ((below_setRow _ _ _).mono (Nat.le_refl _))⟩
end Go.Proofs.Ytjiogneidioknaa

/- A slice of bytes that came in is a code that can be read. -/
namespace Go.Proofs.Ytjiogneidioknaa
open Go.RowKit

theorem addr_add (b off i : Nat) : (⟨b, off, none⟩ : Addr).add i = ⟨b, off + i, none⟩ := by
  simp [Addr.add]; try omega

theorem code8_of {w : World} {a : Option Addr} {len cap : Nat} {zs : List Int}
    (h : (a = none ∧ len = 0 ∧ cap = 0 ∧ zs = []) ∨ ∃ x, a = some x ∧ len ≤ cap ∧ cap ≤ maxLen ∧ zs.length = cap ∧ (∀ i, i < zs.length → w.cell? (x.add i) = some (.int .u8 (zs.getD i 0))) ∧ ∀ n ∈ zs, (Lit.int .u8 n).wf = true) :
    Code8 w a len cap := by
  rcases h with ⟨rfl, rfl, rfl, rfl⟩ | ⟨x, rfl, hl, hm, hz, hcell, hwz⟩
  · exact ⟨Nat.le_refl _, Nat.zero_le _, .inl rfl⟩
  · refine ⟨hl, hm, ?_⟩
    by_cases h0 : len = 0
    · exact .inl h0
    · obtain ⟨b, off, spot⟩ := x
      have hc := hcell 0 (by omega)
      have hspot : spot = none := by simpa [Addr.add] using World.cell?_spot hc
      subst hspot
      rw [addr_add] at hc
      refine .inr ⟨b, off, rfl, World.block_lt_of_cell? _ _ hc, fun i hi => ?_⟩
      have h1 := hcell i (by omega)
      rw [addr_add] at h1
      have hmem : zs.getD i 0 ∈ zs := by
        rw [List.getD_eq_getElem?_getD, List.getElem?_eq_getElem (by omega)]
        exact List.getElem_mem _
      have hw := bounds_u8 (hwz _ hmem)
      exact ⟨(zs.getD i 0).toNat, by omega, by rw [h1, Int.toNat_of_nonneg hw.1]⟩
end Go.Proofs.Ytjiogneidioknaa

/- A picture for ImageRgb, for ImagePal, drawn of a code. -/
namespace Go.Proofs.Ytjiogneidioknaa
open Go.RowKit

set_option maxHeartbeats 1000000 in
theorem drawImagePal_any (a : Option Addr) (len cap : Nat) (w : World) (h : Code8 w a len cap) :
    Calls Try.prog 21 #[.slice a len cap] w fun e w' => AnyOut w.heap.size e w' ∧ Below w.heap.size w w' := by
  obtain ⟨W0, hW0⟩ : ∃ W0, W0 = w.alloc (.cells #[.int .i64 0, .int .i64 0, .int .i64 0, .int .i64 0, .slice none 0 0, .slice none 0 0] 26) := ⟨_, rfl⟩
  have hs0 : w.heap.size < W0.heap.size := by rw [hW0]; simp
  have hB0 : Below w.heap.size w W0 := by rw [hW0]; exact (Below.refl _ _).alloc (Nat.le_refl _) _
  have HZ0 : Hid (W0.heap[w.heap.size]? = some (.cells #[.int .i64 0, .int .i64 0, .int .i64 0, .int .i64 0, .slice none 0 0, .slice none 0 0] 26 (0, 0))) := by rw [hW0]; exact heap_alloc_new _ _
  have HOP : Hid (Calls Try.prog 36 #[.slice a len cap] W0 fun e w' => e = .returned (.pointer (some ⟨W0.heap.size, 0, none⟩)) ∧ RdAt w' W0.heap.size 0 ∧ Below W0.heap.size W0 w') := open_any a len cap W0 (h.kept hB0)
  have HB0 : Hid (Below w.heap.size w W0) := hB0
  clear h hB0
  go_enter Try.func21, Try.ntmps21
  go_upto_region 1 with fail
  rw [← hW0]
  clear hW0
  go_wp2_with fail
  refine HOP.out.mono ?_
  rintro e w1 ⟨rfl, hR, b1⟩
  have HAN : Hid (Calls Try.prog 37 #[.pointer (some ⟨W0.heap.size, 0, none⟩)] w1 fun e w' => AnyOut w1.heap.size e w' ∧ (∃ q, q ≤ 0 + 6000 ∧ RdAt w' W0.heap.size q) ∧ Only W0.heap.size w1 w') := l14Any_any W0.heap.size 0 w1 hR (by omega)
  have HB1 : Hid (Below W0.heap.size W0 w1) := b1
  have hsz1 := b1.size
  clear HOP hR b1
  go_wp2_with fail
  refine HAN.out.mono ?_
  rintro e w3 ⟨⟨k3, d3, wd3, hi3, a3, n3, c3, cs3, b3, m3, cc3, ps3, rfl, i4, l4, l4', k4, i5, l5, l5', k5, bd⟩, _, hO3⟩
  have hres : w3.heap[w.heap.size]? = some (.cells #[.int .i64 0, .int .i64 0, .int .i64 0, .int .i64 0, .slice none 0 0, .slice none 0 0] 26 (0, 0)) := (hO3.rest _ (by omega) (by omega)).trans ((HB1.out.block _ (by omega)).trans HZ0.out)
  have HF : Hid (IntsFrom w3 (w.heap.size + 1) a3 cs3 ∧ IntsFrom w3 (w.heap.size + 1) b3 ps3 ∧ Below w.heap.size w w3) := ⟨i4.lower (by omega), i5.lower (by omega), HB0.out.trans ((HB1.out.mono (by omega)).trans (hO3.below.mono (by omega)))⟩
  have HL : Hid (cs3.length = n3 ∧ n3 ≤ 1000 ∧ n3 ≤ c3 ∧ ps3.length = m3 ∧ m3 ≤ 1000 ∧ m3 ≤ cc3 ∧ 0 ≤ k3 ∧ k3 ≤ 100 ∧ 0 ≤ d3 ∧ d3 ≤ 100 ∧ 0 ≤ wd3 ∧ wd3 ≤ 100 ∧ 0 ≤ hi3 ∧ hi3 ≤ 100) := ⟨l4, l4', k4, l5, l5', k5, bd⟩
  clear HAN i4 i5 hO3 l4 l4' k4 l5 l5' k5 bd HB0 HB1 HZ0
  have hI6 : (Try.prog.info? 26).map (·.size) = some (#[Value.int .i64 k3, .int .i64 d3, .int .i64 wd3, .int .i64 hi3, .slice a3 n3 c3, .slice b3 m3 cc3]).size := by kernel_rfl
  have h16 : (#[Value.int .i64 k3, .int .i64 d3, .int .i64 wd3, .int .i64 hi3, .slice a3 n3 c3, .slice b3 m3 cc3]).all (·.oneCell') = true := by simp [Value.oneCell']
  go_wp2_with (refine wpList_store_row rfl 26 (.tmp 2) (.tmp 5) rfl w.heap.size #[.int .i64 k3, .int .i64 d3, .int .i64 wd3, .int .i64 hi3, .slice a3 n3 c3, .slice b3 m3 cc3] rfl rfl 26 #[.int .i64 0, .int .i64 0, .int .i64 0, .int .i64 0, .slice none 0 0, .slice none 0 0] hres hI6 rfl h16 ?_)
  have hs2 := setRow_heap w3 w.heap.size _ #[.int .i64 k3, .int .i64 d3, .int .i64 wd3, .int .i64 hi3, .slice a3 n3 c3, .slice b3 m3 cc3] _ _ hres
  obtain ⟨f1, f2, f3⟩ := HF.out
  obtain ⟨g1, g2, g3, g4, g5, g6, g8⟩ := HL.out
  refine bodyPost_ret_by (results_cell_row (p := 2) (ty := 26) (by kernel_rfl) _ _ w.heap.size 26 _ (0, 0) _ rfl hs2 Try.underlying26 rfl (by kernel_rfl)) rfl
    ⟨⟨k3, d3, wd3, hi3, a3, n3, c3, cs3, b3, m3, cc3, ps3, rfl, (f1.row (by omega) _).lower (by omega), g1, g2, g3, (f2.row (by omega) _).lower (by omega), g4, g5, g6, g8⟩, f3.trans ((below_setRow _ _ _).mono (Nat.le_refl _))⟩
end Go.Proofs.Ytjiogneidioknaa

/- Two lists of ints held against each other by the laws. -/
namespace Go.Proofs.Ytjiogneidioknaa
open Go.RowKit

set_option maxHeartbeats 400000 in
theorem wiInts_same (a : Option Addr) (cap : Nat) (b : Option Addr) (cap' n : Nat) (zs : List Int) (w : World) (h : Ints w a zs) (g : Ints w b zs) (hn : zs.length = n) (hl : n ≤ 2000000) :
    Calls Try.prog 55 #[.slice a n cap, .slice b n cap'] w fun e w' => e = .returned (.bool true) ∧ ∃ m, w' = w.drewN m := by
  have HI : Hid (Ints w a zs) := h
  have HG : Hid (Ints w b zs) := g
  clear h g
  have hzg : n ≤ zs.length := by omega
  clear hn
  go_enter Try.func55, Try.ntmps55
  go_wp2_with fail
  go_loopw [5] (fun i wr => ∃ k m : Nat, k ≤ n ∧ i = .int .i64 k ∧ wr = w.drewN m) (fun i _ => n - (intOf i).toNat)
  case atStart => exact ⟨0, 0, Nat.zero_le _, rfl, rfl⟩
  case round =>
    obtain ⟨k, m, hk, rfl, rfl⟩ := hrel
    by_cases hlt : k < n
    · have hkz : k < zs.length := by omega
      rcases HI.out with h | ⟨b1, off1, rfl, hb1, hc1⟩
      · rw [h] at hkz; simp at hkz
      · rcases HG.out with h | ⟨b2, off2, rfl, hb2, hc2⟩
        · rw [h] at hkz; simp at hkz
        · have e1 := hc1 k hkz
          have e2 := hc2 k hkz
          have hki : (k : Int) < (n : Int) := by omega
          clear hc1 hc2
          generalize zs[k] = x at *
          go_wp2_with fail
          go_region
          all_goals go_wp2_with fail
          all_goals
            go_roundw
            case rel => exact ⟨k + 1, m + 1, by omega, by go_num, rfl⟩
            case measure => simp [intOf]; omega
    · go_wp2_with fail
      go_ret
      exact ⟨rfl, m, rfl⟩
end Go.Proofs.Ytjiogneidioknaa

/- Two pictures that are the same, held against each other; pictures in boxes. -/
namespace Go.Proofs.Ytjiogneidioknaa
open Go.RowKit

theorem drewN_low (w : World) (m : Nat) : Below w.heap.size w (w.drewN m) := ⟨rfl, rfl, rfl, Nat.le_refl _, fun _ _ => rfl⟩

set_option maxHeartbeats 1000000 in
set_option maxRecDepth 20000 in
theorem wiImage_same (k d wd hi : Int) (n m : Nat) (cs ps : List Int) (hn : cs.length = n) (hm : ps.length = m) (hnl : n ≤ 1048576) (hml : m ≤ 1048576) (a : Option Addr) (c : Nat) (b : Option Addr) (cc : Nat) (a' : Option Addr) (c' : Nat) (b' : Option Addr) (cc' : Nat) (w : World) (h1 : Ints w a cs) (h2 : Ints w b ps) (h3 : Ints w a' cs) (h4 : Ints w b' ps) :
    Calls Try.prog 20 #[.agg #[.int .i64 k, .int .i64 d, .int .i64 wd, .int .i64 hi, .slice a n c, .slice b m cc], .agg #[.int .i64 k, .int .i64 d, .int .i64 wd, .int .i64 hi, .slice a' n c', .slice b' m cc']] w fun e w' => e = .returned (.bool true) ∧ Below w.heap.size w w' := by
  obtain ⟨W0, hW0⟩ : ∃ W0, W0 = (w.alloc (.cells #[.int .i64 k, .int .i64 d, .int .i64 wd, .int .i64 hi, .slice a n c, .slice b m cc] 26)).alloc (.cells #[.int .i64 k, .int .i64 d, .int .i64 wd, .int .i64 hi, .slice a' n c', .slice b' m cc'] 26) := ⟨_, rfl⟩
  have hB0 : Below w.heap.size w W0 := by rw [hW0]; exact ((Below.refl _ _).alloc (Nat.le_refl _) _).alloc (by simp) _
  have HC : Hid (∀ w', Ints w' a cs → Ints w' a' cs → Calls Try.prog 55 #[.slice a n c, .slice a' n c'] w' fun e w'' => e = .returned (.bool true) ∧ ∃ m, w'' = w'.drewN m) := fun w' g1 g2 => wiInts_same a c a' c' n cs w' g1 g2 hn (by omega)
  have HP : Hid (∀ w', Ints w' b ps → Ints w' b' ps → Calls Try.prog 55 #[.slice b m cc, .slice b' m cc'] w' fun e w'' => e = .returned (.bool true) ∧ ∃ m, w'' = w'.drewN m) := fun w' g1 g2 => wiInts_same b cc b' cc' m ps w' g1 g2 hm (by omega)
  have HI : Hid (∀ w', Below W0.heap.size W0 w' → Ints w' a cs ∧ Ints w' b ps ∧ Ints w' a' cs ∧ Ints w' b' ps) := fun w' b => ⟨(h1.kept hB0).kept b, (h2.kept hB0).kept b, (h3.kept hB0).kept b, (h4.kept hB0).kept b⟩
  have b0 : W0.cell? ⟨w.heap.size, 0, none⟩ = some (.int .i64 k) ∧ W0.cell? ⟨w.heap.size, 1, none⟩ = some (.int .i64 d) ∧ W0.cell? ⟨w.heap.size, 2, none⟩ = some (.int .i64 wd) ∧ W0.cell? ⟨w.heap.size, 3, none⟩ = some (.int .i64 hi) ∧ W0.cell? ⟨w.heap.size, 4, none⟩ = some (.slice a n c) ∧ W0.cell? ⟨w.heap.size, 5, none⟩ = some (.slice b m cc) := by
    rw [hW0]; exact box_kept (box_new w _ _ _ _ _ _ _) ((Below.refl _ _).alloc (Nat.le_refl _) _) (by simp)
  have b1 : W0.cell? ⟨w.heap.size + 1, 0, none⟩ = some (.int .i64 k) ∧ W0.cell? ⟨w.heap.size + 1, 1, none⟩ = some (.int .i64 d) ∧ W0.cell? ⟨w.heap.size + 1, 2, none⟩ = some (.int .i64 wd) ∧ W0.cell? ⟨w.heap.size + 1, 3, none⟩ = some (.int .i64 hi) ∧ W0.cell? ⟨w.heap.size + 1, 4, none⟩ = some (.slice a' n c') ∧ W0.cell? ⟨w.heap.size + 1, 5, none⟩ = some (.slice b' m cc') := by
    rw [hW0]
    have := box_new (w.alloc (.cells #[.int .i64 k, .int .i64 d, .int .i64 wd, .int .i64 hi, .slice a n c, .slice b m cc] 26)) (.int .i64 k) (.int .i64 d) (.int .i64 wd) (.int .i64 hi) (.slice a' n c') (.slice b' m cc') 26
    rw [World.size_alloc] at this; exact this
  obtain ⟨p0, p1, p2, p3, p4, p5⟩ := b0
  obtain ⟨q0, q1, q2, q3, q4, q5⟩ := b1
  have HB : Hid (Below w.heap.size w W0) := hB0
  clear h1 h2 h3 h4 hn hm hB0
  go_enter Try.func20, Try.ntmps20
  go_upto_region 1 with fail
  rw [← hW0]
  clear hW0
  go_wp2_with fail
  refine (HC.out _ (HI.out _ (Below.refl _ _)).1 (HI.out _ (Below.refl _ _)).2.2.1).mono ?_
  rintro e w1 ⟨rfl, m1, hw1⟩
  subst hw1
  go_wp2_with fail
  refine (HP.out _ (HI.out _ (drewN_low _ _)).2.1 (HI.out _ (drewN_low _ _)).2.2.2).mono ?_
  rintro e w2 ⟨rfl, m2, hw2⟩
  subst hw2
  go_wp2_with fail
  go_ret
  exact ⟨rfl, HB.out.trans ((drewN_low _ _).mono HB.out.size)⟩

/-- a picture in a box, its lists in memory -/
structure PB (w : World) (B : Nat) (k d wd hi : Int) (a : Option Addr) (n c : Nat) (cs : List Int) (b : Option Addr) (m cc : Nat) (ps : List Int) : Prop where
  lt : B < w.heap.size
  box : w.cell? ⟨B, 0, none⟩ = some (.int .i64 k) ∧ w.cell? ⟨B, 1, none⟩ = some (.int .i64 d) ∧ w.cell? ⟨B, 2, none⟩ = some (.int .i64 wd) ∧ w.cell? ⟨B, 3, none⟩ = some (.int .i64 hi) ∧ w.cell? ⟨B, 4, none⟩ = some (.slice a n c) ∧ w.cell? ⟨B, 5, none⟩ = some (.slice b m cc)
  i4 : Ints w a cs
  i5 : Ints w b ps
theorem PB.kept {w w' : World} {B n c m cc : Nat} {k d wd hi : Int} {a b : Option Addr} {cs ps : List Int} (h : PB w B k d wd hi a n c cs b m cc ps) (g : Below w.heap.size w w') : PB w' B k d wd hi a n c cs b m cc ps :=
  ⟨Nat.lt_of_lt_of_le h.lt g.size, box_kept h.box g h.lt, h.i4.kept g, h.i5.kept g⟩
theorem pb_new {w : World} {n c m cc : Nat} {k d wd hi : Int} {a b : Option Addr} {cs ps : List Int} (h4 : Ints w a cs) (h5 : Ints w b ps) : PB (w.alloc (.cells #[.int .i64 k, .int .i64 d, .int .i64 wd, .int .i64 hi, .slice a n c, .slice b m cc] 26)) w.heap.size k d wd hi a n c cs b m cc ps :=
  ⟨by simp, box_new w _ _ _ _ _ _ _, h4.kept ((Below.refl _ _).alloc (Nat.le_refl _) _), h5.kept ((Below.refl _ _).alloc (Nat.le_refl _) _)⟩
end Go.Proofs.Ytjiogneidioknaa

/- ImageColor of the program, for every picture and place. -/
namespace Go.Proofs.Ytjiogneidioknaa
open Go.RowKit

end Go.Proofs.Ytjiogneidioknaa

/- The law on pictures made of red, green and blue, walked. -/
namespace Go.Proofs.Ytjiogneidioknaa
open Go.RowKit

theorem pair_ints {w : World} {lo : Nat} {x y : Option Addr} {cs ps : List Int} (h : Pair2 w lo x cs y ps) : Ints w x cs ∧ Ints w y ps := by
  obtain ⟨m, _, h2, _, h4⟩ := h
  exact ⟨h2.ints, h4.ints⟩
theorem dense_snoc (l : List Int) (c : Int) : denseB (l ++ [c]) = (denseB l && (c % 256 == 255)) := by unfold denseB; rw [List.all_append]; simp
theorem dense_take {l : List Int} (h : denseB l = true) (j : Nat) : denseB (l.take j) = true := by
  unfold denseB at *
  rw [List.all_eq_true] at *
  exact fun x hx => h x (List.mem_of_mem_take hx)
theorem cols_bares {l : List Int} (h0 : ∀ c ∈ l, 0 ≤ c) (h : denseB l = true) : cols 2 24 [] (bares l) = l := by
  unfold denseB at h
  rw [List.all_eq_true] at h
  unfold cols bares
  rw [List.map_map]
  conv => rhs; rw [← List.map_id l]
  refine List.map_congr_left (fun c hc => ?_)
  have h1 := h c hc
  have h2 := h0 c hc
  simp at h1
  have e : colOf 2 24 [] (c / 256) = c / 256 * 256 + 255 := by unfold colOf; rw [if_neg (by decide), if_pos rfl]
  show colOf 2 24 [] (c / 256) = c
  rw [e]
  omega
theorem col_pos {k wd hi : Int} {D : Nat} {cs ps : List Int} (hok : Im.Ok k (D : Int) wd hi cs ps) {c : Int} (hc : c ∈ cols k D cs ps) : 0 ≤ c := by
  unfold cols at hc
  obtain ⟨p, hp, rfl⟩ := List.mem_map.1 hc
  exact (col_bounds hok hp).1
theorem rgb_okX {k : Int} {D Wd Hi : Nat} {cs ps : List Int} (hok : Im.Ok k (D : Int) (Wd : Int) (Hi : Int) cs ps) : Im.okB 2 24 Wd Hi [] (bares (cols k D cs ps)) = true := by
  refine Im.okB_yes ⟨by simp [depL], hok.2.1, hok.2.2.1, ⟨fun _ => rfl, fun h => absurd h (by decide)⟩, ?_, ?_⟩
  · rw [bares_len, cols_len]; exact hok.2.2.2.2.1
  · intro z hz
    unfold bares cols at hz
    rw [List.map_map] at hz
    obtain ⟨p, hp, rfl⟩ := List.mem_map.1 hz
    have hb := col_bounds hok hp
    show 0 ≤ colOf k D cs p / 256 ∧ colOf k D cs p / 256 ≤ Im.most 2 24 []
    unfold Im.most
    rw [if_neg (by decide)]
    refine ⟨by omega, ?_⟩
    have : ((2 ^ (24 : Int).toNat : Nat) : Int) = 16777216 := by decide
    omega
theorem split_at' {Wd Hi j : Nat} (h : j < Wd * Hi) : ∃ u v, u < Wd ∧ v < Hi ∧ j = v * Wd + u := by
  have hW : 0 < Wd := by rcases Nat.eq_zero_or_pos Wd with h0 | h0; · rw [h0, Nat.zero_mul] at h; omega
                         · exact h0
  refine ⟨j % Wd, j / Wd, Nat.mod_lt _ hW, ?_, ?_⟩
  · exact (Nat.div_lt_iff_lt_mul hW).2 (by rw [Nat.mul_comm]; exact h)
  · rw [Nat.mul_comm]; exact (Nat.div_add_mod j Wd).symm

end Go.Proofs.Ytjiogneidioknaa

/- A picture that was made one of a list of colours is ok, looks as it did, and is made the same again. -/
namespace Go.Proofs.Ytjiogneidioknaa
open Go.RowKit

theorem pal_solid (D : Nat) (L : List Int) : cols 4 D (palList L) (palPix L) = cols 2 24 [] L := by
  unfold cols palPix
  rw [List.map_map]
  refine List.map_congr_left (fun x hx => ?_)
  have hm := (mem_palList L x).2 hx
  have h1 : colOf 4 D (palList L) ((palAt (palList L) x : Nat) : Int) = (palList L).getD (palAt (palList L) x) 0 * 256 + 255 := by
    unfold colOf; rw [if_neg (by decide), if_neg (by decide), if_pos rfl, Int.toNat_natCast]
  have h2 : colOf 2 24 [] x = x * 256 + 255 := by unfold colOf; rw [if_neg (by decide), if_pos rfl]
  show colOf 4 D (palList L) ((palAt (palList L) x : Nat) : Int) = colOf 2 24 [] x
  rw [h1, h2, List.getD_eq_getElem?_getD, palAt_get hm]; rfl

theorem palDepth_in {n : Nat} (h : n ≤ 256) : (palDepth n : Int) ∈ depL 4 ∧ n ≤ 2 ^ palDepth n ∧ (palDepth n = 1 ∨ (palDepth n / 2 ≤ 4 ∧ 2 ^ (palDepth n / 2) < n)) := by
  unfold palDepth
  by_cases h1 : n ≤ 2
  · rw [if_pos h1]; exact ⟨by simp [depL], by omega, .inl rfl⟩
  · rw [if_neg h1]
    by_cases h2 : n ≤ 4
    · rw [if_pos h2]; exact ⟨by simp [depL], by omega, .inr ⟨by decide, by simp; omega⟩⟩
    · rw [if_neg h2]
      by_cases h3 : n ≤ 16
      · rw [if_pos h3]; exact ⟨by simp [depL], by omega, .inr ⟨by decide, by simp; omega⟩⟩
      · rw [if_neg h3, if_pos h]; exact ⟨by simp [depL], by omega, .inr ⟨by decide, by simp; omega⟩⟩

theorem pal_ok {Wd Hi : Nat} {L : List Int} (hW : 1 ≤ Wd ∧ Wd ≤ 20) (hH : 1 ≤ Hi ∧ Hi ≤ 20) (hl : L.length = Wd * Hi) (hb : ∀ v ∈ L, 0 ≤ v ∧ v ≤ 16777215) (hn : (palList L).length ≤ 256) :
    Im.okB 4 (palDepth (palList L).length : Int) (Wd : Int) (Hi : Int) (palList L) (palPix L) = true := by
  obtain ⟨hd, hp, _⟩ := palDepth_in hn
  have hne : 1 ≤ (palList L).length := by
    have : 0 < L.length := by rw [hl]; exact Nat.mul_pos (by omega) (by omega)
    have hm : L[0] ∈ palList L := (mem_palList L _).2 (List.getElem_mem this)
    exact Nat.pos_of_ne_zero (fun e => by rw [List.length_eq_zero_iff] at e; rw [e] at hm; cases hm)
  refine Im.okB_yes ⟨hd, by omega, by omega, ?_, ?_, ?_⟩
  · refine ⟨fun h => absurd rfl h, fun _ => ⟨?_, ?_, ?_⟩⟩
    · first | exact hne | omega
    · first | (rw [Int.toNat_natCast]; exact hp) | omega
    · exact fun v hv => hb v ((mem_palList L v).1 hv)
  · rw [palPix_len, hl]; simp
  · intro z hz
    have := palPix_lt L hz
    unfold Im.most
    rw [if_pos rfl]
    omega

/-- all that is known of such a picture -/
theorem pal_back {k d wd hi : Int} {cs ps : List Int} (hB : plB k d wd hi cs ps = true) :
    ∃ (Wd Hi nC m D : Nat) (CS PS : List Int), wd = (Wd : Int) ∧ hi = (Hi : Int) ∧ plC k d wd hi cs ps = CS ∧ plP k d wd hi cs ps = PS ∧ plD k d wd hi cs ps = (D : Int) ∧ CS.length = nC ∧ PS.length = m ∧ nC ≤ 256 ∧ m ≤ 400 ∧ CS.Nodup ∧
      Im.okB 4 (D : Int) (Wd : Int) (Hi : Int) CS PS = true ∧ likeB 4 (D : Int) (Wd : Int) (Hi : Int) CS PS k d (Wd : Int) (Hi : Int) cs ps = true ∧
      (plB 4 (D : Int) (Wd : Int) (Hi : Int) CS PS = true ∧ plC 4 (D : Int) (Wd : Int) (Hi : Int) CS PS = CS ∧ plP 4 (D : Int) (Wd : Int) (Hi : Int) CS PS = PS ∧ plD 4 (D : Int) (Wd : Int) (Hi : Int) CS PS = (D : Int)) ∧
      D ≤ 8 ∧ (D = 1 ∨ (D / 2 ≤ 4 ∧ 2 ^ (D / 2) < nC)) := by
  have hB' := hB
  unfold plB at hB
  rw [Bool.and_eq_true, decide_eq_true_eq] at hB
  obtain ⟨hr, hn⟩ := hB
  obtain ⟨Wd, Hi, rfl, rfl, hW, hH, hl, hb, hW1, hH1⟩ := rg_all hr
  obtain ⟨_, hC, hP, _⟩ := pl_yes hr hn
  have hr' := hr
  unfold rgB at hr
  rw [Bool.and_eq_true] at hr
  have hOk := Im.okB_open hr.1
  obtain ⟨D0, rfl, _, _⟩ := Im.dep_all hOk.1
  rw [Int.toNat_natCast] at hr
  obtain ⟨_, hL, _⟩ := rg_yes hr.1 hr.2
  obtain ⟨L, hLe⟩ : ∃ L, L = rgL k (D0 : Int) (Wd : Int) (Hi : Int) cs ps := ⟨_, rfl⟩
  rw [← hLe] at hn hl hb hC hP hL
  have hD : plD k (D0 : Int) (Wd : Int) (Hi : Int) cs ps = (palDepth (palList L).length : Int) := by unfold plD; rw [← hLe]
  have hok := pal_ok ⟨hW1, hW⟩ ⟨hH1, hH⟩ hl hb hn
  have hcol : cols 4 (palDepth (palList L).length) (palList L) (palPix L) = cols k D0 cs ps := by
    rw [pal_solid, hL]
    exact cols_bares (fun c hc => col_pos hOk hc) hr.2
  have hlike : likeB 4 (palDepth (palList L).length : Int) (Wd : Int) (Hi : Int) (palList L) (palPix L) k (D0 : Int) (Wd : Int) (Hi : Int) cs ps = true := by
    rw [like_yes hok hr.1, hcol]; simp
  have hdn : denseB (cols 4 (palDepth (palList L).length) (palList L) (palPix L)) = true := by rw [hcol]; exact hr.2
  obtain ⟨qB, qL, _⟩ := rg_yes hok hdn
  rw [hcol, ← hL] at qL
  have hn2 : (palList (rgL 4 (palDepth (palList L).length : Int) (Wd : Int) (Hi : Int) (palList L) (palPix L))).length ≤ 256 := by rw [qL]; exact hn
  obtain ⟨pB, pC, pP, _⟩ := pl_yes qB hn2
  rw [qL] at pC pP
  have pD : plD 4 (palDepth (palList L).length : Int) (Wd : Int) (Hi : Int) (palList L) (palPix L) = (palDepth (palList L).length : Int) := by unfold plD; rw [qL]
  have hmul := Nat.mul_le_mul hW hH
  exact ⟨Wd, Hi, (palList L).length, L.length, palDepth (palList L).length, palList L, palPix L, rfl, rfl, hC, hP, hD, rfl, palPix_len L, hn, by omega, palList_nodup L, hok, hlike, ⟨pB, pC, pP, pD⟩, palDepth_small hn, (palDepth_in hn).2.2⟩
end Go.Proofs.Ytjiogneidioknaa

/- ImageAt of both sides, for every picture and place. -/
namespace Go.Proofs.Ytjiogneidioknaa
open Go.RowKit
namespace Im
/-- whether a point is there -/
noncomputable def atB (k d wd hi x y : Int) (cs ps : List Int) : Bool := okB k d wd hi cs ps && inB x y wd hi
/-- which it is -/
noncomputable def atV (k d wd hi x y : Int) (cs ps : List Int) : Int := if atB k d wd hi x y cs ps = true then ps.getD (y * wd + x).toNat 0 else 0
theorem at_no {k d wd hi x y : Int} {cs ps : List Int} (h : atB k d wd hi x y cs ps = false) : atV k d wd hi x y cs ps = 0 := by unfold atV; rw [h]; rfl
theorem at_yes {k d wd hi x y : Int} {cs ps : List Int} (h : atB k d wd hi x y cs ps = true) {pn I X Y Wd : Nat} (g : Spot wd hi x y pn I X Y Wd) : atV k d wd hi x y cs ps = ps.getD I 0 := by
  unfold atV; rw [if_pos h, g.x, g.y, g.wd, g.i]
  congr 1
theorem ok_of {k d wd hi : Int} {cs ps : List Int} (h : okB k d wd hi cs ps = true) : Ok k d wd hi cs ps := @of_decide_eq_true _ (Classical.propDecidable _) h
end Im

end Go.Proofs.Ytjiogneidioknaa

/- Lists of points (mathematics), and a point of a picture. -/
namespace Go.Proofs.Ytjiogneidioknaa
open Go.RowKit

theorem upto_getD (F : Nat → Int) {n j : Nat} (h : j < n) : (upto F n).getD j 0 = F j := by simp [upto, h]
theorem spot_lt {Wd Hi x y : Nat} (hx : x < Wd) (hy : y < Hi) : y * Wd + x < Wd * Hi := by
  have := Nat.mul_le_mul_right Wd (show y + 1 ≤ Hi by omega)
  rw [Nat.add_mul, Nat.one_mul, Nat.mul_comm Hi Wd] at this; omega
theorem split_at {Wd Hi j : Nat} (h : j < Wd * Hi) : ∃ x y, x < Wd ∧ y < Hi ∧ j = y * Wd + x := by
  have hW : 0 < Wd := by
    rcases Nat.eq_zero_or_pos Wd with e | e
    · subst e; omega
    · exact e
  refine ⟨j % Wd, j / Wd, Nat.mod_lt _ hW, ?_, ?_⟩
  · exact Nat.div_lt_of_lt_mul h
  · have := Nat.div_add_mod j Wd; rw [Nat.mul_comm] at this; omega
theorem getD_of {l : List Int} {j : Nat} (h : j < l.length) : l[j] = l.getD j 0 := by
  rw [List.getD_eq_getElem?_getD, List.getElem?_eq_getElem h]; rfl
theorem mem_getD {l : List Int} {j : Nat} (h : j < l.length) : l.getD j 0 ∈ l := by rw [← getD_of h]; exact List.getElem_mem h

theorem ints_cells {w : World} {a : Option Addr} {l : List Int} (h : Ints w a l) (hl : 0 < l.length) : ∃ b off, a = some ⟨b, off, none⟩ ∧ ∀ k, k < l.length → w.cell? ⟨b, off + k, none⟩ = some (.int .i64 (l.getD k 0)) := by
  rcases h with e | ⟨b, off, rfl, _, hc⟩
  · rw [e] at hl; simp at hl
  · exact ⟨b, off, rfl, fun k hk => by rw [hc k hk, List.getD_eq_getElem?_getD, List.getElem?_eq_getElem hk]; rfl⟩
end Go.Proofs.Ytjiogneidioknaa

/- The law on pictures made of a list of colours, walked. -/
namespace Go.Proofs.Ytjiogneidioknaa
open Go.RowKit

set_option maxHeartbeats 1000000 in
theorem wiPow_any (n : Nat) (w : World) (hn : n ≤ 20) :
    Calls Try.prog 22 #[.int .i64 (n : Int)] w fun e w' => e = .returned (.int .i64 ((2 ^ n : Nat) : Int)) ∧ w' = w := by
  go_enter Try.func22, Try.ntmps22
  go_wp2_with fail
  go_loop [3, 4] (fun x i => ∃ k y : Nat, k ≤ n ∧ i = .int .i64 (k : Int) ∧ Hid (y = 2 ^ k) ∧ y ≤ 1048576 ∧ x = .int .i64 (y : Int)) (fun _ i => n - (intOf i).toNat)
  case atStart => exact ⟨0, 1, Nat.zero_le _, rfl, rfl, by omega, rfl⟩
  case round =>
    obtain ⟨k, y, hk, rfl, HY, hy, rfl⟩ := hrel
    by_cases hlt : k < n
    · have hki : (k : Int) < (n : Int) := by omega
      have hk60 : (k : Int) < 60 := by omega
      have hk60d : decide ((k : Int) < 60) = true := by simp; omega
      have HY2 : Hid (y * 2 = 2 ^ (k + 1)) := by show _ = _; rw [Nat.pow_succ, HY.out]
      have hb : y * 2 ≤ 1048576 := by
        rw [HY2.out]
        exact Nat.le_trans (Nat.pow_le_pow_right (by omega) (show k + 1 ≤ 20 by omega)) (by decide)
      go_wp2_with fail
      go_round
      case rel => exact ⟨k + 1, y * 2, by omega, by go_num, HY2, hb, by go_num⟩
      case measure => simp [intOf]; omega
    · have hki : ¬ (k : Int) < (n : Int) := by omega
      obtain rfl : k = n := by omega
      have hkd : decide ((k : Int) < (k : Int)) = false := by simp
      go_wp2_with fail
      go_ret
      exact ⟨by rw [HY.out]; rfl, rfl⟩
set_option linter.unusedSimpArgs false in
set_option maxHeartbeats 8000000 in
set_option maxRecDepth 20000 in
theorem lawImagePal (ra : Option Addr) (len cap : Nat) (w : World) (h : Code8 w ra len cap) :
    Calls Try.prog 5 #[.slice ra len cap] w fun e w' => e = .returned (.bool true) ∧ Below w.heap.size w w' := by
  by_cases hbig : 1048576 < len
  · have hc := h.2.1
    have hc1 := h.1
    unfold maxLen at hc
    clear h
    go_enter Try.func5, Try.ntmps5
    go_wp2_with fail
    go_ret
    exact ⟨rfl, Below.refl _ _⟩
  · go_enter Try.func5, Try.ntmps5
    go_wp2_with fail
    refine (drawImagePal_any ra len cap w h).mono ?_
    rintro e w1 ⟨⟨k, d, wd, hi, a, n, c, cs, b, m, cc, ps, rfl, i4, l4, l4', k4, i5, l5, l5', k5, bd⟩, b1⟩
    clear h
    rcases hB : plB k d wd hi cs ps with _ | _
    · have hC : plC k d wd hi cs ps = [] := by unfold plC; rw [hB]; rfl
      have hP : plP k d wd hi cs ps = [] := by unfold plP; rw [hB]; rfl
      have hK : ∀ v, plK k d wd hi cs ps v = 0 := fun v => by unfold plK; rw [hB]; rfl
      have HIP : Hid (∀ w1 : World, Ints w1 a cs → Ints w1 b ps → Calls Try.prog 9 #[.agg #[.int .i64 k, .int .i64 d, .int .i64 wd, .int .i64 hi, .slice a n c, .slice b m cc]] w1 fun e w' => (∃ x cx y cy, e = .returned (.tuple #[.agg #[.int .i64 0, .int .i64 0, .int .i64 0, .int .i64 0, .slice x 0 cx, .slice y 0 cy], .bool false]) ∧ Ints w' x [] ∧ Ints w' y []) ∧ Below w1.heap.size w1 w') := fun w1 g1 g2 => by
        refine (impl_pal k d wd hi a n c b m cc cs ps w1 g1 l4 (by omega) g2 l5 (by omega)).mono ?_
        rintro e w' ⟨⟨x, cx, y, cy, rfl, hQ⟩, b⟩
        rw [hC, hP] at hQ
        exact ⟨⟨x, cx, y, cy, by rw [hB, hK, hK, hK, hK, hC, hP]; rfl, pair_ints hQ⟩, b⟩
      have HSP : Hid (∀ w1 : World, Ints w1 a cs → Ints w1 b ps → Calls Try.prog 7 #[.agg #[.int .i64 k, .int .i64 d, .int .i64 wd, .int .i64 hi, .slice a n c, .slice b m cc]] w1 fun e w' => (∃ x cx y cy, e = .returned (.tuple #[.agg #[.int .i64 0, .int .i64 0, .int .i64 0, .int .i64 0, .slice x 0 cx, .slice y 0 cy], .bool false]) ∧ Ints w' x [] ∧ Ints w' y []) ∧ Below w1.heap.size w1 w') := fun w1 g1 g2 => by
        refine (spec_pal k d wd hi a n c b m cc cs ps w1 g1 l4 (by omega) g2 l5 (by omega)).mono ?_
        rintro e w' ⟨⟨x, cx, y, cy, rfl, h1, h2⟩, b⟩
        rw [hC] at h1
        rw [hP] at h2
        exact ⟨⟨x, cx, y, cy, by rw [hB, hK, hK, hK, hK, hC, hP]; rfl, h1, h2⟩, b⟩
      have HWI : Hid (∀ (x : Option Addr) (cx : Nat) (y : Option Addr) (cy : Nat) (x2 : Option Addr) (cx2 : Nat) (y2 : Option Addr) (cy2 : Nat) (w1 : World), Ints w1 x [] → Ints w1 y [] → Ints w1 x2 [] → Ints w1 y2 [] → Calls Try.prog 20 #[.agg #[.int .i64 0, .int .i64 0, .int .i64 0, .int .i64 0, .slice x 0 cx, .slice y 0 cy], .agg #[.int .i64 0, .int .i64 0, .int .i64 0, .int .i64 0, .slice x2 0 cx2, .slice y2 0 cy2]] w1 fun e w' => e = .returned (.bool true) ∧ Below w1.heap.size w1 w') := fun x cx y cy x2 cx2 y2 cy2 w1 => wiImage_same 0 0 0 0 0 0 [] [] rfl rfl (by omega) (by omega) x cx y cy x2 cx2 y2 cy2 w1
      clear hC hP hK
      have M1 : Hid (PB (w1.alloc (.cells #[.int .i64 k, .int .i64 d, .int .i64 wd, .int .i64 hi, .slice a n c, .slice b m cc] 26)) w1.heap.size k d wd hi a n c cs b m cc ps) := pb_new i4.ints i5.ints
      have B1 : Hid (Below w.heap.size w (w1.alloc (.cells #[.int .i64 k, .int .i64 d, .int .i64 wd, .int .i64 hi, .slice a n c, .slice b m cc] 26))) := b1.alloc b1.size _
      clear i4 i5 l4 l5 l4' l5' k4 k5 bd b1 hB
      go_wp2_with fail
      refine (HIP.out _ M1.out.i4 M1.out.i5).mono ?_
      rintro e w2 ⟨⟨x, cx, y, cy, rfl, gx, gy⟩, b2⟩
      generalize w1.heap.size = MB at *
      have M2 : Hid (PB (w2.alloc (.cells #[.int .i64 0, .int .i64 0, .int .i64 0, .int .i64 0, .slice x 0 cx, .slice y 0 cy] 26)) MB k d wd hi a n c cs b m cc ps) := (M1.out.kept b2).kept ((Below.refl _ _).alloc (Nat.le_refl _) _)
      have X2 : Hid (PB (w2.alloc (.cells #[.int .i64 0, .int .i64 0, .int .i64 0, .int .i64 0, .slice x 0 cx, .slice y 0 cy] 26)) w2.heap.size 0 0 0 0 x 0 cx [] y 0 cy []) := pb_new gx gy
      have B2 : Hid (Below w.heap.size w (w2.alloc (.cells #[.int .i64 0, .int .i64 0, .int .i64 0, .int .i64 0, .slice x 0 cx, .slice y 0 cy] 26))) := (B1.out.trans (b2.mono B1.out.size)).alloc (Nat.le_trans B1.out.size b2.size) _
      clear b2 M1 B1 HIP gx gy
      go_upto_region 5 with fail
      generalize hW3 : w2.alloc (.cells #[.int .i64 0, .int .i64 0, .int .i64 0, .int .i64 0, .slice x 0 cx, .slice y 0 cy] 26) = W3 at *
      clear hW3
      generalize w2.heap.size = XB at *
      obtain ⟨m20, m21, m22, m23, m24, m25⟩ := M2.out.box
      go_wp2_with fail
      refine (HSP.out _ M2.out.i4 M2.out.i5).mono ?_
      rintro e w3 ⟨⟨x2, cx2, y2, cy2, rfl, gx, gy⟩, b3⟩
      have M3 : Hid (PB (w3.alloc (.cells #[.int .i64 0, .int .i64 0, .int .i64 0, .int .i64 0, .slice x2 0 cx2, .slice y2 0 cy2] 26)) MB k d wd hi a n c cs b m cc ps) := (M2.out.kept b3).kept ((Below.refl _ _).alloc (Nat.le_refl _) _)
      have X3 : Hid (PB (w3.alloc (.cells #[.int .i64 0, .int .i64 0, .int .i64 0, .int .i64 0, .slice x2 0 cx2, .slice y2 0 cy2] 26)) XB 0 0 0 0 x 0 cx [] y 0 cy []) := (X2.out.kept b3).kept ((Below.refl _ _).alloc (Nat.le_refl _) _)
      have Y3 : Hid (PB (w3.alloc (.cells #[.int .i64 0, .int .i64 0, .int .i64 0, .int .i64 0, .slice x2 0 cx2, .slice y2 0 cy2] 26)) w3.heap.size 0 0 0 0 x2 0 cx2 [] y2 0 cy2 []) := pb_new gx gy
      have B3 : Hid (Below w.heap.size w (w3.alloc (.cells #[.int .i64 0, .int .i64 0, .int .i64 0, .int .i64 0, .slice x2 0 cx2, .slice y2 0 cy2] 26))) := (B2.out.trans (b3.mono B2.out.size)).alloc (Nat.le_trans B2.out.size b3.size) _
      clear b3 M2 X2 B2 HSP gx gy m20 m21 m22 m23 m24 m25
      go_upto_region 6 with fail
      generalize hW4 : w3.alloc (.cells #[.int .i64 0, .int .i64 0, .int .i64 0, .int .i64 0, .slice x2 0 cx2, .slice y2 0 cy2] 26) = W4 at *
      clear hW4
      generalize w3.heap.size = YB at *
      obtain ⟨x30, x31, x32, x33, x34, x35⟩ := X3.out.box
      obtain ⟨y30, y31, y32, y33, y34, y35⟩ := Y3.out.box
      go_wp2_with fail
      refine (HWI.out x cx y cy x2 cx2 y2 cy2 _ X3.out.i4 X3.out.i5 Y3.out.i4 Y3.out.i5).mono ?_
      rintro e w4 ⟨rfl, b4⟩
      have M4 : Hid (PB w4 MB k d wd hi a n c cs b m cc ps) := M3.out.kept b4
      have X4 : Hid (PB w4 XB 0 0 0 0 x 0 cx [] y 0 cy []) := X3.out.kept b4
      have Y4 : Hid (PB w4 YB 0 0 0 0 x2 0 cx2 [] y2 0 cy2 []) := Y3.out.kept b4
      have B4 : Hid (Below w.heap.size w w4) := B3.out.trans (b4.mono B3.out.size)
      clear b4 M3 X3 Y3 B3 x30 x31 x32 x33 x34 x35 y30 y31 y32 y33 y34 y35
      obtain ⟨x40, x41, x42, x43, x44, x45⟩ := X4.out.box
      obtain ⟨y40, y41, y42, y43, y44, y45⟩ := Y4.out.box
      go_wp2_with fail
      refine (HWI.out x cx y cy x2 cx2 y2 cy2 _ X4.out.i4 X4.out.i5 Y4.out.i4 Y4.out.i5).mono ?_
      rintro e w5 ⟨rfl, b5⟩
      have B5 : Hid (Below w.heap.size w w5) := B4.out.trans (b5.mono B4.out.size)
      clear b5 M4 X4 Y4 B4 HWI x40 x41 x42 x43 x44 x45 y40 y41 y42 y43 y44 y45
      go_wp2_with fail
      go_ret
      exact ⟨rfl, B5.out⟩
    · obtain ⟨Wd, Hi, nC, mP, D, CS, PS, rfl, rfl, hC, hP, hD, hnC, hmP, hnb, hmb, hnod, hokX, hlike, ⟨qB, qC, qP, qD⟩, hD8, hDD⟩ := pal_back hB
      have hK : ∀ v, plK k d (Wd : Int) (Hi : Int) cs ps v = v := fun v => by unfold plK; rw [hB]; rfl
      have qK : ∀ v, plK 4 (D : Int) (Wd : Int) (Hi : Int) CS PS v = v := fun v => by unfold plK; rw [qB]; rfl
      have HIP : Hid (∀ w1 : World, Ints w1 a cs → Ints w1 b ps → Calls Try.prog 9 #[.agg #[.int .i64 k, .int .i64 d, .int .i64 (Wd : Int), .int .i64 (Hi : Int), .slice a n c, .slice b m cc]] w1 fun e w' => (∃ x cx y cy, e = .returned (.tuple #[.agg #[.int .i64 4, .int .i64 (D : Int), .int .i64 (Wd : Int), .int .i64 (Hi : Int), .slice x nC cx, .slice y mP cy], .bool true]) ∧ Ints w' x CS ∧ Ints w' y PS) ∧ Below w1.heap.size w1 w') := fun w1 g1 g2 => by
        refine (impl_pal k d (Wd : Int) (Hi : Int) a n c b m cc cs ps w1 g1 l4 (by omega) g2 l5 (by omega)).mono ?_
        rintro e w' ⟨⟨x, cx, y, cy, rfl, hQ⟩, b⟩
        rw [hC, hP] at hQ
        exact ⟨⟨x, cx, y, cy, by rw [hB, hK, hK, hK, hK, hC, hP, hD, hnC, hmP], pair_ints hQ⟩, b⟩
      have HSP : Hid (∀ w1 : World, Ints w1 a cs → Ints w1 b ps → Calls Try.prog 7 #[.agg #[.int .i64 k, .int .i64 d, .int .i64 (Wd : Int), .int .i64 (Hi : Int), .slice a n c, .slice b m cc]] w1 fun e w' => (∃ x cx y cy, e = .returned (.tuple #[.agg #[.int .i64 4, .int .i64 (D : Int), .int .i64 (Wd : Int), .int .i64 (Hi : Int), .slice x nC cx, .slice y mP cy], .bool true]) ∧ Ints w' x CS ∧ Ints w' y PS) ∧ Below w1.heap.size w1 w') := fun w1 g1 g2 => by
        refine (spec_pal k d (Wd : Int) (Hi : Int) a n c b m cc cs ps w1 g1 l4 (by omega) g2 l5 (by omega)).mono ?_
        rintro e w' ⟨⟨x, cx, y, cy, rfl, h1, h2⟩, b⟩
        rw [hC] at h1
        rw [hP] at h2
        exact ⟨⟨x, cx, y, cy, by rw [hB, hK, hK, hK, hK, hC, hP, hD, hnC, hmP], h1, h2⟩, b⟩
      have HWI : Hid (∀ (x : Option Addr) (cx : Nat) (y : Option Addr) (cy : Nat) (x2 : Option Addr) (cx2 : Nat) (y2 : Option Addr) (cy2 : Nat) (w1 : World), Ints w1 x CS → Ints w1 y PS → Ints w1 x2 CS → Ints w1 y2 PS → Calls Try.prog 20 #[.agg #[.int .i64 4, .int .i64 (D : Int), .int .i64 (Wd : Int), .int .i64 (Hi : Int), .slice x nC cx, .slice y mP cy], .agg #[.int .i64 4, .int .i64 (D : Int), .int .i64 (Wd : Int), .int .i64 (Hi : Int), .slice x2 nC cx2, .slice y2 mP cy2]] w1 fun e w' => e = .returned (.bool true) ∧ Below w1.heap.size w1 w') := fun x cx y cy x2 cx2 y2 cy2 w1 => wiImage_same 4 (D : Int) (Wd : Int) (Hi : Int) nC mP CS PS hnC hmP (by omega) (by omega) x cx y cy x2 cx2 y2 cy2 w1
      have HIA : Hid (∀ (x : Option Addr) (cx : Nat) (y : Option Addr) (cy : Nat) (w1 : World), Ints w1 x CS → Ints w1 y PS → Calls Try.prog 9 #[.agg #[.int .i64 4, .int .i64 (D : Int), .int .i64 (Wd : Int), .int .i64 (Hi : Int), .slice x nC cx, .slice y mP cy]] w1 fun e w' => (∃ x cx y cy, e = .returned (.tuple #[.agg #[.int .i64 4, .int .i64 (D : Int), .int .i64 (Wd : Int), .int .i64 (Hi : Int), .slice x nC cx, .slice y mP cy], .bool true]) ∧ Ints w' x CS ∧ Ints w' y PS) ∧ Below w1.heap.size w1 w') := fun x cx y cy w1 g1 g2 => by
        refine (impl_pal 4 D Wd Hi x nC cx y mP cy CS PS w1 g1 hnC (by omega) g2 hmP (by omega)).mono ?_
        rintro e w' ⟨⟨x, cx, y, cy, rfl, hQ⟩, b⟩
        rw [qC, qP] at hQ
        exact ⟨⟨x, cx, y, cy, by rw [qB, qK, qK, qK, qK, qC, qP, qD, hnC, hmP], pair_ints hQ⟩, b⟩
      have HOX : Hid (∀ (x : Option Addr) (cx : Nat) (y : Option Addr) (cy : Nat) (w1 : World), Ints w1 x CS → Ints w1 y PS → Calls Try.prog 16 #[.agg #[.int .i64 4, .int .i64 (D : Int), .int .i64 (Wd : Int), .int .i64 (Hi : Int), .slice x nC cx, .slice y mP cy]] w1 fun e w' => e = .returned (.bool true) ∧ Below w1.heap.size w1 w') := fun x cx y cy w1 g1 g2 => by
        have := impl_imageOk 4 D Wd Hi x nC cx y mP cy w1 CS PS g1 hnC (by omega) g2 hmP (by omega)
        rw [hokX] at this; exact this
      have HLK : Hid (∀ (x : Option Addr) (cx : Nat) (y : Option Addr) (cy : Nat) (w1 : World), Ints w1 x CS → Ints w1 y PS → Ints w1 a cs → Ints w1 b ps → Calls Try.prog 14 #[.agg #[.int .i64 4, .int .i64 (D : Int), .int .i64 (Wd : Int), .int .i64 (Hi : Int), .slice x nC cx, .slice y mP cy], .agg #[.int .i64 k, .int .i64 d, .int .i64 (Wd : Int), .int .i64 (Hi : Int), .slice a n c, .slice b m cc]] w1 fun e w' => e = .returned (.bool true) ∧ Below w1.heap.size w1 w') := fun x cx y cy w1 g1 g2 g3 g4 => by
        have := impl_like 4 D Wd Hi x nC cx y mP cy k d Wd Hi a n c b m cc CS PS cs ps w1 g1 hnC (by omega) g2 hmP (by omega) g3 l4 (by omega) g4 l5 (by omega)
        rw [hlike] at this; exact this
      have HAP : Hid (∀ j t : Nat, t < j → j < nC → ∃ u v : Int, CS.getD j 0 = u ∧ CS.getD t 0 = v ∧ u ≠ v) := fun j t ht hj => by
        refine ⟨_, _, rfl, rfl, fun e => ?_⟩
        rw [List.getD_eq_getElem?_getD, List.getD_eq_getElem?_getD, List.getElem?_eq_getElem (show j < CS.length by omega), List.getElem?_eq_getElem (show t < CS.length by omega)] at e
        have := (List.getElem_inj hnod).1 e
        omega
      have HCL : Hid (CS.length = nC) := hnC
      have HDD : Hid (D = 1 ∨ (D / 2 ≤ 4 ∧ 2 ^ (D / 2) < nC)) := hDD
      clear hC hP hD hnC hmP hnod hokX hlike qB qC qP qD hDD hK qK
      have M1 : Hid (PB (w1.alloc (.cells #[.int .i64 k, .int .i64 d, .int .i64 (Wd : Int), .int .i64 (Hi : Int), .slice a n c, .slice b m cc] 26)) w1.heap.size k d (Wd : Int) (Hi : Int) a n c cs b m cc ps) := pb_new i4.ints i5.ints
      have B1 : Hid (Below w.heap.size w (w1.alloc (.cells #[.int .i64 k, .int .i64 d, .int .i64 (Wd : Int), .int .i64 (Hi : Int), .slice a n c, .slice b m cc] 26))) := b1.alloc b1.size _
      clear i4 i5 l4 l5 l4' l5' k4 k5 bd b1 hB
      go_wp2_with fail
      refine (HIP.out _ M1.out.i4 M1.out.i5).mono ?_
      rintro e w2 ⟨⟨x, cx, y, cy, rfl, gx, gy⟩, b2⟩
      generalize w1.heap.size = MB at *
      have M2 : Hid (PB (w2.alloc (.cells #[.int .i64 4, .int .i64 (D : Int), .int .i64 (Wd : Int), .int .i64 (Hi : Int), .slice x nC cx, .slice y mP cy] 26)) MB k d (Wd : Int) (Hi : Int) a n c cs b m cc ps) := (M1.out.kept b2).kept ((Below.refl _ _).alloc (Nat.le_refl _) _)
      have X2 : Hid (PB (w2.alloc (.cells #[.int .i64 4, .int .i64 (D : Int), .int .i64 (Wd : Int), .int .i64 (Hi : Int), .slice x nC cx, .slice y mP cy] 26)) w2.heap.size 4 (D : Int) (Wd : Int) (Hi : Int) x nC cx CS y mP cy PS) := pb_new gx gy
      have B2 : Hid (Below w.heap.size w (w2.alloc (.cells #[.int .i64 4, .int .i64 (D : Int), .int .i64 (Wd : Int), .int .i64 (Hi : Int), .slice x nC cx, .slice y mP cy] 26))) := (B1.out.trans (b2.mono B1.out.size)).alloc (Nat.le_trans B1.out.size b2.size) _
      clear b2 M1 B1 HIP gx gy
      go_upto_region 5 with fail
      generalize hW3 : w2.alloc (.cells #[.int .i64 4, .int .i64 (D : Int), .int .i64 (Wd : Int), .int .i64 (Hi : Int), .slice x nC cx, .slice y mP cy] 26) = W3 at *
      clear hW3
      generalize w2.heap.size = XB at *
      obtain ⟨m20, m21, m22, m23, m24, m25⟩ := M2.out.box
      go_wp2_with fail
      refine (HSP.out _ M2.out.i4 M2.out.i5).mono ?_
      rintro e w3 ⟨⟨x2, cx2, y2, cy2, rfl, gx, gy⟩, b3⟩
      have M3 : Hid (PB (w3.alloc (.cells #[.int .i64 4, .int .i64 (D : Int), .int .i64 (Wd : Int), .int .i64 (Hi : Int), .slice x2 nC cx2, .slice y2 mP cy2] 26)) MB k d (Wd : Int) (Hi : Int) a n c cs b m cc ps) := (M2.out.kept b3).kept ((Below.refl _ _).alloc (Nat.le_refl _) _)
      have X3 : Hid (PB (w3.alloc (.cells #[.int .i64 4, .int .i64 (D : Int), .int .i64 (Wd : Int), .int .i64 (Hi : Int), .slice x2 nC cx2, .slice y2 mP cy2] 26)) XB 4 (D : Int) (Wd : Int) (Hi : Int) x nC cx CS y mP cy PS) := (X2.out.kept b3).kept ((Below.refl _ _).alloc (Nat.le_refl _) _)
      have Y3 : Hid (PB (w3.alloc (.cells #[.int .i64 4, .int .i64 (D : Int), .int .i64 (Wd : Int), .int .i64 (Hi : Int), .slice x2 nC cx2, .slice y2 mP cy2] 26)) w3.heap.size 4 (D : Int) (Wd : Int) (Hi : Int) x2 nC cx2 CS y2 mP cy2 PS) := pb_new gx gy
      have B3 : Hid (Below w.heap.size w (w3.alloc (.cells #[.int .i64 4, .int .i64 (D : Int), .int .i64 (Wd : Int), .int .i64 (Hi : Int), .slice x2 nC cx2, .slice y2 mP cy2] 26))) := (B2.out.trans (b3.mono B2.out.size)).alloc (Nat.le_trans B2.out.size b3.size) _
      clear b3 M2 X2 B2 HSP gx gy m20 m21 m22 m23 m24 m25
      go_upto_region 6 with fail
      generalize hW4 : w3.alloc (.cells #[.int .i64 4, .int .i64 (D : Int), .int .i64 (Wd : Int), .int .i64 (Hi : Int), .slice x2 nC cx2, .slice y2 mP cy2] 26) = W4 at *
      clear hW4
      generalize w3.heap.size = YB at *
      obtain ⟨x30, x31, x32, x33, x34, x35⟩ := X3.out.box
      obtain ⟨y30, y31, y32, y33, y34, y35⟩ := Y3.out.box
      go_wp2_with fail
      refine (HWI.out x cx y cy x2 cx2 y2 cy2 _ X3.out.i4 X3.out.i5 Y3.out.i4 Y3.out.i5).mono ?_
      rintro e w4 ⟨rfl, b4⟩
      have M4 : Hid (PB w4 MB k d (Wd : Int) (Hi : Int) a n c cs b m cc ps) := M3.out.kept b4
      have X4 : Hid (PB w4 XB 4 (D : Int) (Wd : Int) (Hi : Int) x nC cx CS y mP cy PS) := X3.out.kept b4
      have Y4 : Hid (PB w4 YB 4 (D : Int) (Wd : Int) (Hi : Int) x2 nC cx2 CS y2 mP cy2 PS) := Y3.out.kept b4
      have B4 : Hid (Below w.heap.size w w4) := B3.out.trans (b4.mono B3.out.size)
      clear b4 M3 X3 Y3 B3 x30 x31 x32 x33 x34 x35 y30 y31 y32 y33 y34 y35
      go_wp2_with fail
      go_loopw [8] (fun i wr => ∃ j : Nat, j ≤ nC ∧ i = .int .i64 (j : Int) ∧ PB wr MB k d (Wd : Int) (Hi : Int) a n c cs b m cc ps ∧ PB wr XB 4 (D : Int) (Wd : Int) (Hi : Int) x nC cx CS y mP cy PS ∧ Below w.heap.size w wr) (fun i _ => nC - (intOf i).toNat)
      case atStart => exact ⟨0, Nat.zero_le _, rfl, M4.out, X4.out, B4.out⟩
      case round =>
        obtain ⟨j, hj, rfl, hM, hX, hB⟩ := hrel
        have M6 : Hid (PB wr MB k d (Wd : Int) (Hi : Int) a n c cs b m cc ps) := hM
        have X6 : Hid (PB wr XB 4 (D : Int) (Wd : Int) (Hi : Int) x nC cx CS y mP cy PS) := hX
        have B6 : Hid (Below w.heap.size w wr) := hB
        clear hM hX hB M4 X4 Y4 B4
        obtain ⟨x60, x61, x62, x63, x64, x65⟩ := X6.out.box
        generalize wr = wo at *
        by_cases hlt : j < nC
        · have hji : (j : Int) < (nC : Int) := by omega
          go_wp2_with fail
          clear x60 x61 x62 x63 x64 x65
          go_loopw [9] (fun q wr => ∃ t : Nat, t ≤ j ∧ q = .int .i64 (t : Int) ∧ PB wr MB k d (Wd : Int) (Hi : Int) a n c cs b m cc ps ∧ PB wr XB 4 (D : Int) (Wd : Int) (Hi : Int) x nC cx CS y mP cy PS ∧ Below w.heap.size w wr) (fun q _ => j - (intOf q).toNat)
          case atStart => exact ⟨0, Nat.zero_le _, rfl, M6.out, X6.out, B6.out⟩
          case round =>
            obtain ⟨t, ht, rfl, hM, hX, hB⟩ := hrel
            have M5 : Hid (PB wr MB k d (Wd : Int) (Hi : Int) a n c cs b m cc ps) := hM
            have X5 : Hid (PB wr XB 4 (D : Int) (Wd : Int) (Hi : Int) x nC cx CS y mP cy PS) := hX
            have B5 : Hid (Below w.heap.size w wr) := hB
            clear hM hX hB M6 X6 B6
            obtain ⟨x50, x51, x52, x53, x54, x55⟩ := X5.out.box
            by_cases htj : t < j
            · have hti : (t : Int) < (j : Int) := by omega
              obtain ⟨u, v, hu, hv, huv⟩ := HAP.out j t htj hlt
              obtain ⟨xb, xo, rfl, hxc⟩ := ints_cells X5.out.i4 (by have := HCL.out; omega)
              have c1 := hxc j (by have := HCL.out; omega)
              have c2 := hxc t (by have := HCL.out; omega)
              rw [hu] at c1
              rw [hv] at c2
              have g1 : (u == v) = false := by rw [beq_eq_false_iff_ne]; exact huv
              have g2 : decide (u = v) = false := by simpa using huv
              have HF : Hid (∀ q, PB (wr.drewN q) MB k d (Wd : Int) (Hi : Int) a n c cs b m cc ps ∧ PB (wr.drewN q) XB 4 (D : Int) (Wd : Int) (Hi : Int) (some ⟨xb, xo, none⟩) nC cx CS y mP cy PS ∧ Below w.heap.size w (wr.drewN q)) := fun q => ⟨M5.out.kept (drewN_low _ _), X5.out.kept (drewN_low _ _), B5.out.trans ((drewN_low _ _).mono B5.out.size)⟩
              clear hxc hu hv M5 X5 B5
              go_wp2_with fail
              go_quiet (fail)
              go_wp2_with fail
              go_roundw
              case rel => exact ⟨t + 1, by omega, by go_num, HF.out nq⟩
              case measure => simp [intOf]; omega
            · obtain rfl : t = j := by omega
              have hti : ¬ (t : Int) < (t : Int) := by omega
              have HF : Hid (PB wr MB k d (Wd : Int) (Hi : Int) a n c cs b m cc ps ∧ PB wr XB 4 (D : Int) (Wd : Int) (Hi : Int) x nC cx CS y mP cy PS ∧ Below w.heap.size w wr) := ⟨M5.out, X5.out, B5.out⟩
              clear M5 X5 B5 x50 x51 x52 x53 x54 x55
              go_wp2_with fail
              go_roundw
              case rel => exact ⟨t + 1, by omega, by go_num, HF.out⟩
              case measure => simp [intOf]; omega
        · have hji : ¬ (j : Int) < (nC : Int) := by omega
          have hjn : nC = j := by omega
          subst hjn
          go_wp2_with fail
          refine (HIA.out x cx y cy _ X6.out.i4 X6.out.i5).mono ?_
          rintro e w7 ⟨⟨x2, cx2, y2, cy2, rfl, gx, gy⟩, b7⟩
          have M7 : Hid (PB (w7.alloc (.cells #[.int .i64 4, .int .i64 (D : Int), .int .i64 (Wd : Int), .int .i64 (Hi : Int), .slice x2 nC cx2, .slice y2 mP cy2] 26)) MB k d (Wd : Int) (Hi : Int) a n c cs b m cc ps) := (M6.out.kept b7).kept ((Below.refl _ _).alloc (Nat.le_refl _) _)
          have X7 : Hid (PB (w7.alloc (.cells #[.int .i64 4, .int .i64 (D : Int), .int .i64 (Wd : Int), .int .i64 (Hi : Int), .slice x2 nC cx2, .slice y2 mP cy2] 26)) XB 4 (D : Int) (Wd : Int) (Hi : Int) x nC cx CS y mP cy PS) := (X6.out.kept b7).kept ((Below.refl _ _).alloc (Nat.le_refl _) _)
          have Y7 : Hid (PB (w7.alloc (.cells #[.int .i64 4, .int .i64 (D : Int), .int .i64 (Wd : Int), .int .i64 (Hi : Int), .slice x2 nC cx2, .slice y2 mP cy2] 26)) w7.heap.size 4 (D : Int) (Wd : Int) (Hi : Int) x2 nC cx2 CS y2 mP cy2 PS) := pb_new gx gy
          have B7 : Hid (Below w.heap.size w (w7.alloc (.cells #[.int .i64 4, .int .i64 (D : Int), .int .i64 (Wd : Int), .int .i64 (Hi : Int), .slice x2 nC cx2, .slice y2 mP cy2] 26))) := (B6.out.trans (b7.mono B6.out.size)).alloc (Nat.le_trans B6.out.size b7.size) _
          clear b7 M6 X6 B6 HIA gx gy x60 x61 x62 x63 x64 x65
          go_upto_region 17 with fail
          generalize hW5 : w7.alloc (.cells #[.int .i64 4, .int .i64 (D : Int), .int .i64 (Wd : Int), .int .i64 (Hi : Int), .slice x2 nC cx2, .slice y2 mP cy2] 26) = W5 at *
          clear hW5
          generalize w7.heap.size = YB at *
          by_cases hD1 : D = 1
          · have e1 : (D : Int) = 1 := by omega
            rw [e1] at X7 Y7 HOX HLK HWI
            rw [e1]
            clear hD1 e1 HDD hD8
            have Md : Hid (PB W5.drew MB k d (Wd : Int) (Hi : Int) a n c cs b m cc ps) := M7.out.kept (Below.refl _ _).drew
            have Xd : Hid (PB W5.drew XB 4 1 (Wd : Int) (Hi : Int) x nC cx CS y mP cy PS) := X7.out.kept (Below.refl _ _).drew
            have Yd : Hid (PB W5.drew YB 4 1 (Wd : Int) (Hi : Int) x2 nC cx2 CS y2 mP cy2 PS) := Y7.out.kept (Below.refl _ _).drew
            have Bd : Hid (Below w.heap.size w W5.drew) := B7.out.drew
            obtain ⟨m70, m71, m72, m73, m74, m75⟩ := M7.out.box
            obtain ⟨x70, x71, x72, x73, x74, x75⟩ := X7.out.box
            obtain ⟨y70, y71, y72, y73, y74, y75⟩ := Y7.out.box
            go_wp2_with fail
            refine wp_region_held_drew (S := fun w' => w'.cell? ⟨MB, 0, none⟩ = some (.int .i64 k) ∧ w'.cell? ⟨MB, 1, none⟩ = some (.int .i64 d) ∧ w'.cell? ⟨MB, 2, none⟩ = some (.int .i64 (Wd : Int)) ∧ w'.cell? ⟨MB, 3, none⟩ = some (.int .i64 (Hi : Int)) ∧ w'.cell? ⟨MB, 4, none⟩ = some (.slice a n c) ∧ w'.cell? ⟨MB, 5, none⟩ = some (.slice b m cc) ∧ w'.cell? ⟨XB, 0, none⟩ = some (.int .i64 4) ∧ w'.cell? ⟨XB, 1, none⟩ = some (.int .i64 1) ∧ w'.cell? ⟨XB, 2, none⟩ = some (.int .i64 (Wd : Int)) ∧ w'.cell? ⟨XB, 3, none⟩ = some (.int .i64 (Hi : Int)) ∧ w'.cell? ⟨XB, 4, none⟩ = some (.slice x nC cx) ∧ w'.cell? ⟨XB, 5, none⟩ = some (.slice y mP cy) ∧ w'.cell? ⟨YB, 0, none⟩ = some (.int .i64 4) ∧ w'.cell? ⟨YB, 1, none⟩ = some (.int .i64 1) ∧ w'.cell? ⟨YB, 2, none⟩ = some (.int .i64 (Wd : Int)) ∧ w'.cell? ⟨YB, 3, none⟩ = some (.int .i64 (Hi : Int)) ∧ w'.cell? ⟨YB, 4, none⟩ = some (.slice x2 nC cx2) ∧ w'.cell? ⟨YB, 5, none⟩ = some (.slice y2 mP cy2)) (by kernel_rfl) ⟨m70, m71, m72, m73, m74, m75, x70, x71, x72, x73, x74, x75, y70, y71, y72, y73, y74, y75⟩ (fun hHeld => ?_)
            refine wpAnyH_take (i := 0) (v := .agg #[.int .i64 4, .int .i64 1, .int .i64 (Wd : Int), .int .i64 (Hi : Int), .slice x nC cx, .slice y mP cy]) rfl (by kernel_rfl) (by kernel_rfl) (by kernel_rfl) (fun _ _ _ h => h) (Or.inl ⟨by rfl, ?_⟩) hHeld ?_
            · intro w' hSw
              obtain ⟨sm0, sm1, sm2, sm3, sm4, sm5, sx0, sx1, sx2, sx3, sx4, sx5, sy0, sy1, sy2, sy3, sy4, sy5⟩ := hSw
              go_simp
            try simp only [List.getElem_toArray, List.getElem_cons_succ, List.getElem_cons_zero, Act.put, List.setIfInBounds_toArray, List.set_cons_zero, List.set_cons_succ]
            refine wpAnyH_ready (rs := [1]) (by kernel_rfl) (by simp) ?_
            refine AllReadyH.cons rfl (fun K hK => ?_) AllReadyH.nil
            go_simp
            refine (HOX.out x cx y cy _ Xd.out.i4 Xd.out.i5).mono ?_
            rintro e v8 ⟨rfl, b8⟩
            have M8 : Hid (PB v8 MB k d (Wd : Int) (Hi : Int) a n c cs b m cc ps) := Md.out.kept b8
            have X8 : Hid (PB v8 XB 4 1 (Wd : Int) (Hi : Int) x nC cx CS y mP cy PS) := Xd.out.kept b8
            have Y8 : Hid (PB v8 YB 4 1 (Wd : Int) (Hi : Int) x2 nC cx2 CS y2 mP cy2 PS) := Yd.out.kept b8
            have B8 : Hid (Below w.heap.size w v8) := Bd.out.trans (b8.mono Bd.out.size)
            obtain ⟨mc80, mc81, mc82, mc83, mc84, mc85⟩ := M8.out.box
            obtain ⟨xc80, xc81, xc82, xc83, xc84, xc85⟩ := X8.out.box
            obtain ⟨yc80, yc81, yc82, yc83, yc84, yc85⟩ := Y8.out.box
            clear b8
            refine hK.out _ _ ⟨mc80, mc81, mc82, mc83, mc84, mc85, xc80, xc81, xc82, xc83, xc84, xc85, yc80, yc81, yc82, yc83, yc84, yc85⟩ (fun hHeld => ?_)
            clear hK K
            try simp only [List.getElem_toArray, List.getElem_cons_succ, List.getElem_cons_zero, Act.put, List.setIfInBounds_toArray, List.set_cons_zero, List.set_cons_succ]
            refine wpAnyH_take (i := 2) (v := .bool true) rfl (by kernel_rfl) (by kernel_rfl) (by kernel_rfl) (fun _ _ _ h => h) (Or.inl ⟨by rfl, ?_⟩) hHeld ?_
            · intro w' hSw
              obtain ⟨sm0, sm1, sm2, sm3, sm4, sm5, sx0, sx1, sx2, sx3, sx4, sx5, sy0, sy1, sy2, sy3, sy4, sy5⟩ := hSw
              go_simp
            try simp only [List.getElem_toArray, List.getElem_cons_succ, List.getElem_cons_zero, Act.put, List.setIfInBounds_toArray, List.set_cons_zero, List.set_cons_succ]
            refine wpAnyH_take (i := 3) (v := .agg #[.int .i64 4, .int .i64 1, .int .i64 (Wd : Int), .int .i64 (Hi : Int), .slice x nC cx, .slice y mP cy]) rfl (by kernel_rfl) (by kernel_rfl) (by kernel_rfl) (fun _ _ _ h => h) (Or.inl ⟨by rfl, ?_⟩) hHeld ?_
            · intro w' hSw
              obtain ⟨sm0, sm1, sm2, sm3, sm4, sm5, sx0, sx1, sx2, sx3, sx4, sx5, sy0, sy1, sy2, sy3, sy4, sy5⟩ := hSw
              go_simp
            try simp only [List.getElem_toArray, List.getElem_cons_succ, List.getElem_cons_zero, Act.put, List.setIfInBounds_toArray, List.set_cons_zero, List.set_cons_succ]
            refine wpAnyH_take (i := 4) (v := .agg #[.int .i64 k, .int .i64 d, .int .i64 (Wd : Int), .int .i64 (Hi : Int), .slice a n c, .slice b m cc]) rfl (by kernel_rfl) (by kernel_rfl) (by kernel_rfl) (fun _ _ _ h => h) (Or.inl ⟨by rfl, ?_⟩) hHeld ?_
            · intro w' hSw
              obtain ⟨sm0, sm1, sm2, sm3, sm4, sm5, sx0, sx1, sx2, sx3, sx4, sx5, sy0, sy1, sy2, sy3, sy4, sy5⟩ := hSw
              go_simp
            try simp only [List.getElem_toArray, List.getElem_cons_succ, List.getElem_cons_zero, Act.put, List.setIfInBounds_toArray, List.set_cons_zero, List.set_cons_succ]
            refine wpAnyH_ready (rs := [5]) (by kernel_rfl) (by simp) ?_
            refine AllReadyH.cons rfl (fun K hK => ?_) AllReadyH.nil
            go_simp
            refine (HLK.out x cx y cy _ X8.out.i4 X8.out.i5 M8.out.i4 M8.out.i5).mono ?_
            rintro e v9 ⟨rfl, b9⟩
            have M9 : Hid (PB v9 MB k d (Wd : Int) (Hi : Int) a n c cs b m cc ps) := M8.out.kept b9
            have X9 : Hid (PB v9 XB 4 1 (Wd : Int) (Hi : Int) x nC cx CS y mP cy PS) := X8.out.kept b9
            have Y9 : Hid (PB v9 YB 4 1 (Wd : Int) (Hi : Int) x2 nC cx2 CS y2 mP cy2 PS) := Y8.out.kept b9
            have B9 : Hid (Below w.heap.size w v9) := B8.out.trans (b9.mono B8.out.size)
            obtain ⟨mc90, mc91, mc92, mc93, mc94, mc95⟩ := M9.out.box
            obtain ⟨xc90, xc91, xc92, xc93, xc94, xc95⟩ := X9.out.box
            obtain ⟨yc90, yc91, yc92, yc93, yc94, yc95⟩ := Y9.out.box
            clear b9
            refine hK.out _ _ ⟨mc90, mc91, mc92, mc93, mc94, mc95, xc90, xc91, xc92, xc93, xc94, xc95, yc90, yc91, yc92, yc93, yc94, yc95⟩ (fun hHeld => ?_)
            clear hK K
            try simp only [List.getElem_toArray, List.getElem_cons_succ, List.getElem_cons_zero, Act.put, List.setIfInBounds_toArray, List.set_cons_zero, List.set_cons_succ]
            refine wpAnyH_take (i := 6) (v := .bool true) rfl (by kernel_rfl) (by kernel_rfl) (by kernel_rfl) (fun _ _ _ h => h) (Or.inl ⟨by rfl, ?_⟩) hHeld ?_
            · intro w' hSw
              obtain ⟨sm0, sm1, sm2, sm3, sm4, sm5, sx0, sx1, sx2, sx3, sx4, sx5, sy0, sy1, sy2, sy3, sy4, sy5⟩ := hSw
              go_simp
            try simp only [List.getElem_toArray, List.getElem_cons_succ, List.getElem_cons_zero, Act.put, List.setIfInBounds_toArray, List.set_cons_zero, List.set_cons_succ]
            refine wpAnyH_take (i := 7) (v := .bool true) rfl (by kernel_rfl) (by kernel_rfl) (by kernel_rfl) (fun _ _ _ h => h) (Or.inl ⟨by rfl, ?_⟩) hHeld ?_
            · intro w' hSw
              obtain ⟨sm0, sm1, sm2, sm3, sm4, sm5, sx0, sx1, sx2, sx3, sx4, sx5, sy0, sy1, sy2, sy3, sy4, sy5⟩ := hSw
              go_simp
            try simp only [List.getElem_toArray, List.getElem_cons_succ, List.getElem_cons_zero, Act.put, List.setIfInBounds_toArray, List.set_cons_zero, List.set_cons_succ]
            refine wpAnyH_take (i := 8) (v := .bool true) rfl (by kernel_rfl) (by kernel_rfl) (by kernel_rfl) (fun _ _ _ h => h) (Or.inl ⟨by rfl, ?_⟩) hHeld ?_
            · intro w' hSw
              obtain ⟨sm0, sm1, sm2, sm3, sm4, sm5, sx0, sx1, sx2, sx3, sx4, sx5, sy0, sy1, sy2, sy3, sy4, sy5⟩ := hSw
              go_simp
            try simp only [List.getElem_toArray, List.getElem_cons_succ, List.getElem_cons_zero, Act.put, List.setIfInBounds_toArray, List.set_cons_zero, List.set_cons_succ]
            refine wpAnyH_take (i := 9) (v := .bool true) rfl (by kernel_rfl) (by kernel_rfl) (by kernel_rfl) (fun _ _ _ h => h) (Or.inl ⟨by rfl, ?_⟩) hHeld ?_
            · intro w' hSw
              obtain ⟨sm0, sm1, sm2, sm3, sm4, sm5, sx0, sx1, sx2, sx3, sx4, sx5, sy0, sy1, sy2, sy3, sy4, sy5⟩ := hSw
              go_simp
            try simp only [List.getElem_toArray, List.getElem_cons_succ, List.getElem_cons_zero, Act.put, List.setIfInBounds_toArray, List.set_cons_zero, List.set_cons_succ]
            refine wpAnyH_take (i := 10) (v := .bool true) rfl (by kernel_rfl) (by kernel_rfl) (by kernel_rfl) (fun _ _ _ h => h) (Or.inl ⟨by rfl, ?_⟩) hHeld ?_
            · intro w' hSw
              obtain ⟨sm0, sm1, sm2, sm3, sm4, sm5, sx0, sx1, sx2, sx3, sx4, sx5, sy0, sy1, sy2, sy3, sy4, sy5⟩ := hSw
              go_simp
            try simp only [List.getElem_toArray, List.getElem_cons_succ, List.getElem_cons_zero, Act.put, List.setIfInBounds_toArray, List.set_cons_zero, List.set_cons_succ]
            refine wpAnyH_take (i := 11) (v := .agg #[.int .i64 4, .int .i64 1, .int .i64 (Wd : Int), .int .i64 (Hi : Int), .slice x nC cx, .slice y mP cy]) rfl (by kernel_rfl) (by kernel_rfl) (by kernel_rfl) (fun _ _ _ h => h) (Or.inl ⟨by rfl, ?_⟩) hHeld ?_
            · intro w' hSw
              obtain ⟨sm0, sm1, sm2, sm3, sm4, sm5, sx0, sx1, sx2, sx3, sx4, sx5, sy0, sy1, sy2, sy3, sy4, sy5⟩ := hSw
              go_simp
            try simp only [List.getElem_toArray, List.getElem_cons_succ, List.getElem_cons_zero, Act.put, List.setIfInBounds_toArray, List.set_cons_zero, List.set_cons_succ]
            refine wpAnyH_take (i := 12) (v := .agg #[.int .i64 4, .int .i64 1, .int .i64 (Wd : Int), .int .i64 (Hi : Int), .slice x2 nC cx2, .slice y2 mP cy2]) rfl (by kernel_rfl) (by kernel_rfl) (by kernel_rfl) (fun _ _ _ h => h) (Or.inl ⟨by rfl, ?_⟩) hHeld ?_
            · intro w' hSw
              obtain ⟨sm0, sm1, sm2, sm3, sm4, sm5, sx0, sx1, sx2, sx3, sx4, sx5, sy0, sy1, sy2, sy3, sy4, sy5⟩ := hSw
              go_simp
            try simp only [List.getElem_toArray, List.getElem_cons_succ, List.getElem_cons_zero, Act.put, List.setIfInBounds_toArray, List.set_cons_zero, List.set_cons_succ]
            refine wpAnyH_ready (rs := [13]) (by kernel_rfl) (by simp) ?_
            refine AllReadyH.cons rfl (fun K hK => ?_) AllReadyH.nil
            go_simp
            refine (HWI.out x cx y cy x2 cx2 y2 cy2 _ X9.out.i4 X9.out.i5 Y9.out.i4 Y9.out.i5).mono ?_
            rintro e v10 ⟨rfl, b10⟩
            have M10 : Hid (PB v10 MB k d (Wd : Int) (Hi : Int) a n c cs b m cc ps) := M9.out.kept b10
            have X10 : Hid (PB v10 XB 4 1 (Wd : Int) (Hi : Int) x nC cx CS y mP cy PS) := X9.out.kept b10
            have Y10 : Hid (PB v10 YB 4 1 (Wd : Int) (Hi : Int) x2 nC cx2 CS y2 mP cy2 PS) := Y9.out.kept b10
            have B10 : Hid (Below w.heap.size w v10) := B9.out.trans (b10.mono B9.out.size)
            obtain ⟨mc100, mc101, mc102, mc103, mc104, mc105⟩ := M10.out.box
            obtain ⟨xc100, xc101, xc102, xc103, xc104, xc105⟩ := X10.out.box
            obtain ⟨yc100, yc101, yc102, yc103, yc104, yc105⟩ := Y10.out.box
            clear b10
            refine hK.out _ _ ⟨mc100, mc101, mc102, mc103, mc104, mc105, xc100, xc101, xc102, xc103, xc104, xc105, yc100, yc101, yc102, yc103, yc104, yc105⟩ (fun hHeld => ?_)
            clear hK K
            try simp only [List.getElem_toArray, List.getElem_cons_succ, List.getElem_cons_zero, Act.put, List.setIfInBounds_toArray, List.set_cons_zero, List.set_cons_succ]
            refine wpAnyH_take (i := 14) (v := .bool true) rfl (by kernel_rfl) (by kernel_rfl) (by kernel_rfl) (fun _ _ _ h => h) (Or.inl ⟨by rfl, ?_⟩) hHeld ?_
            · intro w' hSw
              obtain ⟨sm0, sm1, sm2, sm3, sm4, sm5, sx0, sx1, sx2, sx3, sx4, sx5, sy0, sy1, sy2, sy3, sy4, sy5⟩ := hSw
              go_simp
            try simp only [List.getElem_toArray, List.getElem_cons_succ, List.getElem_cons_zero, Act.put, List.setIfInBounds_toArray, List.set_cons_zero, List.set_cons_succ]
            refine wpAnyH_take (i := 15) (v := .bool true) rfl (by kernel_rfl) (by kernel_rfl) (by kernel_rfl) (fun _ _ _ h => h) (Or.inl ⟨by rfl, ?_⟩) hHeld ?_
            · intro w' hSw
              obtain ⟨sm0, sm1, sm2, sm3, sm4, sm5, sx0, sx1, sx2, sx3, sx4, sx5, sy0, sy1, sy2, sy3, sy4, sy5⟩ := hSw
              go_simp
            try simp only [List.getElem_toArray, List.getElem_cons_succ, List.getElem_cons_zero, Act.put, List.setIfInBounds_toArray, List.set_cons_zero, List.set_cons_succ]
            refine wpAnyH_take (i := 16) (v := .pointer (some ⟨XB, 1, none⟩)) rfl (by kernel_rfl) (by kernel_rfl) (by kernel_rfl) (fun _ _ _ h => h) (Or.inl ⟨by rfl, ?_⟩) hHeld ?_
            · intro w' hSw
              obtain ⟨sm0, sm1, sm2, sm3, sm4, sm5, sx0, sx1, sx2, sx3, sx4, sx5, sy0, sy1, sy2, sy3, sy4, sy5⟩ := hSw
              go_simp
            try simp only [List.getElem_toArray, List.getElem_cons_succ, List.getElem_cons_zero, Act.put, List.setIfInBounds_toArray, List.set_cons_zero, List.set_cons_succ]
            refine wpAnyH_take (i := 17) (v := .int .i64 1) rfl (by kernel_rfl) (by kernel_rfl) (by kernel_rfl) (fun _ _ _ h => h) (Or.inl ⟨by rfl, ?_⟩) hHeld ?_
            · intro w' hSw
              obtain ⟨sm0, sm1, sm2, sm3, sm4, sm5, sx0, sx1, sx2, sx3, sx4, sx5, sy0, sy1, sy2, sy3, sy4, sy5⟩ := hSw
              go_simp
            try simp only [List.getElem_toArray, List.getElem_cons_succ, List.getElem_cons_zero, Act.put, List.setIfInBounds_toArray, List.set_cons_zero, List.set_cons_succ]
            refine wpAnyH_take (i := 18) (v := .bool true) rfl (by kernel_rfl) (by kernel_rfl) (by kernel_rfl) (fun _ _ _ h => h) (Or.inl ⟨by rfl, ?_⟩) hHeld ?_
            · intro w' hSw
              obtain ⟨sm0, sm1, sm2, sm3, sm4, sm5, sx0, sx1, sx2, sx3, sx4, sx5, sy0, sy1, sy2, sy3, sy4, sy5⟩ := hSw
              go_simp
            try simp only [List.getElem_toArray, List.getElem_cons_succ, List.getElem_cons_zero, Act.put, List.setIfInBounds_toArray, List.set_cons_zero, List.set_cons_succ]
            refine wpAnyH_take (i := 19) (v := .bool true) rfl (by kernel_rfl) (by kernel_rfl) (by kernel_rfl) (fun _ _ _ h => h) (Or.inl ⟨by rfl, ?_⟩) hHeld ?_
            · intro w' hSw
              obtain ⟨sm0, sm1, sm2, sm3, sm4, sm5, sx0, sx1, sx2, sx3, sx4, sx5, sy0, sy1, sy2, sy3, sy4, sy5⟩ := hSw
              go_simp
            try simp only [List.getElem_toArray, List.getElem_cons_succ, List.getElem_cons_zero, Act.put, List.setIfInBounds_toArray, List.set_cons_zero, List.set_cons_succ]
            refine wpAnyH_take (i := 20) (v := undef) rfl (by kernel_rfl) (by kernel_rfl) (by kernel_rfl) (fun _ _ _ h => h) (Or.inr ⟨by kernel_rfl, rfl⟩) hHeld ?_
            try simp only [List.getElem_toArray, List.getElem_cons_succ, List.getElem_cons_zero, Act.put, List.setIfInBounds_toArray, List.set_cons_zero, List.set_cons_succ]
            refine wpAnyH_take (i := 21) (v := undef) rfl (by kernel_rfl) (by kernel_rfl) (by kernel_rfl) (fun _ _ _ h => h) (Or.inr ⟨by kernel_rfl, rfl⟩) hHeld ?_
            try simp only [List.getElem_toArray, List.getElem_cons_succ, List.getElem_cons_zero, Act.put, List.setIfInBounds_toArray, List.set_cons_zero, List.set_cons_succ]
            refine wpAnyH_take (i := 22) (v := undef) rfl (by kernel_rfl) (by kernel_rfl) (by kernel_rfl) (fun _ _ _ h => h) (Or.inr ⟨by kernel_rfl, rfl⟩) hHeld ?_
            try simp only [List.getElem_toArray, List.getElem_cons_succ, List.getElem_cons_zero, Act.put, List.setIfInBounds_toArray, List.set_cons_zero, List.set_cons_succ]
            refine wpAnyH_take (i := 23) (v := undef) rfl (by kernel_rfl) (by kernel_rfl) (by kernel_rfl) (fun _ _ _ h => h) (Or.inr ⟨by kernel_rfl, rfl⟩) hHeld ?_
            try simp only [List.getElem_toArray, List.getElem_cons_succ, List.getElem_cons_zero, Act.put, List.setIfInBounds_toArray, List.set_cons_zero, List.set_cons_succ]
            refine wpAnyH_take (i := 24) (v := undef) rfl (by kernel_rfl) (by kernel_rfl) (by kernel_rfl) (fun _ _ _ h => h) (Or.inr ⟨by kernel_rfl, rfl⟩) hHeld ?_
            try simp only [List.getElem_toArray, List.getElem_cons_succ, List.getElem_cons_zero, Act.put, List.setIfInBounds_toArray, List.set_cons_zero, List.set_cons_succ]
            refine wpAnyH_take (i := 25) (v := undef) rfl (by kernel_rfl) (by kernel_rfl) (by kernel_rfl) (fun _ _ _ h => h) (Or.inr ⟨by kernel_rfl, rfl⟩) hHeld ?_
            try simp only [List.getElem_toArray, List.getElem_cons_succ, List.getElem_cons_zero, Act.put, List.setIfInBounds_toArray, List.set_cons_zero, List.set_cons_succ]
            refine wpAnyH_take (i := 26) (v := undef) rfl (by kernel_rfl) (by kernel_rfl) (by kernel_rfl) (fun _ _ _ h => h) (Or.inr ⟨by kernel_rfl, rfl⟩) hHeld ?_
            try simp only [List.getElem_toArray, List.getElem_cons_succ, List.getElem_cons_zero, Act.put, List.setIfInBounds_toArray, List.set_cons_zero, List.set_cons_succ]
            refine wpAnyH_take (i := 27) (v := undef) rfl (by kernel_rfl) (by kernel_rfl) (by kernel_rfl) (fun _ _ _ h => h) (Or.inr ⟨by kernel_rfl, rfl⟩) hHeld ?_
            try simp only [List.getElem_toArray, List.getElem_cons_succ, List.getElem_cons_zero, Act.put, List.setIfInBounds_toArray, List.set_cons_zero, List.set_cons_succ]
            refine wpAnyH_take (i := 28) (v := .bool true) rfl (by kernel_rfl) (by kernel_rfl) (by kernel_rfl) (fun _ _ _ h => h) (Or.inl ⟨by rfl, ?_⟩) hHeld ?_
            · intro w' hSw
              obtain ⟨sm0, sm1, sm2, sm3, sm4, sm5, sx0, sx1, sx2, sx3, sx4, sx5, sy0, sy1, sy2, sy3, sy4, sy5⟩ := hSw
              go_simp
            try simp only [List.getElem_toArray, List.getElem_cons_succ, List.getElem_cons_zero, Act.put, List.setIfInBounds_toArray, List.set_cons_zero, List.set_cons_succ]
            refine wpAnyH_take (i := 29) (v := .bool true) rfl (by kernel_rfl) (by kernel_rfl) (by kernel_rfl) (fun _ _ _ h => h) (Or.inl ⟨by rfl, ?_⟩) hHeld ?_
            · intro w' hSw
              obtain ⟨sm0, sm1, sm2, sm3, sm4, sm5, sx0, sx1, sx2, sx3, sx4, sx5, sy0, sy1, sy2, sy3, sy4, sy5⟩ := hSw
              go_simp
            try simp only [List.getElem_toArray, List.getElem_cons_succ, List.getElem_cons_zero, Act.put, List.setIfInBounds_toArray, List.set_cons_zero, List.set_cons_succ]
            refine wpAnyH_take (i := 30) (v := .bool true) rfl (by kernel_rfl) (by kernel_rfl) (by kernel_rfl) (fun _ _ _ h => h) (Or.inl ⟨by rfl, ?_⟩) hHeld ?_
            · intro w' hSw
              obtain ⟨sm0, sm1, sm2, sm3, sm4, sm5, sx0, sx1, sx2, sx3, sx4, sx5, sy0, sy1, sy2, sy3, sy4, sy5⟩ := hSw
              go_simp
            try simp only [List.getElem_toArray, List.getElem_cons_succ, List.getElem_cons_zero, Act.put, List.setIfInBounds_toArray, List.set_cons_zero, List.set_cons_succ]
            refine wpAnyH_done (by kernel_rfl) ?_ _
            try simp only [List.getElem_toArray, List.getElem_cons_succ, List.getElem_cons_zero, Act.put, List.setIfInBounds_toArray, List.set_cons_zero, List.set_cons_succ]
            have BF := B10
            clear hHeld
            go_wp2_with fail
            go_ret
            exact ⟨rfl, BF.out⟩
          · obtain ⟨D2, hD2⟩ : ∃ D2, D2 = D / 2 := ⟨_, rfl⟩
            obtain ⟨T, hT⟩ : ∃ T, T = 2 ^ D2 := ⟨_, rfl⟩
            have hTn : T < nC ∧ D2 ≤ 4 := by
              rcases HDD.out with h | h
              · exact absurd h hD1
              · rw [hT, hD2]; exact ⟨h.2, h.1⟩
            have HPO : Hid (∀ w1 : World, Calls Try.prog 22 #[.int .i64 (D2 : Int)] w1 fun e w' => e = .returned (.int .i64 (T : Int)) ∧ w' = w1) := fun w1 => by rw [hT]; exact wiPow_any D2 w1 (by omega)
            have f1 : ((D : Int) == 1) = false := by rw [beq_eq_false_iff_ne]; omega
            have f2 : decide ((D : Int) = 1) = false := by simp; omega
            have f3 : (D : Int) / 2 = (D2 : Int) := by omega
            have f4 : (D : Int).tdiv 2 = (D2 : Int) := by rw [Int.tdiv_eq_ediv_of_nonneg (by omega)]; exact f3
            have f5 : IntKind.i64.wrap (D2 : Int) = (D2 : Int) := wrap_i64_nat D2 (by omega)
            have f6 : decide ((T : Int) < (nC : Int)) = true := by simp; omega
            clear hT hD2
            have Md : Hid (PB W5.drew MB k d (Wd : Int) (Hi : Int) a n c cs b m cc ps) := M7.out.kept (Below.refl _ _).drew
            have Xd : Hid (PB W5.drew XB 4 (D : Int) (Wd : Int) (Hi : Int) x nC cx CS y mP cy PS) := X7.out.kept (Below.refl _ _).drew
            have Yd : Hid (PB W5.drew YB 4 (D : Int) (Wd : Int) (Hi : Int) x2 nC cx2 CS y2 mP cy2 PS) := Y7.out.kept (Below.refl _ _).drew
            have Bd : Hid (Below w.heap.size w W5.drew) := B7.out.drew
            obtain ⟨m70, m71, m72, m73, m74, m75⟩ := M7.out.box
            obtain ⟨x70, x71, x72, x73, x74, x75⟩ := X7.out.box
            obtain ⟨y70, y71, y72, y73, y74, y75⟩ := Y7.out.box
            go_wp2_with fail
            refine wp_region_held_drew (S := fun w' => w'.cell? ⟨MB, 0, none⟩ = some (.int .i64 k) ∧ w'.cell? ⟨MB, 1, none⟩ = some (.int .i64 d) ∧ w'.cell? ⟨MB, 2, none⟩ = some (.int .i64 (Wd : Int)) ∧ w'.cell? ⟨MB, 3, none⟩ = some (.int .i64 (Hi : Int)) ∧ w'.cell? ⟨MB, 4, none⟩ = some (.slice a n c) ∧ w'.cell? ⟨MB, 5, none⟩ = some (.slice b m cc) ∧ w'.cell? ⟨XB, 0, none⟩ = some (.int .i64 4) ∧ w'.cell? ⟨XB, 1, none⟩ = some (.int .i64 (D : Int)) ∧ w'.cell? ⟨XB, 2, none⟩ = some (.int .i64 (Wd : Int)) ∧ w'.cell? ⟨XB, 3, none⟩ = some (.int .i64 (Hi : Int)) ∧ w'.cell? ⟨XB, 4, none⟩ = some (.slice x nC cx) ∧ w'.cell? ⟨XB, 5, none⟩ = some (.slice y mP cy) ∧ w'.cell? ⟨YB, 0, none⟩ = some (.int .i64 4) ∧ w'.cell? ⟨YB, 1, none⟩ = some (.int .i64 (D : Int)) ∧ w'.cell? ⟨YB, 2, none⟩ = some (.int .i64 (Wd : Int)) ∧ w'.cell? ⟨YB, 3, none⟩ = some (.int .i64 (Hi : Int)) ∧ w'.cell? ⟨YB, 4, none⟩ = some (.slice x2 nC cx2) ∧ w'.cell? ⟨YB, 5, none⟩ = some (.slice y2 mP cy2)) (by kernel_rfl) ⟨m70, m71, m72, m73, m74, m75, x70, x71, x72, x73, x74, x75, y70, y71, y72, y73, y74, y75⟩ (fun hHeld => ?_)
            refine wpAnyH_take (i := 0) (v := .agg #[.int .i64 4, .int .i64 (D : Int), .int .i64 (Wd : Int), .int .i64 (Hi : Int), .slice x nC cx, .slice y mP cy]) rfl (by kernel_rfl) (by kernel_rfl) (by kernel_rfl) (fun _ _ _ h => h) (Or.inl ⟨by rfl, ?_⟩) hHeld ?_
            · intro w' hSw
              obtain ⟨sm0, sm1, sm2, sm3, sm4, sm5, sx0, sx1, sx2, sx3, sx4, sx5, sy0, sy1, sy2, sy3, sy4, sy5⟩ := hSw
              go_simp
            try simp only [List.getElem_toArray, List.getElem_cons_succ, List.getElem_cons_zero, Act.put, List.setIfInBounds_toArray, List.set_cons_zero, List.set_cons_succ]
            refine wpAnyH_ready (rs := [1]) (by kernel_rfl) (by simp) ?_
            refine AllReadyH.cons rfl (fun K hK => ?_) AllReadyH.nil
            go_simp
            refine (HOX.out x cx y cy _ Xd.out.i4 Xd.out.i5).mono ?_
            rintro e v8 ⟨rfl, b8⟩
            have M8 : Hid (PB v8 MB k d (Wd : Int) (Hi : Int) a n c cs b m cc ps) := Md.out.kept b8
            have X8 : Hid (PB v8 XB 4 (D : Int) (Wd : Int) (Hi : Int) x nC cx CS y mP cy PS) := Xd.out.kept b8
            have Y8 : Hid (PB v8 YB 4 (D : Int) (Wd : Int) (Hi : Int) x2 nC cx2 CS y2 mP cy2 PS) := Yd.out.kept b8
            have B8 : Hid (Below w.heap.size w v8) := Bd.out.trans (b8.mono Bd.out.size)
            obtain ⟨mc80, mc81, mc82, mc83, mc84, mc85⟩ := M8.out.box
            obtain ⟨xc80, xc81, xc82, xc83, xc84, xc85⟩ := X8.out.box
            obtain ⟨yc80, yc81, yc82, yc83, yc84, yc85⟩ := Y8.out.box
            clear b8
            refine hK.out _ _ ⟨mc80, mc81, mc82, mc83, mc84, mc85, xc80, xc81, xc82, xc83, xc84, xc85, yc80, yc81, yc82, yc83, yc84, yc85⟩ (fun hHeld => ?_)
            clear hK K
            try simp only [List.getElem_toArray, List.getElem_cons_succ, List.getElem_cons_zero, Act.put, List.setIfInBounds_toArray, List.set_cons_zero, List.set_cons_succ]
            refine wpAnyH_take (i := 2) (v := .bool true) rfl (by kernel_rfl) (by kernel_rfl) (by kernel_rfl) (fun _ _ _ h => h) (Or.inl ⟨by rfl, ?_⟩) hHeld ?_
            · intro w' hSw
              obtain ⟨sm0, sm1, sm2, sm3, sm4, sm5, sx0, sx1, sx2, sx3, sx4, sx5, sy0, sy1, sy2, sy3, sy4, sy5⟩ := hSw
              go_simp
            try simp only [List.getElem_toArray, List.getElem_cons_succ, List.getElem_cons_zero, Act.put, List.setIfInBounds_toArray, List.set_cons_zero, List.set_cons_succ]
            refine wpAnyH_take (i := 3) (v := .agg #[.int .i64 4, .int .i64 (D : Int), .int .i64 (Wd : Int), .int .i64 (Hi : Int), .slice x nC cx, .slice y mP cy]) rfl (by kernel_rfl) (by kernel_rfl) (by kernel_rfl) (fun _ _ _ h => h) (Or.inl ⟨by rfl, ?_⟩) hHeld ?_
            · intro w' hSw
              obtain ⟨sm0, sm1, sm2, sm3, sm4, sm5, sx0, sx1, sx2, sx3, sx4, sx5, sy0, sy1, sy2, sy3, sy4, sy5⟩ := hSw
              go_simp
            try simp only [List.getElem_toArray, List.getElem_cons_succ, List.getElem_cons_zero, Act.put, List.setIfInBounds_toArray, List.set_cons_zero, List.set_cons_succ]
            refine wpAnyH_take (i := 4) (v := .agg #[.int .i64 k, .int .i64 d, .int .i64 (Wd : Int), .int .i64 (Hi : Int), .slice a n c, .slice b m cc]) rfl (by kernel_rfl) (by kernel_rfl) (by kernel_rfl) (fun _ _ _ h => h) (Or.inl ⟨by rfl, ?_⟩) hHeld ?_
            · intro w' hSw
              obtain ⟨sm0, sm1, sm2, sm3, sm4, sm5, sx0, sx1, sx2, sx3, sx4, sx5, sy0, sy1, sy2, sy3, sy4, sy5⟩ := hSw
              go_simp
            try simp only [List.getElem_toArray, List.getElem_cons_succ, List.getElem_cons_zero, Act.put, List.setIfInBounds_toArray, List.set_cons_zero, List.set_cons_succ]
            refine wpAnyH_ready (rs := [5]) (by kernel_rfl) (by simp) ?_
            refine AllReadyH.cons rfl (fun K hK => ?_) AllReadyH.nil
            go_simp
            refine (HLK.out x cx y cy _ X8.out.i4 X8.out.i5 M8.out.i4 M8.out.i5).mono ?_
            rintro e v9 ⟨rfl, b9⟩
            have M9 : Hid (PB v9 MB k d (Wd : Int) (Hi : Int) a n c cs b m cc ps) := M8.out.kept b9
            have X9 : Hid (PB v9 XB 4 (D : Int) (Wd : Int) (Hi : Int) x nC cx CS y mP cy PS) := X8.out.kept b9
            have Y9 : Hid (PB v9 YB 4 (D : Int) (Wd : Int) (Hi : Int) x2 nC cx2 CS y2 mP cy2 PS) := Y8.out.kept b9
            have B9 : Hid (Below w.heap.size w v9) := B8.out.trans (b9.mono B8.out.size)
            obtain ⟨mc90, mc91, mc92, mc93, mc94, mc95⟩ := M9.out.box
            obtain ⟨xc90, xc91, xc92, xc93, xc94, xc95⟩ := X9.out.box
            obtain ⟨yc90, yc91, yc92, yc93, yc94, yc95⟩ := Y9.out.box
            clear b9
            refine hK.out _ _ ⟨mc90, mc91, mc92, mc93, mc94, mc95, xc90, xc91, xc92, xc93, xc94, xc95, yc90, yc91, yc92, yc93, yc94, yc95⟩ (fun hHeld => ?_)
            clear hK K
            try simp only [List.getElem_toArray, List.getElem_cons_succ, List.getElem_cons_zero, Act.put, List.setIfInBounds_toArray, List.set_cons_zero, List.set_cons_succ]
            refine wpAnyH_take (i := 6) (v := .bool true) rfl (by kernel_rfl) (by kernel_rfl) (by kernel_rfl) (fun _ _ _ h => h) (Or.inl ⟨by rfl, ?_⟩) hHeld ?_
            · intro w' hSw
              obtain ⟨sm0, sm1, sm2, sm3, sm4, sm5, sx0, sx1, sx2, sx3, sx4, sx5, sy0, sy1, sy2, sy3, sy4, sy5⟩ := hSw
              go_simp
            try simp only [List.getElem_toArray, List.getElem_cons_succ, List.getElem_cons_zero, Act.put, List.setIfInBounds_toArray, List.set_cons_zero, List.set_cons_succ]
            refine wpAnyH_take (i := 7) (v := .bool true) rfl (by kernel_rfl) (by kernel_rfl) (by kernel_rfl) (fun _ _ _ h => h) (Or.inl ⟨by rfl, ?_⟩) hHeld ?_
            · intro w' hSw
              obtain ⟨sm0, sm1, sm2, sm3, sm4, sm5, sx0, sx1, sx2, sx3, sx4, sx5, sy0, sy1, sy2, sy3, sy4, sy5⟩ := hSw
              go_simp
            try simp only [List.getElem_toArray, List.getElem_cons_succ, List.getElem_cons_zero, Act.put, List.setIfInBounds_toArray, List.set_cons_zero, List.set_cons_succ]
            refine wpAnyH_take (i := 8) (v := .bool true) rfl (by kernel_rfl) (by kernel_rfl) (by kernel_rfl) (fun _ _ _ h => h) (Or.inl ⟨by rfl, ?_⟩) hHeld ?_
            · intro w' hSw
              obtain ⟨sm0, sm1, sm2, sm3, sm4, sm5, sx0, sx1, sx2, sx3, sx4, sx5, sy0, sy1, sy2, sy3, sy4, sy5⟩ := hSw
              go_simp
            try simp only [List.getElem_toArray, List.getElem_cons_succ, List.getElem_cons_zero, Act.put, List.setIfInBounds_toArray, List.set_cons_zero, List.set_cons_succ]
            refine wpAnyH_take (i := 9) (v := .bool true) rfl (by kernel_rfl) (by kernel_rfl) (by kernel_rfl) (fun _ _ _ h => h) (Or.inl ⟨by rfl, ?_⟩) hHeld ?_
            · intro w' hSw
              obtain ⟨sm0, sm1, sm2, sm3, sm4, sm5, sx0, sx1, sx2, sx3, sx4, sx5, sy0, sy1, sy2, sy3, sy4, sy5⟩ := hSw
              go_simp
            try simp only [List.getElem_toArray, List.getElem_cons_succ, List.getElem_cons_zero, Act.put, List.setIfInBounds_toArray, List.set_cons_zero, List.set_cons_succ]
            refine wpAnyH_take (i := 10) (v := .bool true) rfl (by kernel_rfl) (by kernel_rfl) (by kernel_rfl) (fun _ _ _ h => h) (Or.inl ⟨by rfl, ?_⟩) hHeld ?_
            · intro w' hSw
              obtain ⟨sm0, sm1, sm2, sm3, sm4, sm5, sx0, sx1, sx2, sx3, sx4, sx5, sy0, sy1, sy2, sy3, sy4, sy5⟩ := hSw
              go_simp
            try simp only [List.getElem_toArray, List.getElem_cons_succ, List.getElem_cons_zero, Act.put, List.setIfInBounds_toArray, List.set_cons_zero, List.set_cons_succ]
            refine wpAnyH_take (i := 11) (v := .agg #[.int .i64 4, .int .i64 (D : Int), .int .i64 (Wd : Int), .int .i64 (Hi : Int), .slice x nC cx, .slice y mP cy]) rfl (by kernel_rfl) (by kernel_rfl) (by kernel_rfl) (fun _ _ _ h => h) (Or.inl ⟨by rfl, ?_⟩) hHeld ?_
            · intro w' hSw
              obtain ⟨sm0, sm1, sm2, sm3, sm4, sm5, sx0, sx1, sx2, sx3, sx4, sx5, sy0, sy1, sy2, sy3, sy4, sy5⟩ := hSw
              go_simp
            try simp only [List.getElem_toArray, List.getElem_cons_succ, List.getElem_cons_zero, Act.put, List.setIfInBounds_toArray, List.set_cons_zero, List.set_cons_succ]
            refine wpAnyH_take (i := 12) (v := .agg #[.int .i64 4, .int .i64 (D : Int), .int .i64 (Wd : Int), .int .i64 (Hi : Int), .slice x2 nC cx2, .slice y2 mP cy2]) rfl (by kernel_rfl) (by kernel_rfl) (by kernel_rfl) (fun _ _ _ h => h) (Or.inl ⟨by rfl, ?_⟩) hHeld ?_
            · intro w' hSw
              obtain ⟨sm0, sm1, sm2, sm3, sm4, sm5, sx0, sx1, sx2, sx3, sx4, sx5, sy0, sy1, sy2, sy3, sy4, sy5⟩ := hSw
              go_simp
            try simp only [List.getElem_toArray, List.getElem_cons_succ, List.getElem_cons_zero, Act.put, List.setIfInBounds_toArray, List.set_cons_zero, List.set_cons_succ]
            refine wpAnyH_ready (rs := [13]) (by kernel_rfl) (by simp) ?_
            refine AllReadyH.cons rfl (fun K hK => ?_) AllReadyH.nil
            go_simp
            refine (HWI.out x cx y cy x2 cx2 y2 cy2 _ X9.out.i4 X9.out.i5 Y9.out.i4 Y9.out.i5).mono ?_
            rintro e v10 ⟨rfl, b10⟩
            have M10 : Hid (PB v10 MB k d (Wd : Int) (Hi : Int) a n c cs b m cc ps) := M9.out.kept b10
            have X10 : Hid (PB v10 XB 4 (D : Int) (Wd : Int) (Hi : Int) x nC cx CS y mP cy PS) := X9.out.kept b10
            have Y10 : Hid (PB v10 YB 4 (D : Int) (Wd : Int) (Hi : Int) x2 nC cx2 CS y2 mP cy2 PS) := Y9.out.kept b10
            have B10 : Hid (Below w.heap.size w v10) := B9.out.trans (b10.mono B9.out.size)
            obtain ⟨mc100, mc101, mc102, mc103, mc104, mc105⟩ := M10.out.box
            obtain ⟨xc100, xc101, xc102, xc103, xc104, xc105⟩ := X10.out.box
            obtain ⟨yc100, yc101, yc102, yc103, yc104, yc105⟩ := Y10.out.box
            clear b10
            refine hK.out _ _ ⟨mc100, mc101, mc102, mc103, mc104, mc105, xc100, xc101, xc102, xc103, xc104, xc105, yc100, yc101, yc102, yc103, yc104, yc105⟩ (fun hHeld => ?_)
            clear hK K
            try simp only [List.getElem_toArray, List.getElem_cons_succ, List.getElem_cons_zero, Act.put, List.setIfInBounds_toArray, List.set_cons_zero, List.set_cons_succ]
            refine wpAnyH_take (i := 14) (v := .bool true) rfl (by kernel_rfl) (by kernel_rfl) (by kernel_rfl) (fun _ _ _ h => h) (Or.inl ⟨by rfl, ?_⟩) hHeld ?_
            · intro w' hSw
              obtain ⟨sm0, sm1, sm2, sm3, sm4, sm5, sx0, sx1, sx2, sx3, sx4, sx5, sy0, sy1, sy2, sy3, sy4, sy5⟩ := hSw
              go_simp
            try simp only [List.getElem_toArray, List.getElem_cons_succ, List.getElem_cons_zero, Act.put, List.setIfInBounds_toArray, List.set_cons_zero, List.set_cons_succ]
            refine wpAnyH_take (i := 15) (v := .bool true) rfl (by kernel_rfl) (by kernel_rfl) (by kernel_rfl) (fun _ _ _ h => h) (Or.inl ⟨by rfl, ?_⟩) hHeld ?_
            · intro w' hSw
              obtain ⟨sm0, sm1, sm2, sm3, sm4, sm5, sx0, sx1, sx2, sx3, sx4, sx5, sy0, sy1, sy2, sy3, sy4, sy5⟩ := hSw
              go_simp
            try simp only [List.getElem_toArray, List.getElem_cons_succ, List.getElem_cons_zero, Act.put, List.setIfInBounds_toArray, List.set_cons_zero, List.set_cons_succ]
            refine wpAnyH_take (i := 16) (v := .pointer (some ⟨XB, 1, none⟩)) rfl (by kernel_rfl) (by kernel_rfl) (by kernel_rfl) (fun _ _ _ h => h) (Or.inl ⟨by rfl, ?_⟩) hHeld ?_
            · intro w' hSw
              obtain ⟨sm0, sm1, sm2, sm3, sm4, sm5, sx0, sx1, sx2, sx3, sx4, sx5, sy0, sy1, sy2, sy3, sy4, sy5⟩ := hSw
              go_simp
            try simp only [List.getElem_toArray, List.getElem_cons_succ, List.getElem_cons_zero, Act.put, List.setIfInBounds_toArray, List.set_cons_zero, List.set_cons_succ]
            refine wpAnyH_take (i := 17) (v := .int .i64 (D : Int)) rfl (by kernel_rfl) (by kernel_rfl) (by kernel_rfl) (fun _ _ _ h => h) (Or.inl ⟨by rfl, ?_⟩) hHeld ?_
            · intro w' hSw
              obtain ⟨sm0, sm1, sm2, sm3, sm4, sm5, sx0, sx1, sx2, sx3, sx4, sx5, sy0, sy1, sy2, sy3, sy4, sy5⟩ := hSw
              go_simp
            try simp only [List.getElem_toArray, List.getElem_cons_succ, List.getElem_cons_zero, Act.put, List.setIfInBounds_toArray, List.set_cons_zero, List.set_cons_succ]
            refine wpAnyH_take (i := 18) (v := .bool false) rfl (by kernel_rfl) (by kernel_rfl) (by kernel_rfl) (fun _ _ _ h => h) (Or.inl ⟨by rfl, ?_⟩) hHeld ?_
            · intro w' hSw
              obtain ⟨sm0, sm1, sm2, sm3, sm4, sm5, sx0, sx1, sx2, sx3, sx4, sx5, sy0, sy1, sy2, sy3, sy4, sy5⟩ := hSw
              go_simp
            try simp only [List.getElem_toArray, List.getElem_cons_succ, List.getElem_cons_zero, Act.put, List.setIfInBounds_toArray, List.set_cons_zero, List.set_cons_succ]
            refine wpAnyH_take (i := 19) (v := .bool false) rfl (by kernel_rfl) (by kernel_rfl) (by kernel_rfl) (fun _ _ _ h => h) (Or.inl ⟨by rfl, ?_⟩) hHeld ?_
            · intro w' hSw
              obtain ⟨sm0, sm1, sm2, sm3, sm4, sm5, sx0, sx1, sx2, sx3, sx4, sx5, sy0, sy1, sy2, sy3, sy4, sy5⟩ := hSw
              go_simp
            try simp only [List.getElem_toArray, List.getElem_cons_succ, List.getElem_cons_zero, Act.put, List.setIfInBounds_toArray, List.set_cons_zero, List.set_cons_succ]
            refine wpAnyH_take (i := 20) (v := .pointer (some ⟨XB, 4, none⟩)) rfl (by kernel_rfl) (by kernel_rfl) (by kernel_rfl) (fun _ _ _ h => h) (Or.inl ⟨by rfl, ?_⟩) hHeld ?_
            · intro w' hSw
              obtain ⟨sm0, sm1, sm2, sm3, sm4, sm5, sx0, sx1, sx2, sx3, sx4, sx5, sy0, sy1, sy2, sy3, sy4, sy5⟩ := hSw
              go_simp
            try simp only [List.getElem_toArray, List.getElem_cons_succ, List.getElem_cons_zero, Act.put, List.setIfInBounds_toArray, List.set_cons_zero, List.set_cons_succ]
            refine wpAnyH_take (i := 21) (v := .slice x nC cx) rfl (by kernel_rfl) (by kernel_rfl) (by kernel_rfl) (fun _ _ _ h => h) (Or.inl ⟨by rfl, ?_⟩) hHeld ?_
            · intro w' hSw
              obtain ⟨sm0, sm1, sm2, sm3, sm4, sm5, sx0, sx1, sx2, sx3, sx4, sx5, sy0, sy1, sy2, sy3, sy4, sy5⟩ := hSw
              go_simp
            try simp only [List.getElem_toArray, List.getElem_cons_succ, List.getElem_cons_zero, Act.put, List.setIfInBounds_toArray, List.set_cons_zero, List.set_cons_succ]
            refine wpAnyH_take (i := 22) (v := .int .i64 (nC : Int)) rfl (by kernel_rfl) (by kernel_rfl) (by kernel_rfl) (fun _ _ _ h => h) (Or.inl ⟨by rfl, ?_⟩) hHeld ?_
            · intro w' hSw
              obtain ⟨sm0, sm1, sm2, sm3, sm4, sm5, sx0, sx1, sx2, sx3, sx4, sx5, sy0, sy1, sy2, sy3, sy4, sy5⟩ := hSw
              go_simp
            try simp only [List.getElem_toArray, List.getElem_cons_succ, List.getElem_cons_zero, Act.put, List.setIfInBounds_toArray, List.set_cons_zero, List.set_cons_succ]
            refine wpAnyH_take (i := 23) (v := .pointer (some ⟨XB, 1, none⟩)) rfl (by kernel_rfl) (by kernel_rfl) (by kernel_rfl) (fun _ _ _ h => h) (Or.inl ⟨by rfl, ?_⟩) hHeld ?_
            · intro w' hSw
              obtain ⟨sm0, sm1, sm2, sm3, sm4, sm5, sx0, sx1, sx2, sx3, sx4, sx5, sy0, sy1, sy2, sy3, sy4, sy5⟩ := hSw
              go_simp
            try simp only [List.getElem_toArray, List.getElem_cons_succ, List.getElem_cons_zero, Act.put, List.setIfInBounds_toArray, List.set_cons_zero, List.set_cons_succ]
            refine wpAnyH_take (i := 24) (v := .int .i64 (D : Int)) rfl (by kernel_rfl) (by kernel_rfl) (by kernel_rfl) (fun _ _ _ h => h) (Or.inl ⟨by rfl, ?_⟩) hHeld ?_
            · intro w' hSw
              obtain ⟨sm0, sm1, sm2, sm3, sm4, sm5, sx0, sx1, sx2, sx3, sx4, sx5, sy0, sy1, sy2, sy3, sy4, sy5⟩ := hSw
              go_simp
            try simp only [List.getElem_toArray, List.getElem_cons_succ, List.getElem_cons_zero, Act.put, List.setIfInBounds_toArray, List.set_cons_zero, List.set_cons_succ]
            refine wpAnyH_take (i := 25) (v := .int .i64 (D2 : Int)) rfl (by kernel_rfl) (by kernel_rfl) (by kernel_rfl) (fun _ _ _ h => h) (Or.inl ⟨by rfl, ?_⟩) hHeld ?_
            · intro w' hSw
              obtain ⟨sm0, sm1, sm2, sm3, sm4, sm5, sx0, sx1, sx2, sx3, sx4, sx5, sy0, sy1, sy2, sy3, sy4, sy5⟩ := hSw
              go_simp
            try simp only [List.getElem_toArray, List.getElem_cons_succ, List.getElem_cons_zero, Act.put, List.setIfInBounds_toArray, List.set_cons_zero, List.set_cons_succ]
            refine wpAnyH_ready (rs := [26]) (by kernel_rfl) (by simp) ?_
            refine AllReadyH.cons rfl (fun K hK => ?_) AllReadyH.nil
            go_simp
            refine (HPO.out _).mono ?_
            rintro e v11 ⟨rfl, rfl⟩
            skip
            refine hK.out _ _ ⟨mc100, mc101, mc102, mc103, mc104, mc105, xc100, xc101, xc102, xc103, xc104, xc105, yc100, yc101, yc102, yc103, yc104, yc105⟩ (fun hHeld => ?_)
            clear hK K
            try simp only [List.getElem_toArray, List.getElem_cons_succ, List.getElem_cons_zero, Act.put, List.setIfInBounds_toArray, List.set_cons_zero, List.set_cons_succ]
            refine wpAnyH_take (i := 27) (v := .bool true) rfl (by kernel_rfl) (by kernel_rfl) (by kernel_rfl) (fun _ _ _ h => h) (Or.inl ⟨by rfl, ?_⟩) hHeld ?_
            · intro w' hSw
              obtain ⟨sm0, sm1, sm2, sm3, sm4, sm5, sx0, sx1, sx2, sx3, sx4, sx5, sy0, sy1, sy2, sy3, sy4, sy5⟩ := hSw
              go_simp
            try simp only [List.getElem_toArray, List.getElem_cons_succ, List.getElem_cons_zero, Act.put, List.setIfInBounds_toArray, List.set_cons_zero, List.set_cons_succ]
            refine wpAnyH_take (i := 28) (v := .bool true) rfl (by kernel_rfl) (by kernel_rfl) (by kernel_rfl) (fun _ _ _ h => h) (Or.inl ⟨by rfl, ?_⟩) hHeld ?_
            · intro w' hSw
              obtain ⟨sm0, sm1, sm2, sm3, sm4, sm5, sx0, sx1, sx2, sx3, sx4, sx5, sy0, sy1, sy2, sy3, sy4, sy5⟩ := hSw
              go_simp
            try simp only [List.getElem_toArray, List.getElem_cons_succ, List.getElem_cons_zero, Act.put, List.setIfInBounds_toArray, List.set_cons_zero, List.set_cons_succ]
            refine wpAnyH_take (i := 29) (v := .bool true) rfl (by kernel_rfl) (by kernel_rfl) (by kernel_rfl) (fun _ _ _ h => h) (Or.inl ⟨by rfl, ?_⟩) hHeld ?_
            · intro w' hSw
              obtain ⟨sm0, sm1, sm2, sm3, sm4, sm5, sx0, sx1, sx2, sx3, sx4, sx5, sy0, sy1, sy2, sy3, sy4, sy5⟩ := hSw
              go_simp
            try simp only [List.getElem_toArray, List.getElem_cons_succ, List.getElem_cons_zero, Act.put, List.setIfInBounds_toArray, List.set_cons_zero, List.set_cons_succ]
            refine wpAnyH_take (i := 30) (v := .bool true) rfl (by kernel_rfl) (by kernel_rfl) (by kernel_rfl) (fun _ _ _ h => h) (Or.inl ⟨by rfl, ?_⟩) hHeld ?_
            · intro w' hSw
              obtain ⟨sm0, sm1, sm2, sm3, sm4, sm5, sx0, sx1, sx2, sx3, sx4, sx5, sy0, sy1, sy2, sy3, sy4, sy5⟩ := hSw
              go_simp
            try simp only [List.getElem_toArray, List.getElem_cons_succ, List.getElem_cons_zero, Act.put, List.setIfInBounds_toArray, List.set_cons_zero, List.set_cons_succ]
            refine wpAnyH_done (by kernel_rfl) ?_ _
            try simp only [List.getElem_toArray, List.getElem_cons_succ, List.getElem_cons_zero, Act.put, List.setIfInBounds_toArray, List.set_cons_zero, List.set_cons_succ]
            have BF := B10
            clear hHeld
            go_wp2_with fail
            go_ret
            exact ⟨rfl, BF.out⟩
end Go.Proofs.Ytjiogneidioknaa
