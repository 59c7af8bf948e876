/- Texts laid together: ImplLike, SpecLike, TopLike, PicOk, NoFlip, WiInts, WiImage, AtTop, PicMath, FlipMath, AnyDraw, RowCode, DrawRgb, ColImpl, LawImageRgb, WiDiff, LikeMath, DrawLike. -/
import Derived.Test.YtjiogneidioknaaColSeen
import Derived.Test.YtjiogneidioknaaKFnImageLike
import Derived.Deep.RegionHeld3
import Derived.Test.YtjiogneidioknaaImgDef
import Derived.Below
import Derived.Test.YtjiogneidioknaaImplFlip
import Derived.Test.YtjiogneidioknaaSpecFlip
import Derived.Test.YtjiogneidioknaaImgOk3
import Derived.Test.YtjiogneidioknaaImgSpec3
import Derived.Test.YtjiogneidioknaaIntsWalks
import Derived.Test.YtjiogneidioknaaBoxWalks
import Derived.Deep.DeepCutAuto
import Derived.Test.YtjiogneidioknaaAtWalks
import Derived.Test.YtjiogneidioknaaPtsWalks
import Derived.Test.YtjiogneidioknaaSpoil
import Derived.Test.YtjiogneidioknaaImgDraw
import Derived.Test.YtjiogneidioknaaDrawWalks
import Derived.Test.YtjiogneidioknaaColTop
import Derived.BigQuiet
import Derived.Test.YtjiogneidioknaaImgCopy
/- ImageLike of the program. -/
namespace Go.Proofs.Ytjiogneidioknaa
open Go.RowKit

set_option maxHeartbeats 1000000 in
set_option maxRecDepth 20000 in
theorem impl_like_bad1 (k d wd hi : Int) (ca : Option Addr) (cn cc : Nat) (pa : Option Addr) (pn pc : Nat) (k2 d2 wd2 hi2 : Int) (ca2 : Option Addr) (cn2 cc2 : Nat) (pa2 : Option Addr) (pn2 pc2 : Nat) (w : World) (hOA : (∀ w', Below w.heap.size w w' → Calls Try.prog 16 #[.agg #[.int .i64 k, .int .i64 d, .int .i64 wd, .int .i64 hi, .slice ca cn cc, .slice pa pn pc]] w' fun e w'' => e = .returned (.bool false) ∧ Below w'.heap.size w' w'')) :
    Calls Try.prog 14 #[.agg #[.int .i64 k, .int .i64 d, .int .i64 wd, .int .i64 hi, .slice ca cn cc, .slice pa pn pc], .agg #[.int .i64 k2, .int .i64 d2, .int .i64 wd2, .int .i64 hi2, .slice ca2 cn2 cc2, .slice pa2 pn2 pc2]] w fun e w' => e = .returned (.bool false) ∧ Below w.heap.size w w' := by
  have hB0 : Below w.heap.size w ((w.alloc (.cells #[.int .i64 k, .int .i64 d, .int .i64 wd, .int .i64 hi, .slice ca cn cc, .slice pa pn pc] 26)).alloc (.cells #[.int .i64 k2, .int .i64 d2, .int .i64 wd2, .int .i64 hi2, .slice ca2 cn2 cc2, .slice pa2 pn2 pc2] 26)) := ((Below.refl _ _).alloc (Nat.le_refl _) _).alloc (by simp) _
  have A0 : Hid (Bx ((w.alloc (.cells #[.int .i64 k, .int .i64 d, .int .i64 wd, .int .i64 hi, .slice ca cn cc, .slice pa pn pc] 26)).alloc (.cells #[.int .i64 k2, .int .i64 d2, .int .i64 wd2, .int .i64 hi2, .slice ca2 cn2 cc2, .slice pa2 pn2 pc2] 26)) w.heap.size (.int .i64 k) (.int .i64 d) (.int .i64 wd) (.int .i64 hi) (.slice ca cn cc) (.slice pa pn pc)) := (bx_new w _ _ _ _ _ _ 26).kept ((Below.refl _ _).alloc (Nat.le_refl _) _)
  have B0 : Hid (Bx ((w.alloc (.cells #[.int .i64 k, .int .i64 d, .int .i64 wd, .int .i64 hi, .slice ca cn cc, .slice pa pn pc] 26)).alloc (.cells #[.int .i64 k2, .int .i64 d2, .int .i64 wd2, .int .i64 hi2, .slice ca2 cn2 cc2, .slice pa2 pn2 pc2] 26)) (w.heap.size + 1) (.int .i64 k2) (.int .i64 d2) (.int .i64 wd2) (.int .i64 hi2) (.slice ca2 cn2 cc2) (.slice pa2 pn2 pc2)) := by
    have := bx_new (w.alloc (.cells #[.int .i64 k, .int .i64 d, .int .i64 wd, .int .i64 hi, .slice ca cn cc, .slice pa pn pc] 26)) (.int .i64 k2) (.int .i64 d2) (.int .i64 wd2) (.int .i64 hi2) (.slice ca2 cn2 cc2) (.slice pa2 pn2 pc2) 26
    rw [World.size_alloc] at this; exact this
  have HOA : Hid (∀ w', Below w.heap.size w w' → Calls Try.prog 16 #[.agg #[.int .i64 k, .int .i64 d, .int .i64 wd, .int .i64 hi, .slice ca cn cc, .slice pa pn pc]] w' fun e w'' => e = .returned (.bool false) ∧ Below w'.heap.size w' w'') := hOA
  clear hOA
  go_enter Try.func14, Try.ntmps14
  go_wp2_with fail
  refine (HOA.out _ hB0).mono ?_
  rintro e w1 ⟨rfl, b1⟩
  have A1 : Hid (Bx w1 w.heap.size (.int .i64 k) (.int .i64 d) (.int .i64 wd) (.int .i64 hi) (.slice ca cn cc) (.slice pa pn pc)) := A0.out.kept b1
  have B1 : Hid (Bx w1 (w.heap.size + 1) (.int .i64 k2) (.int .i64 d2) (.int .i64 wd2) (.int .i64 hi2) (.slice ca2 cn2 cc2) (.slice pa2 pn2 pc2)) := B0.out.kept b1
  have bel1 : Below w.heap.size w w1 := hB0.trans (b1.mono hB0.size)
  clear b1 hB0 A0 B0 HOA
  clear A1 B1
  go_wp2_with fail
  go_ret
  exact ⟨rfl, bel1⟩

set_option maxHeartbeats 1000000 in
set_option maxRecDepth 20000 in
theorem impl_like_bad2 (k d wd hi : Int) (ca : Option Addr) (cn cc : Nat) (pa : Option Addr) (pn pc : Nat) (k2 d2 wd2 hi2 : Int) (ca2 : Option Addr) (cn2 cc2 : Nat) (pa2 : Option Addr) (pn2 pc2 : Nat) (w : World) (hOA : (∀ w', Below w.heap.size w w' → Calls Try.prog 16 #[.agg #[.int .i64 k, .int .i64 d, .int .i64 wd, .int .i64 hi, .slice ca cn cc, .slice pa pn pc]] w' fun e w'' => e = .returned (.bool true) ∧ Below w'.heap.size w' w'')) (hOB : (∀ w', Below w.heap.size w w' → Calls Try.prog 16 #[.agg #[.int .i64 k2, .int .i64 d2, .int .i64 wd2, .int .i64 hi2, .slice ca2 cn2 cc2, .slice pa2 pn2 pc2]] w' fun e w'' => e = .returned (.bool false) ∧ Below w'.heap.size w' w'')) :
    Calls Try.prog 14 #[.agg #[.int .i64 k, .int .i64 d, .int .i64 wd, .int .i64 hi, .slice ca cn cc, .slice pa pn pc], .agg #[.int .i64 k2, .int .i64 d2, .int .i64 wd2, .int .i64 hi2, .slice ca2 cn2 cc2, .slice pa2 pn2 pc2]] w fun e w' => e = .returned (.bool false) ∧ Below w.heap.size w w' := by
  have hB0 : Below w.heap.size w ((w.alloc (.cells #[.int .i64 k, .int .i64 d, .int .i64 wd, .int .i64 hi, .slice ca cn cc, .slice pa pn pc] 26)).alloc (.cells #[.int .i64 k2, .int .i64 d2, .int .i64 wd2, .int .i64 hi2, .slice ca2 cn2 cc2, .slice pa2 pn2 pc2] 26)) := ((Below.refl _ _).alloc (Nat.le_refl _) _).alloc (by simp) _
  have A0 : Hid (Bx ((w.alloc (.cells #[.int .i64 k, .int .i64 d, .int .i64 wd, .int .i64 hi, .slice ca cn cc, .slice pa pn pc] 26)).alloc (.cells #[.int .i64 k2, .int .i64 d2, .int .i64 wd2, .int .i64 hi2, .slice ca2 cn2 cc2, .slice pa2 pn2 pc2] 26)) w.heap.size (.int .i64 k) (.int .i64 d) (.int .i64 wd) (.int .i64 hi) (.slice ca cn cc) (.slice pa pn pc)) := (bx_new w _ _ _ _ _ _ 26).kept ((Below.refl _ _).alloc (Nat.le_refl _) _)
  have B0 : Hid (Bx ((w.alloc (.cells #[.int .i64 k, .int .i64 d, .int .i64 wd, .int .i64 hi, .slice ca cn cc, .slice pa pn pc] 26)).alloc (.cells #[.int .i64 k2, .int .i64 d2, .int .i64 wd2, .int .i64 hi2, .slice ca2 cn2 cc2, .slice pa2 pn2 pc2] 26)) (w.heap.size + 1) (.int .i64 k2) (.int .i64 d2) (.int .i64 wd2) (.int .i64 hi2) (.slice ca2 cn2 cc2) (.slice pa2 pn2 pc2)) := by
    have := bx_new (w.alloc (.cells #[.int .i64 k, .int .i64 d, .int .i64 wd, .int .i64 hi, .slice ca cn cc, .slice pa pn pc] 26)) (.int .i64 k2) (.int .i64 d2) (.int .i64 wd2) (.int .i64 hi2) (.slice ca2 cn2 cc2) (.slice pa2 pn2 pc2) 26
    rw [World.size_alloc] at this; exact this
  have HOA : Hid (∀ w', Below w.heap.size w w' → Calls Try.prog 16 #[.agg #[.int .i64 k, .int .i64 d, .int .i64 wd, .int .i64 hi, .slice ca cn cc, .slice pa pn pc]] w' fun e w'' => e = .returned (.bool true) ∧ Below w'.heap.size w' w'') := hOA
  have HOB : Hid (∀ w', Below w.heap.size w w' → Calls Try.prog 16 #[.agg #[.int .i64 k2, .int .i64 d2, .int .i64 wd2, .int .i64 hi2, .slice ca2 cn2 cc2, .slice pa2 pn2 pc2]] w' fun e w'' => e = .returned (.bool false) ∧ Below w'.heap.size w' w'') := hOB
  clear hOA hOB
  go_enter Try.func14, Try.ntmps14
  go_wp2_with fail
  refine (HOA.out _ hB0).mono ?_
  rintro e w1 ⟨rfl, b1⟩
  have A1 : Hid (Bx w1 w.heap.size (.int .i64 k) (.int .i64 d) (.int .i64 wd) (.int .i64 hi) (.slice ca cn cc) (.slice pa pn pc)) := A0.out.kept b1
  have B1 : Hid (Bx w1 (w.heap.size + 1) (.int .i64 k2) (.int .i64 d2) (.int .i64 wd2) (.int .i64 hi2) (.slice ca2 cn2 cc2) (.slice pa2 pn2 pc2)) := B0.out.kept b1
  have bel1 : Below w.heap.size w w1 := hB0.trans (b1.mono hB0.size)
  clear b1 hB0 A0 B0 HOA
  obtain ⟨_, p0, p1, p2, p3, p4, p5⟩ := B1.out
  go_wp2_with fail
  refine (HOB.out _ bel1).mono ?_
  rintro e w2 ⟨rfl, b2⟩
  have A2 : Hid (Bx w2 w.heap.size (.int .i64 k) (.int .i64 d) (.int .i64 wd) (.int .i64 hi) (.slice ca cn cc) (.slice pa pn pc)) := A1.out.kept b2
  have B2 : Hid (Bx w2 (w.heap.size + 1) (.int .i64 k2) (.int .i64 d2) (.int .i64 wd2) (.int .i64 hi2) (.slice ca2 cn2 cc2) (.slice pa2 pn2 pc2)) := B1.out.kept b2
  have bel2 : Below w.heap.size w w2 := bel1.trans (b2.mono bel1.size)
  clear b2 bel1 A1 B1 HOB p0 p1 p2 p3 p4 p5
  obtain ⟨_, a0, a1, a2, a3, a4, a5⟩ := A2.out
  obtain ⟨_, p0, p1, p2, p3, p4, p5⟩ := B2.out
  clear A2 B2
  go_wp2_with fail
  go_ret
  exact ⟨rfl, bel2⟩

set_option maxHeartbeats 1000000 in
set_option maxRecDepth 20000 in
theorem impl_like_wide (k d wd hi : Int) (ca : Option Addr) (cn cc : Nat) (pa : Option Addr) (pn pc : Nat) (k2 d2 wd2 hi2 : Int) (ca2 : Option Addr) (cn2 cc2 : Nat) (pa2 : Option Addr) (pn2 pc2 : Nat) (w : World) (hno : ¬ wd = wd2) (hOA : (∀ w', Below w.heap.size w w' → Calls Try.prog 16 #[.agg #[.int .i64 k, .int .i64 d, .int .i64 wd, .int .i64 hi, .slice ca cn cc, .slice pa pn pc]] w' fun e w'' => e = .returned (.bool true) ∧ Below w'.heap.size w' w'')) (hOB : (∀ w', Below w.heap.size w w' → Calls Try.prog 16 #[.agg #[.int .i64 k2, .int .i64 d2, .int .i64 wd2, .int .i64 hi2, .slice ca2 cn2 cc2, .slice pa2 pn2 pc2]] w' fun e w'' => e = .returned (.bool true) ∧ Below w'.heap.size w' w'')) :
    Calls Try.prog 14 #[.agg #[.int .i64 k, .int .i64 d, .int .i64 wd, .int .i64 hi, .slice ca cn cc, .slice pa pn pc], .agg #[.int .i64 k2, .int .i64 d2, .int .i64 wd2, .int .i64 hi2, .slice ca2 cn2 cc2, .slice pa2 pn2 pc2]] w fun e w' => e = .returned (.bool false) ∧ Below w.heap.size w w' := by
  have hB0 : Below w.heap.size w ((w.alloc (.cells #[.int .i64 k, .int .i64 d, .int .i64 wd, .int .i64 hi, .slice ca cn cc, .slice pa pn pc] 26)).alloc (.cells #[.int .i64 k2, .int .i64 d2, .int .i64 wd2, .int .i64 hi2, .slice ca2 cn2 cc2, .slice pa2 pn2 pc2] 26)) := ((Below.refl _ _).alloc (Nat.le_refl _) _).alloc (by simp) _
  have A0 : Hid (Bx ((w.alloc (.cells #[.int .i64 k, .int .i64 d, .int .i64 wd, .int .i64 hi, .slice ca cn cc, .slice pa pn pc] 26)).alloc (.cells #[.int .i64 k2, .int .i64 d2, .int .i64 wd2, .int .i64 hi2, .slice ca2 cn2 cc2, .slice pa2 pn2 pc2] 26)) w.heap.size (.int .i64 k) (.int .i64 d) (.int .i64 wd) (.int .i64 hi) (.slice ca cn cc) (.slice pa pn pc)) := (bx_new w _ _ _ _ _ _ 26).kept ((Below.refl _ _).alloc (Nat.le_refl _) _)
  have B0 : Hid (Bx ((w.alloc (.cells #[.int .i64 k, .int .i64 d, .int .i64 wd, .int .i64 hi, .slice ca cn cc, .slice pa pn pc] 26)).alloc (.cells #[.int .i64 k2, .int .i64 d2, .int .i64 wd2, .int .i64 hi2, .slice ca2 cn2 cc2, .slice pa2 pn2 pc2] 26)) (w.heap.size + 1) (.int .i64 k2) (.int .i64 d2) (.int .i64 wd2) (.int .i64 hi2) (.slice ca2 cn2 cc2) (.slice pa2 pn2 pc2)) := by
    have := bx_new (w.alloc (.cells #[.int .i64 k, .int .i64 d, .int .i64 wd, .int .i64 hi, .slice ca cn cc, .slice pa pn pc] 26)) (.int .i64 k2) (.int .i64 d2) (.int .i64 wd2) (.int .i64 hi2) (.slice ca2 cn2 cc2) (.slice pa2 pn2 pc2) 26
    rw [World.size_alloc] at this; exact this
  have HOA : Hid (∀ w', Below w.heap.size w w' → Calls Try.prog 16 #[.agg #[.int .i64 k, .int .i64 d, .int .i64 wd, .int .i64 hi, .slice ca cn cc, .slice pa pn pc]] w' fun e w'' => e = .returned (.bool true) ∧ Below w'.heap.size w' w'') := hOA
  have HOB : Hid (∀ w', Below w.heap.size w w' → Calls Try.prog 16 #[.agg #[.int .i64 k2, .int .i64 d2, .int .i64 wd2, .int .i64 hi2, .slice ca2 cn2 cc2, .slice pa2 pn2 pc2]] w' fun e w'' => e = .returned (.bool true) ∧ Below w'.heap.size w' w'') := hOB
  clear hOA hOB
  have hbne : (wd == wd2) = false := by rw [beq_eq_false_iff_ne]; exact hno
  go_enter Try.func14, Try.ntmps14
  go_wp2_with fail
  refine (HOA.out _ hB0).mono ?_
  rintro e w1 ⟨rfl, b1⟩
  have A1 : Hid (Bx w1 w.heap.size (.int .i64 k) (.int .i64 d) (.int .i64 wd) (.int .i64 hi) (.slice ca cn cc) (.slice pa pn pc)) := A0.out.kept b1
  have B1 : Hid (Bx w1 (w.heap.size + 1) (.int .i64 k2) (.int .i64 d2) (.int .i64 wd2) (.int .i64 hi2) (.slice ca2 cn2 cc2) (.slice pa2 pn2 pc2)) := B0.out.kept b1
  have bel1 : Below w.heap.size w w1 := hB0.trans (b1.mono hB0.size)
  clear b1 hB0 A0 B0 HOA
  obtain ⟨_, p0, p1, p2, p3, p4, p5⟩ := B1.out
  go_wp2_with fail
  refine (HOB.out _ bel1).mono ?_
  rintro e w2 ⟨rfl, b2⟩
  have A2 : Hid (Bx w2 w.heap.size (.int .i64 k) (.int .i64 d) (.int .i64 wd) (.int .i64 hi) (.slice ca cn cc) (.slice pa pn pc)) := A1.out.kept b2
  have B2 : Hid (Bx w2 (w.heap.size + 1) (.int .i64 k2) (.int .i64 d2) (.int .i64 wd2) (.int .i64 hi2) (.slice ca2 cn2 cc2) (.slice pa2 pn2 pc2)) := B1.out.kept b2
  have bel2 : Below w.heap.size w w2 := bel1.trans (b2.mono bel1.size)
  clear b2 bel1 A1 B1 HOB p0 p1 p2 p3 p4 p5
  obtain ⟨_, a0, a1, a2, a3, a4, a5⟩ := A2.out
  obtain ⟨_, p0, p1, p2, p3, p4, p5⟩ := B2.out
  clear A2 B2
  go_wp2_with fail
  go_ret
  exact ⟨rfl, bel2⟩

set_option maxHeartbeats 1000000 in
set_option maxRecDepth 20000 in
theorem impl_like_high (k d wd hi : Int) (ca : Option Addr) (cn cc : Nat) (pa : Option Addr) (pn pc : Nat) (k2 d2 hi2 : Int) (ca2 : Option Addr) (cn2 cc2 : Nat) (pa2 : Option Addr) (pn2 pc2 : Nat) (w : World) (hno : ¬ hi = hi2) (hOA : (∀ w', Below w.heap.size w w' → Calls Try.prog 16 #[.agg #[.int .i64 k, .int .i64 d, .int .i64 wd, .int .i64 hi, .slice ca cn cc, .slice pa pn pc]] w' fun e w'' => e = .returned (.bool true) ∧ Below w'.heap.size w' w'')) (hOB : (∀ w', Below w.heap.size w w' → Calls Try.prog 16 #[.agg #[.int .i64 k2, .int .i64 d2, .int .i64 wd, .int .i64 hi2, .slice ca2 cn2 cc2, .slice pa2 pn2 pc2]] w' fun e w'' => e = .returned (.bool true) ∧ Below w'.heap.size w' w'')) :
    Calls Try.prog 14 #[.agg #[.int .i64 k, .int .i64 d, .int .i64 wd, .int .i64 hi, .slice ca cn cc, .slice pa pn pc], .agg #[.int .i64 k2, .int .i64 d2, .int .i64 wd, .int .i64 hi2, .slice ca2 cn2 cc2, .slice pa2 pn2 pc2]] w fun e w' => e = .returned (.bool false) ∧ Below w.heap.size w w' := by
  have hB0 : Below w.heap.size w ((w.alloc (.cells #[.int .i64 k, .int .i64 d, .int .i64 wd, .int .i64 hi, .slice ca cn cc, .slice pa pn pc] 26)).alloc (.cells #[.int .i64 k2, .int .i64 d2, .int .i64 wd, .int .i64 hi2, .slice ca2 cn2 cc2, .slice pa2 pn2 pc2] 26)) := ((Below.refl _ _).alloc (Nat.le_refl _) _).alloc (by simp) _
  have A0 : Hid (Bx ((w.alloc (.cells #[.int .i64 k, .int .i64 d, .int .i64 wd, .int .i64 hi, .slice ca cn cc, .slice pa pn pc] 26)).alloc (.cells #[.int .i64 k2, .int .i64 d2, .int .i64 wd, .int .i64 hi2, .slice ca2 cn2 cc2, .slice pa2 pn2 pc2] 26)) w.heap.size (.int .i64 k) (.int .i64 d) (.int .i64 wd) (.int .i64 hi) (.slice ca cn cc) (.slice pa pn pc)) := (bx_new w _ _ _ _ _ _ 26).kept ((Below.refl _ _).alloc (Nat.le_refl _) _)
  have B0 : Hid (Bx ((w.alloc (.cells #[.int .i64 k, .int .i64 d, .int .i64 wd, .int .i64 hi, .slice ca cn cc, .slice pa pn pc] 26)).alloc (.cells #[.int .i64 k2, .int .i64 d2, .int .i64 wd, .int .i64 hi2, .slice ca2 cn2 cc2, .slice pa2 pn2 pc2] 26)) (w.heap.size + 1) (.int .i64 k2) (.int .i64 d2) (.int .i64 wd) (.int .i64 hi2) (.slice ca2 cn2 cc2) (.slice pa2 pn2 pc2)) := by
    have := bx_new (w.alloc (.cells #[.int .i64 k, .int .i64 d, .int .i64 wd, .int .i64 hi, .slice ca cn cc, .slice pa pn pc] 26)) (.int .i64 k2) (.int .i64 d2) (.int .i64 wd) (.int .i64 hi2) (.slice ca2 cn2 cc2) (.slice pa2 pn2 pc2) 26
    rw [World.size_alloc] at this; exact this
  have HOA : Hid (∀ w', Below w.heap.size w w' → Calls Try.prog 16 #[.agg #[.int .i64 k, .int .i64 d, .int .i64 wd, .int .i64 hi, .slice ca cn cc, .slice pa pn pc]] w' fun e w'' => e = .returned (.bool true) ∧ Below w'.heap.size w' w'') := hOA
  have HOB : Hid (∀ w', Below w.heap.size w w' → Calls Try.prog 16 #[.agg #[.int .i64 k2, .int .i64 d2, .int .i64 wd, .int .i64 hi2, .slice ca2 cn2 cc2, .slice pa2 pn2 pc2]] w' fun e w'' => e = .returned (.bool true) ∧ Below w'.heap.size w' w'') := hOB
  clear hOA hOB
  have hbne : (hi == hi2) = false := by rw [beq_eq_false_iff_ne]; exact hno
  go_enter Try.func14, Try.ntmps14
  go_wp2_with fail
  refine (HOA.out _ hB0).mono ?_
  rintro e w1 ⟨rfl, b1⟩
  have A1 : Hid (Bx w1 w.heap.size (.int .i64 k) (.int .i64 d) (.int .i64 wd) (.int .i64 hi) (.slice ca cn cc) (.slice pa pn pc)) := A0.out.kept b1
  have B1 : Hid (Bx w1 (w.heap.size + 1) (.int .i64 k2) (.int .i64 d2) (.int .i64 wd) (.int .i64 hi2) (.slice ca2 cn2 cc2) (.slice pa2 pn2 pc2)) := B0.out.kept b1
  have bel1 : Below w.heap.size w w1 := hB0.trans (b1.mono hB0.size)
  clear b1 hB0 A0 B0 HOA
  obtain ⟨_, p0, p1, p2, p3, p4, p5⟩ := B1.out
  go_wp2_with fail
  refine (HOB.out _ bel1).mono ?_
  rintro e w2 ⟨rfl, b2⟩
  have A2 : Hid (Bx w2 w.heap.size (.int .i64 k) (.int .i64 d) (.int .i64 wd) (.int .i64 hi) (.slice ca cn cc) (.slice pa pn pc)) := A1.out.kept b2
  have B2 : Hid (Bx w2 (w.heap.size + 1) (.int .i64 k2) (.int .i64 d2) (.int .i64 wd) (.int .i64 hi2) (.slice ca2 cn2 cc2) (.slice pa2 pn2 pc2)) := B1.out.kept b2
  have bel2 : Below w.heap.size w w2 := bel1.trans (b2.mono bel1.size)
  clear b2 bel1 A1 B1 HOB p0 p1 p2 p3 p4 p5
  obtain ⟨_, a0, a1, a2, a3, a4, a5⟩ := A2.out
  obtain ⟨_, p0, p1, p2, p3, p4, p5⟩ := B2.out
  clear A2 B2
  go_wp2_with fail
  go_ret
  exact ⟨rfl, bel2⟩

set_option maxHeartbeats 8000000 in
set_option maxRecDepth 20000 in
theorem impl_like_yes (k : Int) (D Wd Hi : Nat) (ca : Option Addr) (cn cc : Nat) (pa : Option Addr) (pn pc : Nat) (k2 : Int) (D2 : Nat) (ca2 : Option Addr) (cn2 cc2 : Nat) (pa2 : Option Addr) (pn2 pc2 : Nat) (cs ps cs2 ps2 : List Int) (w : World) (ok : Im.Ok k (D : Int) (Wd : Int) (Hi : Int) cs ps) (ok2 : Im.Ok k2 (D2 : Int) (Wd : Int) (Hi : Int) cs2 ps2) (hc : Ints w ca cs) (hcn : cs.length = cn) (hp : Ints w pa ps) (hpn : ps.length = pn) (hc2 : Ints w ca2 cs2) (hcn2 : cs2.length = cn2) (hp2 : Ints w pa2 ps2) (hpn2 : ps2.length = pn2) (hW : Wd ≤ 20) (hH : Hi ≤ 20) (hm : pn = Wd * Hi) (hm2 : pn2 = Wd * Hi)
    (hOA : (∀ w', Below w.heap.size w w' → Calls Try.prog 16 #[.agg #[.int .i64 k, .int .i64 (D : Int), .int .i64 (Wd : Int), .int .i64 (Hi : Int), .slice ca cn cc, .slice pa pn pc]] w' fun e w'' => e = .returned (.bool true) ∧ Below w'.heap.size w' w'')) (hOB : (∀ w', Below w.heap.size w w' → Calls Try.prog 16 #[.agg #[.int .i64 k2, .int .i64 (D2 : Int), .int .i64 (Wd : Int), .int .i64 (Hi : Int), .slice ca2 cn2 cc2, .slice pa2 pn2 pc2]] w' fun e w'' => e = .returned (.bool true) ∧ Below w'.heap.size w' w'')) :
    Calls Try.prog 14 #[.agg #[.int .i64 k, .int .i64 (D : Int), .int .i64 (Wd : Int), .int .i64 (Hi : Int), .slice ca cn cc, .slice pa pn pc], .agg #[.int .i64 k2, .int .i64 (D2 : Int), .int .i64 (Wd : Int), .int .i64 (Hi : Int), .slice ca2 cn2 cc2, .slice pa2 pn2 pc2]] w fun e w' => e = .returned (.bool (decide (cols k D cs ps = cols k2 D2 cs2 ps2))) ∧ Below w.heap.size w w' := by
  have hB0 : Below w.heap.size w ((w.alloc (.cells #[.int .i64 k, .int .i64 (D : Int), .int .i64 (Wd : Int), .int .i64 (Hi : Int), .slice ca cn cc, .slice pa pn pc] 26)).alloc (.cells #[.int .i64 k2, .int .i64 (D2 : Int), .int .i64 (Wd : Int), .int .i64 (Hi : Int), .slice ca2 cn2 cc2, .slice pa2 pn2 pc2] 26)) := ((Below.refl _ _).alloc (Nat.le_refl _) _).alloc (by simp) _
  have A0 : Hid (Bx ((w.alloc (.cells #[.int .i64 k, .int .i64 (D : Int), .int .i64 (Wd : Int), .int .i64 (Hi : Int), .slice ca cn cc, .slice pa pn pc] 26)).alloc (.cells #[.int .i64 k2, .int .i64 (D2 : Int), .int .i64 (Wd : Int), .int .i64 (Hi : Int), .slice ca2 cn2 cc2, .slice pa2 pn2 pc2] 26)) w.heap.size (.int .i64 k) (.int .i64 (D : Int)) (.int .i64 (Wd : Int)) (.int .i64 (Hi : Int)) (.slice ca cn cc) (.slice pa pn pc)) := (bx_new w _ _ _ _ _ _ 26).kept ((Below.refl _ _).alloc (Nat.le_refl _) _)
  have B0 : Hid (Bx ((w.alloc (.cells #[.int .i64 k, .int .i64 (D : Int), .int .i64 (Wd : Int), .int .i64 (Hi : Int), .slice ca cn cc, .slice pa pn pc] 26)).alloc (.cells #[.int .i64 k2, .int .i64 (D2 : Int), .int .i64 (Wd : Int), .int .i64 (Hi : Int), .slice ca2 cn2 cc2, .slice pa2 pn2 pc2] 26)) (w.heap.size + 1) (.int .i64 k2) (.int .i64 (D2 : Int)) (.int .i64 (Wd : Int)) (.int .i64 (Hi : Int)) (.slice ca2 cn2 cc2) (.slice pa2 pn2 pc2)) := by
    have := bx_new (w.alloc (.cells #[.int .i64 k, .int .i64 (D : Int), .int .i64 (Wd : Int), .int .i64 (Hi : Int), .slice ca cn cc, .slice pa pn pc] 26)) (.int .i64 k2) (.int .i64 (D2 : Int)) (.int .i64 (Wd : Int)) (.int .i64 (Hi : Int)) (.slice ca2 cn2 cc2) (.slice pa2 pn2 pc2) 26
    rw [World.size_alloc] at this; exact this
  have HOA : Hid (∀ w', Below w.heap.size w w' → Calls Try.prog 16 #[.agg #[.int .i64 k, .int .i64 (D : Int), .int .i64 (Wd : Int), .int .i64 (Hi : Int), .slice ca cn cc, .slice pa pn pc]] w' fun e w'' => e = .returned (.bool true) ∧ Below w'.heap.size w' w'') := hOA
  have HOB : Hid (∀ w', Below w.heap.size w w' → Calls Try.prog 16 #[.agg #[.int .i64 k2, .int .i64 (D2 : Int), .int .i64 (Wd : Int), .int .i64 (Hi : Int), .slice ca2 cn2 cc2, .slice pa2 pn2 pc2]] w' fun e w'' => e = .returned (.bool true) ∧ Below w'.heap.size w' w'') := hOB
  have HCA : Hid (∀ w', Below w.heap.size w w' → Calls Try.prog 44 #[.agg #[.int .i64 k, .int .i64 (D : Int), .int .i64 (Wd : Int), .int .i64 (Hi : Int), .slice ca cn cc, .slice pa pn pc]] w' fun e w'' => (∃ V fs rs fa ra, e = .returned (.iface 56 V) ∧ Seen 56 V fs rs fa ra Wd Hi (colF k D cs Wd ps) w''.heap.size w'') ∧ Below w'.heap.size w' w'') := fun w' b => colored_seen k D Wd Hi ca cn cc pa pn pc cs ps w' ok (hc.kept b) hcn (hp.kept b) hpn hW hH hm
  have HCB : Hid (∀ w', Below w.heap.size w w' → Calls Try.prog 44 #[.agg #[.int .i64 k2, .int .i64 (D2 : Int), .int .i64 (Wd : Int), .int .i64 (Hi : Int), .slice ca2 cn2 cc2, .slice pa2 pn2 pc2]] w' fun e w'' => (∃ V fs rs fa ra, e = .returned (.iface 56 V) ∧ Seen 56 V fs rs fa ra Wd Hi (colF k2 D2 cs2 Wd ps2) w''.heap.size w'') ∧ Below w'.heap.size w' w'') := fun w' b => colored_seen k2 D2 Wd Hi ca2 cn2 cc2 pa2 pn2 pc2 cs2 ps2 w' ok2 (hc2.kept b) hcn2 (hp2.kept b) hpn2 hW hH hm2
  have hmul : Wd * Hi ≤ 20 * 20 := Nat.mul_le_mul hW hH
  have HEQ : Hid (∀ (a : Option Addr) (ca : Nat) (b : Option Addr) (cb : Nat) (w : World), Ints w a (upto (ptF Wd (colF k D cs Wd ps)) (Wd * Hi)) → Ints w b (upto (ptF Wd (colF k2 D2 cs2 Wd ps2)) (Wd * Hi)) → Calls Try.prog 42 #[.slice a (Wd * Hi) ca, .slice b (Wd * Hi) cb] w fun e w' => e = .returned (.bool (decide (cols k D cs ps = cols k2 D2 cs2 ps2))) ∧ ∃ q, w' = w.drewN q) := fun a ca b cb w h1 h2 => by
    have := equal_any a (Wd * Hi) ca _ b (Wd * Hi) cb _ w h1 h2 (upto_length _ _) (upto_length _ _) (by omega) (by omega)
    rw [cols_upto k D cs ps Wd Hi (by omega), cols_upto k2 D2 cs2 ps2 Wd Hi (by omega)] at this
    exact this
  clear hOA hOB ok ok2 hc hcn hp hpn hc2 hcn2 hp2 hpn2 hm hm2 hmul
  go_enter Try.func14, Try.ntmps14
  go_wp2_with fail
  refine (HOA.out _ hB0).mono ?_
  rintro e w1 ⟨rfl, b1⟩
  have A1 : Hid (Bx w1 w.heap.size (.int .i64 k) (.int .i64 (D : Int)) (.int .i64 (Wd : Int)) (.int .i64 (Hi : Int)) (.slice ca cn cc) (.slice pa pn pc)) := A0.out.kept b1
  have B1 : Hid (Bx w1 (w.heap.size + 1) (.int .i64 k2) (.int .i64 (D2 : Int)) (.int .i64 (Wd : Int)) (.int .i64 (Hi : Int)) (.slice ca2 cn2 cc2) (.slice pa2 pn2 pc2)) := B0.out.kept b1
  have bel1 : Below w.heap.size w w1 := hB0.trans (b1.mono hB0.size)
  clear b1 hB0 A0 B0 HOA
  obtain ⟨_, p0, p1, p2, p3, p4, p5⟩ := B1.out
  go_wp2_with fail
  refine (HOB.out _ bel1).mono ?_
  rintro e w2 ⟨rfl, b2⟩
  have A2 : Hid (Bx w2 w.heap.size (.int .i64 k) (.int .i64 (D : Int)) (.int .i64 (Wd : Int)) (.int .i64 (Hi : Int)) (.slice ca cn cc) (.slice pa pn pc)) := A1.out.kept b2
  have B2 : Hid (Bx w2 (w.heap.size + 1) (.int .i64 k2) (.int .i64 (D2 : Int)) (.int .i64 (Wd : Int)) (.int .i64 (Hi : Int)) (.slice ca2 cn2 cc2) (.slice pa2 pn2 pc2)) := B1.out.kept b2
  have bel2 : Below w.heap.size w w2 := bel1.trans (b2.mono bel1.size)
  clear b2 bel1 A1 B1 HOB p0 p1 p2 p3 p4 p5
  obtain ⟨_, a0, a1, a2, a3, a4, a5⟩ := A2.out
  obtain ⟨_, p0, p1, p2, p3, p4, p5⟩ := B2.out
  go_wp2_with fail
  go_region_held3 (fun w' => w'.cell? ⟨w.heap.size, 0, none⟩ = some (.int .i64 k) ∧ w'.cell? ⟨w.heap.size, 1, none⟩ = some (.int .i64 (D : Int)) ∧ w'.cell? ⟨w.heap.size, 2, none⟩ = some (.int .i64 (Wd : Int)) ∧ w'.cell? ⟨w.heap.size, 3, none⟩ = some (.int .i64 (Hi : Int)) ∧ w'.cell? ⟨w.heap.size, 4, none⟩ = some (.slice ca cn cc) ∧ w'.cell? ⟨w.heap.size, 5, none⟩ = some (.slice pa pn pc) ∧ w'.cell? ⟨w.heap.size + 1, 0, none⟩ = some (.int .i64 k2) ∧ w'.cell? ⟨w.heap.size + 1, 1, none⟩ = some (.int .i64 (D2 : Int)) ∧ w'.cell? ⟨w.heap.size + 1, 2, none⟩ = some (.int .i64 (Wd : Int)) ∧ w'.cell? ⟨w.heap.size + 1, 3, none⟩ = some (.int .i64 (Hi : Int)) ∧ w'.cell? ⟨w.heap.size + 1, 4, none⟩ = some (.slice ca2 cn2 cc2) ∧ w'.cell? ⟨w.heap.size + 1, 5, none⟩ = some (.slice pa2 pn2 pc2)) (go_keep) (first | (go_at_call_of 44 (Value.slice pa pn pc); refine (HCA.out _ bel2.drew).mono ?_; rintro e w3 ⟨⟨V3, fs3, rs3, fa3, ra3, rfl, S3⟩, b3⟩; have b3' : Below w2.heap.size w2 w3 := box_drew b3; have bel3 : Below w.heap.size w w3 := bel2.trans (b3'.mono bel2.size); have A3 : Hid (Bx w3 w.heap.size (.int .i64 k) (.int .i64 (D : Int)) (.int .i64 (Wd : Int)) (.int .i64 (Hi : Int)) (.slice ca cn cc) (.slice pa pn pc)) := A2.out.kept b3'; have B3 : Hid (Bx w3 (w.heap.size + 1) (.int .i64 k2) (.int .i64 (D2 : Int)) (.int .i64 (Wd : Int)) (.int .i64 (Hi : Int)) (.slice ca2 cn2 cc2) (.slice pa2 pn2 pc2)) := B2.out.kept b3'; obtain ⟨_, m0, m1, m2, m3, m4, m5⟩ := A3.out; obtain ⟨_, n0, n1, n2, n3, n4, n5⟩ := B3.out; have G3 : Hid (Calls Try.prog 43 #[.func (.func 56) #[] #[.pointer (some ⟨w3.heap.size, 0, none⟩)]] (w3.alloc (.cells #[.iface 56 V3] 54)) fun e W' => (∃ y cy, e = .returned (.slice y (Wd * Hi) cy) ∧ Ints W' y (upto (ptF Wd (colF k D cs Wd ps)) (Wd * Hi))) ∧ Below w3.heap.size w3 W') := gathered 56 V3 fs3 rs3 fa3 ra3 Wd Hi _ hW hH w3 S3; clear S3) | (go_at_call_of 29 V3; refine (pointsOf_any _ V3 _).mono ?_; rintro e w4 ⟨rfl, hw4⟩; subst hw4) | (go_at_call_of 43 (Value.pointer (some ⟨w3.heap.size, 0, none⟩)); refine G3.out.mono ?_; rintro e w5 ⟨⟨y5, cy5, rfl, I5⟩, b5⟩; have bel5 : Below w.heap.size w w5 := bel3.trans (b5.mono bel3.size); have HI5 : Hid (Ints w5 y5 (upto (ptF Wd (colF k D cs Wd ps)) (Wd * Hi))) := I5; clear m0 m1 m2 m3 m4 m5 n0 n1 n2 n3 n4 n5 I5; have A5 : Hid (Bx w5 w.heap.size (.int .i64 k) (.int .i64 (D : Int)) (.int .i64 (Wd : Int)) (.int .i64 (Hi : Int)) (.slice ca cn cc) (.slice pa pn pc)) := A3.out.kept b5; have B5 : Hid (Bx w5 (w.heap.size + 1) (.int .i64 k2) (.int .i64 (D2 : Int)) (.int .i64 (Wd : Int)) (.int .i64 (Hi : Int)) (.slice ca2 cn2 cc2) (.slice pa2 pn2 pc2)) := B3.out.kept b5; obtain ⟨_, m0, m1, m2, m3, m4, m5⟩ := A5.out; obtain ⟨_, n0, n1, n2, n3, n4, n5⟩ := B5.out) | (go_at_call_of 44 (Value.slice pa2 pn2 pc2); refine (HCB.out _ bel5).mono ?_; rintro e w6 ⟨⟨V6, fs6, rs6, fa6, ra6, rfl, S6⟩, b6⟩; have bel6 : Below w.heap.size w w6 := bel5.trans (b6.mono bel5.size); clear m0 m1 m2 m3 m4 m5 n0 n1 n2 n3 n4 n5; have A6 : Hid (Bx w6 w.heap.size (.int .i64 k) (.int .i64 (D : Int)) (.int .i64 (Wd : Int)) (.int .i64 (Hi : Int)) (.slice ca cn cc) (.slice pa pn pc)) := A5.out.kept b6; have B6 : Hid (Bx w6 (w.heap.size + 1) (.int .i64 k2) (.int .i64 (D2 : Int)) (.int .i64 (Wd : Int)) (.int .i64 (Hi : Int)) (.slice ca2 cn2 cc2) (.slice pa2 pn2 pc2)) := B5.out.kept b6; obtain ⟨_, m0, m1, m2, m3, m4, m5⟩ := A6.out; obtain ⟨_, n0, n1, n2, n3, n4, n5⟩ := B6.out; have G6 : Hid (Calls Try.prog 43 #[.func (.func 56) #[] #[.pointer (some ⟨w6.heap.size, 0, none⟩)]] (w6.alloc (.cells #[.iface 56 V6] 54)) fun e W' => (∃ y cy, e = .returned (.slice y (Wd * Hi) cy) ∧ Ints W' y (upto (ptF Wd (colF k2 D2 cs2 Wd ps2)) (Wd * Hi))) ∧ Below w6.heap.size w6 W') := gathered 56 V6 fs6 rs6 fa6 ra6 Wd Hi _ hW hH w6 S6; have HI6 : Hid (Ints w6 y5 (upto (ptF Wd (colF k D cs Wd ps)) (Wd * Hi))) := HI5.out.kept b6; clear S6) | (go_at_call_of 29 V6; refine (pointsOf_any _ V6 _).mono ?_; rintro e w7 ⟨rfl, hw7⟩; subst hw7) | (go_at_call_of 43 (Value.pointer (some ⟨w6.heap.size, 0, none⟩)); refine G6.out.mono ?_; rintro e w8 ⟨⟨y8, cy8, rfl, I8⟩, b8⟩; have bel8 : Below w.heap.size w w8 := bel6.trans (b8.mono bel6.size); have HI8 : Hid (Ints w8 y5 (upto (ptF Wd (colF k D cs Wd ps)) (Wd * Hi)) ∧ Ints w8 y8 (upto (ptF Wd (colF k2 D2 cs2 Wd ps2)) (Wd * Hi))) := ⟨HI6.out.kept b8, I8⟩; clear m0 m1 m2 m3 m4 m5 n0 n1 n2 n3 n4 n5 I8; have A8 : Hid (Bx w8 w.heap.size (.int .i64 k) (.int .i64 (D : Int)) (.int .i64 (Wd : Int)) (.int .i64 (Hi : Int)) (.slice ca cn cc) (.slice pa pn pc)) := A6.out.kept b8; have B8 : Hid (Bx w8 (w.heap.size + 1) (.int .i64 k2) (.int .i64 (D2 : Int)) (.int .i64 (Wd : Int)) (.int .i64 (Hi : Int)) (.slice ca2 cn2 cc2) (.slice pa2 pn2 pc2)) := B6.out.kept b8; obtain ⟨_, m0, m1, m2, m3, m4, m5⟩ := A8.out; obtain ⟨_, n0, n1, n2, n3, n4, n5⟩ := B8.out) | (go_at_call 42; refine (HEQ.out y5 cy5 y8 cy8 w8 HI8.out.1 HI8.out.2).mono ?_; rintro e w9 ⟨rfl, q9, hw9⟩; have bel9 : Below w.heap.size w w9 := (by rw [hw9]; exact below_drewN bel8 _); have b9 : Below w8.heap.size w8 w9 := (by rw [hw9]; exact below_drewN (Below.refl _ _) _); clear hw9 m0 m1 m2 m3 m4 m5 n0 n1 n2 n3 n4 n5; have A9 : Hid (Bx w9 w.heap.size (.int .i64 k) (.int .i64 (D : Int)) (.int .i64 (Wd : Int)) (.int .i64 (Hi : Int)) (.slice ca cn cc) (.slice pa pn pc)) := A8.out.kept b9; have B9 : Hid (Bx w9 (w.heap.size + 1) (.int .i64 k2) (.int .i64 (D2 : Int)) (.int .i64 (Wd : Int)) (.int .i64 (Hi : Int)) (.slice ca2 cn2 cc2) (.slice pa2 pn2 pc2)) := B8.out.kept b9; obtain ⟨_, m0, m1, m2, m3, m4, m5⟩ := A9.out; obtain ⟨_, n0, n1, n2, n3, n4, n5⟩ := B9.out))
  all_goals
    clear m0 m1 m2 m3 m4 m5 n0 n1 n2 n3 n4 n5 a0 a1 a2 a3 a4 a5 p0 p1 p2 p3 p4 p5 HCA HCB HEQ
    go_wp2_with fail
    go_ret
    exact ⟨rfl, bel9⟩
end Go.Proofs.Ytjiogneidioknaa

/- ImageLike of the specification. -/
namespace Go.Proofs.Ytjiogneidioknaa
open Go.RowKit

set_option maxHeartbeats 1000000 in
set_option maxRecDepth 20000 in
theorem spec_like_bad1 (k d wd hi : Int) (ca : Option Addr) (cn cc : Nat) (pa : Option Addr) (pn pc : Nat) (k2 d2 wd2 hi2 : Int) (ca2 : Option Addr) (cn2 cc2 : Nat) (pa2 : Option Addr) (pn2 pc2 : Nat) (w : World) (hOA : (∀ w', Below w.heap.size w w' → Calls Try.prog 17 #[.agg #[.int .i64 k, .int .i64 d, .int .i64 wd, .int .i64 hi, .slice ca cn cc, .slice pa pn pc]] w' fun e w'' => e = .returned (.bool false) ∧ Below w'.heap.size w' w'')) :
    Calls Try.prog 15 #[.agg #[.int .i64 k, .int .i64 d, .int .i64 wd, .int .i64 hi, .slice ca cn cc, .slice pa pn pc], .agg #[.int .i64 k2, .int .i64 d2, .int .i64 wd2, .int .i64 hi2, .slice ca2 cn2 cc2, .slice pa2 pn2 pc2]] w fun e w' => e = .returned (.bool false) ∧ Below w.heap.size w w' := by
  have hB0 : Below w.heap.size w ((w.alloc (.cells #[.int .i64 k, .int .i64 d, .int .i64 wd, .int .i64 hi, .slice ca cn cc, .slice pa pn pc] 26)).alloc (.cells #[.int .i64 k2, .int .i64 d2, .int .i64 wd2, .int .i64 hi2, .slice ca2 cn2 cc2, .slice pa2 pn2 pc2] 26)) := ((Below.refl _ _).alloc (Nat.le_refl _) _).alloc (by simp) _
  have A0 : Hid (Bx ((w.alloc (.cells #[.int .i64 k, .int .i64 d, .int .i64 wd, .int .i64 hi, .slice ca cn cc, .slice pa pn pc] 26)).alloc (.cells #[.int .i64 k2, .int .i64 d2, .int .i64 wd2, .int .i64 hi2, .slice ca2 cn2 cc2, .slice pa2 pn2 pc2] 26)) w.heap.size (.int .i64 k) (.int .i64 d) (.int .i64 wd) (.int .i64 hi) (.slice ca cn cc) (.slice pa pn pc)) := (bx_new w _ _ _ _ _ _ 26).kept ((Below.refl _ _).alloc (Nat.le_refl _) _)
  have B0 : Hid (Bx ((w.alloc (.cells #[.int .i64 k, .int .i64 d, .int .i64 wd, .int .i64 hi, .slice ca cn cc, .slice pa pn pc] 26)).alloc (.cells #[.int .i64 k2, .int .i64 d2, .int .i64 wd2, .int .i64 hi2, .slice ca2 cn2 cc2, .slice pa2 pn2 pc2] 26)) (w.heap.size + 1) (.int .i64 k2) (.int .i64 d2) (.int .i64 wd2) (.int .i64 hi2) (.slice ca2 cn2 cc2) (.slice pa2 pn2 pc2)) := by
    have := bx_new (w.alloc (.cells #[.int .i64 k, .int .i64 d, .int .i64 wd, .int .i64 hi, .slice ca cn cc, .slice pa pn pc] 26)) (.int .i64 k2) (.int .i64 d2) (.int .i64 wd2) (.int .i64 hi2) (.slice ca2 cn2 cc2) (.slice pa2 pn2 pc2) 26
    rw [World.size_alloc] at this; exact this
  have HOA : Hid (∀ w', Below w.heap.size w w' → Calls Try.prog 17 #[.agg #[.int .i64 k, .int .i64 d, .int .i64 wd, .int .i64 hi, .slice ca cn cc, .slice pa pn pc]] w' fun e w'' => e = .returned (.bool false) ∧ Below w'.heap.size w' w'') := hOA
  clear hOA
  go_enter Try.func15, Try.ntmps15
  go_wp2_with fail
  refine (HOA.out _ hB0).mono ?_
  rintro e w1 ⟨rfl, b1⟩
  have A1 : Hid (Bx w1 w.heap.size (.int .i64 k) (.int .i64 d) (.int .i64 wd) (.int .i64 hi) (.slice ca cn cc) (.slice pa pn pc)) := A0.out.kept b1
  have B1 : Hid (Bx w1 (w.heap.size + 1) (.int .i64 k2) (.int .i64 d2) (.int .i64 wd2) (.int .i64 hi2) (.slice ca2 cn2 cc2) (.slice pa2 pn2 pc2)) := B0.out.kept b1
  have bel1 : Below w.heap.size w w1 := hB0.trans (b1.mono hB0.size)
  clear b1 hB0 A0 B0 HOA
  clear A1 B1
  go_wp2_with fail
  go_ret
  exact ⟨rfl, bel1⟩

set_option maxHeartbeats 1000000 in
set_option maxRecDepth 20000 in
theorem spec_like_bad2 (k d wd hi : Int) (ca : Option Addr) (cn cc : Nat) (pa : Option Addr) (pn pc : Nat) (k2 d2 wd2 hi2 : Int) (ca2 : Option Addr) (cn2 cc2 : Nat) (pa2 : Option Addr) (pn2 pc2 : Nat) (w : World) (hOA : (∀ w', Below w.heap.size w w' → Calls Try.prog 17 #[.agg #[.int .i64 k, .int .i64 d, .int .i64 wd, .int .i64 hi, .slice ca cn cc, .slice pa pn pc]] w' fun e w'' => e = .returned (.bool true) ∧ Below w'.heap.size w' w'')) (hOB : (∀ w', Below w.heap.size w w' → Calls Try.prog 17 #[.agg #[.int .i64 k2, .int .i64 d2, .int .i64 wd2, .int .i64 hi2, .slice ca2 cn2 cc2, .slice pa2 pn2 pc2]] w' fun e w'' => e = .returned (.bool false) ∧ Below w'.heap.size w' w'')) :
    Calls Try.prog 15 #[.agg #[.int .i64 k, .int .i64 d, .int .i64 wd, .int .i64 hi, .slice ca cn cc, .slice pa pn pc], .agg #[.int .i64 k2, .int .i64 d2, .int .i64 wd2, .int .i64 hi2, .slice ca2 cn2 cc2, .slice pa2 pn2 pc2]] w fun e w' => e = .returned (.bool false) ∧ Below w.heap.size w w' := by
  have hB0 : Below w.heap.size w ((w.alloc (.cells #[.int .i64 k, .int .i64 d, .int .i64 wd, .int .i64 hi, .slice ca cn cc, .slice pa pn pc] 26)).alloc (.cells #[.int .i64 k2, .int .i64 d2, .int .i64 wd2, .int .i64 hi2, .slice ca2 cn2 cc2, .slice pa2 pn2 pc2] 26)) := ((Below.refl _ _).alloc (Nat.le_refl _) _).alloc (by simp) _
  have A0 : Hid (Bx ((w.alloc (.cells #[.int .i64 k, .int .i64 d, .int .i64 wd, .int .i64 hi, .slice ca cn cc, .slice pa pn pc] 26)).alloc (.cells #[.int .i64 k2, .int .i64 d2, .int .i64 wd2, .int .i64 hi2, .slice ca2 cn2 cc2, .slice pa2 pn2 pc2] 26)) w.heap.size (.int .i64 k) (.int .i64 d) (.int .i64 wd) (.int .i64 hi) (.slice ca cn cc) (.slice pa pn pc)) := (bx_new w _ _ _ _ _ _ 26).kept ((Below.refl _ _).alloc (Nat.le_refl _) _)
  have B0 : Hid (Bx ((w.alloc (.cells #[.int .i64 k, .int .i64 d, .int .i64 wd, .int .i64 hi, .slice ca cn cc, .slice pa pn pc] 26)).alloc (.cells #[.int .i64 k2, .int .i64 d2, .int .i64 wd2, .int .i64 hi2, .slice ca2 cn2 cc2, .slice pa2 pn2 pc2] 26)) (w.heap.size + 1) (.int .i64 k2) (.int .i64 d2) (.int .i64 wd2) (.int .i64 hi2) (.slice ca2 cn2 cc2) (.slice pa2 pn2 pc2)) := by
    have := bx_new (w.alloc (.cells #[.int .i64 k, .int .i64 d, .int .i64 wd, .int .i64 hi, .slice ca cn cc, .slice pa pn pc] 26)) (.int .i64 k2) (.int .i64 d2) (.int .i64 wd2) (.int .i64 hi2) (.slice ca2 cn2 cc2) (.slice pa2 pn2 pc2) 26
    rw [World.size_alloc] at this; exact this
  have HOA : Hid (∀ w', Below w.heap.size w w' → Calls Try.prog 17 #[.agg #[.int .i64 k, .int .i64 d, .int .i64 wd, .int .i64 hi, .slice ca cn cc, .slice pa pn pc]] w' fun e w'' => e = .returned (.bool true) ∧ Below w'.heap.size w' w'') := hOA
  have HOB : Hid (∀ w', Below w.heap.size w w' → Calls Try.prog 17 #[.agg #[.int .i64 k2, .int .i64 d2, .int .i64 wd2, .int .i64 hi2, .slice ca2 cn2 cc2, .slice pa2 pn2 pc2]] w' fun e w'' => e = .returned (.bool false) ∧ Below w'.heap.size w' w'') := hOB
  clear hOA hOB
  go_enter Try.func15, Try.ntmps15
  go_wp2_with fail
  refine (HOA.out _ hB0).mono ?_
  rintro e w1 ⟨rfl, b1⟩
  have A1 : Hid (Bx w1 w.heap.size (.int .i64 k) (.int .i64 d) (.int .i64 wd) (.int .i64 hi) (.slice ca cn cc) (.slice pa pn pc)) := A0.out.kept b1
  have B1 : Hid (Bx w1 (w.heap.size + 1) (.int .i64 k2) (.int .i64 d2) (.int .i64 wd2) (.int .i64 hi2) (.slice ca2 cn2 cc2) (.slice pa2 pn2 pc2)) := B0.out.kept b1
  have bel1 : Below w.heap.size w w1 := hB0.trans (b1.mono hB0.size)
  clear b1 hB0 A0 B0 HOA
  obtain ⟨_, p0, p1, p2, p3, p4, p5⟩ := B1.out
  go_wp2_with fail
  refine (HOB.out _ bel1).mono ?_
  rintro e w2 ⟨rfl, b2⟩
  have A2 : Hid (Bx w2 w.heap.size (.int .i64 k) (.int .i64 d) (.int .i64 wd) (.int .i64 hi) (.slice ca cn cc) (.slice pa pn pc)) := A1.out.kept b2
  have B2 : Hid (Bx w2 (w.heap.size + 1) (.int .i64 k2) (.int .i64 d2) (.int .i64 wd2) (.int .i64 hi2) (.slice ca2 cn2 cc2) (.slice pa2 pn2 pc2)) := B1.out.kept b2
  have bel2 : Below w.heap.size w w2 := bel1.trans (b2.mono bel1.size)
  clear b2 bel1 A1 B1 HOB p0 p1 p2 p3 p4 p5
  obtain ⟨_, a0, a1, a2, a3, a4, a5⟩ := A2.out
  obtain ⟨_, p0, p1, p2, p3, p4, p5⟩ := B2.out
  clear A2 B2
  go_wp2_with fail
  go_ret
  exact ⟨rfl, bel2⟩

set_option maxHeartbeats 1000000 in
set_option maxRecDepth 20000 in
theorem spec_like_wide (k d wd hi : Int) (ca : Option Addr) (cn cc : Nat) (pa : Option Addr) (pn pc : Nat) (k2 d2 wd2 hi2 : Int) (ca2 : Option Addr) (cn2 cc2 : Nat) (pa2 : Option Addr) (pn2 pc2 : Nat) (w : World) (hno : ¬ wd = wd2) (hOA : (∀ w', Below w.heap.size w w' → Calls Try.prog 17 #[.agg #[.int .i64 k, .int .i64 d, .int .i64 wd, .int .i64 hi, .slice ca cn cc, .slice pa pn pc]] w' fun e w'' => e = .returned (.bool true) ∧ Below w'.heap.size w' w'')) (hOB : (∀ w', Below w.heap.size w w' → Calls Try.prog 17 #[.agg #[.int .i64 k2, .int .i64 d2, .int .i64 wd2, .int .i64 hi2, .slice ca2 cn2 cc2, .slice pa2 pn2 pc2]] w' fun e w'' => e = .returned (.bool true) ∧ Below w'.heap.size w' w'')) :
    Calls Try.prog 15 #[.agg #[.int .i64 k, .int .i64 d, .int .i64 wd, .int .i64 hi, .slice ca cn cc, .slice pa pn pc], .agg #[.int .i64 k2, .int .i64 d2, .int .i64 wd2, .int .i64 hi2, .slice ca2 cn2 cc2, .slice pa2 pn2 pc2]] w fun e w' => e = .returned (.bool false) ∧ Below w.heap.size w w' := by
  have hB0 : Below w.heap.size w ((w.alloc (.cells #[.int .i64 k, .int .i64 d, .int .i64 wd, .int .i64 hi, .slice ca cn cc, .slice pa pn pc] 26)).alloc (.cells #[.int .i64 k2, .int .i64 d2, .int .i64 wd2, .int .i64 hi2, .slice ca2 cn2 cc2, .slice pa2 pn2 pc2] 26)) := ((Below.refl _ _).alloc (Nat.le_refl _) _).alloc (by simp) _
  have A0 : Hid (Bx ((w.alloc (.cells #[.int .i64 k, .int .i64 d, .int .i64 wd, .int .i64 hi, .slice ca cn cc, .slice pa pn pc] 26)).alloc (.cells #[.int .i64 k2, .int .i64 d2, .int .i64 wd2, .int .i64 hi2, .slice ca2 cn2 cc2, .slice pa2 pn2 pc2] 26)) w.heap.size (.int .i64 k) (.int .i64 d) (.int .i64 wd) (.int .i64 hi) (.slice ca cn cc) (.slice pa pn pc)) := (bx_new w _ _ _ _ _ _ 26).kept ((Below.refl _ _).alloc (Nat.le_refl _) _)
  have B0 : Hid (Bx ((w.alloc (.cells #[.int .i64 k, .int .i64 d, .int .i64 wd, .int .i64 hi, .slice ca cn cc, .slice pa pn pc] 26)).alloc (.cells #[.int .i64 k2, .int .i64 d2, .int .i64 wd2, .int .i64 hi2, .slice ca2 cn2 cc2, .slice pa2 pn2 pc2] 26)) (w.heap.size + 1) (.int .i64 k2) (.int .i64 d2) (.int .i64 wd2) (.int .i64 hi2) (.slice ca2 cn2 cc2) (.slice pa2 pn2 pc2)) := by
    have := bx_new (w.alloc (.cells #[.int .i64 k, .int .i64 d, .int .i64 wd, .int .i64 hi, .slice ca cn cc, .slice pa pn pc] 26)) (.int .i64 k2) (.int .i64 d2) (.int .i64 wd2) (.int .i64 hi2) (.slice ca2 cn2 cc2) (.slice pa2 pn2 pc2) 26
    rw [World.size_alloc] at this; exact this
  have HOA : Hid (∀ w', Below w.heap.size w w' → Calls Try.prog 17 #[.agg #[.int .i64 k, .int .i64 d, .int .i64 wd, .int .i64 hi, .slice ca cn cc, .slice pa pn pc]] w' fun e w'' => e = .returned (.bool true) ∧ Below w'.heap.size w' w'') := hOA
  have HOB : Hid (∀ w', Below w.heap.size w w' → Calls Try.prog 17 #[.agg #[.int .i64 k2, .int .i64 d2, .int .i64 wd2, .int .i64 hi2, .slice ca2 cn2 cc2, .slice pa2 pn2 pc2]] w' fun e w'' => e = .returned (.bool true) ∧ Below w'.heap.size w' w'') := hOB
  clear hOA hOB
  have hbne : (wd == wd2) = false := by rw [beq_eq_false_iff_ne]; exact hno
  go_enter Try.func15, Try.ntmps15
  go_wp2_with fail
  refine (HOA.out _ hB0).mono ?_
  rintro e w1 ⟨rfl, b1⟩
  have A1 : Hid (Bx w1 w.heap.size (.int .i64 k) (.int .i64 d) (.int .i64 wd) (.int .i64 hi) (.slice ca cn cc) (.slice pa pn pc)) := A0.out.kept b1
  have B1 : Hid (Bx w1 (w.heap.size + 1) (.int .i64 k2) (.int .i64 d2) (.int .i64 wd2) (.int .i64 hi2) (.slice ca2 cn2 cc2) (.slice pa2 pn2 pc2)) := B0.out.kept b1
  have bel1 : Below w.heap.size w w1 := hB0.trans (b1.mono hB0.size)
  clear b1 hB0 A0 B0 HOA
  obtain ⟨_, p0, p1, p2, p3, p4, p5⟩ := B1.out
  go_wp2_with fail
  refine (HOB.out _ bel1).mono ?_
  rintro e w2 ⟨rfl, b2⟩
  have A2 : Hid (Bx w2 w.heap.size (.int .i64 k) (.int .i64 d) (.int .i64 wd) (.int .i64 hi) (.slice ca cn cc) (.slice pa pn pc)) := A1.out.kept b2
  have B2 : Hid (Bx w2 (w.heap.size + 1) (.int .i64 k2) (.int .i64 d2) (.int .i64 wd2) (.int .i64 hi2) (.slice ca2 cn2 cc2) (.slice pa2 pn2 pc2)) := B1.out.kept b2
  have bel2 : Below w.heap.size w w2 := bel1.trans (b2.mono bel1.size)
  clear b2 bel1 A1 B1 HOB p0 p1 p2 p3 p4 p5
  obtain ⟨_, a0, a1, a2, a3, a4, a5⟩ := A2.out
  obtain ⟨_, p0, p1, p2, p3, p4, p5⟩ := B2.out
  clear A2 B2
  go_wp2_with fail
  go_ret
  exact ⟨rfl, bel2⟩

set_option maxHeartbeats 1000000 in
set_option maxRecDepth 20000 in
theorem spec_like_high (k d wd hi : Int) (ca : Option Addr) (cn cc : Nat) (pa : Option Addr) (pn pc : Nat) (k2 d2 hi2 : Int) (ca2 : Option Addr) (cn2 cc2 : Nat) (pa2 : Option Addr) (pn2 pc2 : Nat) (w : World) (hno : ¬ hi = hi2) (hOA : (∀ w', Below w.heap.size w w' → Calls Try.prog 17 #[.agg #[.int .i64 k, .int .i64 d, .int .i64 wd, .int .i64 hi, .slice ca cn cc, .slice pa pn pc]] w' fun e w'' => e = .returned (.bool true) ∧ Below w'.heap.size w' w'')) (hOB : (∀ w', Below w.heap.size w w' → Calls Try.prog 17 #[.agg #[.int .i64 k2, .int .i64 d2, .int .i64 wd, .int .i64 hi2, .slice ca2 cn2 cc2, .slice pa2 pn2 pc2]] w' fun e w'' => e = .returned (.bool true) ∧ Below w'.heap.size w' w'')) :
    Calls Try.prog 15 #[.agg #[.int .i64 k, .int .i64 d, .int .i64 wd, .int .i64 hi, .slice ca cn cc, .slice pa pn pc], .agg #[.int .i64 k2, .int .i64 d2, .int .i64 wd, .int .i64 hi2, .slice ca2 cn2 cc2, .slice pa2 pn2 pc2]] w fun e w' => e = .returned (.bool false) ∧ Below w.heap.size w w' := by
  have hB0 : Below w.heap.size w ((w.alloc (.cells #[.int .i64 k, .int .i64 d, .int .i64 wd, .int .i64 hi, .slice ca cn cc, .slice pa pn pc] 26)).alloc (.cells #[.int .i64 k2, .int .i64 d2, .int .i64 wd, .int .i64 hi2, .slice ca2 cn2 cc2, .slice pa2 pn2 pc2] 26)) := ((Below.refl _ _).alloc (Nat.le_refl _) _).alloc (by simp) _
  have A0 : Hid (Bx ((w.alloc (.cells #[.int .i64 k, .int .i64 d, .int .i64 wd, .int .i64 hi, .slice ca cn cc, .slice pa pn pc] 26)).alloc (.cells #[.int .i64 k2, .int .i64 d2, .int .i64 wd, .int .i64 hi2, .slice ca2 cn2 cc2, .slice pa2 pn2 pc2] 26)) w.heap.size (.int .i64 k) (.int .i64 d) (.int .i64 wd) (.int .i64 hi) (.slice ca cn cc) (.slice pa pn pc)) := (bx_new w _ _ _ _ _ _ 26).kept ((Below.refl _ _).alloc (Nat.le_refl _) _)
  have B0 : Hid (Bx ((w.alloc (.cells #[.int .i64 k, .int .i64 d, .int .i64 wd, .int .i64 hi, .slice ca cn cc, .slice pa pn pc] 26)).alloc (.cells #[.int .i64 k2, .int .i64 d2, .int .i64 wd, .int .i64 hi2, .slice ca2 cn2 cc2, .slice pa2 pn2 pc2] 26)) (w.heap.size + 1) (.int .i64 k2) (.int .i64 d2) (.int .i64 wd) (.int .i64 hi2) (.slice ca2 cn2 cc2) (.slice pa2 pn2 pc2)) := by
    have := bx_new (w.alloc (.cells #[.int .i64 k, .int .i64 d, .int .i64 wd, .int .i64 hi, .slice ca cn cc, .slice pa pn pc] 26)) (.int .i64 k2) (.int .i64 d2) (.int .i64 wd) (.int .i64 hi2) (.slice ca2 cn2 cc2) (.slice pa2 pn2 pc2) 26
    rw [World.size_alloc] at this; exact this
  have HOA : Hid (∀ w', Below w.heap.size w w' → Calls Try.prog 17 #[.agg #[.int .i64 k, .int .i64 d, .int .i64 wd, .int .i64 hi, .slice ca cn cc, .slice pa pn pc]] w' fun e w'' => e = .returned (.bool true) ∧ Below w'.heap.size w' w'') := hOA
  have HOB : Hid (∀ w', Below w.heap.size w w' → Calls Try.prog 17 #[.agg #[.int .i64 k2, .int .i64 d2, .int .i64 wd, .int .i64 hi2, .slice ca2 cn2 cc2, .slice pa2 pn2 pc2]] w' fun e w'' => e = .returned (.bool true) ∧ Below w'.heap.size w' w'') := hOB
  clear hOA hOB
  have hbne : (hi == hi2) = false := by rw [beq_eq_false_iff_ne]; exact hno
  go_enter Try.func15, Try.ntmps15
  go_wp2_with fail
  refine (HOA.out _ hB0).mono ?_
  rintro e w1 ⟨rfl, b1⟩
  have A1 : Hid (Bx w1 w.heap.size (.int .i64 k) (.int .i64 d) (.int .i64 wd) (.int .i64 hi) (.slice ca cn cc) (.slice pa pn pc)) := A0.out.kept b1
  have B1 : Hid (Bx w1 (w.heap.size + 1) (.int .i64 k2) (.int .i64 d2) (.int .i64 wd) (.int .i64 hi2) (.slice ca2 cn2 cc2) (.slice pa2 pn2 pc2)) := B0.out.kept b1
  have bel1 : Below w.heap.size w w1 := hB0.trans (b1.mono hB0.size)
  clear b1 hB0 A0 B0 HOA
  obtain ⟨_, p0, p1, p2, p3, p4, p5⟩ := B1.out
  go_wp2_with fail
  refine (HOB.out _ bel1).mono ?_
  rintro e w2 ⟨rfl, b2⟩
  have A2 : Hid (Bx w2 w.heap.size (.int .i64 k) (.int .i64 d) (.int .i64 wd) (.int .i64 hi) (.slice ca cn cc) (.slice pa pn pc)) := A1.out.kept b2
  have B2 : Hid (Bx w2 (w.heap.size + 1) (.int .i64 k2) (.int .i64 d2) (.int .i64 wd) (.int .i64 hi2) (.slice ca2 cn2 cc2) (.slice pa2 pn2 pc2)) := B1.out.kept b2
  have bel2 : Below w.heap.size w w2 := bel1.trans (b2.mono bel1.size)
  clear b2 bel1 A1 B1 HOB p0 p1 p2 p3 p4 p5
  obtain ⟨_, a0, a1, a2, a3, a4, a5⟩ := A2.out
  obtain ⟨_, p0, p1, p2, p3, p4, p5⟩ := B2.out
  clear A2 B2
  go_wp2_with fail
  go_ret
  exact ⟨rfl, bel2⟩

set_option maxHeartbeats 8000000 in
set_option maxRecDepth 20000 in
theorem spec_like_yes (k : Int) (D Wd Hi : Nat) (ca : Option Addr) (cn cc : Nat) (pa : Option Addr) (pn pc : Nat) (k2 : Int) (D2 : Nat) (ca2 : Option Addr) (cn2 cc2 : Nat) (pa2 : Option Addr) (pn2 pc2 : Nat) (cs ps cs2 ps2 : List Int) (w : World) (ok : Im.Ok k (D : Int) (Wd : Int) (Hi : Int) cs ps) (ok2 : Im.Ok k2 (D2 : Int) (Wd : Int) (Hi : Int) cs2 ps2) (hc : Ints w ca cs) (hcn : cs.length = cn) (hp : Ints w pa ps) (hpn : ps.length = pn) (hc2 : Ints w ca2 cs2) (hcn2 : cs2.length = cn2) (hp2 : Ints w pa2 ps2) (hpn2 : ps2.length = pn2) (hW : Wd ≤ 20) (hH : Hi ≤ 20) (hm : pn = Wd * Hi) (hm2 : pn2 = Wd * Hi)
    (hOA : (∀ w', Below w.heap.size w w' → Calls Try.prog 17 #[.agg #[.int .i64 k, .int .i64 (D : Int), .int .i64 (Wd : Int), .int .i64 (Hi : Int), .slice ca cn cc, .slice pa pn pc]] w' fun e w'' => e = .returned (.bool true) ∧ Below w'.heap.size w' w'')) (hOB : (∀ w', Below w.heap.size w w' → Calls Try.prog 17 #[.agg #[.int .i64 k2, .int .i64 (D2 : Int), .int .i64 (Wd : Int), .int .i64 (Hi : Int), .slice ca2 cn2 cc2, .slice pa2 pn2 pc2]] w' fun e w'' => e = .returned (.bool true) ∧ Below w'.heap.size w' w'')) :
    Calls Try.prog 15 #[.agg #[.int .i64 k, .int .i64 (D : Int), .int .i64 (Wd : Int), .int .i64 (Hi : Int), .slice ca cn cc, .slice pa pn pc], .agg #[.int .i64 k2, .int .i64 (D2 : Int), .int .i64 (Wd : Int), .int .i64 (Hi : Int), .slice ca2 cn2 cc2, .slice pa2 pn2 pc2]] w fun e w' => e = .returned (.bool (decide (cols k D cs ps = cols k2 D2 cs2 ps2))) ∧ Below w.heap.size w w' := by
  have hB0 : Below w.heap.size w ((w.alloc (.cells #[.int .i64 k, .int .i64 (D : Int), .int .i64 (Wd : Int), .int .i64 (Hi : Int), .slice ca cn cc, .slice pa pn pc] 26)).alloc (.cells #[.int .i64 k2, .int .i64 (D2 : Int), .int .i64 (Wd : Int), .int .i64 (Hi : Int), .slice ca2 cn2 cc2, .slice pa2 pn2 pc2] 26)) := ((Below.refl _ _).alloc (Nat.le_refl _) _).alloc (by simp) _
  have A0 : Hid (Bx ((w.alloc (.cells #[.int .i64 k, .int .i64 (D : Int), .int .i64 (Wd : Int), .int .i64 (Hi : Int), .slice ca cn cc, .slice pa pn pc] 26)).alloc (.cells #[.int .i64 k2, .int .i64 (D2 : Int), .int .i64 (Wd : Int), .int .i64 (Hi : Int), .slice ca2 cn2 cc2, .slice pa2 pn2 pc2] 26)) w.heap.size (.int .i64 k) (.int .i64 (D : Int)) (.int .i64 (Wd : Int)) (.int .i64 (Hi : Int)) (.slice ca cn cc) (.slice pa pn pc)) := (bx_new w _ _ _ _ _ _ 26).kept ((Below.refl _ _).alloc (Nat.le_refl _) _)
  have B0 : Hid (Bx ((w.alloc (.cells #[.int .i64 k, .int .i64 (D : Int), .int .i64 (Wd : Int), .int .i64 (Hi : Int), .slice ca cn cc, .slice pa pn pc] 26)).alloc (.cells #[.int .i64 k2, .int .i64 (D2 : Int), .int .i64 (Wd : Int), .int .i64 (Hi : Int), .slice ca2 cn2 cc2, .slice pa2 pn2 pc2] 26)) (w.heap.size + 1) (.int .i64 k2) (.int .i64 (D2 : Int)) (.int .i64 (Wd : Int)) (.int .i64 (Hi : Int)) (.slice ca2 cn2 cc2) (.slice pa2 pn2 pc2)) := by
    have := bx_new (w.alloc (.cells #[.int .i64 k, .int .i64 (D : Int), .int .i64 (Wd : Int), .int .i64 (Hi : Int), .slice ca cn cc, .slice pa pn pc] 26)) (.int .i64 k2) (.int .i64 (D2 : Int)) (.int .i64 (Wd : Int)) (.int .i64 (Hi : Int)) (.slice ca2 cn2 cc2) (.slice pa2 pn2 pc2) 26
    rw [World.size_alloc] at this; exact this
  have HOA : Hid (∀ w', Below w.heap.size w w' → Calls Try.prog 17 #[.agg #[.int .i64 k, .int .i64 (D : Int), .int .i64 (Wd : Int), .int .i64 (Hi : Int), .slice ca cn cc, .slice pa pn pc]] w' fun e w'' => e = .returned (.bool true) ∧ Below w'.heap.size w' w'') := hOA
  have HOB : Hid (∀ w', Below w.heap.size w w' → Calls Try.prog 17 #[.agg #[.int .i64 k2, .int .i64 (D2 : Int), .int .i64 (Wd : Int), .int .i64 (Hi : Int), .slice ca2 cn2 cc2, .slice pa2 pn2 pc2]] w' fun e w'' => e = .returned (.bool true) ∧ Below w'.heap.size w' w'') := hOB
  have HLA : Hid (∀ (x : Nat) (w' : World), Below w.heap.size w w' → PtOk k D cs x → Calls Try.prog 45 #[.agg #[.int .i64 k, .int .i64 (D : Int), .int .i64 (Wd : Int), .int .i64 (Hi : Int), .slice ca cn cc, .slice pa pn pc], .int .i64 (x : Int)] w' fun e w'' => e = .returned (.int .i64 (colOf k D cs (x : Int))) ∧ Below w'.heap.size w' w'') := fun x w' b h => l8Color_any k D x (Wd : Int) (Hi : Int) ca cn cc pa pn pc cs w' (hc.kept b) hcn h
  have HLB : Hid (∀ (x : Nat) (w' : World), Below w.heap.size w w' → PtOk k2 D2 cs2 x → Calls Try.prog 45 #[.agg #[.int .i64 k2, .int .i64 (D2 : Int), .int .i64 (Wd : Int), .int .i64 (Hi : Int), .slice ca2 cn2 cc2, .slice pa2 pn2 pc2], .int .i64 (x : Int)] w' fun e w'' => e = .returned (.int .i64 (colOf k2 D2 cs2 (x : Int))) ∧ Below w'.heap.size w' w'') := fun x w' b h => l8Color_any k2 D2 x (Wd : Int) (Hi : Int) ca2 cn2 cc2 pa2 pn2 pc2 cs2 w' (hc2.kept b) hcn2 h
  have HP : Hid (∀ w', Below w.heap.size w w' → Ints w' pa ps ∧ Ints w' pa2 ps2) := fun w' b => ⟨hp.kept b, hp2.kept b⟩
  have HPO : Hid (∀ j, j < pn → (∃ p : Nat, ps.getD j 0 = (p : Int) ∧ PtOk k D cs p) ∧ (∃ q : Nat, ps2.getD j 0 = (q : Int) ∧ PtOk k2 D2 cs2 q)) := fun j hj => ⟨Im.pt_ok ok j (by omega), Im.pt_ok ok2 j (by omega)⟩
  have HN : Hid (ps.length = pn ∧ ps2.length = pn2 ∧ pn = pn2) := ⟨hpn, hpn2, by omega⟩
  have hmul : Wd * Hi ≤ 20 * 20 := Nat.mul_le_mul hW hH
  have hpb : pn ≤ 400 := by omega
  have hpb2 : pn2 ≤ 400 := by omega
  clear hOA hOB ok ok2 hc hcn hp hpn hc2 hcn2 hp2 hpn2 hm hm2 hmul
  go_enter Try.func15, Try.ntmps15
  go_wp2_with fail
  refine (HOA.out _ hB0).mono ?_
  rintro e w1 ⟨rfl, b1⟩
  have A1 : Hid (Bx w1 w.heap.size (.int .i64 k) (.int .i64 (D : Int)) (.int .i64 (Wd : Int)) (.int .i64 (Hi : Int)) (.slice ca cn cc) (.slice pa pn pc)) := A0.out.kept b1
  have B1 : Hid (Bx w1 (w.heap.size + 1) (.int .i64 k2) (.int .i64 (D2 : Int)) (.int .i64 (Wd : Int)) (.int .i64 (Hi : Int)) (.slice ca2 cn2 cc2) (.slice pa2 pn2 pc2)) := B0.out.kept b1
  have bel1 : Below w.heap.size w w1 := hB0.trans (b1.mono hB0.size)
  clear b1 hB0 A0 B0 HOA
  obtain ⟨_, p0, p1, p2, p3, p4, p5⟩ := B1.out
  go_wp2_with fail
  refine (HOB.out _ bel1).mono ?_
  rintro e w2 ⟨rfl, b2⟩
  have A2 : Hid (Bx w2 w.heap.size (.int .i64 k) (.int .i64 (D : Int)) (.int .i64 (Wd : Int)) (.int .i64 (Hi : Int)) (.slice ca cn cc) (.slice pa pn pc)) := A1.out.kept b2
  have B2 : Hid (Bx w2 (w.heap.size + 1) (.int .i64 k2) (.int .i64 (D2 : Int)) (.int .i64 (Wd : Int)) (.int .i64 (Hi : Int)) (.slice ca2 cn2 cc2) (.slice pa2 pn2 pc2)) := B1.out.kept b2
  have bel2 : Below w.heap.size w w2 := bel1.trans (b2.mono bel1.size)
  clear b2 bel1 A1 B1 HOB p0 p1 p2 p3 p4 p5
  obtain ⟨_, a0, a1, a2, a3, a4, a5⟩ := A2.out
  obtain ⟨_, p0, p1, p2, p3, p4, p5⟩ := B2.out
  go_wp2_with fail
  clear a0 a1 a2 a3 a4 a5 p0 p1 p2 p3 p4 p5
  go_loopw [5] (fun i wr => ∃ j : Nat, j ≤ pn ∧ i = .int .i64 j ∧ (∀ t, t < j → colOf k D cs (ps.getD t 0) = colOf k2 D2 cs2 (ps2.getD t 0)) ∧ Below w2.heap.size w2 wr) (fun i _ => pn - (intOf i).toNat)
  case atStart => exact ⟨0, Nat.zero_le _, rfl, fun t ht => absurd ht (by omega), Below.refl _ _⟩
  case round =>
    obtain ⟨j, hj, rfl, hall, hbel⟩ := hrel
    have HALL : Hid (∀ t, t < j → colOf k D cs (ps.getD t 0) = colOf k2 D2 cs2 (ps2.getD t 0)) := hall
    have Ar : Hid (Bx wr w.heap.size (.int .i64 k) (.int .i64 (D : Int)) (.int .i64 (Wd : Int)) (.int .i64 (Hi : Int)) (.slice ca cn cc) (.slice pa pn pc)) := A2.out.kept hbel
    have Br : Hid (Bx wr (w.heap.size + 1) (.int .i64 k2) (.int .i64 (D2 : Int)) (.int .i64 (Wd : Int)) (.int .i64 (Hi : Int)) (.slice ca2 cn2 cc2) (.slice pa2 pn2 pc2)) := B2.out.kept hbel
    have belr : Below w.heap.size w wr := bel2.trans (hbel.mono bel2.size)
    obtain ⟨_, a0, a1, a2, a3, a4, a5⟩ := Ar.out
    obtain ⟨_, p0, p1, p2, p3, p4, p5⟩ := Br.out
    clear hall
    by_cases hlt : j < pn
    · obtain ⟨⟨p, hp, hPO1⟩, ⟨q, hq, hPO2⟩⟩ := HPO.out j hlt
      have hP1 : Hid (PtOk k D cs p) := hPO1
      have hP2 : Hid (PtOk k2 D2 cs2 q) := hPO2
      clear hPO1 hPO2
      have hj1 : j < ps.length := by have := HN.out.1; omega
      have hj2 : j < ps2.length := by have := HN.out; omega
      obtain ⟨hI1, hI2⟩ := HP.out wr belr
      rcases hI1 with h | ⟨b, off, rfl, hbl, c1⟩
      · rw [h] at hj1; simp at hj1
      · rcases hI2 with h | ⟨b2, off2, rfl, hbl2, c2⟩
        · rw [h] at hj2; simp at hj2
        · have e1 : wr.cell? ⟨b, off + j, none⟩ = some (.int .i64 (p : Int)) := by
            rw [c1 j hj1, ← hp, List.getD_eq_getElem?_getD, List.getElem?_eq_getElem hj1]; rfl
          have e2 : wr.cell? ⟨b2, off2 + j, none⟩ = some (.int .i64 (q : Int)) := by
            rw [c2 j hj2, ← hq, List.getD_eq_getElem?_getD, List.getElem?_eq_getElem hj2]; rfl
          have hji : (j : Int) < (pn : Int) := by omega
          have hji2 : (j : Int) < (pn2 : Int) := by have := HN.out; omega
          have HCC : Hid (colOf k D cs (ps.getD j 0) = colOf k D cs (p : Int) ∧ colOf k2 D2 cs2 (ps2.getD j 0) = colOf k2 D2 cs2 (q : Int)) := ⟨by rw [hp], by rw [hq]⟩
          clear c1 c2 hp hq hj1 hj2
          obtain ⟨u, hu⟩ : ∃ u, u = colOf k D cs (p : Int) := ⟨_, rfl⟩
          obtain ⟨v, hv⟩ : ∃ v, v = colOf k2 D2 cs2 (q : Int) := ⟨_, rfl⟩
          rw [← hu, ← hv] at HCC
          have HLp : Hid (∀ w' : World, Below w.heap.size w w' → Calls Try.prog 45 #[.agg #[.int .i64 k, .int .i64 (D : Int), .int .i64 (Wd : Int), .int .i64 (Hi : Int), .slice ca cn cc, .slice (some ⟨b, off, none⟩) pn pc], .int .i64 (p : Int)] w' fun e w'' => e = .returned (.int .i64 u) ∧ Below w'.heap.size w' w'') := fun w' b => by rw [hu]; exact HLA.out p w' b hP1.out
          have HLq : Hid (∀ w' : World, Below w.heap.size w w' → Calls Try.prog 45 #[.agg #[.int .i64 k2, .int .i64 (D2 : Int), .int .i64 (Wd : Int), .int .i64 (Hi : Int), .slice ca2 cn2 cc2, .slice (some ⟨b2, off2, none⟩) pn2 pc2], .int .i64 (q : Int)] w' fun e w'' => e = .returned (.int .i64 v) ∧ Below w'.heap.size w' w'') := fun w' b => by rw [hv]; exact HLB.out q w' b hP2.out
          clear hu hv HLA HLB hP1 hP2
          by_cases huv : u = v
          · have HAL2 : Hid (∀ t, t < j + 1 → colOf k D cs (ps.getD t 0) = colOf k2 D2 cs2 (ps2.getD t 0)) := fun t ht => by
              by_cases e : t < j
              · exact HALL.out t e
              · have : t = j := by omega
                subst this
                rw [HCC.out.1, HCC.out.2, huv]
            clear HALL HCC
            subst huv
            go_wp2_with fail
            go_region_held3 (fun w' => w'.cell? ⟨w.heap.size, 0, none⟩ = some (.int .i64 k) ∧ w'.cell? ⟨w.heap.size, 1, none⟩ = some (.int .i64 (D : Int)) ∧ w'.cell? ⟨w.heap.size, 2, none⟩ = some (.int .i64 (Wd : Int)) ∧ w'.cell? ⟨w.heap.size, 3, none⟩ = some (.int .i64 (Hi : Int)) ∧ w'.cell? ⟨w.heap.size, 4, none⟩ = some (.slice ca cn cc) ∧ w'.cell? ⟨w.heap.size, 5, none⟩ = some (.slice (some ⟨b, off, none⟩) pn pc) ∧ w'.cell? ⟨w.heap.size + 1, 0, none⟩ = some (.int .i64 k2) ∧ w'.cell? ⟨w.heap.size + 1, 1, none⟩ = some (.int .i64 (D2 : Int)) ∧ w'.cell? ⟨w.heap.size + 1, 2, none⟩ = some (.int .i64 (Wd : Int)) ∧ w'.cell? ⟨w.heap.size + 1, 3, none⟩ = some (.int .i64 (Hi : Int)) ∧ w'.cell? ⟨w.heap.size + 1, 4, none⟩ = some (.slice ca2 cn2 cc2) ∧ w'.cell? ⟨w.heap.size + 1, 5, none⟩ = some (.slice (some ⟨b2, off2, none⟩) pn2 pc2) ∧ w'.cell? ⟨b, off + j, none⟩ = some (.int .i64 (p : Int)) ∧ w'.cell? ⟨b2, off2 + j, none⟩ = some (.int .i64 (q : Int))) (go_keep) (first | (go_at_call_of 45 (Value.slice (some ⟨b, off, none⟩) pn pc); refine (HLp.out wr.drew belr.drew).mono ?_; rintro e w5 ⟨rfl, b5⟩; have b5' : Below wr.heap.size wr w5 := box_drew b5; have bel5 : Below w.heap.size w w5 := belr.trans (b5'.mono belr.size); have r1 := (b5'.cell (p := ⟨b, off + j, none⟩) hbl).trans e1; have r2 := (b5'.cell (p := ⟨b2, off2 + j, none⟩) hbl2).trans e2; have A5 : Hid (Bx w5 w.heap.size (.int .i64 k) (.int .i64 (D : Int)) (.int .i64 (Wd : Int)) (.int .i64 (Hi : Int)) (.slice ca cn cc) (.slice (some ⟨b, off, none⟩) pn pc)) := Ar.out.kept b5'; have B5 : Hid (Bx w5 (w.heap.size + 1) (.int .i64 k2) (.int .i64 (D2 : Int)) (.int .i64 (Wd : Int)) (.int .i64 (Hi : Int)) (.slice ca2 cn2 cc2) (.slice (some ⟨b2, off2, none⟩) pn2 pc2)) := Br.out.kept b5'; obtain ⟨_, m0, m1, m2, m3, m4, m5⟩ := A5.out; obtain ⟨_, n0, n1, n2, n3, n4, n5⟩ := B5.out) | (go_at_call_of 45 (Value.slice (some ⟨b2, off2, none⟩) pn2 pc2); refine (HLq.out w5 bel5).mono ?_; rintro e w6 ⟨rfl, b6⟩; have bel6 : Below w2.heap.size w2 w6 := (hbel.trans (b5'.mono hbel.size)).trans (b6.mono (Nat.le_trans hbel.size b5'.size)); have s1 := (b6.cell (p := ⟨b, off + j, none⟩) (Nat.lt_of_lt_of_le hbl b5'.size)).trans r1; have s2 := (b6.cell (p := ⟨b2, off2 + j, none⟩) (Nat.lt_of_lt_of_le hbl2 b5'.size)).trans r2; clear m0 m1 m2 m3 m4 m5 n0 n1 n2 n3 n4 n5; have A6 : Hid (Bx w6 w.heap.size (.int .i64 k) (.int .i64 (D : Int)) (.int .i64 (Wd : Int)) (.int .i64 (Hi : Int)) (.slice ca cn cc) (.slice (some ⟨b, off, none⟩) pn pc)) := A5.out.kept b6; have B6 : Hid (Bx w6 (w.heap.size + 1) (.int .i64 k2) (.int .i64 (D2 : Int)) (.int .i64 (Wd : Int)) (.int .i64 (Hi : Int)) (.slice ca2 cn2 cc2) (.slice (some ⟨b2, off2, none⟩) pn2 pc2)) := B5.out.kept b6; obtain ⟨_, m0, m1, m2, m3, m4, m5⟩ := A6.out; obtain ⟨_, n0, n1, n2, n3, n4, n5⟩ := B6.out))
            all_goals
              clear m0 m1 m2 m3 m4 m5 n0 n1 n2 n3 n4 n5 a0 a1 a2 a3 a4 a5 p0 p1 p2 p3 p4 p5 e1 e2 r1 r2 s1 s2 hbel
              go_wp2_with fail
              go_roundw
              case rel => exact ⟨j + 1, by omega, by go_num, HAL2.out, bel6⟩
              case measure => simp [intOf]; omega
          · have HD : Hid (decide (cols k D cs ps = cols k2 D2 cs2 ps2) = false) := decide_eq_false (fun e => huv (by
              have h1 : (cols k D cs ps).getD j (colOf k D cs 0) = (cols k2 D2 cs2 ps2).getD j (colOf k D cs 0) := by rw [e]
              have hl1 := HN.out.1
              have hl2 := HN.out.2
              have f1 : (cols k D cs ps).getD j (colOf k D cs 0) = colOf k D cs (ps.getD j 0) := by
                simp [cols, show j < ps.length by omega]
              have f2 : (cols k2 D2 cs2 ps2).getD j (colOf k D cs 0) = colOf k2 D2 cs2 (ps2.getD j 0) := by
                simp [cols, show j < ps2.length by omega]
              rw [f1, f2, HCC.out.1, HCC.out.2] at h1
              exact h1))
            have hbne : (u == v) = false := by rw [beq_eq_false_iff_ne]; exact huv
            clear HALL HCC
            go_wp2_with fail
            go_region_held3 (fun w' => w'.cell? ⟨w.heap.size, 0, none⟩ = some (.int .i64 k) ∧ w'.cell? ⟨w.heap.size, 1, none⟩ = some (.int .i64 (D : Int)) ∧ w'.cell? ⟨w.heap.size, 2, none⟩ = some (.int .i64 (Wd : Int)) ∧ w'.cell? ⟨w.heap.size, 3, none⟩ = some (.int .i64 (Hi : Int)) ∧ w'.cell? ⟨w.heap.size, 4, none⟩ = some (.slice ca cn cc) ∧ w'.cell? ⟨w.heap.size, 5, none⟩ = some (.slice (some ⟨b, off, none⟩) pn pc) ∧ w'.cell? ⟨w.heap.size + 1, 0, none⟩ = some (.int .i64 k2) ∧ w'.cell? ⟨w.heap.size + 1, 1, none⟩ = some (.int .i64 (D2 : Int)) ∧ w'.cell? ⟨w.heap.size + 1, 2, none⟩ = some (.int .i64 (Wd : Int)) ∧ w'.cell? ⟨w.heap.size + 1, 3, none⟩ = some (.int .i64 (Hi : Int)) ∧ w'.cell? ⟨w.heap.size + 1, 4, none⟩ = some (.slice ca2 cn2 cc2) ∧ w'.cell? ⟨w.heap.size + 1, 5, none⟩ = some (.slice (some ⟨b2, off2, none⟩) pn2 pc2) ∧ w'.cell? ⟨b, off + j, none⟩ = some (.int .i64 (p : Int)) ∧ w'.cell? ⟨b2, off2 + j, none⟩ = some (.int .i64 (q : Int))) (go_keep) (first | (go_at_call_of 45 (Value.slice (some ⟨b, off, none⟩) pn pc); refine (HLp.out wr.drew belr.drew).mono ?_; rintro e w5 ⟨rfl, b5⟩; have b5' : Below wr.heap.size wr w5 := box_drew b5; have bel5 : Below w.heap.size w w5 := belr.trans (b5'.mono belr.size); have r1 := (b5'.cell (p := ⟨b, off + j, none⟩) hbl).trans e1; have r2 := (b5'.cell (p := ⟨b2, off2 + j, none⟩) hbl2).trans e2; have A5 : Hid (Bx w5 w.heap.size (.int .i64 k) (.int .i64 (D : Int)) (.int .i64 (Wd : Int)) (.int .i64 (Hi : Int)) (.slice ca cn cc) (.slice (some ⟨b, off, none⟩) pn pc)) := Ar.out.kept b5'; have B5 : Hid (Bx w5 (w.heap.size + 1) (.int .i64 k2) (.int .i64 (D2 : Int)) (.int .i64 (Wd : Int)) (.int .i64 (Hi : Int)) (.slice ca2 cn2 cc2) (.slice (some ⟨b2, off2, none⟩) pn2 pc2)) := Br.out.kept b5'; obtain ⟨_, m0, m1, m2, m3, m4, m5⟩ := A5.out; obtain ⟨_, n0, n1, n2, n3, n4, n5⟩ := B5.out) | (go_at_call_of 45 (Value.slice (some ⟨b2, off2, none⟩) pn2 pc2); refine (HLq.out w5 bel5).mono ?_; rintro e w6 ⟨rfl, b6⟩; have bel6 : Below w2.heap.size w2 w6 := (hbel.trans (b5'.mono hbel.size)).trans (b6.mono (Nat.le_trans hbel.size b5'.size)); have s1 := (b6.cell (p := ⟨b, off + j, none⟩) (Nat.lt_of_lt_of_le hbl b5'.size)).trans r1; have s2 := (b6.cell (p := ⟨b2, off2 + j, none⟩) (Nat.lt_of_lt_of_le hbl2 b5'.size)).trans r2; clear m0 m1 m2 m3 m4 m5 n0 n1 n2 n3 n4 n5; have A6 : Hid (Bx w6 w.heap.size (.int .i64 k) (.int .i64 (D : Int)) (.int .i64 (Wd : Int)) (.int .i64 (Hi : Int)) (.slice ca cn cc) (.slice (some ⟨b, off, none⟩) pn pc)) := A5.out.kept b6; have B6 : Hid (Bx w6 (w.heap.size + 1) (.int .i64 k2) (.int .i64 (D2 : Int)) (.int .i64 (Wd : Int)) (.int .i64 (Hi : Int)) (.slice ca2 cn2 cc2) (.slice (some ⟨b2, off2, none⟩) pn2 pc2)) := B5.out.kept b6; obtain ⟨_, m0, m1, m2, m3, m4, m5⟩ := A6.out; obtain ⟨_, n0, n1, n2, n3, n4, n5⟩ := B6.out))
            all_goals
              clear m0 m1 m2 m3 m4 m5 n0 n1 n2 n3 n4 n5 a0 a1 a2 a3 a4 a5 p0 p1 p2 p3 p4 p5 e1 e2 r1 r2 s1 s2 hbel
              have bel9 : Below w.heap.size w w6 := bel2.trans (bel6.mono bel2.size)
              go_wp2_with fail
              go_ret
              exact ⟨by rw [HD.out]; rfl, bel9⟩
    · have HD : Hid (decide (cols k D cs ps = cols k2 D2 cs2 ps2) = true) := decide_eq_true (by
        have hl := HN.out
        apply List.ext_getElem
        · simp [cols]; omega
        · intro i h1 h2
          have hi1 : i < ps.length := by simpa [cols] using h1
          have hi2 : i < ps2.length := by simpa [cols] using h2
          have := HALL.out i (by omega)
          rw [List.getD_eq_getElem?_getD, List.getElem?_eq_getElem hi1, List.getD_eq_getElem?_getD, List.getElem?_eq_getElem hi2] at this
          simpa [cols] using this)
      have hlt' : ¬ (j : Int) < (pn : Int) := by omega
      clear HALL
      go_wp2_with fail
      go_ret
      exact ⟨by rw [HD.out]; rfl, belr⟩
end Go.Proofs.Ytjiogneidioknaa

/- ImageLike at every two pictures, of both. -/
namespace Go.Proofs.Ytjiogneidioknaa
open Go.RowKit

/-- two pictures look the same -/
noncomputable def likeB (k d wd hi : Int) (cs ps : List Int) (k2 d2 wd2 hi2 : Int) (cs2 ps2 : List Int) : Bool :=
  Im.okB k d wd hi cs ps && Im.okB k2 d2 wd2 hi2 cs2 ps2 && decide (wd = wd2) && decide (hi = hi2) && decide (cols k d.toNat cs ps = cols k2 d2.toNat cs2 ps2)
theorem like_no {k d wd hi : Int} {cs ps : List Int} {k2 d2 wd2 hi2 : Int} {cs2 ps2 : List Int} (h : Im.okB k d wd hi cs ps = false ∨ Im.okB k2 d2 wd2 hi2 cs2 ps2 = false ∨ ¬ wd = wd2 ∨ ¬ hi = hi2) : likeB k d wd hi cs ps k2 d2 wd2 hi2 cs2 ps2 = false := by
  unfold likeB
  rcases h with h | h | h | h <;> simp [h]
theorem like_yes {k wd hi : Int} {D : Nat} {cs ps : List Int} {k2 : Int} {D2 : Nat} {cs2 ps2 : List Int} (h : Im.okB k (D : Int) wd hi cs ps = true) (h2 : Im.okB k2 (D2 : Int) wd hi cs2 ps2 = true) : likeB k (D : Int) wd hi cs ps k2 (D2 : Int) wd hi cs2 ps2 = decide (cols k D cs ps = cols k2 D2 cs2 ps2) := by
  unfold likeB
  rw [h, h2, Int.toNat_natCast, Int.toNat_natCast]; simp

theorem spec_like (k d wd hi : Int) (x : Option Addr) (cn cc : Nat) (y : Option Addr) (pn pc : Nat) (k2 d2 wd2 hi2 : Int) (x2 : Option Addr) (cn2 cc2 : Nat) (y2 : Option Addr) (pn2 pc2 : Nat) (cs ps cs2 ps2 : List Int) (w : World) (H1 : Ints w x cs) (hcn : cs.length = cn) (hcl : cn ≤ 1048576) (H2 : Ints w y ps) (hpn : ps.length = pn) (_hpl : pn ≤ 1048576) (H21 : Ints w x2 cs2) (hcn2 : cs2.length = cn2) (hcl2 : cn2 ≤ 1048576) (H22 : Ints w y2 ps2) (hpn2 : ps2.length = pn2) (_hpl2 : pn2 ≤ 1048576) :
    Calls Try.prog 15 #[.agg #[.int .i64 k, .int .i64 d, .int .i64 wd, .int .i64 hi, .slice x cn cc, .slice y pn pc], .agg #[.int .i64 k2, .int .i64 d2, .int .i64 wd2, .int .i64 hi2, .slice x2 cn2 cc2, .slice y2 pn2 pc2]] w fun e w' => e = .returned (.bool (likeB k d wd hi cs ps k2 d2 wd2 hi2 cs2 ps2)) ∧ Below w.heap.size w w' := by
  rcases hok : Im.okB k d wd hi cs ps with _ | _
  · rw [like_no (.inl hok)]
    exact spec_like_bad1 k d wd hi x cn cc y pn pc k2 d2 wd2 hi2 x2 cn2 cc2 y2 pn2 pc2 w (fun w'' b => by have := spec_imageOk k d wd hi x cn cc y pn pc w'' cs ps (H1.kept b) hcn (by omega) (H2.kept b) hpn; rw [hok] at this; exact this)
  · rcases hok2 : Im.okB k2 d2 wd2 hi2 cs2 ps2 with _ | _
    · rw [like_no (.inr (.inl hok2))]
      exact spec_like_bad2 k d wd hi x cn cc y pn pc k2 d2 wd2 hi2 x2 cn2 cc2 y2 pn2 pc2 w (fun w'' b => by have := spec_imageOk k d wd hi x cn cc y pn pc w'' cs ps (H1.kept b) hcn (by omega) (H2.kept b) hpn; rw [hok] at this; exact this) (fun w'' b => by have := spec_imageOk k2 d2 wd2 hi2 x2 cn2 cc2 y2 pn2 pc2 w'' cs2 ps2 (H21.kept b) hcn2 (by omega) (H22.kept b) hpn2; rw [hok2] at this; exact this)
    · by_cases hw : wd = wd2
      · subst hw
        by_cases hh : hi = hi2
        · subst hh
          have O1 := Im.okB_open hok
          have O2 := Im.okB_open hok2
          have R1 := O1
          have R2 := O2
          obtain ⟨q1, q2, q3, _, q5, _⟩ := R1
          obtain ⟨q7, _, _, _, q6, _⟩ := R2
          obtain ⟨D, rfl, _⟩ := Im.dep_all q1
          obtain ⟨D2, rfl, _⟩ := Im.dep_all q7
          obtain ⟨Wd, rfl⟩ := Int.eq_ofNat_of_zero_le (show 0 ≤ wd by omega)
          obtain ⟨Hi, rfl⟩ := Int.eq_ofNat_of_zero_le (show 0 ≤ hi by omega)
          have em : ((Wd * Hi : Nat) : Int) = (Wd : Int) * (Hi : Int) := by simp
          have hm : pn = Wd * Hi := by omega
          have hm2 : pn2 = Wd * Hi := by omega
          rw [like_yes hok hok2]
          exact spec_like_yes k D Wd Hi x cn cc y pn pc k2 D2 x2 cn2 cc2 y2 pn2 pc2 cs ps cs2 ps2 w O1 O2 H1 hcn H2 hpn H21 hcn2 H22 hpn2 (by omega) (by omega) hm hm2 (fun w'' b => by have := spec_imageOk k D Wd Hi x cn cc y pn pc w'' cs ps (H1.kept b) hcn (by omega) (H2.kept b) hpn; rw [hok] at this; exact this) (fun w'' b => by have := spec_imageOk k2 D2 Wd Hi x2 cn2 cc2 y2 pn2 pc2 w'' cs2 ps2 (H21.kept b) hcn2 (by omega) (H22.kept b) hpn2; rw [hok2] at this; exact this)
        · rw [like_no (.inr (.inr (.inr hh)))]
          exact spec_like_high k d wd hi x cn cc y pn pc k2 d2 hi2 x2 cn2 cc2 y2 pn2 pc2 w hh (fun w'' b => by have := spec_imageOk k d wd hi x cn cc y pn pc w'' cs ps (H1.kept b) hcn (by omega) (H2.kept b) hpn; rw [hok] at this; exact this) (fun w'' b => by have := spec_imageOk k2 d2 wd hi2 x2 cn2 cc2 y2 pn2 pc2 w'' cs2 ps2 (H21.kept b) hcn2 (by omega) (H22.kept b) hpn2; rw [hok2] at this; exact this)
      · rw [like_no (.inr (.inr (.inl hw)))]
        exact spec_like_wide k d wd hi x cn cc y pn pc k2 d2 wd2 hi2 x2 cn2 cc2 y2 pn2 pc2 w hw (fun w'' b => by have := spec_imageOk k d wd hi x cn cc y pn pc w'' cs ps (H1.kept b) hcn (by omega) (H2.kept b) hpn; rw [hok] at this; exact this) (fun w'' b => by have := spec_imageOk k2 d2 wd2 hi2 x2 cn2 cc2 y2 pn2 pc2 w'' cs2 ps2 (H21.kept b) hcn2 (by omega) (H22.kept b) hpn2; rw [hok2] at this; exact this)

theorem impl_like (k d wd hi : Int) (x : Option Addr) (cn cc : Nat) (y : Option Addr) (pn pc : Nat) (k2 d2 wd2 hi2 : Int) (x2 : Option Addr) (cn2 cc2 : Nat) (y2 : Option Addr) (pn2 pc2 : Nat) (cs ps cs2 ps2 : List Int) (w : World) (H1 : Ints w x cs) (hcn : cs.length = cn) (hcl : cn ≤ 1048576) (H2 : Ints w y ps) (hpn : ps.length = pn) (hpl : pn ≤ 1048576) (H21 : Ints w x2 cs2) (hcn2 : cs2.length = cn2) (hcl2 : cn2 ≤ 1048576) (H22 : Ints w y2 ps2) (hpn2 : ps2.length = pn2) (hpl2 : pn2 ≤ 1048576) :
    Calls Try.prog 14 #[.agg #[.int .i64 k, .int .i64 d, .int .i64 wd, .int .i64 hi, .slice x cn cc, .slice y pn pc], .agg #[.int .i64 k2, .int .i64 d2, .int .i64 wd2, .int .i64 hi2, .slice x2 cn2 cc2, .slice y2 pn2 pc2]] w fun e w' => e = .returned (.bool (likeB k d wd hi cs ps k2 d2 wd2 hi2 cs2 ps2)) ∧ Below w.heap.size w w' := by
  rcases hok : Im.okB k d wd hi cs ps with _ | _
  · rw [like_no (.inl hok)]
    exact impl_like_bad1 k d wd hi x cn cc y pn pc k2 d2 wd2 hi2 x2 cn2 cc2 y2 pn2 pc2 w (fun w'' b => by have := impl_imageOk k d wd hi x cn cc y pn pc w'' cs ps (H1.kept b) hcn (by omega) (H2.kept b) hpn (by omega); rw [hok] at this; exact this)
  · rcases hok2 : Im.okB k2 d2 wd2 hi2 cs2 ps2 with _ | _
    · rw [like_no (.inr (.inl hok2))]
      exact impl_like_bad2 k d wd hi x cn cc y pn pc k2 d2 wd2 hi2 x2 cn2 cc2 y2 pn2 pc2 w (fun w'' b => by have := impl_imageOk k d wd hi x cn cc y pn pc w'' cs ps (H1.kept b) hcn (by omega) (H2.kept b) hpn (by omega); rw [hok] at this; exact this) (fun w'' b => by have := impl_imageOk k2 d2 wd2 hi2 x2 cn2 cc2 y2 pn2 pc2 w'' cs2 ps2 (H21.kept b) hcn2 (by omega) (H22.kept b) hpn2 (by omega); rw [hok2] at this; exact this)
    · by_cases hw : wd = wd2
      · subst hw
        by_cases hh : hi = hi2
        · subst hh
          have O1 := Im.okB_open hok
          have O2 := Im.okB_open hok2
          have R1 := O1
          have R2 := O2
          obtain ⟨q1, q2, q3, _, q5, _⟩ := R1
          obtain ⟨q7, _, _, _, q6, _⟩ := R2
          obtain ⟨D, rfl, _⟩ := Im.dep_all q1
          obtain ⟨D2, rfl, _⟩ := Im.dep_all q7
          obtain ⟨Wd, rfl⟩ := Int.eq_ofNat_of_zero_le (show 0 ≤ wd by omega)
          obtain ⟨Hi, rfl⟩ := Int.eq_ofNat_of_zero_le (show 0 ≤ hi by omega)
          have em : ((Wd * Hi : Nat) : Int) = (Wd : Int) * (Hi : Int) := by simp
          have hm : pn = Wd * Hi := by omega
          have hm2 : pn2 = Wd * Hi := by omega
          rw [like_yes hok hok2]
          exact impl_like_yes k D Wd Hi x cn cc y pn pc k2 D2 x2 cn2 cc2 y2 pn2 pc2 cs ps cs2 ps2 w O1 O2 H1 hcn H2 hpn H21 hcn2 H22 hpn2 (by omega) (by omega) hm hm2 (fun w'' b => by have := impl_imageOk k D Wd Hi x cn cc y pn pc w'' cs ps (H1.kept b) hcn (by omega) (H2.kept b) hpn (by omega); rw [hok] at this; exact this) (fun w'' b => by have := impl_imageOk k2 D2 Wd Hi x2 cn2 cc2 y2 pn2 pc2 w'' cs2 ps2 (H21.kept b) hcn2 (by omega) (H22.kept b) hpn2 (by omega); rw [hok2] at this; exact this)
        · rw [like_no (.inr (.inr (.inr hh)))]
          exact impl_like_high k d wd hi x cn cc y pn pc k2 d2 hi2 x2 cn2 cc2 y2 pn2 pc2 w hh (fun w'' b => by have := impl_imageOk k d wd hi x cn cc y pn pc w'' cs ps (H1.kept b) hcn (by omega) (H2.kept b) hpn (by omega); rw [hok] at this; exact this) (fun w'' b => by have := impl_imageOk k2 d2 wd hi2 x2 cn2 cc2 y2 pn2 pc2 w'' cs2 ps2 (H21.kept b) hcn2 (by omega) (H22.kept b) hpn2 (by omega); rw [hok2] at this; exact this)
      · rw [like_no (.inr (.inr (.inl hw)))]
        exact impl_like_wide k d wd hi x cn cc y pn pc k2 d2 wd2 hi2 x2 cn2 cc2 y2 pn2 pc2 w hw (fun w'' b => by have := impl_imageOk k d wd hi x cn cc y pn pc w'' cs ps (H1.kept b) hcn (by omega) (H2.kept b) hpn (by omega); rw [hok] at this; exact this) (fun w'' b => by have := impl_imageOk k2 d2 wd2 hi2 x2 cn2 cc2 y2 pn2 pc2 w'' cs2 ps2 (H21.kept b) hcn2 (by omega) (H22.kept b) hpn2 (by omega); rw [hok2] at this; exact this)
end Go.Proofs.Ytjiogneidioknaa

/- Small facts on pictures. -/
namespace Go.Proofs.Ytjiogneidioknaa
open Go.RowKit

theorem below_two (w : World) (o o' : Obj) : Below w.heap.size w ((w.alloc o).alloc o') := ((Below.refl _ _).alloc (Nat.le_refl _) _).alloc (by simp) _
theorem ok_open {k d wd hi : Int} {cs ps : List Int} (h : Im.okB k d wd hi cs ps = true) : Im.Ok k d wd hi cs ps := @of_decide_eq_true _ (Classical.propDecidable _) h
end Go.Proofs.Ytjiogneidioknaa

/- A picture that is not ok, flip: nothing. -/
namespace Go.Proofs.Ytjiogneidioknaa
open Go.RowKit

set_option maxHeartbeats 1000000 in
set_option maxRecDepth 20000 in
theorem spec_flip_no (k d wd hi : Int) (ca : Option Addr) (cn cc : Nat) (pa : Option Addr) (pn pc : Nat) (w : World)
    (hO : Calls Try.prog 17 #[.agg #[.int .i64 k, .int .i64 d, .int .i64 wd, .int .i64 hi, .slice ca cn cc, .slice pa pn pc]] ((w.alloc (.cells #[.int .i64 k, .int .i64 d, .int .i64 wd, .int .i64 hi, .slice ca cn cc, .slice pa pn pc] 26)).alloc (.cells #[.int .i64 0, .int .i64 0, .int .i64 0, .int .i64 0, .slice none 0 0, .slice none 0 0] 26)) fun e w' => e = .returned (.bool false) ∧ Below ((w.alloc (.cells #[.int .i64 k, .int .i64 d, .int .i64 wd, .int .i64 hi, .slice ca cn cc, .slice pa pn pc] 26)).alloc (.cells #[.int .i64 0, .int .i64 0, .int .i64 0, .int .i64 0, .slice none 0 0, .slice none 0 0] 26)).heap.size ((w.alloc (.cells #[.int .i64 k, .int .i64 d, .int .i64 wd, .int .i64 hi, .slice ca cn cc, .slice pa pn pc] 26)).alloc (.cells #[.int .i64 0, .int .i64 0, .int .i64 0, .int .i64 0, .slice none 0 0, .slice none 0 0] 26)) w') :
    Calls Try.prog 40 #[.agg #[.int .i64 k, .int .i64 d, .int .i64 wd, .int .i64 hi, .slice ca cn cc, .slice pa pn pc]] w fun e w' => e = .returned (.agg #[.int .i64 0, .int .i64 0, .int .i64 0, .int .i64 0, .slice none 0 0, .slice none 0 0]) ∧ Below w.heap.size w w' := by
  have hB0 : Below w.heap.size w ((w.alloc (.cells #[.int .i64 k, .int .i64 d, .int .i64 wd, .int .i64 hi, .slice ca cn cc, .slice pa pn pc] 26)).alloc (.cells #[.int .i64 0, .int .i64 0, .int .i64 0, .int .i64 0, .slice none 0 0, .slice none 0 0] 26)) := ((Below.refl _ _).alloc (Nat.le_refl _) _).alloc (by simp) _
  have HO : Hid (Calls Try.prog 17 #[.agg #[.int .i64 k, .int .i64 d, .int .i64 wd, .int .i64 hi, .slice ca cn cc, .slice pa pn pc]] ((w.alloc (.cells #[.int .i64 k, .int .i64 d, .int .i64 wd, .int .i64 hi, .slice ca cn cc, .slice pa pn pc] 26)).alloc (.cells #[.int .i64 0, .int .i64 0, .int .i64 0, .int .i64 0, .slice none 0 0, .slice none 0 0] 26)) fun e w' => e = .returned (.bool false) ∧ Below ((w.alloc (.cells #[.int .i64 k, .int .i64 d, .int .i64 wd, .int .i64 hi, .slice ca cn cc, .slice pa pn pc] 26)).alloc (.cells #[.int .i64 0, .int .i64 0, .int .i64 0, .int .i64 0, .slice none 0 0, .slice none 0 0] 26)).heap.size ((w.alloc (.cells #[.int .i64 k, .int .i64 d, .int .i64 wd, .int .i64 hi, .slice ca cn cc, .slice pa pn pc] 26)).alloc (.cells #[.int .i64 0, .int .i64 0, .int .i64 0, .int .i64 0, .slice none 0 0, .slice none 0 0] 26)) w') := hO
  clear hO
  have HZ : Hid (((w.alloc (.cells #[.int .i64 k, .int .i64 d, .int .i64 wd, .int .i64 hi, .slice ca cn cc, .slice pa pn pc] 26)).alloc (.cells #[.int .i64 0, .int .i64 0, .int .i64 0, .int .i64 0, .slice none 0 0, .slice none 0 0] 26)).heap[w.heap.size + 1]? = some (.cells #[.int .i64 0, .int .i64 0, .int .i64 0, .int .i64 0, .slice none 0 0, .slice none 0 0] 26 (0, 0))) := heap_alloc2_new _ _ _
  go_enter Try.func40, Try.ntmps40
  go_wp2_with fail
  refine HO.out.mono ?_
  rintro e w1 ⟨rfl, b1⟩
  have bel1 := hB0.trans (b1.mono hB0.size)
  have hz1 : w1.heap[w.heap.size + 1]? = some (.cells #[.int .i64 0, .int .i64 0, .int .i64 0, .int .i64 0, .slice none 0 0, .slice none 0 0] 26 (0, 0)) := (b1.block _ (by simp)).trans HZ.out
  have hI6 : (Try.prog.info? 26).map (·.size) = some (#[Value.int .i64 0, .int .i64 0, .int .i64 0, .int .i64 0, .slice none 0 0, .slice none 0 0]).size := by kernel_rfl
  have h16 : (#[Value.int .i64 0, .int .i64 0, .int .i64 0, .int .i64 0, .slice none 0 0, .slice none 0 0]).all (·.oneCell') = true := by simp [Value.oneCell']
  clear b1 hB0 HO HZ
  go_wp2_with (refine wpList_store_row rfl 26 (.tmp 2) (.tmp 8) rfl (w.heap.size + 1) #[.int .i64 0, .int .i64 0, .int .i64 0, .int .i64 0, .slice none 0 0, .slice none 0 0] rfl rfl 26 #[.int .i64 0, .int .i64 0, .int .i64 0, .int .i64 0, .slice none 0 0, .slice none 0 0] hz1 hI6 rfl h16 ?_)
  have hs2 := setRow_heap w1 (w.heap.size + 1) _ #[.int .i64 0, .int .i64 0, .int .i64 0, .int .i64 0, .slice none 0 0, .slice none 0 0] _ _ hz1
  refine bodyPost_ret_by (results_cell_row (p := 2) (ty := 26) (by kernel_rfl) _ _ (w.heap.size + 1) 26 _ (0, 0) _ rfl hs2 Try.underlying26 rfl (by kernel_rfl)) rfl ⟨rfl, ?_⟩
  exact bel1.trans ((below_setRow _ _ _).mono (by omega))

end Go.Proofs.Ytjiogneidioknaa

/- Two lists of ints held against each other by the laws. -/
namespace Go.Proofs.Ytjiogneidioknaa
open Go.RowKit

set_option maxHeartbeats 400000 in
theorem wiInts_same (a : Option Addr) (cap : Nat) (b : Option Addr) (cap' n : Nat) (zs : List Int) (w : World) (h : Ints w a zs) (g : Ints w b zs) (hn : zs.length = n) (hl : n ≤ 2000000) :
    Calls Try.prog 55 #[.slice a n cap, .slice b n cap'] w fun e w' => e = .returned (.bool true) ∧ ∃ m, w' = w.drewN m := by
  have HI : Hid (Ints w a zs) := h
  have HG : Hid (Ints w b zs) := g
  clear h g
  have hzg : n ≤ zs.length := by omega
  clear hn
  go_enter Try.func55, Try.ntmps55
  go_wp2_with fail
  go_loopw [5] (fun i wr => ∃ k m : Nat, k ≤ n ∧ i = .int .i64 k ∧ wr = w.drewN m) (fun i _ => n - (intOf i).toNat)
  case atStart => exact ⟨0, 0, Nat.zero_le _, rfl, rfl⟩
  case round =>
    obtain ⟨k, m, hk, rfl, rfl⟩ := hrel
    by_cases hlt : k < n
    · have hkz : k < zs.length := by omega
      rcases HI.out with h | ⟨b1, off1, rfl, hb1, hc1⟩
      · rw [h] at hkz; simp at hkz
      · rcases HG.out with h | ⟨b2, off2, rfl, hb2, hc2⟩
        · rw [h] at hkz; simp at hkz
        · have e1 := hc1 k hkz
          have e2 := hc2 k hkz
          have hki : (k : Int) < (n : Int) := by omega
          clear hc1 hc2
          generalize zs[k] = x at *
          go_wp2_with fail
          go_region
          all_goals go_wp2_with fail
          all_goals
            go_roundw
            case rel => exact ⟨k + 1, m + 1, by omega, by go_num, rfl⟩
            case measure => simp [intOf]; omega
    · go_wp2_with fail
      go_ret
      exact ⟨rfl, m, rfl⟩
end Go.Proofs.Ytjiogneidioknaa

/- Two pictures that are the same, held against each other; pictures in boxes. -/
namespace Go.Proofs.Ytjiogneidioknaa
open Go.RowKit

theorem drewN_low (w : World) (m : Nat) : Below w.heap.size w (w.drewN m) := ⟨rfl, rfl, rfl, Nat.le_refl _, fun _ _ => rfl⟩

set_option maxHeartbeats 1000000 in
set_option maxRecDepth 20000 in
theorem wiImage_same (k d wd hi : Int) (n m : Nat) (cs ps : List Int) (hn : cs.length = n) (hm : ps.length = m) (hnl : n ≤ 1048576) (hml : m ≤ 1048576) (a : Option Addr) (c : Nat) (b : Option Addr) (cc : Nat) (a' : Option Addr) (c' : Nat) (b' : Option Addr) (cc' : Nat) (w : World) (h1 : Ints w a cs) (h2 : Ints w b ps) (h3 : Ints w a' cs) (h4 : Ints w b' ps) :
    Calls Try.prog 20 #[.agg #[.int .i64 k, .int .i64 d, .int .i64 wd, .int .i64 hi, .slice a n c, .slice b m cc], .agg #[.int .i64 k, .int .i64 d, .int .i64 wd, .int .i64 hi, .slice a' n c', .slice b' m cc']] w fun e w' => e = .returned (.bool true) ∧ Below w.heap.size w w' := by
  obtain ⟨W0, hW0⟩ : ∃ W0, W0 = (w.alloc (.cells #[.int .i64 k, .int .i64 d, .int .i64 wd, .int .i64 hi, .slice a n c, .slice b m cc] 26)).alloc (.cells #[.int .i64 k, .int .i64 d, .int .i64 wd, .int .i64 hi, .slice a' n c', .slice b' m cc'] 26) := ⟨_, rfl⟩
  have hB0 : Below w.heap.size w W0 := by rw [hW0]; exact ((Below.refl _ _).alloc (Nat.le_refl _) _).alloc (by simp) _
  have HC : Hid (∀ w', Ints w' a cs → Ints w' a' cs → Calls Try.prog 55 #[.slice a n c, .slice a' n c'] w' fun e w'' => e = .returned (.bool true) ∧ ∃ m, w'' = w'.drewN m) := fun w' g1 g2 => wiInts_same a c a' c' n cs w' g1 g2 hn (by omega)
  have HP : Hid (∀ w', Ints w' b ps → Ints w' b' ps → Calls Try.prog 55 #[.slice b m cc, .slice b' m cc'] w' fun e w'' => e = .returned (.bool true) ∧ ∃ m, w'' = w'.drewN m) := fun w' g1 g2 => wiInts_same b cc b' cc' m ps w' g1 g2 hm (by omega)
  have HI : Hid (∀ w', Below W0.heap.size W0 w' → Ints w' a cs ∧ Ints w' b ps ∧ Ints w' a' cs ∧ Ints w' b' ps) := fun w' b => ⟨(h1.kept hB0).kept b, (h2.kept hB0).kept b, (h3.kept hB0).kept b, (h4.kept hB0).kept b⟩
  have b0 : W0.cell? ⟨w.heap.size, 0, none⟩ = some (.int .i64 k) ∧ W0.cell? ⟨w.heap.size, 1, none⟩ = some (.int .i64 d) ∧ W0.cell? ⟨w.heap.size, 2, none⟩ = some (.int .i64 wd) ∧ W0.cell? ⟨w.heap.size, 3, none⟩ = some (.int .i64 hi) ∧ W0.cell? ⟨w.heap.size, 4, none⟩ = some (.slice a n c) ∧ W0.cell? ⟨w.heap.size, 5, none⟩ = some (.slice b m cc) := by
    rw [hW0]; exact box_kept (box_new w _ _ _ _ _ _ _) ((Below.refl _ _).alloc (Nat.le_refl _) _) (by simp)
  have b1 : W0.cell? ⟨w.heap.size + 1, 0, none⟩ = some (.int .i64 k) ∧ W0.cell? ⟨w.heap.size + 1, 1, none⟩ = some (.int .i64 d) ∧ W0.cell? ⟨w.heap.size + 1, 2, none⟩ = some (.int .i64 wd) ∧ W0.cell? ⟨w.heap.size + 1, 3, none⟩ = some (.int .i64 hi) ∧ W0.cell? ⟨w.heap.size + 1, 4, none⟩ = some (.slice a' n c') ∧ W0.cell? ⟨w.heap.size + 1, 5, none⟩ = some (.slice b' m cc') := by
    rw [hW0]
    have := box_new (w.alloc (.cells #[.int .i64 k, .int .i64 d, .int .i64 wd, .int .i64 hi, .slice a n c, .slice b m cc] 26)) (.int .i64 k) (.int .i64 d) (.int .i64 wd) (.int .i64 hi) (.slice a' n c') (.slice b' m cc') 26
    rw [World.size_alloc] at this; exact this
  obtain ⟨p0, p1, p2, p3, p4, p5⟩ := b0
  obtain ⟨q0, q1, q2, q3, q4, q5⟩ := b1
  have HB : Hid (Below w.heap.size w W0) := hB0
  clear h1 h2 h3 h4 hn hm hB0
  go_enter Try.func20, Try.ntmps20
  go_upto_region 1 with fail
  rw [← hW0]
  clear hW0
  go_wp2_with fail
  refine (HC.out _ (HI.out _ (Below.refl _ _)).1 (HI.out _ (Below.refl _ _)).2.2.1).mono ?_
  rintro e w1 ⟨rfl, m1, hw1⟩
  subst hw1
  go_wp2_with fail
  refine (HP.out _ (HI.out _ (drewN_low _ _)).2.1 (HI.out _ (drewN_low _ _)).2.2.2).mono ?_
  rintro e w2 ⟨rfl, m2, hw2⟩
  subst hw2
  go_wp2_with fail
  go_ret
  exact ⟨rfl, HB.out.trans ((drewN_low _ _).mono HB.out.size)⟩

/-- a picture in a box, its lists in memory -/
structure PB (w : World) (B : Nat) (k d wd hi : Int) (a : Option Addr) (n c : Nat) (cs : List Int) (b : Option Addr) (m cc : Nat) (ps : List Int) : Prop where
  lt : B < w.heap.size
  box : w.cell? ⟨B, 0, none⟩ = some (.int .i64 k) ∧ w.cell? ⟨B, 1, none⟩ = some (.int .i64 d) ∧ w.cell? ⟨B, 2, none⟩ = some (.int .i64 wd) ∧ w.cell? ⟨B, 3, none⟩ = some (.int .i64 hi) ∧ w.cell? ⟨B, 4, none⟩ = some (.slice a n c) ∧ w.cell? ⟨B, 5, none⟩ = some (.slice b m cc)
  i4 : Ints w a cs
  i5 : Ints w b ps
theorem PB.kept {w w' : World} {B n c m cc : Nat} {k d wd hi : Int} {a b : Option Addr} {cs ps : List Int} (h : PB w B k d wd hi a n c cs b m cc ps) (g : Below w.heap.size w w') : PB w' B k d wd hi a n c cs b m cc ps :=
  ⟨Nat.lt_of_lt_of_le h.lt g.size, box_kept h.box g h.lt, h.i4.kept g, h.i5.kept g⟩
theorem pb_new {w : World} {n c m cc : Nat} {k d wd hi : Int} {a b : Option Addr} {cs ps : List Int} (h4 : Ints w a cs) (h5 : Ints w b ps) : PB (w.alloc (.cells #[.int .i64 k, .int .i64 d, .int .i64 wd, .int .i64 hi, .slice a n c, .slice b m cc] 26)) w.heap.size k d wd hi a n c cs b m cc ps :=
  ⟨by simp, box_new w _ _ _ _ _ _ _, h4.kept ((Below.refl _ _).alloc (Nat.le_refl _) _), h5.kept ((Below.refl _ _).alloc (Nat.le_refl _) _)⟩
end Go.Proofs.Ytjiogneidioknaa

/- ImageAt of both sides, for every picture and place. -/
namespace Go.Proofs.Ytjiogneidioknaa
open Go.RowKit
namespace Im
/-- whether a point is there -/
noncomputable def atB (k d wd hi x y : Int) (cs ps : List Int) : Bool := okB k d wd hi cs ps && inB x y wd hi
/-- which it is -/
noncomputable def atV (k d wd hi x y : Int) (cs ps : List Int) : Int := if atB k d wd hi x y cs ps = true then ps.getD (y * wd + x).toNat 0 else 0
theorem at_no {k d wd hi x y : Int} {cs ps : List Int} (h : atB k d wd hi x y cs ps = false) : atV k d wd hi x y cs ps = 0 := by unfold atV; rw [h]; rfl
theorem at_yes {k d wd hi x y : Int} {cs ps : List Int} (h : atB k d wd hi x y cs ps = true) {pn I X Y Wd : Nat} (g : Spot wd hi x y pn I X Y Wd) : atV k d wd hi x y cs ps = ps.getD I 0 := by
  unfold atV; rw [if_pos h, g.x, g.y, g.wd, g.i]
  congr 1
theorem ok_of {k d wd hi : Int} {cs ps : List Int} (h : okB k d wd hi cs ps = true) : Ok k d wd hi cs ps := @of_decide_eq_true _ (Classical.propDecidable _) h
end Im

end Go.Proofs.Ytjiogneidioknaa

/- Lists of points (mathematics), and a point of a picture. -/
namespace Go.Proofs.Ytjiogneidioknaa
open Go.RowKit

theorem upto_getD (F : Nat → Int) {n j : Nat} (h : j < n) : (upto F n).getD j 0 = F j := by simp [upto, h]
theorem spot_lt {Wd Hi x y : Nat} (hx : x < Wd) (hy : y < Hi) : y * Wd + x < Wd * Hi := by
  have := Nat.mul_le_mul_right Wd (show y + 1 ≤ Hi by omega)
  rw [Nat.add_mul, Nat.one_mul, Nat.mul_comm Hi Wd] at this; omega
theorem split_at {Wd Hi j : Nat} (h : j < Wd * Hi) : ∃ x y, x < Wd ∧ y < Hi ∧ j = y * Wd + x := by
  have hW : 0 < Wd := by
    rcases Nat.eq_zero_or_pos Wd with e | e
    · subst e; omega
    · exact e
  refine ⟨j % Wd, j / Wd, Nat.mod_lt _ hW, ?_, ?_⟩
  · exact Nat.div_lt_of_lt_mul h
  · have := Nat.div_add_mod j Wd; rw [Nat.mul_comm] at this; omega
theorem getD_of {l : List Int} {j : Nat} (h : j < l.length) : l[j] = l.getD j 0 := by
  rw [List.getD_eq_getElem?_getD, List.getElem?_eq_getElem h]; rfl
theorem mem_getD {l : List Int} {j : Nat} (h : j < l.length) : l.getD j 0 ∈ l := by rw [← getD_of h]; exact List.getElem_mem h

theorem ints_cells {w : World} {a : Option Addr} {l : List Int} (h : Ints w a l) (hl : 0 < l.length) : ∃ b off, a = some ⟨b, off, none⟩ ∧ ∀ k, k < l.length → w.cell? ⟨b, off + k, none⟩ = some (.int .i64 (l.getD k 0)) := by
  rcases h with e | ⟨b, off, rfl, _, hc⟩
  · rw [e] at hl; simp at hl
  · exact ⟨b, off, rfl, fun k hk => by rw [hc k hk, List.getD_eq_getElem?_getD, List.getElem?_eq_getElem hk]; rfl⟩
end Go.Proofs.Ytjiogneidioknaa

/- A picture upside down: what the law on it wants. -/
namespace Go.Proofs.Ytjiogneidioknaa
open Go.RowKit

def flipL (Wd Hi : Nat) (ps : List Int) : List Int := upto (ptF Wd (flipF Wd Hi ps)) (Wd * Hi)
theorem flipL_len (Wd Hi : Nat) (ps : List Int) : (flipL Wd Hi ps).length = Wd * Hi := upto_length _ _
theorem flipL_at {Wd Hi x y : Nat} (ps : List Int) (hx : x < Wd) (hy : y < Hi) : (flipL Wd Hi ps).getD (y * Wd + x) 0 = ps.getD ((Hi - 1 - y) * Wd + x) 0 := by
  unfold flipL; rw [upto_getD _ (spot_lt hx hy), ptF_at _ hx]; rfl
theorem flipL_flipL {Wd Hi : Nat} {ps : List Int} (h : ps.length = Wd * Hi) : flipL Wd Hi (flipL Wd Hi ps) = ps := by
  apply List.ext_getElem (by rw [flipL_len, h])
  intro j h1 h2
  rw [flipL_len] at h1
  obtain ⟨x, y, hx, hy, rfl⟩ := split_at h1
  rw [getD_of, getD_of, flipL_at _ hx hy, flipL_at _ hx (show Hi - 1 - y < Hi by omega)]
  rw [show Hi - 1 - (Hi - 1 - y) = y by omega]
theorem flipL_mem {Wd Hi : Nat} {ps : List Int} (h : ps.length = Wd * Hi) {z : Int} (hz : z ∈ flipL Wd Hi ps) : z ∈ ps := by
  obtain ⟨j, hj, rfl⟩ := List.getElem_of_mem hz
  have hj' := hj
  rw [flipL_len] at hj'
  obtain ⟨x, y, hx, hy, rfl⟩ := split_at hj'
  rw [getD_of, flipL_at _ hx hy]
  exact mem_getD (by rw [h]; exact spot_lt hx (by omega))
theorem ok_flip {k d : Int} {Wd Hi : Nat} {cs ps : List Int} (h : Im.okB k d Wd Hi cs ps = true) : Im.okB k d Wd Hi cs (flipL Wd Hi ps) = true := by
  obtain ⟨h1, h2, h3, h4, h5, h6⟩ := ok_open h
  have e : ((Wd * Hi : Nat) : Int) = (Wd : Int) * (Hi : Int) := by simp
  exact Im.okB_yes ⟨h1, h2, h3, h4, by rw [flipL_len]; exact e, fun z hz => h6 z (flipL_mem (by omega) hz)⟩

theorem implFlip_ok (k d : Int) (Wd Hi : Nat) (ca : Option Addr) (cn cc : Nat) (pa : Option Addr) (pn pc : Nat) (cs ps : List Int) (w : World) (hc : Ints w ca cs) (hcn : cs.length = cn) (hcl : cn ≤ 1000) (hp : Ints w pa ps) (hpn : ps.length = pn) (hok : Im.okB k d Wd Hi cs ps = true) :
    Calls Try.prog 19 #[.agg #[.int .i64 k, .int .i64 d, .int .i64 (Wd : Int), .int .i64 (Hi : Int), .slice ca cn cc, .slice pa pn pc]] w fun e w' => (∃ x cx y cy, e = .returned (.agg #[.int .i64 k, .int .i64 d, .int .i64 (Wd : Int), .int .i64 (Hi : Int), .slice x cn cx, .slice y pn cy]) ∧ Ints w' x cs ∧ Ints w' y (flipL Wd Hi ps)) ∧ Below w.heap.size w w' := by
  obtain ⟨_, hw, hh, _, hm, _⟩ := ok_open hok
  have e : ((Wd * Hi : Nat) : Int) = (Wd : Int) * (Hi : Int) := by simp
  have hmm : pn = Wd * Hi := by omega
  have hmul : Wd * Hi ≤ 20 * 20 := Nat.mul_le_mul (by omega) (by omega)
  have hO := impl_imageOk k d Wd Hi ca cn cc pa pn pc ((w.alloc (.cells #[.int .i64 k, .int .i64 d, .int .i64 (Wd : Int), .int .i64 (Hi : Int), .slice ca cn cc, .slice pa pn pc] 26)).alloc (.cells #[.int .i64 0, .int .i64 0, .int .i64 0, .int .i64 0, .slice none 0 0, .slice none 0 0] 26)) cs ps (hc.kept (below_two _ _ _)) hcn (by omega) (hp.kept (below_two _ _ _)) hpn (by omega)
  rw [hok] at hO
  refine (impl_flip_yes k d Wd Hi ca cn cc pa pn pc cs ps w hc hcn (by omega) hp hpn (by omega) (by omega) hmm hO).mono ?_
  rintro e w' ⟨⟨x, cx, y, cy, rfl, hT⟩, b⟩
  rw [hmm]
  exact ⟨⟨x, cx, y, cy, rfl, (hT.two b.size).ints.1, (hT.two b.size).ints.2⟩, b⟩
theorem specFlip_ok (k d : Int) (Wd Hi : Nat) (ca : Option Addr) (cn cc : Nat) (pa : Option Addr) (pn pc : Nat) (cs ps : List Int) (w : World) (hc : Ints w ca cs) (hcn : cs.length = cn) (hcl : cn ≤ 1000) (hp : Ints w pa ps) (hpn : ps.length = pn) (hpc : pn ≤ pc) (hok : Im.okB k d Wd Hi cs ps = true) :
    Calls Try.prog 40 #[.agg #[.int .i64 k, .int .i64 d, .int .i64 (Wd : Int), .int .i64 (Hi : Int), .slice ca cn cc, .slice pa pn pc]] w fun e w' => (∃ x cx y cy, e = .returned (.agg #[.int .i64 k, .int .i64 d, .int .i64 (Wd : Int), .int .i64 (Hi : Int), .slice x cn cx, .slice y pn cy]) ∧ Ints w' x cs ∧ Ints w' y (flipL Wd Hi ps)) ∧ Below w.heap.size w w' := by
  obtain ⟨_, hw, hh, _, hm, _⟩ := ok_open hok
  have e : ((Wd * Hi : Nat) : Int) = (Wd : Int) * (Hi : Int) := by simp
  have hmm : pn = Wd * Hi := by omega
  have hO := spec_imageOk k d Wd Hi ca cn cc pa pn pc ((w.alloc (.cells #[.int .i64 k, .int .i64 d, .int .i64 (Wd : Int), .int .i64 (Hi : Int), .slice ca cn cc, .slice pa pn pc] 26)).alloc (.cells #[.int .i64 0, .int .i64 0, .int .i64 0, .int .i64 0, .slice none 0 0, .slice none 0 0] 26)) cs ps (hc.kept (below_two _ _ _)) hcn (by omega) (hp.kept (below_two _ _ _)) hpn
  rw [hok] at hO
  refine (spec_flip_yes k d Wd Hi ca cn cc pa pn pc cs ps w hc hcn (by omega) hp hpn (by omega) (by omega) hmm hpc (by omega) hO).mono ?_
  rintro e w' ⟨⟨x, cx, y, cy, rfl, h1, h2⟩, b⟩
  rw [hmm]
  exact ⟨⟨x, cx, y, cy, rfl, h1, h2⟩, b⟩
theorem implFlip_bad (k d wd hi : Int) (ca : Option Addr) (cn cc : Nat) (pa : Option Addr) (pn pc : Nat) (cs ps : List Int) (w : World) (hc : Ints w ca cs) (hcn : cs.length = cn) (hcl : cn ≤ 1000) (hp : Ints w pa ps) (hpn : ps.length = pn) (hpl : pn ≤ 1000) (hok : Im.okB k d wd hi cs ps = false) :
    Calls Try.prog 19 #[.agg #[.int .i64 k, .int .i64 d, .int .i64 wd, .int .i64 hi, .slice ca cn cc, .slice pa pn pc]] w fun e w' => e = .returned (.agg #[.int .i64 0, .int .i64 0, .int .i64 0, .int .i64 0, .slice none 0 0, .slice none 0 0]) ∧ Below w.heap.size w w' := by
  have hO := impl_imageOk k d wd hi ca cn cc pa pn pc ((w.alloc (.cells #[.int .i64 k, .int .i64 d, .int .i64 wd, .int .i64 hi, .slice ca cn cc, .slice pa pn pc] 26)).alloc (.cells #[.int .i64 0, .int .i64 0, .int .i64 0, .int .i64 0, .slice none 0 0, .slice none 0 0] 26)) cs ps (hc.kept (below_two _ _ _)) hcn (by omega) (hp.kept (below_two _ _ _)) hpn (by omega)
  rw [hok] at hO
  exact impl_flip_no k d wd hi ca cn cc pa pn pc w hO
theorem specFlip_bad (k d wd hi : Int) (ca : Option Addr) (cn cc : Nat) (pa : Option Addr) (pn pc : Nat) (cs ps : List Int) (w : World) (hc : Ints w ca cs) (hcn : cs.length = cn) (hcl : cn ≤ 1000) (hp : Ints w pa ps) (hpn : ps.length = pn) (hok : Im.okB k d wd hi cs ps = false) :
    Calls Try.prog 40 #[.agg #[.int .i64 k, .int .i64 d, .int .i64 wd, .int .i64 hi, .slice ca cn cc, .slice pa pn pc]] w fun e w' => e = .returned (.agg #[.int .i64 0, .int .i64 0, .int .i64 0, .int .i64 0, .slice none 0 0, .slice none 0 0]) ∧ Below w.heap.size w w' := by
  have hO := spec_imageOk k d wd hi ca cn cc pa pn pc ((w.alloc (.cells #[.int .i64 k, .int .i64 d, .int .i64 wd, .int .i64 hi, .slice ca cn cc, .slice pa pn pc] 26)).alloc (.cells #[.int .i64 0, .int .i64 0, .int .i64 0, .int .i64 0, .slice none 0 0, .slice none 0 0] 26)) cs ps (hc.kept (below_two _ _ _)) hcn (by omega) (hp.kept (below_two _ _ _)) hpn
  rw [hok] at hO
  exact spec_flip_no k d wd hi ca cn cc pa pn pc w hO

end Go.Proofs.Ytjiogneidioknaa

/- The draw of any picture: l14Any. -/
namespace Go.Proofs.Ytjiogneidioknaa
open Go.RowKit

theorem Only.refl_lt {B : Nat} {w : World} (o : Obj) (h : B < w.heap.size) : Only B w (w.alloc o) := (Only.refl B w).alloc h o

theorem AnyOut.up {lo lo' : Nat} {e : Ending} {w : World} (h : AnyOut lo e w) (hl : lo' ≤ lo) : AnyOut lo' e w := by
  obtain ⟨k, d, wd, hi, a, n, c, cs, b, m, cc, ps, he, h1, h2, h3, h4, h5, r⟩ := h
  exact ⟨k, d, wd, hi, a, n, c, cs, b, m, cc, ps, he, h1.lower hl, h2, h3, h4, h5.lower hl, r⟩

/-- the box of a picture, and a result's box ahead of it -/
structure BX (w wc : World) (B X q : Nat) (k d wd hi : Int) (a : Option Addr) (n c : Nat) (b : Option Addr) (m cc : Nat) : Prop where
  rd : RdAt wc B q
  only : Only B w wc
  res : wc.heap[w.heap.size]? = some (.cells #[.int .i64 0, .int .i64 0, .int .i64 0, .int .i64 0, .slice none 0 0, .slice none 0 0] 26 (0, 0))
  box : wc.heap[X]? = some (.cells #[.int .i64 k, .int .i64 d, .int .i64 wd, .int .i64 hi, .slice a n c, .slice b m cc] 26 (0, 0))
  lt : B < w.heap.size

set_option maxHeartbeats 2000000 in
set_option maxRecDepth 20000 in
theorem l14Any_any (B p : Nat) (w : World) (hr : RdAt w B p) (hp : p ≤ 100000) :
    Calls Try.prog 37 #[.pointer (some ⟨B, 0, none⟩)] w fun e w' => AnyOut w.heap.size e w' ∧ (∃ q, q ≤ p + 6000 ∧ RdAt w' B q) ∧ Only B w w' := by
  have hlt := hr.lt
  obtain ⟨W0, hW0⟩ : ∃ W0, W0 = w.alloc (.cells #[.int .i64 0, .int .i64 0, .int .i64 0, .int .i64 0, .slice none 0 0, .slice none 0 0] 26) := ⟨_, rfl⟩
  have hs0 : W0.heap.size = w.heap.size + 1 := by rw [hW0]; simp
  have HR0 : Hid (RdAt W0 B p) := by rw [hW0]; exact hr.alloc _
  have HO0 : Hid (Only B w W0) := by rw [hW0]; exact Only.refl_lt _ hlt
  have HZ0 : Hid (W0.heap[w.heap.size]? = some (.cells #[.int .i64 0, .int .i64 0, .int .i64 0, .int .i64 0, .slice none 0 0, .slice none 0 0] 26 (0, 0))) := by rw [hW0]; exact heap_alloc_new _ _
  have HIM : Hid (Calls Try.prog 39 #[.pointer (some ⟨B, 0, none⟩)] W0 fun e w' => PicOut W0.heap.size e w' ∧ (∃ q, q ≤ p + 5000 ∧ RdAt w' B q) ∧ Only B W0 w') := l14Image_any B p W0 HR0.out hp
  clear hr
  go_enter Try.func37, Try.ntmps37
  go_upto_region 1 with fail
  rw [← hW0]
  clear hW0
  go_wp2_with fail
  refine HIM.out.mono ?_
  rintro e w1 ⟨⟨k, d, wd, hi, a, n, c, cs, b, m, cc, ps, rfl, h4, h5, hm, hwd1, hwd2, hhi1, hhi2, hn, hk1, hk2, hd⟩, ⟨q, hq, hR1⟩, hO1⟩
  have hB0 : Below w.heap.size w w1 → True := fun _ => trivial
  have hm4 : m ≤ 400 := by rw [hm]; exact Nat.mul_le_mul hwd2 hhi2
  have hm1 : 1 ≤ m := by rw [hm]; exact Nat.mul_pos hwd1 hhi1
  have hsz1 : W0.heap.size ≤ w1.heap.size := hO1.below.size
  have hw1 : w.heap.size < w1.heap.size := by omega
  have HX : Hid (BX w (w1.alloc (.cells #[.int .i64 (k : Int), .int .i64 (d : Int), .int .i64 (wd : Int), .int .i64 (hi : Int), .slice a n c, .slice b m cc] 26)) B w1.heap.size q k d wd hi a n c b m cc) :=
    ⟨hR1.alloc _, (HO0.out.trans hO1).alloc hR1.lt _, (heap_alloc_old _ _ (by omega)).trans ((hO1.rest _ (by omega) (by omega)).trans HZ0.out), heap_alloc_new _ _, hlt⟩
  have HI : Hid (IntsFrom (w1.alloc (.cells #[.int .i64 (k : Int), .int .i64 (d : Int), .int .i64 (wd : Int), .int .i64 (hi : Int), .slice a n c, .slice b m cc] 26)) (w.heap.size + 1) a cs ∧ IntsFrom (w1.alloc (.cells #[.int .i64 (k : Int), .int .i64 (d : Int), .int .i64 (wd : Int), .int .i64 (hi : Int), .slice a n c, .slice b m cc] 26)) (w.heap.size + 1) b ps ∧ n ≤ c ∧ m ≤ cc ∧ cs.length = n ∧ ps.length = m) :=
    ⟨by rw [← hs0]; exact (h4.old _).from, by rw [← hs0]; exact (h5.old _).from, h4.cap, h5.cap, h4.len, h5.len⟩
  clear HIM HR0 HO0 HZ0 h4 h5 hm hR1 hO1 hB0 hsz1 hs0
  go_wp2_with fail
  refine (pick_named B q _ _ HX.out.rd (by omega) (by omega) (by omega)).mono ?_
  rintro e w2 ⟨v, rfl, hv, hR2, hO2, hs2⟩
  have HX2 : Hid (BX w w2 B w1.heap.size (q + 1) k d wd hi a n c b m cc) :=
    ⟨hR2, HX.out.only.trans hO2, (hO2.rest _ (lt_of_block HX.out.res) (by omega)).trans HX.out.res, (hO2.rest _ (lt_of_block HX.out.box) (by omega)).trans HX.out.box, hlt⟩
  have HI2 : Hid (IntsFrom w2 (w.heap.size + 1) a cs ∧ IntsFrom w2 (w.heap.size + 1) b ps ∧ n ≤ c ∧ m ≤ cc ∧ cs.length = n ∧ ps.length = m) := by
    obtain ⟨i1, i2, r⟩ := HI.out
    exact ⟨i1.only hO2 (by omega), i2.only hO2 (by omega), r⟩
  clear HX HI hR2 hO2 hs2
  generalize w1.heap.size = X at *
  obtain ⟨⟨z0, z1, z2, z3, z4, z5⟩, y0, y1, y2, y3, y4, y5⟩ := box6 HX2.out.box
  by_cases h0 : v = 0
  · subst h0
    have HSP : Hid (Calls Try.prog 57 #[.pointer (some ⟨B, 0, none⟩), .agg #[.int .i64 (k : Int), .int .i64 (d : Int), .int .i64 (wd : Int), .int .i64 (hi : Int), .slice a n c, .slice b m cc]] w2 fun e w' => AnyOut w2.heap.size e w' ∧ (∃ q', q' ≤ q + 1 + 5 ∧ RdAt w' B q') ∧ Only B w2 w') :=
      l14Spoil_any B (q + 1) k d wd hi a n c b m cc cs ps w2 HX2.out.rd (by omega) HI2.out.1.ints HI2.out.2.2.2.2.1 hn HI2.out.2.1.ints HI2.out.2.2.2.2.2 hm1 hm4 ⟨hk1, hk2⟩ hd (by omega) (by omega)
    go_wp2_with fail
    refine HSP.out.mono ?_
    rintro e w3 ⟨⟨k3, d3, wd3, hi3, a3, n3, c3, cs3, b3, m3, cc3, ps3, rfl, i4, l4, l4', k4, i5, l5, l5', k5, bd⟩, ⟨q3, hq3, hR3⟩, hO3⟩
    have hres : w3.heap[w.heap.size]? = some (.cells #[.int .i64 0, .int .i64 0, .int .i64 0, .int .i64 0, .slice none 0 0, .slice none 0 0] 26 (0, 0)) := (hO3.rest _ (lt_of_block HX2.out.res) (by omega)).trans HX2.out.res
    have hsz2 : w.heap.size < w2.heap.size := lt_of_block HX2.out.res
    have HF : Hid (IntsFrom w3 (w.heap.size + 1) a3 cs3 ∧ IntsFrom w3 (w.heap.size + 1) b3 ps3 ∧ RdAt w3 B q3 ∧ Only B w w3) := ⟨i4.lower (by omega), i5.lower (by omega), hR3, HX2.out.only.trans hO3⟩
    have HL : Hid (cs3.length = n3 ∧ n3 ≤ 1000 ∧ n3 ≤ c3 ∧ ps3.length = m3 ∧ m3 ≤ 1000 ∧ m3 ≤ cc3 ∧ q3 ≤ p + 6000 ∧ 0 ≤ k3 ∧ k3 ≤ 100 ∧ 0 ≤ d3 ∧ d3 ≤ 100 ∧ 0 ≤ wd3 ∧ wd3 ≤ 100 ∧ 0 ≤ hi3 ∧ hi3 ≤ 100) := ⟨l4, l4', k4, l5, l5', k5, by omega, bd⟩
    clear HSP i4 i5 hR3 hO3 z0 z1 z2 z3 z4 z5 y0 y1 y2 y3 y4 y5 HX2 HI2 l4 l4' k4 l5 l5' k5 bd hq3
    have hI6 : (Try.prog.info? 26).map (·.size) = some (#[Value.int .i64 k3, .int .i64 d3, .int .i64 wd3, .int .i64 hi3, .slice a3 n3 c3, .slice b3 m3 cc3]).size := by kernel_rfl
    have h16 : (#[Value.int .i64 k3, .int .i64 d3, .int .i64 wd3, .int .i64 hi3, .slice a3 n3 c3, .slice b3 m3 cc3]).all (·.oneCell') = true := by simp [Value.oneCell']
    go_wp2_with (refine wpList_store_row rfl 26 (.tmp 2) (.tmp 11) rfl w.heap.size #[.int .i64 k3, .int .i64 d3, .int .i64 wd3, .int .i64 hi3, .slice a3 n3 c3, .slice b3 m3 cc3] rfl rfl 26 #[.int .i64 0, .int .i64 0, .int .i64 0, .int .i64 0, .slice none 0 0, .slice none 0 0] hres hI6 rfl h16 ?_)
    have hs2 := setRow_heap w3 w.heap.size _ #[.int .i64 k3, .int .i64 d3, .int .i64 wd3, .int .i64 hi3, .slice a3 n3 c3, .slice b3 m3 cc3] _ _ hres
    obtain ⟨f1, f2, f3, f4⟩ := HF.out
    obtain ⟨g1, g2, g3, g4, g5, g6, g7, g8⟩ := HL.out
    refine bodyPost_ret_by (results_cell_row (p := 2) (ty := 26) (by kernel_rfl) _ _ w.heap.size 26 _ (0, 0) _ rfl hs2 Try.underlying26 rfl (by kernel_rfl)) rfl
      ⟨⟨k3, d3, wd3, hi3, a3, n3, c3, cs3, b3, m3, cc3, ps3, rfl, (f1.row (by omega) _).lower (by omega), g1, g2, g3, (f2.row (by omega) _).lower (by omega), g4, g5, g6, g8⟩, ⟨q3, g7, f3.kept ((below_setRow _ _ _).mono hlt)⟩, f4.grown hlt ((below_setRow _ _ _).mono (Nat.le_refl _))⟩
  · have h0i : ¬ (v : Int) = 0 := by omega
    have hres := HX2.out.res
    have HL : Hid (cs.length = n ∧ n ≤ 1000 ∧ n ≤ c ∧ ps.length = m ∧ m ≤ 1000 ∧ m ≤ cc ∧ q + 1 ≤ p + 6000 ∧ (0 : Int) ≤ k ∧ (k : Int) ≤ 100 ∧ (0 : Int) ≤ d ∧ (d : Int) ≤ 100 ∧ (0 : Int) ≤ wd ∧ (wd : Int) ≤ 100 ∧ (0 : Int) ≤ hi ∧ (hi : Int) ≤ 100) := ⟨HI2.out.2.2.2.2.1, by omega, HI2.out.2.2.1, HI2.out.2.2.2.2.2, by omega, HI2.out.2.2.2.1, by omega, by omega, by omega, by omega, by omega, by omega, by omega, by omega, by omega⟩
    have hI6 : (Try.prog.info? 26).map (·.size) = some (#[Value.int .i64 (k : Int), .int .i64 (d : Int), .int .i64 (wd : Int), .int .i64 (hi : Int), .slice a n c, .slice b m cc]).size := by kernel_rfl
    have h16 : (#[Value.int .i64 (k : Int), .int .i64 (d : Int), .int .i64 (wd : Int), .int .i64 (hi : Int), .slice a n c, .slice b m cc]).all (·.oneCell') = true := by simp [Value.oneCell']
    go_wp2_with (refine wpList_store_row rfl 26 (.tmp 2) (.tmp 12) rfl w.heap.size #[.int .i64 (k : Int), .int .i64 (d : Int), .int .i64 (wd : Int), .int .i64 (hi : Int), .slice a n c, .slice b m cc] rfl rfl 26 #[.int .i64 0, .int .i64 0, .int .i64 0, .int .i64 0, .slice none 0 0, .slice none 0 0] hres hI6 rfl h16 ?_)
    have hs2 := setRow_heap w2 w.heap.size _ #[.int .i64 (k : Int), .int .i64 (d : Int), .int .i64 (wd : Int), .int .i64 (hi : Int), .slice a n c, .slice b m cc] _ _ hres
    obtain ⟨f1, f2, _⟩ := HI2.out
    obtain ⟨g1, g2, g3, g4, g5, g6, g7, g8⟩ := HL.out
    refine bodyPost_ret_by (results_cell_row (p := 2) (ty := 26) (by kernel_rfl) _ _ w.heap.size 26 _ (0, 0) _ rfl hs2 Try.underlying26 rfl (by kernel_rfl)) rfl
      ⟨⟨k, d, wd, hi, a, n, c, cs, b, m, cc, ps, rfl, (f1.row (by omega) _).lower (by omega), g1, g2, g3, (f2.row (by omega) _).lower (by omega), g4, g5, g6, g8⟩, ⟨q + 1, g7, HX2.out.rd.kept ((below_setRow _ _ _).mono hlt)⟩, HX2.out.only.grown hlt ((below_setRow _ _ _).mono (Nat.le_refl _))⟩
end Go.Proofs.Ytjiogneidioknaa

/- A slice of bytes that came in is a code that can be read. -/
namespace Go.Proofs.Ytjiogneidioknaa
open Go.RowKit

theorem addr_add (b off i : Nat) : (⟨b, off, none⟩ : Addr).add i = ⟨b, off + i, none⟩ := by
  simp [Addr.add]; try omega

theorem code8_of {w : World} {a : Option Addr} {len cap : Nat} {zs : List Int}
    (h : (a = none ∧ len = 0 ∧ cap = 0 ∧ zs = []) ∨ ∃ x, a = some x ∧ len ≤ cap ∧ cap ≤ maxLen ∧ zs.length = cap ∧ (∀ i, i < zs.length → w.cell? (x.add i) = some (.int .u8 (zs.getD i 0))) ∧ ∀ n ∈ zs, (Lit.int .u8 n).wf = true) :
    Code8 w a len cap := by
  rcases h with ⟨rfl, rfl, rfl, rfl⟩ | ⟨x, rfl, hl, hm, hz, hcell, hwz⟩
  · exact ⟨Nat.le_refl _, Nat.zero_le _, .inl rfl⟩
  · refine ⟨hl, hm, ?_⟩
    by_cases h0 : len = 0
    · exact .inl h0
    · obtain ⟨b, off, spot⟩ := x
      have hc := hcell 0 (by omega)
      have hspot : spot = none := by simpa [Addr.add] using World.cell?_spot hc
      subst hspot
      rw [addr_add] at hc
      refine .inr ⟨b, off, rfl, World.block_lt_of_cell? _ _ hc, fun i hi => ?_⟩
      have h1 := hcell i (by omega)
      rw [addr_add] at h1
      have hmem : zs.getD i 0 ∈ zs := by
        rw [List.getD_eq_getElem?_getD, List.getElem?_eq_getElem (by omega)]
        exact List.getElem_mem _
      have hw := bounds_u8 (hwz _ hmem)
      exact ⟨(zs.getD i 0).toNat, by omega, by rw [h1, Int.toNat_of_nonneg hw.1]⟩
end Go.Proofs.Ytjiogneidioknaa

/- A picture for ImageRgb, for ImagePal, drawn of a code. -/
namespace Go.Proofs.Ytjiogneidioknaa
open Go.RowKit

set_option maxHeartbeats 1000000 in
theorem drawImagePal_any (a : Option Addr) (len cap : Nat) (w : World) (h : Code8 w a len cap) :
    Calls Try.prog 21 #[.slice a len cap] w fun e w' => AnyOut w.heap.size e w' ∧ Below w.heap.size w w' := by
  obtain ⟨W0, hW0⟩ : ∃ W0, W0 = w.alloc (.cells #[.int .i64 0, .int .i64 0, .int .i64 0, .int .i64 0, .slice none 0 0, .slice none 0 0] 26) := ⟨_, rfl⟩
  have hs0 : w.heap.size < W0.heap.size := by rw [hW0]; simp
  have hB0 : Below w.heap.size w W0 := by rw [hW0]; exact (Below.refl _ _).alloc (Nat.le_refl _) _
  have HZ0 : Hid (W0.heap[w.heap.size]? = some (.cells #[.int .i64 0, .int .i64 0, .int .i64 0, .int .i64 0, .slice none 0 0, .slice none 0 0] 26 (0, 0))) := by rw [hW0]; exact heap_alloc_new _ _
  have HOP : Hid (Calls Try.prog 36 #[.slice a len cap] W0 fun e w' => e = .returned (.pointer (some ⟨W0.heap.size, 0, none⟩)) ∧ RdAt w' W0.heap.size 0 ∧ Below W0.heap.size W0 w') := open_any a len cap W0 (h.kept hB0)
  have HB0 : Hid (Below w.heap.size w W0) := hB0
  clear h hB0
  go_enter Try.func21, Try.ntmps21
  go_upto_region 1 with fail
  rw [← hW0]
  clear hW0
  go_wp2_with fail
  refine HOP.out.mono ?_
  rintro e w1 ⟨rfl, hR, b1⟩
  have HAN : Hid (Calls Try.prog 37 #[.pointer (some ⟨W0.heap.size, 0, none⟩)] w1 fun e w' => AnyOut w1.heap.size e w' ∧ (∃ q, q ≤ 0 + 6000 ∧ RdAt w' W0.heap.size q) ∧ Only W0.heap.size w1 w') := l14Any_any W0.heap.size 0 w1 hR (by omega)
  have HB1 : Hid (Below W0.heap.size W0 w1) := b1
  have hsz1 := b1.size
  clear HOP hR b1
  go_wp2_with fail
  refine HAN.out.mono ?_
  rintro e w3 ⟨⟨k3, d3, wd3, hi3, a3, n3, c3, cs3, b3, m3, cc3, ps3, rfl, i4, l4, l4', k4, i5, l5, l5', k5, bd⟩, _, hO3⟩
  have hres : w3.heap[w.heap.size]? = some (.cells #[.int .i64 0, .int .i64 0, .int .i64 0, .int .i64 0, .slice none 0 0, .slice none 0 0] 26 (0, 0)) := (hO3.rest _ (by omega) (by omega)).trans ((HB1.out.block _ (by omega)).trans HZ0.out)
  have HF : Hid (IntsFrom w3 (w.heap.size + 1) a3 cs3 ∧ IntsFrom w3 (w.heap.size + 1) b3 ps3 ∧ Below w.heap.size w w3) := ⟨i4.lower (by omega), i5.lower (by omega), HB0.out.trans ((HB1.out.mono (by omega)).trans (hO3.below.mono (by omega)))⟩
  have HL : Hid (cs3.length = n3 ∧ n3 ≤ 1000 ∧ n3 ≤ c3 ∧ ps3.length = m3 ∧ m3 ≤ 1000 ∧ m3 ≤ cc3 ∧ 0 ≤ k3 ∧ k3 ≤ 100 ∧ 0 ≤ d3 ∧ d3 ≤ 100 ∧ 0 ≤ wd3 ∧ wd3 ≤ 100 ∧ 0 ≤ hi3 ∧ hi3 ≤ 100) := ⟨l4, l4', k4, l5, l5', k5, bd⟩
  clear HAN i4 i5 hO3 l4 l4' k4 l5 l5' k5 bd HB0 HB1 HZ0
  have hI6 : (Try.prog.info? 26).map (·.size) = some (#[Value.int .i64 k3, .int .i64 d3, .int .i64 wd3, .int .i64 hi3, .slice a3 n3 c3, .slice b3 m3 cc3]).size := by kernel_rfl
  have h16 : (#[Value.int .i64 k3, .int .i64 d3, .int .i64 wd3, .int .i64 hi3, .slice a3 n3 c3, .slice b3 m3 cc3]).all (·.oneCell') = true := by simp [Value.oneCell']
  go_wp2_with (refine wpList_store_row rfl 26 (.tmp 2) (.tmp 5) rfl w.heap.size #[.int .i64 k3, .int .i64 d3, .int .i64 wd3, .int .i64 hi3, .slice a3 n3 c3, .slice b3 m3 cc3] rfl rfl 26 #[.int .i64 0, .int .i64 0, .int .i64 0, .int .i64 0, .slice none 0 0, .slice none 0 0] hres hI6 rfl h16 ?_)
  have hs2 := setRow_heap w3 w.heap.size _ #[.int .i64 k3, .int .i64 d3, .int .i64 wd3, .int .i64 hi3, .slice a3 n3 c3, .slice b3 m3 cc3] _ _ hres
  obtain ⟨f1, f2, f3⟩ := HF.out
  obtain ⟨g1, g2, g3, g4, g5, g6, g8⟩ := HL.out
  refine bodyPost_ret_by (results_cell_row (p := 2) (ty := 26) (by kernel_rfl) _ _ w.heap.size 26 _ (0, 0) _ rfl hs2 Try.underlying26 rfl (by kernel_rfl)) rfl
    ⟨⟨k3, d3, wd3, hi3, a3, n3, c3, cs3, b3, m3, cc3, ps3, rfl, (f1.row (by omega) _).lower (by omega), g1, g2, g3, (f2.row (by omega) _).lower (by omega), g4, g5, g6, g8⟩, f3.trans ((below_setRow _ _ _).mono (Nat.le_refl _))⟩
end Go.Proofs.Ytjiogneidioknaa

/- ImageColor of the program, for every picture and place. -/
namespace Go.Proofs.Ytjiogneidioknaa
open Go.RowKit

end Go.Proofs.Ytjiogneidioknaa

/- The law on pictures made of red, green and blue, walked. -/
namespace Go.Proofs.Ytjiogneidioknaa
open Go.RowKit

theorem pair_ints {w : World} {lo : Nat} {x y : Option Addr} {cs ps : List Int} (h : Pair2 w lo x cs y ps) : Ints w x cs ∧ Ints w y ps := by
  obtain ⟨m, _, h2, _, h4⟩ := h
  exact ⟨h2.ints, h4.ints⟩
theorem dense_snoc (l : List Int) (c : Int) : denseB (l ++ [c]) = (denseB l && (c % 256 == 255)) := by unfold denseB; rw [List.all_append]; simp
theorem dense_take {l : List Int} (h : denseB l = true) (j : Nat) : denseB (l.take j) = true := by
  unfold denseB at *
  rw [List.all_eq_true] at *
  exact fun x hx => h x (List.mem_of_mem_take hx)
theorem cols_bares {l : List Int} (h0 : ∀ c ∈ l, 0 ≤ c) (h : denseB l = true) : cols 2 24 [] (bares l) = l := by
  unfold denseB at h
  rw [List.all_eq_true] at h
  unfold cols bares
  rw [List.map_map]
  conv => rhs; rw [← List.map_id l]
  refine List.map_congr_left (fun c hc => ?_)
  have h1 := h c hc
  have h2 := h0 c hc
  simp at h1
  have e : colOf 2 24 [] (c / 256) = c / 256 * 256 + 255 := by unfold colOf; rw [if_neg (by decide), if_pos rfl]
  show colOf 2 24 [] (c / 256) = c
  rw [e]
  omega
theorem col_pos {k wd hi : Int} {D : Nat} {cs ps : List Int} (hok : Im.Ok k (D : Int) wd hi cs ps) {c : Int} (hc : c ∈ cols k D cs ps) : 0 ≤ c := by
  unfold cols at hc
  obtain ⟨p, hp, rfl⟩ := List.mem_map.1 hc
  exact (col_bounds hok hp).1
theorem rgb_okX {k : Int} {D Wd Hi : Nat} {cs ps : List Int} (hok : Im.Ok k (D : Int) (Wd : Int) (Hi : Int) cs ps) : Im.okB 2 24 Wd Hi [] (bares (cols k D cs ps)) = true := by
  refine Im.okB_yes ⟨by simp [depL], hok.2.1, hok.2.2.1, ⟨fun _ => rfl, fun h => absurd h (by decide)⟩, ?_, ?_⟩
  · rw [bares_len, cols_len]; exact hok.2.2.2.2.1
  · intro z hz
    unfold bares cols at hz
    rw [List.map_map] at hz
    obtain ⟨p, hp, rfl⟩ := List.mem_map.1 hz
    have hb := col_bounds hok hp
    show 0 ≤ colOf k D cs p / 256 ∧ colOf k D cs p / 256 ≤ Im.most 2 24 []
    unfold Im.most
    rw [if_neg (by decide)]
    refine ⟨by omega, ?_⟩
    have : ((2 ^ (24 : Int).toNat : Nat) : Int) = 16777216 := by decide
    omega
theorem split_at' {Wd Hi j : Nat} (h : j < Wd * Hi) : ∃ u v, u < Wd ∧ v < Hi ∧ j = v * Wd + u := by
  have hW : 0 < Wd := by rcases Nat.eq_zero_or_pos Wd with h0 | h0; · rw [h0, Nat.zero_mul] at h; omega
                         · exact h0
  refine ⟨j % Wd, j / Wd, Nat.mod_lt _ hW, ?_, ?_⟩
  · exact (Nat.div_lt_iff_lt_mul hW).2 (by rw [Nat.mul_comm]; exact h)
  · rw [Nat.mul_comm]; exact (Nat.div_add_mod j Wd).symm

end Go.Proofs.Ytjiogneidioknaa

/- Two lists, two pictures of red, green and blue that are not the same, held against each other by the laws. -/
namespace Go.Proofs.Ytjiogneidioknaa
open Go.RowKit

set_option maxHeartbeats 400000 in
theorem wiInts_diff (a : Option Addr) (cap : Nat) (b : Option Addr) (cap' n m : Nat) (zs ys : List Int) (w : World) (h : Ints w a zs) (g : Ints w b ys) (hn : zs.length = n) (hm : ys.length = m) (hl : n ≤ 2000000) (hl' : m ≤ 2000000) (hne : zs ≠ ys) :
    Calls Try.prog 55 #[.slice a n cap, .slice b m cap'] w fun e w' => e = .returned (.bool false) ∧ ∃ m, w' = w.drewN m := by
  by_cases hnm : n = m
  · subst hnm
    have HI : Hid (Ints w a zs) := h
    have HG : Hid (Ints w b ys) := g
    have HL : Hid (zs.length = n ∧ ys.length = n ∧ zs ≠ ys) := ⟨hn, hm, hne⟩
    clear h g hn hm hne
    go_enter Try.func55, Try.ntmps55
    go_wp2_with fail
    go_loopw [5] (fun i wr => ∃ k m : Nat, k ≤ n ∧ i = .int .i64 k ∧ zs.take k = ys.take k ∧ wr = w.drewN m) (fun i _ => n - (intOf i).toNat)
    case atStart => exact ⟨0, 0, Nat.zero_le _, rfl, rfl, rfl⟩
    case round =>
      obtain ⟨k, m, hk, rfl, ht, rfl⟩ := hrel
      have HT : Hid (zs.take k = ys.take k) := ht
      clear ht
      by_cases hlt : k < n
      · have hkz : k < zs.length := by have := HL.out.1; omega
        have hky : k < ys.length := by have := HL.out.2.1; omega
        rcases HI.out with h | ⟨b1, off1, rfl, hb1, hc1⟩
        · rw [h] at hkz; simp at hkz
        · rcases HG.out with h | ⟨b2, off2, rfl, hb2, hc2⟩
          · rw [h] at hky; simp at hky
          · have e1 := hc1 k hkz
            have e2 := hc2 k hky
            have hki : (k : Int) < (n : Int) := by omega
            have HTK : Hid (zs.take (k + 1) = zs.take k ++ [zs[k]] ∧ ys.take (k + 1) = ys.take k ++ [ys[k]]) := ⟨List.take_succ_eq_append_getElem hkz, List.take_succ_eq_append_getElem hky⟩
            clear hc1 hc2
            generalize zs[k] = x at *
            generalize ys[k] = y at *
            by_cases hxy : x = y
            · subst hxy
              have HT2 : Hid (zs.take (k + 1) = ys.take (k + 1)) := by show _ = _; rw [HTK.out.1, HTK.out.2, HT.out]
              clear HTK
              go_wp2_with fail
              go_region
              all_goals go_wp2_with fail
              all_goals
                go_roundw
                case rel => exact ⟨k + 1, m + 1, by omega, by go_num, HT2.out, rfl⟩
                case measure => simp [intOf]; omega
            · have f1 : (x != y) = true := by rw [bne_iff_ne]; exact hxy
              clear HTK HT
              go_wp2_with fail
              go_region
              all_goals go_wp2_with fail
              all_goals
                go_ret
                exact ⟨rfl, m + 1, rfl⟩
      · refine absurd HT.out ?_
        rw [List.take_of_length_le (by have := HL.out.1; omega), List.take_of_length_le (by have := HL.out.2.1; omega)]
        exact HL.out.2.2
  · have f1 : ((n : Int) != (m : Int)) = true := by rw [bne_iff_ne]; omega
    clear h g hn hm hne
    go_enter Try.func55, Try.ntmps55
    go_wp2_with fail
    go_ret
    exact ⟨rfl, 0, rfl⟩

set_option linter.unusedVariables false
set_option maxHeartbeats 1000000 in
set_option maxRecDepth 20000 in
theorem wiRgb_pix (wd hi : Int) (m m2 : Nat) (ps ps2 : List Int) (hm : ps.length = m) (hm2 : ps2.length = m2) (hml : m ≤ 1048576) (hml2 : m2 ≤ 1048576) (hne : ps ≠ ps2) (a : Option Addr) (c : Nat) (b : Option Addr) (cc : Nat) (a' : Option Addr) (c' : Nat) (b' : Option Addr) (cc' : Nat) (w : World) (h1 : Ints w a []) (h2 : Ints w b ps) (h3 : Ints w a' []) (h4 : Ints w b' ps2) :
    Calls Try.prog 20 #[.agg #[.int .i64 2, .int .i64 24, .int .i64 wd, .int .i64 hi, .slice a 0 c, .slice b m cc], .agg #[.int .i64 2, .int .i64 24, .int .i64 wd, .int .i64 hi, .slice a' 0 c', .slice b' m2 cc']] w fun e w' => e = .returned (.bool false) ∧ Below w.heap.size w w' := by
  obtain ⟨W0, hW0⟩ : ∃ W0, W0 = (w.alloc (.cells #[.int .i64 2, .int .i64 24, .int .i64 wd, .int .i64 hi, .slice a 0 c, .slice b m cc] 26)).alloc (.cells #[.int .i64 2, .int .i64 24, .int .i64 wd, .int .i64 hi, .slice a' 0 c', .slice b' m2 cc'] 26) := ⟨_, rfl⟩
  have hB0 : Below w.heap.size w W0 := by rw [hW0]; exact ((Below.refl _ _).alloc (Nat.le_refl _) _).alloc (by simp) _
  have HC : Hid (∀ w', Ints w' a [] → Ints w' a' [] → Calls Try.prog 55 #[.slice a 0 c, .slice a' 0 c'] w' fun e w'' => e = .returned (.bool true) ∧ ∃ m, w'' = w'.drewN m) := fun w' g1 g2 => wiInts_same a c a' c' 0 [] w' g1 g2 rfl (by omega)
  have HP : Hid (∀ w', Ints w' b ps → Ints w' b' ps2 → Calls Try.prog 55 #[.slice b m cc, .slice b' m2 cc'] w' fun e w'' => e = .returned (.bool false) ∧ ∃ m, w'' = w'.drewN m) := fun w' g1 g2 => wiInts_diff b cc b' cc' m m2 ps ps2 w' g1 g2 hm hm2 (by omega) (by omega) hne
  have HI : Hid (∀ w', Below W0.heap.size W0 w' → Ints w' a [] ∧ Ints w' b ps ∧ Ints w' a' [] ∧ Ints w' b' ps2) := fun w' b => ⟨(h1.kept hB0).kept b, (h2.kept hB0).kept b, (h3.kept hB0).kept b, (h4.kept hB0).kept b⟩
  have b0 : W0.cell? ⟨w.heap.size, 0, none⟩ = some (.int .i64 2) ∧ W0.cell? ⟨w.heap.size, 1, none⟩ = some (.int .i64 24) ∧ W0.cell? ⟨w.heap.size, 2, none⟩ = some (.int .i64 wd) ∧ W0.cell? ⟨w.heap.size, 3, none⟩ = some (.int .i64 hi) ∧ W0.cell? ⟨w.heap.size, 4, none⟩ = some (.slice a 0 c) ∧ W0.cell? ⟨w.heap.size, 5, none⟩ = some (.slice b m cc) := by
    rw [hW0]; exact box_kept (box_new w _ _ _ _ _ _ _) ((Below.refl _ _).alloc (Nat.le_refl _) _) (by simp)
  have b1 : W0.cell? ⟨w.heap.size + 1, 0, none⟩ = some (.int .i64 2) ∧ W0.cell? ⟨w.heap.size + 1, 1, none⟩ = some (.int .i64 24) ∧ W0.cell? ⟨w.heap.size + 1, 2, none⟩ = some (.int .i64 wd) ∧ W0.cell? ⟨w.heap.size + 1, 3, none⟩ = some (.int .i64 hi) ∧ W0.cell? ⟨w.heap.size + 1, 4, none⟩ = some (.slice a' 0 c') ∧ W0.cell? ⟨w.heap.size + 1, 5, none⟩ = some (.slice b' m2 cc') := by
    rw [hW0]
    have := box_new (w.alloc (.cells #[.int .i64 2, .int .i64 24, .int .i64 wd, .int .i64 hi, .slice a 0 c, .slice b m cc] 26)) (.int .i64 2) (.int .i64 24) (.int .i64 wd) (.int .i64 hi) (.slice a' 0 c') (.slice b' m2 cc') 26
    rw [World.size_alloc] at this; exact this
  obtain ⟨p0, p1, p2, p3, p4, p5⟩ := b0
  obtain ⟨q0, q1, q2, q3, q4, q5⟩ := b1
  have HB : Hid (Below w.heap.size w W0) := hB0
  clear h1 h2 h3 h4 hm hm2 hB0
  go_enter Try.func20, Try.ntmps20
  go_upto_region 1 with fail
  rw [← hW0]
  clear hW0
  go_wp2_with fail
  refine (HC.out _ (HI.out _ (Below.refl _ _)).1 (HI.out _ (Below.refl _ _)).2.2.1).mono ?_
  rintro e w1 ⟨rfl, m1, hw1⟩
  subst hw1
  go_wp2_with fail
  refine (HP.out _ (HI.out _ (drewN_low _ _)).2.1 (HI.out _ (drewN_low _ _)).2.2.2).mono ?_
  rintro e w2 ⟨rfl, m2, hw2⟩
  subst hw2
  go_wp2_with fail
  go_ret
  exact ⟨rfl, HB.out.trans ((drewN_low _ _).mono HB.out.size)⟩

set_option maxHeartbeats 1000000 in
set_option maxRecDepth 20000 in
theorem wiRgb_wide (wd hi wd2 hi2 : Int) (m m2 : Nat) (ps ps2 : List Int) (hm : ps.length = m) (hm2 : ps2.length = m2) (hml : m ≤ 1048576) (hml2 : m2 ≤ 1048576) (hne : wd ≠ wd2) (a : Option Addr) (c : Nat) (b : Option Addr) (cc : Nat) (a' : Option Addr) (c' : Nat) (b' : Option Addr) (cc' : Nat) (w : World) (h1 : Ints w a []) (h2 : Ints w b ps) (h3 : Ints w a' []) (h4 : Ints w b' ps2) :
    Calls Try.prog 20 #[.agg #[.int .i64 2, .int .i64 24, .int .i64 wd, .int .i64 hi, .slice a 0 c, .slice b m cc], .agg #[.int .i64 2, .int .i64 24, .int .i64 wd2, .int .i64 hi2, .slice a' 0 c', .slice b' m2 cc']] w fun e w' => e = .returned (.bool false) ∧ Below w.heap.size w w' := by
  obtain ⟨W0, hW0⟩ : ∃ W0, W0 = (w.alloc (.cells #[.int .i64 2, .int .i64 24, .int .i64 wd, .int .i64 hi, .slice a 0 c, .slice b m cc] 26)).alloc (.cells #[.int .i64 2, .int .i64 24, .int .i64 wd2, .int .i64 hi2, .slice a' 0 c', .slice b' m2 cc'] 26) := ⟨_, rfl⟩
  have hB0 : Below w.heap.size w W0 := by rw [hW0]; exact ((Below.refl _ _).alloc (Nat.le_refl _) _).alloc (by simp) _
  have b0 : W0.cell? ⟨w.heap.size, 0, none⟩ = some (.int .i64 2) ∧ W0.cell? ⟨w.heap.size, 1, none⟩ = some (.int .i64 24) ∧ W0.cell? ⟨w.heap.size, 2, none⟩ = some (.int .i64 wd) ∧ W0.cell? ⟨w.heap.size, 3, none⟩ = some (.int .i64 hi) ∧ W0.cell? ⟨w.heap.size, 4, none⟩ = some (.slice a 0 c) ∧ W0.cell? ⟨w.heap.size, 5, none⟩ = some (.slice b m cc) := by
    rw [hW0]; exact box_kept (box_new w _ _ _ _ _ _ _) ((Below.refl _ _).alloc (Nat.le_refl _) _) (by simp)
  have b1 : W0.cell? ⟨w.heap.size + 1, 0, none⟩ = some (.int .i64 2) ∧ W0.cell? ⟨w.heap.size + 1, 1, none⟩ = some (.int .i64 24) ∧ W0.cell? ⟨w.heap.size + 1, 2, none⟩ = some (.int .i64 wd2) ∧ W0.cell? ⟨w.heap.size + 1, 3, none⟩ = some (.int .i64 hi2) ∧ W0.cell? ⟨w.heap.size + 1, 4, none⟩ = some (.slice a' 0 c') ∧ W0.cell? ⟨w.heap.size + 1, 5, none⟩ = some (.slice b' m2 cc') := by
    rw [hW0]
    have := box_new (w.alloc (.cells #[.int .i64 2, .int .i64 24, .int .i64 wd, .int .i64 hi, .slice a 0 c, .slice b m cc] 26)) (.int .i64 2) (.int .i64 24) (.int .i64 wd2) (.int .i64 hi2) (.slice a' 0 c') (.slice b' m2 cc') 26
    rw [World.size_alloc] at this; exact this
  obtain ⟨p0, p1, p2, p3, p4, p5⟩ := b0
  obtain ⟨q0, q1, q2, q3, q4, q5⟩ := b1
  have HB : Hid (Below w.heap.size w W0) := hB0
  clear h1 h2 h3 h4 hm hm2 hB0
  go_enter Try.func20, Try.ntmps20
  go_upto_region 1 with fail
  rw [← hW0]
  clear hW0
  have f1 : (wd == wd2) = false := by rw [beq_eq_false_iff_ne]; exact hne
  have f2 : decide (wd = wd2) = false := by simpa using hne
  clear hne
  go_wp2_with fail
  go_ret
  exact ⟨rfl, HB.out⟩

set_option maxHeartbeats 1000000 in
set_option maxRecDepth 20000 in
theorem wiRgb_high (wd hi hi2 : Int) (m m2 : Nat) (ps ps2 : List Int) (hm : ps.length = m) (hm2 : ps2.length = m2) (hml : m ≤ 1048576) (hml2 : m2 ≤ 1048576) (hne : hi ≠ hi2) (a : Option Addr) (c : Nat) (b : Option Addr) (cc : Nat) (a' : Option Addr) (c' : Nat) (b' : Option Addr) (cc' : Nat) (w : World) (h1 : Ints w a []) (h2 : Ints w b ps) (h3 : Ints w a' []) (h4 : Ints w b' ps2) :
    Calls Try.prog 20 #[.agg #[.int .i64 2, .int .i64 24, .int .i64 wd, .int .i64 hi, .slice a 0 c, .slice b m cc], .agg #[.int .i64 2, .int .i64 24, .int .i64 wd, .int .i64 hi2, .slice a' 0 c', .slice b' m2 cc']] w fun e w' => e = .returned (.bool false) ∧ Below w.heap.size w w' := by
  obtain ⟨W0, hW0⟩ : ∃ W0, W0 = (w.alloc (.cells #[.int .i64 2, .int .i64 24, .int .i64 wd, .int .i64 hi, .slice a 0 c, .slice b m cc] 26)).alloc (.cells #[.int .i64 2, .int .i64 24, .int .i64 wd, .int .i64 hi2, .slice a' 0 c', .slice b' m2 cc'] 26) := ⟨_, rfl⟩
  have hB0 : Below w.heap.size w W0 := by rw [hW0]; exact ((Below.refl _ _).alloc (Nat.le_refl _) _).alloc (by simp) _
  have b0 : W0.cell? ⟨w.heap.size, 0, none⟩ = some (.int .i64 2) ∧ W0.cell? ⟨w.heap.size, 1, none⟩ = some (.int .i64 24) ∧ W0.cell? ⟨w.heap.size, 2, none⟩ = some (.int .i64 wd) ∧ W0.cell? ⟨w.heap.size, 3, none⟩ = some (.int .i64 hi) ∧ W0.cell? ⟨w.heap.size, 4, none⟩ = some (.slice a 0 c) ∧ W0.cell? ⟨w.heap.size, 5, none⟩ = some (.slice b m cc) := by
    rw [hW0]; exact box_kept (box_new w _ _ _ _ _ _ _) ((Below.refl _ _).alloc (Nat.le_refl _) _) (by simp)
  have b1 : W0.cell? ⟨w.heap.size + 1, 0, none⟩ = some (.int .i64 2) ∧ W0.cell? ⟨w.heap.size + 1, 1, none⟩ = some (.int .i64 24) ∧ W0.cell? ⟨w.heap.size + 1, 2, none⟩ = some (.int .i64 wd) ∧ W0.cell? ⟨w.heap.size + 1, 3, none⟩ = some (.int .i64 hi2) ∧ W0.cell? ⟨w.heap.size + 1, 4, none⟩ = some (.slice a' 0 c') ∧ W0.cell? ⟨w.heap.size + 1, 5, none⟩ = some (.slice b' m2 cc') := by
    rw [hW0]
    have := box_new (w.alloc (.cells #[.int .i64 2, .int .i64 24, .int .i64 wd, .int .i64 hi, .slice a 0 c, .slice b m cc] 26)) (.int .i64 2) (.int .i64 24) (.int .i64 wd) (.int .i64 hi2) (.slice a' 0 c') (.slice b' m2 cc') 26
    rw [World.size_alloc] at this; exact this
  obtain ⟨p0, p1, p2, p3, p4, p5⟩ := b0
  obtain ⟨q0, q1, q2, q3, q4, q5⟩ := b1
  have HB : Hid (Below w.heap.size w W0) := hB0
  clear h1 h2 h3 h4 hm hm2 hB0
  go_enter Try.func20, Try.ntmps20
  go_upto_region 1 with fail
  rw [← hW0]
  clear hW0
  have f1 : (hi == hi2) = false := by rw [beq_eq_false_iff_ne]; exact hne
  have f2 : decide (hi = hi2) = false := by simpa using hne
  clear hne
  go_wp2_with fail
  go_ret
  exact ⟨rfl, HB.out⟩

end Go.Proofs.Ytjiogneidioknaa

/- What looks the same: the other way round, itself, upside down, made of red, green and blue. -/
namespace Go.Proofs.Ytjiogneidioknaa
open Go.RowKit

theorem like_sym (k d wd hi : Int) (cs ps : List Int) (k2 d2 wd2 hi2 : Int) (cs2 ps2 : List Int) : likeB k d wd hi cs ps k2 d2 wd2 hi2 cs2 ps2 = likeB k2 d2 wd2 hi2 cs2 ps2 k d wd hi cs ps := by
  unfold likeB
  rw [Bool.eq_iff_iff]
  simp only [Bool.and_eq_true, decide_eq_true_eq]
  constructor
  · rintro ⟨⟨⟨⟨h1, h2⟩, h3⟩, h4⟩, h5⟩; exact ⟨⟨⟨⟨h2, h1⟩, h3.symm⟩, h4.symm⟩, h5.symm⟩
  · rintro ⟨⟨⟨⟨h1, h2⟩, h3⟩, h4⟩, h5⟩; exact ⟨⟨⟨⟨h2, h1⟩, h3.symm⟩, h4.symm⟩, h5.symm⟩
theorem like_self (k d wd hi : Int) (cs ps : List Int) : likeB k d wd hi cs ps k d wd hi cs ps = Im.okB k d wd hi cs ps := by
  unfold likeB; cases Im.okB k d wd hi cs ps <;> simp
/-- what it is to look the same -/
theorem like_open {k d wd hi : Int} {cs ps : List Int} {k2 d2 wd2 hi2 : Int} {cs2 ps2 : List Int} (h : likeB k d wd hi cs ps k2 d2 wd2 hi2 cs2 ps2 = true) :
    ∃ Wd Hi D D2 : Nat, wd = (Wd : Int) ∧ hi = (Hi : Int) ∧ wd2 = (Wd : Int) ∧ hi2 = (Hi : Int) ∧ d = (D : Int) ∧ d2 = (D2 : Int) ∧ Im.okB k (D : Int) (Wd : Int) (Hi : Int) cs ps = true ∧ Im.okB k2 (D2 : Int) (Wd : Int) (Hi : Int) cs2 ps2 = true ∧ cols k D cs ps = cols k2 D2 cs2 ps2 ∧ ps.length = Wd * Hi ∧ ps2.length = Wd * Hi := by
  unfold likeB at h
  simp only [Bool.and_eq_true, decide_eq_true_eq] at h
  obtain ⟨⟨⟨⟨h1, h2⟩, rfl⟩, rfl⟩, h5⟩ := h
  obtain ⟨q1, q2, q3, _, q5, _⟩ := Im.okB_open h1
  obtain ⟨q7, _, _, _, q6, _⟩ := Im.okB_open h2
  obtain ⟨D, rfl, _⟩ := Im.dep_all q1
  obtain ⟨D2, rfl, _⟩ := Im.dep_all q7
  obtain ⟨Wd, rfl⟩ := Int.eq_ofNat_of_zero_le (show 0 ≤ wd by omega)
  obtain ⟨Hi, rfl⟩ := Int.eq_ofNat_of_zero_le (show 0 ≤ hi by omega)
  rw [Int.toNat_natCast, Int.toNat_natCast] at h5
  have em : ((Wd * Hi : Nat) : Int) = (Wd : Int) * (Hi : Int) := by simp
  exact ⟨Wd, Hi, D, D2, rfl, rfl, rfl, rfl, rfl, rfl, h1, h2, h5, by omega, by omega⟩
theorem cols_getD {k : Int} {D : Nat} {cs ps : List Int} {k2 : Int} {D2 : Nat} {cs2 ps2 : List Int} (h : cols k D cs ps = cols k2 D2 cs2 ps2) {j : Nat} (h1 : j < ps.length) (h2 : j < ps2.length) : colOf k D cs (ps.getD j 0) = colOf k2 D2 cs2 (ps2.getD j 0) := by
  have e := congrArg (fun l => l[j]?) h
  unfold cols at e
  simp only [List.getElem?_map, List.getElem?_eq_getElem h1, List.getElem?_eq_getElem h2] at e
  rw [List.getD_eq_getElem?_getD, List.getD_eq_getElem?_getD, List.getElem?_eq_getElem h1, List.getElem?_eq_getElem h2]
  simpa using e
theorem cols_flip {k : Int} {D Wd Hi : Nat} {cs ps : List Int} {k2 : Int} {D2 : Nat} {cs2 ps2 : List Int} (h : cols k D cs ps = cols k2 D2 cs2 ps2) (h1 : ps.length = Wd * Hi) (h2 : ps2.length = Wd * Hi) : cols k D cs (flipL Wd Hi ps) = cols k2 D2 cs2 (flipL Wd Hi ps2) := by
  unfold flipL upto cols
  rw [List.map_map, List.map_map]
  refine List.map_congr_left (fun j hj => ?_)
  rw [List.mem_range] at hj
  obtain ⟨x, y, hx, hy, rfl⟩ := split_at' hj
  have hi : (Hi - 1 - y) * Wd + x < Wd * Hi := spot_lt hx (by omega)
  simp only [Function.comp, ptF_at _ hx, flipF]
  exact cols_getD h (by omega) (by omega)
theorem like_flip {k : Int} {D Wd Hi : Nat} {cs ps : List Int} {k2 : Int} {D2 : Nat} {cs2 ps2 : List Int} (h1 : Im.okB k (D : Int) (Wd : Int) (Hi : Int) cs ps = true) (h2 : Im.okB k2 (D2 : Int) (Wd : Int) (Hi : Int) cs2 ps2 = true) (h : cols k D cs ps = cols k2 D2 cs2 ps2) (l1 : ps.length = Wd * Hi) (l2 : ps2.length = Wd * Hi) :
    likeB k (D : Int) (Wd : Int) (Hi : Int) cs (flipL Wd Hi ps) k2 (D2 : Int) (Wd : Int) (Hi : Int) cs2 (flipL Wd Hi ps2) = true := by
  rw [like_yes (ok_flip h1) (ok_flip h2), cols_flip h l1 l2]; simp
theorem rgb_like {k d wd hi : Int} {cs ps : List Int} {k2 d2 : Int} {cs2 ps2 : List Int} (h1 : rgB k d wd hi cs ps = true) (h2 : rgB k2 d2 wd hi cs2 ps2 = true) :
    likeB k d wd hi cs ps k2 d2 wd hi cs2 ps2 = decide (rgL k d wd hi cs ps = rgL k2 d2 wd hi cs2 ps2) := by
  unfold rgB at h1 h2
  rw [Bool.and_eq_true] at h1 h2
  have O1 := Im.okB_open h1.1
  have O2 := Im.okB_open h2.1
  obtain ⟨D, rfl, _⟩ := Im.dep_all O1.1
  obtain ⟨D2, rfl, _⟩ := Im.dep_all O2.1
  rw [Int.toNat_natCast] at h1 h2
  obtain ⟨_, e1, _⟩ := rg_yes h1.1 h1.2
  obtain ⟨_, e2, _⟩ := rg_yes h2.1 h2.2
  rw [like_yes h1.1 h2.1, e1, e2]
  have f1 := cols_bares (fun c hc => col_pos O1 hc) h1.2
  have f2 := cols_bares (fun c hc => col_pos O2 hc) h2.2
  rw [Bool.eq_iff_iff, decide_eq_true_eq, decide_eq_true_eq]
  constructor
  · intro e; rw [e]
  · intro e; rw [← f1, ← f2, e]
theorem rgb_unlike {k d wd hi : Int} {cs ps : List Int} {k2 d2 wd2 hi2 : Int} {cs2 ps2 : List Int} (h : wd ≠ wd2 ∨ hi ≠ hi2) : likeB k d wd hi cs ps k2 d2 wd2 hi2 cs2 ps2 = false := by
  rcases h with h | h
  · exact like_no (.inr (.inr (.inl h)))
  · exact like_no (.inr (.inr (.inr h)))

/-- two pictures of red, green and blue, held against each other: whether those that they were made of look the same -/
theorem wi_like {k d wd hi : Int} {cs ps : List Int} {k2 d2 wd2 hi2 : Int} {cs2 ps2 : List Int} (h1 : rgB k d wd hi cs ps = true) (h2 : rgB k2 d2 wd2 hi2 cs2 ps2 = true) (a : Option Addr) (c : Nat) (b : Option Addr) (cc : Nat) (a' : Option Addr) (c' : Nat) (b' : Option Addr) (cc' : Nat) (w : World) (g1 : Ints w a []) (g2 : Ints w b (rgL k d wd hi cs ps)) (g3 : Ints w a' []) (g4 : Ints w b' (rgL k2 d2 wd2 hi2 cs2 ps2)) :
    Calls Try.prog 20 #[.agg #[.int .i64 2, .int .i64 24, .int .i64 wd, .int .i64 hi, .slice a 0 c, .slice b (rgL k d wd hi cs ps).length cc], .agg #[.int .i64 2, .int .i64 24, .int .i64 wd2, .int .i64 hi2, .slice a' 0 c', .slice b' (rgL k2 d2 wd2 hi2 cs2 ps2).length cc']] w fun e w' => e = .returned (.bool (likeB k d wd hi cs ps k2 d2 wd2 hi2 cs2 ps2)) ∧ Below w.heap.size w w' := by
  have l1 := rgL_len k d wd hi cs ps
  have l2 := rgL_len k2 d2 wd2 hi2 cs2 ps2
  by_cases hw : wd = wd2
  · subst hw
    by_cases hh : hi = hi2
    · subst hh
      rw [rgb_like h1 h2]
      by_cases hp : rgL k d wd hi cs ps = rgL k2 d2 wd hi cs2 ps2
      · rw [decide_eq_true hp]
        rw [← hp] at g4 ⊢
        exact wiImage_same 2 24 wd hi 0 _ [] _ rfl rfl (by omega) l1 a c b cc a' c' b' cc' w g1 g2 g3 g4
      · rw [decide_eq_false hp]
        exact wiRgb_pix wd hi _ _ _ _ rfl rfl l1 l2 hp a c b cc a' c' b' cc' w g1 g2 g3 g4
    · rw [rgb_unlike (.inr hh)]
      exact wiRgb_high wd hi hi2 _ _ _ _ rfl rfl l1 l2 hh a c b cc a' c' b' cc' w g1 g2 g3 g4
  · rw [rgb_unlike (.inl hw)]
    exact wiRgb_wide wd hi wd2 hi2 _ _ _ _ rfl rfl l1 l2 hw a c b cc a' c' b' cc' w g1 g2 g3 g4
end Go.Proofs.Ytjiogneidioknaa

/- Two pictures, drawn of a code, for ImageLike. -/
namespace Go.Proofs.Ytjiogneidioknaa
open Go.RowKit

/-- a picture whose lists lie in blocks from lo on -/
def PicAt (w : World) (lo : Nat) (v : Value) : Prop := ∃ (k d wd hi : Int) (a : Option Addr) (n c : Nat) (cs : List Int) (b : Option Addr) (m cc : Nat) (ps : List Int),
  v = .agg #[.int .i64 k, .int .i64 d, .int .i64 wd, .int .i64 hi, .slice a n c, .slice b m cc] ∧ IntsFrom w lo a cs ∧ cs.length = n ∧ n ≤ 1000 ∧ IntsFrom w lo b ps ∧ ps.length = m ∧ m ≤ 1000
theorem IntsFrom.up {w w' : World} {lo : Nat} {a : Option Addr} {l : List Int} (h : IntsFrom w lo a l) (b : Below w.heap.size w w') : IntsFrom w' lo a l := by
  rcases h with e | ⟨g, off, rfl, h1, h2, h3⟩
  · exact .inl e
  · exact .inr ⟨g, off, rfl, h1, Nat.lt_of_lt_of_le h2 b.size, fun i hi => (b.cell (p := ⟨g, off + i, none⟩) h2).trans (h3 i hi)⟩
theorem IntsFrom.down {w : World} {lo lo' : Nat} {a : Option Addr} {l : List Int} (h : IntsFrom w lo a l) (hl : lo' ≤ lo) : IntsFrom w lo' a l := by
  rcases h with e | ⟨g, off, rfl, h1, h2⟩
  · exact .inl e
  · exact .inr ⟨g, off, rfl, by omega, h2⟩
theorem Owns.from {w : World} {lo : Nat} {a : Option Addr} {l : List Int} (h : Owns w lo a l) : IntsFrom w lo a l := by
  rcases h with e | ⟨g, rfl, h1, h2, h3⟩
  · exact .inl e
  · exact .inr ⟨g, 0, rfl, h1, h2, fun i hi => by rw [Nat.zero_add]; exact (h3 i hi).1⟩
theorem PicAt.kept {w w' : World} {lo : Nat} {v : Value} (h : PicAt w lo v) (b : Below w.heap.size w w') : PicAt w' lo v := by
  obtain ⟨k, d, wd, hi, a, n, c, cs, b', m, cc, ps, rfl, h1, h2, h3, h4, h5⟩ := h
  exact ⟨k, d, wd, hi, a, n, c, cs, b', m, cc, ps, rfl, h1.up b, h2, h3, h4.up b, h5⟩
theorem PicAt.lower {w : World} {lo lo' : Nat} {v : Value} (h : PicAt w lo v) (hl : lo' ≤ lo) : PicAt w lo' v := by
  obtain ⟨k, d, wd, hi, a, n, c, cs, b', m, cc, ps, rfl, h1, h2, h3, h4, h5⟩ := h
  exact ⟨k, d, wd, hi, a, n, c, cs, b', m, cc, ps, rfl, h1.down hl, h2, h3, h4.down hl, h5⟩
theorem PicAt.row {w : World} {lo M : Nat} {v : Value} (h : PicAt w lo v) (hM : M < lo) (r : Array Value) : PicAt (w.setRow M r) lo v := by
  obtain ⟨k, d, wd, hi, a, n, c, cs, b', m, cc, ps, rfl, h1, h2, h3, h4, h5⟩ := h
  exact ⟨k, d, wd, hi, a, n, c, cs, b', m, cc, ps, rfl, h1.row hM _, h2, h3, h4.row hM _, h5⟩
theorem PicAt.only {w w' : World} {lo B : Nat} {v : Value} (h : PicAt w lo v) (ho : Only B w w') (hB : B < lo) : PicAt w' lo v := by
  obtain ⟨k, d, wd, hi, a, n, c, cs, b', m, cc, ps, rfl, h1, h2, h3, h4, h5⟩ := h
  exact ⟨k, d, wd, hi, a, n, c, cs, b', m, cc, ps, rfl, h1.only ho hB, h2, h3, h4.only ho hB, h5⟩
theorem PicAt.none (w : World) (lo : Nat) : PicAt w lo (.agg #[.int .i64 0, .int .i64 0, .int .i64 0, .int .i64 0, .slice none 0 0, .slice none 0 0]) := ⟨0, 0, 0, 0, Option.none, 0, 0, [], Option.none, 0, 0, [], rfl, .inl rfl, rfl, by omega, .inl rfl, rfl, by omega⟩

theorem rgbQ (k d wd hi : Int) (a : Option Addr) (n c : Nat) (b : Option Addr) (m cc : Nat) (cs ps : List Int) (w : World) (hc : Ints w a cs) (hcn : cs.length = n) (hcl : n ≤ 1000) (hp : Ints w b ps) (hpn : ps.length = m) (hpl : m ≤ 1000) :
    Calls Try.prog 24 #[.agg #[.int .i64 k, .int .i64 d, .int .i64 wd, .int .i64 hi, .slice a n c, .slice b m cc]] w fun e w' => (∃ q r, e = .returned (.tuple #[q, .bool r]) ∧ PicAt w' w.heap.size q) ∧ Below w.heap.size w w' := by
  rcases hok : Im.okB k d wd hi cs ps with _ | _
  · refine (spec_rgb_no k d wd hi a n c b m cc w (fun w'' b' => by have := spec_imageOk k d wd hi a n c b m cc w'' cs ps (hc.kept b') hcn (by omega) (hp.kept b') hpn; rw [hok] at this; exact this)).mono ?_
    rintro e w'' ⟨rfl, b'⟩
    exact ⟨⟨_, _, rfl, PicAt.none _ _⟩, b'⟩
  · obtain ⟨hd, hw, hh, _, hm, _⟩ := Im.okB_open hok
    obtain ⟨Wd, rfl⟩ := Int.eq_ofNat_of_zero_le (show 0 ≤ wd by omega)
    obtain ⟨Hi, rfl⟩ := Int.eq_ofNat_of_zero_le (show 0 ≤ hi by omega)
    obtain ⟨D, rfl, _, _⟩ := Im.dep_all hd
    have e : ((Wd * Hi : Nat) : Int) = (Wd : Int) * (Hi : Int) := by simp
    refine (spec_rgb_own k D Wd Hi a n c b m cc cs ps w (Im.okB_open hok) hc hcn hp hpn (by omega) (by omega) (by omega) (fun w'' b' => by have := spec_imageOk k D Wd Hi a n c b m cc w'' cs ps (hc.kept b') hcn (by omega) (hp.kept b') hpn; rw [hok] at this; exact this)).mono ?_
    rintro e w'' ⟨⟨_, y, cy, rfl, hy⟩ | ⟨_, rfl⟩, b'⟩
    · exact ⟨⟨_, _, rfl, _, _, _, _, _, _, _, [], _, _, _, _, rfl, .inl rfl, rfl, by omega, hy.from, by rw [bares_len, cols_len, hpn], hpl⟩, b'⟩
    · exact ⟨⟨_, _, rfl, PicAt.none _ _⟩, b'⟩

theorem palQ (k d wd hi : Int) (a : Option Addr) (n c : Nat) (b : Option Addr) (m cc : Nat) (cs ps : List Int) (w : World) (hc : Ints w a cs) (hcn : cs.length = n) (hcl : n ≤ 1000) (hp : Ints w b ps) (hpn : ps.length = m) (hpl : m ≤ 1000) :
    Calls Try.prog 7 #[.agg #[.int .i64 k, .int .i64 d, .int .i64 wd, .int .i64 hi, .slice a n c, .slice b m cc]] w fun e w' => (∃ q r, e = .returned (.tuple #[q, .bool r]) ∧ PicAt w' w.heap.size q) ∧ Below w.heap.size w w' := by
  have hR : ∀ w', Below w.heap.size w w' → _ := fun w' b' => spec_rgb k d wd hi a n c b m cc cs ps w' (hc.kept b') hcn (by omega) (hp.kept b') hpn (by omega)
  rcases hB : rgB k d wd hi cs ps with _ | _
  · have hrK : ∀ v, rgK k d wd hi cs ps v = 0 := fun v => by unfold rgK; rw [hB]; rfl
    have hrL : rgL k d wd hi cs ps = [] := by unfold rgL; rw [hB]; rfl
    refine (spec_pal_no k d wd hi a n c b m cc w (fun w' b' => ?_)).mono ?_
    · refine (hR w' b').mono ?_
      rintro e w'' ⟨⟨x, cx, y, cy, rfl, _, _⟩, b''⟩
      refine ⟨⟨x, cx, y, cy, ?_⟩, b''⟩
      rw [hB, hrK, hrK, hrK, hrK, hrL]; rfl
    · rintro e w'' ⟨rfl, b'⟩
      exact ⟨⟨_, _, rfl, PicAt.none _ _⟩, b'⟩
  · have hrK : ∀ v, rgK k d wd hi cs ps v = v := fun v => by unfold rgK; rw [hB]; rfl
    have hl := rg_len hB
    have hpl2 := palList_len (rgL k d wd hi cs ps)
    refine (spec_pal_own k d wd hi a n c b m cc (rgL k d wd hi cs ps).length (rgL k d wd hi cs ps) w rfl hl (fun w' b' => ?_)).mono ?_
    · refine (hR w' b').mono ?_
      rintro e w'' ⟨⟨x, cx, y, cy, rfl, _, hy⟩, b''⟩
      refine ⟨⟨x, cx, y, cy, ?_, hy⟩, b''⟩
      rw [hB, hrK, hrK, hrK, hrK]
    · rintro e w'' ⟨⟨_, x, cx, y, cy, rfl, hx, hy⟩ | ⟨_, rfl⟩, b'⟩
      · exact ⟨⟨_, _, rfl, _, _, _, _, _, _, _, _, _, _, _, _, rfl, hx.from, rfl, by omega, hy.from, palPix_len _, by omega⟩, b'⟩
      · exact ⟨⟨_, _, rfl, PicAt.none _ _⟩, b'⟩

theorem flipQ (k d wd hi : Int) (a : Option Addr) (n c : Nat) (b : Option Addr) (m cc : Nat) (cs ps : List Int) (w : World) (hc : Ints w a cs) (hcn : cs.length = n) (hcl : n ≤ 1000) (hp : Ints w b ps) (hpn : ps.length = m) (hpl : m ≤ 1000) (hpc : m ≤ cc) :
    Calls Try.prog 40 #[.agg #[.int .i64 k, .int .i64 d, .int .i64 wd, .int .i64 hi, .slice a n c, .slice b m cc]] w fun e w' => (∃ q, e = .returned q ∧ PicAt w' w.heap.size q) ∧ Below w.heap.size w w' := by
  rcases hok : Im.okB k d wd hi cs ps with _ | _
  · refine (specFlip_bad k d wd hi a n c b m cc cs ps w hc hcn hcl hp hpn hok).mono ?_
    rintro e w'' ⟨rfl, b'⟩
    exact ⟨⟨_, rfl, PicAt.none _ _⟩, b'⟩
  · obtain ⟨hd, hw, hh, _, hm, _⟩ := Im.okB_open hok
    obtain ⟨Wd, rfl⟩ := Int.eq_ofNat_of_zero_le (show 0 ≤ wd by omega)
    obtain ⟨Hi, rfl⟩ := Int.eq_ofNat_of_zero_le (show 0 ≤ hi by omega)
    have e : ((Wd * Hi : Nat) : Int) = (Wd : Int) * (Hi : Int) := by simp
    have hmm : m = Wd * Hi := by omega
    have hO := spec_imageOk k d Wd Hi a n c b m cc ((w.alloc (.cells #[.int .i64 k, .int .i64 d, .int .i64 (Wd : Int), .int .i64 (Hi : Int), .slice a n c, .slice b m cc] 26)).alloc (.cells #[.int .i64 0, .int .i64 0, .int .i64 0, .int .i64 0, .slice none 0 0, .slice none 0 0] 26)) cs ps (hc.kept (below_two _ _ _)) hcn (by omega) (hp.kept (below_two _ _ _)) hpn
    rw [hok] at hO
    refine (spec_flip_own k d Wd Hi a n c b m cc cs ps w hc hcn (by omega) hp hpn (by omega) (by omega) hmm hpc (by omega) hO).mono ?_
    rintro e w' ⟨⟨x, cx, y, cy, rfl, h1, h2⟩, b'⟩
    exact ⟨⟨_, rfl, _, _, _, _, _, _, _, _, _, _, _, _, rfl, h1.from, hcn, hcl, h2.from, upto_length _ _, by omega⟩, b'⟩

theorem copyQ (k d wd hi : Int) (a : Option Addr) (n c : Nat) (b : Option Addr) (m cc : Nat) (cs ps : List Int) (w : World) (hc : Ints w a cs) (hcn : cs.length = n) (hcl : n ≤ 1000) (hp : Ints w b ps) (hpn : ps.length = m) (hpl : m ≤ 1000) :
    Calls Try.prog 41 #[.agg #[.int .i64 k, .int .i64 d, .int .i64 wd, .int .i64 hi, .slice a n c, .slice b m cc]] w fun e w' => (∃ q, e = .returned q ∧ PicAt w' w.heap.size q) ∧ Below w.heap.size w w' := by
  refine (l14Copy_any k d wd hi a n c b m cc cs ps w hc hcn (by omega) hp hpn (by omega)).mono ?_
  rintro e w' ⟨⟨x, cx, y, cy, rfl, hT⟩, b'⟩
  refine ⟨⟨_, rfl, _, _, _, _, _, _, _, cs, _, _, _, ps, rfl, ?_, hcn, hcl, ?_, hpn, hpl⟩, b'⟩
  · obtain ⟨wm, h1, h2, h3, h4, h5⟩ := hT
    exact (OwnI.from (h1.same h5)).down (by omega)
  · obtain ⟨wm, h1, h2, h3, h4, h5⟩ := hT
    exact (OwnI.from h2).down (by omega)

theorem imageQ (B p : Nat) (w : World) (hr : RdAt w B p) (hp : p ≤ 100000) :
    Calls Try.prog 39 #[.pointer (some ⟨B, 0, none⟩)] w fun e w' => (∃ q, e = .returned q ∧ PicAt w' w.heap.size q) ∧ Only B w w' := by
  refine (l14Image_any B p w hr hp).mono ?_
  rintro e w' ⟨⟨k, d, wd, hi, a, n, c, cs, b, m, cc, ps, rfl, h1, h2, hm, a1, a2, a3, a4, a5, _⟩, _, ho⟩
  have hmul : wd * hi ≤ 20 * 20 := Nat.mul_le_mul a2 a4
  exact ⟨⟨_, rfl, _, _, _, _, _, _, _, cs, _, _, _, ps, rfl, h1.from, h1.len, by omega, h2.from, h2.len, by omega⟩, ho⟩

set_option linter.unusedSimpArgs false in
set_option maxHeartbeats 4000000 in
set_option maxRecDepth 20000 in
theorem drawImageLike_any (ra : Option Addr) (len cap : Nat) (w : World) (h : Code8 w ra len cap) :
    Calls Try.prog 13 #[.slice ra len cap] w fun e w' => (∃ p q, e = .returned (.tuple #[p, q]) ∧ PicAt w' (w.heap.size + 3) p ∧ PicAt w' (w.heap.size + 3) q) ∧ Below w.heap.size w w' := by
  obtain ⟨W0, hW0⟩ : ∃ W0, W0 = (w.alloc (.cells #[.int .i64 0, .int .i64 0, .int .i64 0, .int .i64 0, .slice none 0 0, .slice none 0 0] 26)).alloc (.cells #[.int .i64 0, .int .i64 0, .int .i64 0, .int .i64 0, .slice none 0 0, .slice none 0 0] 26) := ⟨_, rfl⟩
  have hs0 : W0.heap.size = w.heap.size + 2 := by rw [hW0]; simp
  have hB0 : Below w.heap.size w W0 := by rw [hW0]; exact below_two _ _ _
  have HZ0 : Hid (W0.heap[w.heap.size]? = some (.cells #[.int .i64 0, .int .i64 0, .int .i64 0, .int .i64 0, .slice none 0 0, .slice none 0 0] 26 (0, 0)) ∧ W0.heap[w.heap.size + 1]? = some (.cells #[.int .i64 0, .int .i64 0, .int .i64 0, .int .i64 0, .slice none 0 0, .slice none 0 0] 26 (0, 0))) := by
    rw [hW0]; exact ⟨(Below.heap_alloc _ _ _ (by simp)).trans (heap_alloc_new _ _), heap_alloc2_new _ _ _⟩
  have HOP : Hid (Calls Try.prog 36 #[.slice ra len cap] W0 fun e w' => e = .returned (.pointer (some ⟨W0.heap.size, 0, none⟩)) ∧ RdAt w' W0.heap.size 0 ∧ Below W0.heap.size W0 w') := open_any ra len cap W0 (h.kept hB0)
  have HB0 : Hid (Below w.heap.size w W0) := hB0
  have HS0 : Hid (W0.heap.size = w.heap.size + 2) := hs0
  clear h hB0 hs0
  go_enter Try.func13, Try.ntmps13
  go_upto_region 1 with fail
  rw [← hW0]
  clear hW0
  go_wp2_with fail
  refine HOP.out.mono ?_
  rintro e w1 ⟨rfl, hR, b1⟩
  have HAN : Hid (Calls Try.prog 37 #[.pointer (some ⟨W0.heap.size, 0, none⟩)] w1 fun e w' => AnyOut w1.heap.size e w' ∧ (∃ q, q ≤ 0 + 6000 ∧ RdAt w' W0.heap.size q) ∧ Only W0.heap.size w1 w') := l14Any_any W0.heap.size 0 w1 hR (by omega)
  have hBr : W0.heap.size < w1.heap.size := hR.lt
  have HR1 : Hid (w1.heap[w.heap.size]? = some (.cells #[.int .i64 0, .int .i64 0, .int .i64 0, .int .i64 0, .slice none 0 0, .slice none 0 0] 26 (0, 0)) ∧ w1.heap[w.heap.size + 1]? = some (.cells #[.int .i64 0, .int .i64 0, .int .i64 0, .int .i64 0, .slice none 0 0, .slice none 0 0] 26 (0, 0)) ∧ Below w.heap.size w w1) := ⟨(b1.block _ (lt_of_block HZ0.out.1)).trans HZ0.out.1, (b1.block _ (lt_of_block HZ0.out.2)).trans HZ0.out.2, HB0.out.trans (b1.mono (by have := HS0.out; omega))⟩
  clear HOP hR b1 HZ0 HB0
  go_wp2_with fail
  refine HAN.out.mono ?_
  rintro e w2 ⟨⟨k, d, wd, hi, a, n, c, cs, b, m, cc, ps, rfl, i4, l4, l4', k4, i5, l5, l5', k5, bd⟩, ⟨q0, hq0, hR2⟩, hO2⟩
  have hB2 : W0.heap.size < w2.heap.size := hR2.lt
  have HR2 : Hid (w2.heap[w.heap.size]? = some (.cells #[.int .i64 0, .int .i64 0, .int .i64 0, .int .i64 0, .slice none 0 0, .slice none 0 0] 26 (0, 0)) ∧ w2.heap[w.heap.size + 1]? = some (.cells #[.int .i64 0, .int .i64 0, .int .i64 0, .int .i64 0, .slice none 0 0, .slice none 0 0] 26 (0, 0)) ∧ Below w.heap.size w w2) := ⟨(hO2.rest _ (lt_of_block HR1.out.1) (by have := HS0.out; omega)).trans HR1.out.1, (hO2.rest _ (lt_of_block HR1.out.2.1) (by have := HS0.out; omega)).trans HR1.out.2.1, HR1.out.2.2.trans (hO2.below.mono (by have := HS0.out; omega))⟩
  obtain ⟨w3, hw3⟩ : ∃ w3, w3 = w2.alloc (.cells #[.int .i64 k, .int .i64 d, .int .i64 wd, .int .i64 hi, .slice a n c, .slice b m cc] 26) := ⟨_, rfl⟩
  have b3 : Below w2.heap.size w2 w3 := by rw [hw3]; exact (Below.refl _ _).alloc (Nat.le_refl _) _
  have HPK : Hid (Calls Try.prog 38 #[.pointer (some ⟨W0.heap.size, 0, none⟩), .int .i64 5] w3 fun e w' => ∃ v : Nat, e = .returned (.int .i64 (v : Int)) ∧ (v : Int) < 5 ∧ RdAt w' W0.heap.size (q0 + 1) ∧ Only W0.heap.size w3 w' ∧ w'.heap.size = w3.heap.size) := pick_named W0.heap.size q0 5 w3 (hR2.kept (b3.mono (by omega))) (by omega) (by omega) (by omega)
  have rM3 : w3.heap[w2.heap.size]? = some (.cells #[.int .i64 k, .int .i64 d, .int .i64 wd, .int .i64 hi, .slice a n c, .slice b m cc] 26 (0, 0)) := by rw [hw3]; exact heap_alloc_new _ _
  have HX3 : Hid (w3.heap[w.heap.size]? = some (.cells #[.int .i64 0, .int .i64 0, .int .i64 0, .int .i64 0, .slice none 0 0, .slice none 0 0] 26 (0, 0)) ∧ w3.heap[w.heap.size + 1]? = some (.cells #[.int .i64 0, .int .i64 0, .int .i64 0, .int .i64 0, .slice none 0 0, .slice none 0 0] 26 (0, 0)) ∧ Below w.heap.size w w3 ∧ w3.heap[w2.heap.size]? = some (.cells #[.int .i64 k, .int .i64 d, .int .i64 wd, .int .i64 hi, .slice a n c, .slice b m cc] 26 (0, 0)) ∧ IntsFrom w3 w1.heap.size a cs ∧ IntsFrom w3 w1.heap.size b ps) := ⟨(b3.block _ (lt_of_block HR2.out.1)).trans HR2.out.1, (b3.block _ (lt_of_block HR2.out.2.1)).trans HR2.out.2.1, HR2.out.2.2.trans (b3.mono HR2.out.2.2.size), rM3, i4.up b3, i5.up b3⟩
  have HLN : Hid (cs.length = n ∧ n ≤ 1000 ∧ ps.length = m ∧ m ≤ 1000 ∧ m ≤ cc ∧ q0 ≤ 6000) := ⟨l4, l4', l5, l5', k5, by omega⟩
  clear HAN i4 i5 l4 l4' k4 l5 l5' k5 bd hR2 hO2 HR1 HR2 b3 rM3 hq0
  go_wp2_with fail
  rw [← hw3]
  clear hw3
  refine HPK.out.mono ?_
  rintro e w4 ⟨v, rfl, hv, hR4, hO4, _⟩
  have HD : Hid (w4.heap[w.heap.size]? = some (.cells #[.int .i64 0, .int .i64 0, .int .i64 0, .int .i64 0, .slice none 0 0, .slice none 0 0] 26 (0, 0)) ∧ w4.heap[w.heap.size + 1]? = some (.cells #[.int .i64 0, .int .i64 0, .int .i64 0, .int .i64 0, .slice none 0 0, .slice none 0 0] 26 (0, 0)) ∧ w4.heap[w2.heap.size]? = some (.cells #[.int .i64 k, .int .i64 d, .int .i64 wd, .int .i64 hi, .slice a n c, .slice b m cc] 26 (0, 0)) ∧ PicAt w4 (w.heap.size + 3) (.agg #[.int .i64 k, .int .i64 d, .int .i64 wd, .int .i64 hi, .slice a n c, .slice b m cc]) ∧ Below w.heap.size w w4 ∧ w.heap.size + 2 < w2.heap.size ∧ w2.heap.size < w4.heap.size) := by
    have hS := HS0.out
    obtain ⟨x1, x2, x3, x4, x5, x6⟩ := HX3.out
    have e4 := (hO4.rest _ (lt_of_block x4) (by omega)).trans x4
    exact ⟨(hO4.rest _ (lt_of_block x1) (by omega)).trans x1, (hO4.rest _ (lt_of_block x2) (by omega)).trans x2, e4, ⟨_, _, _, _, _, _, _, cs, _, _, _, ps, rfl, (x5.only hO4 (by omega)).down (by omega), HLN.out.1, HLN.out.2.1, (x6.only hO4 (by omega)).down (by omega), HLN.out.2.2.1, HLN.out.2.2.2.1⟩, x3.trans (hO4.below.mono (by omega)), by omega, lt_of_block e4⟩
  have HI : Hid (Ints w4 a cs ∧ Ints w4 b ps) := ⟨(HX3.out.2.2.2.2.1.only hO4 (by omega)).ints, (HX3.out.2.2.2.2.2.only hO4 (by omega)).ints⟩
  have HIM : Hid (Calls Try.prog 39 #[.pointer (some ⟨W0.heap.size, 0, none⟩)] w4.drew fun e w' => (∃ q, e = .returned q ∧ PicAt w' w4.heap.size q) ∧ Only W0.heap.size w4.drew w') := imageQ W0.heap.size (q0 + 1) w4.drew hR4.drew (by have := HLN.out.2.2.2.2.2; omega)
  have HRG : Hid (∀ w' : World, Ints w' a cs → Ints w' b ps → Calls Try.prog 24 #[.agg #[.int .i64 k, .int .i64 d, .int .i64 wd, .int .i64 hi, .slice a n c, .slice b m cc]] w' fun e w'' => (∃ q r, e = .returned (.tuple #[q, .bool r]) ∧ PicAt w'' w'.heap.size q) ∧ Below w'.heap.size w' w'') := fun w' g1 g2 => rgbQ k d wd hi a n c b m cc cs ps w' g1 HLN.out.1 HLN.out.2.1 g2 HLN.out.2.2.1 HLN.out.2.2.2.1
  have HPL : Hid (∀ w' : World, Ints w' a cs → Ints w' b ps → Calls Try.prog 7 #[.agg #[.int .i64 k, .int .i64 d, .int .i64 wd, .int .i64 hi, .slice a n c, .slice b m cc]] w' fun e w'' => (∃ q r, e = .returned (.tuple #[q, .bool r]) ∧ PicAt w'' w'.heap.size q) ∧ Below w'.heap.size w' w'') := fun w' g1 g2 => palQ k d wd hi a n c b m cc cs ps w' g1 HLN.out.1 HLN.out.2.1 g2 HLN.out.2.2.1 HLN.out.2.2.2.1
  have HFL : Hid (∀ w' : World, Ints w' a cs → Ints w' b ps → Calls Try.prog 40 #[.agg #[.int .i64 k, .int .i64 d, .int .i64 wd, .int .i64 hi, .slice a n c, .slice b m cc]] w' fun e w'' => (∃ q, e = .returned q ∧ PicAt w'' w'.heap.size q) ∧ Below w'.heap.size w' w'') := fun w' g1 g2 => flipQ k d wd hi a n c b m cc cs ps w' g1 HLN.out.1 HLN.out.2.1 g2 HLN.out.2.2.1 HLN.out.2.2.2.1 HLN.out.2.2.2.2.1
  have HCP : Hid (∀ w' : World, Ints w' a cs → Ints w' b ps → Calls Try.prog 41 #[.agg #[.int .i64 k, .int .i64 d, .int .i64 wd, .int .i64 hi, .slice a n c, .slice b m cc]] w' fun e w'' => (∃ q, e = .returned q ∧ PicAt w'' w'.heap.size q) ∧ Below w'.heap.size w' w'') := fun w' g1 g2 => copyQ k d wd hi a n c b m cc cs ps w' g1 HLN.out.1 HLN.out.2.1 g2 HLN.out.2.2.1 HLN.out.2.2.2.1
  have hBl : W0.heap.size = w.heap.size + 2 := HS0.out
  have HBM : Hid (W0.heap.size = w.heap.size + 2 ∧ W0.heap.size < w2.heap.size) := ⟨HS0.out, hB2⟩
  clear HPK HX3 hR4 hO4 HS0 hBr hB2 HLN hBl
  generalize w2.heap.size = MB at *
  generalize W0.heap.size = B at *
  obtain ⟨⟨z0, z1, z2, z3, z4, z5⟩, _⟩ := box6 HD.out.2.2.1
  have hv5 : v = 0 ∨ v = 1 ∨ v = 2 ∨ v = 3 ∨ v = 4 := by omega
  rcases hv5 with rfl | rfl | rfl | rfl | rfl
  · clear HRG HPL HFL HCP hv HI
    go_wp2_with fail
    refine wp_region_held_drew (S := fun w' => w'.cell? ⟨MB, 0, none⟩ = some (.int .i64 k) ∧ w'.cell? ⟨MB, 1, none⟩ = some (.int .i64 d) ∧ w'.cell? ⟨MB, 2, none⟩ = some (.int .i64 wd) ∧ w'.cell? ⟨MB, 3, none⟩ = some (.int .i64 hi) ∧ w'.cell? ⟨MB, 4, none⟩ = some (.slice a n c) ∧ w'.cell? ⟨MB, 5, none⟩ = some (.slice b m cc)) (by kernel_rfl) ⟨z0, z1, z2, z3, z4, z5⟩ (fun hHeld => ?_)
    refine wpAnyH_take (i := 0) (v := .agg #[.int .i64 k, .int .i64 d, .int .i64 wd, .int .i64 hi, .slice a n c, .slice b m cc]) rfl (by kernel_rfl) (by kernel_rfl) (by kernel_rfl) (fun _ _ _ h => h) (Or.inl ⟨by rfl, ?_⟩) hHeld ?_
    · intro w' hSw
      obtain ⟨s0, s1, s2, s3, s4, s5⟩ := hSw
      go_simp
    try simp only [List.getElem_toArray, List.getElem_cons_succ, List.getElem_cons_zero, Act.put, List.setIfInBounds_toArray, List.set_cons_zero, List.set_cons_succ]
    refine wpAnyH_take (i := 1) (v := .pointer (some ⟨B, 0, none⟩)) rfl (by kernel_rfl) (by kernel_rfl) (by kernel_rfl) (fun _ _ _ h => h) (Or.inl ⟨by rfl, ?_⟩) hHeld ?_
    · intro w' hSw
      obtain ⟨s0, s1, s2, s3, s4, s5⟩ := hSw
      go_simp
    try simp only [List.getElem_toArray, List.getElem_cons_succ, List.getElem_cons_zero, Act.put, List.setIfInBounds_toArray, List.set_cons_zero, List.set_cons_succ]
    refine wpAnyH_ready (rs := [2]) (by kernel_rfl) (by simp) ?_
    refine AllReadyH.cons rfl (fun K hK => ?_) AllReadyH.nil
    go_simp
    refine (HIM.out).mono ?_
    rintro e w6 ⟨⟨q, rfl, k2, d2, wd2, hi2, a2, n2, c2, cs2, b2, m2, cc2, ps2, rfl, qf⟩, o6'⟩
    have o6 : Only B w4 w6 := ⟨⟨o6'.below.os, o6'.below.tape, o6'.below.output, o6'.below.size, o6'.below.block⟩, o6'.rest⟩
    clear o6'
    have r2 : w6.heap[w.heap.size]? = some (.cells #[.int .i64 0, .int .i64 0, .int .i64 0, .int .i64 0, .slice none 0 0, .slice none 0 0] 26 (0, 0)) := (o6.rest _ (lt_of_block HD.out.1) (by obtain ⟨hb1, hb2⟩ := HBM.out; omega)).trans HD.out.1
    have r3 : w6.heap[w.heap.size + 1]? = some (.cells #[.int .i64 0, .int .i64 0, .int .i64 0, .int .i64 0, .slice none 0 0, .slice none 0 0] 26 (0, 0)) := (o6.rest _ (lt_of_block HD.out.2.1) (by obtain ⟨hb1, hb2⟩ := HBM.out; omega)).trans HD.out.2.1
    have rM : w6.heap[MB]? = some (.cells #[.int .i64 k, .int .i64 d, .int .i64 wd, .int .i64 hi, .slice a n c, .slice b m cc] 26 (0, 0)) := (o6.rest _ (lt_of_block HD.out.2.2.1) (by obtain ⟨hb1, hb2⟩ := HBM.out; omega)).trans HD.out.2.2.1
    have HL : Hid (PicAt w6 (w.heap.size + 3) (.agg #[.int .i64 k, .int .i64 d, .int .i64 wd, .int .i64 hi, .slice a n c, .slice b m cc]) ∧ PicAt w6 (w.heap.size + 3) (.agg #[.int .i64 k2, .int .i64 d2, .int .i64 wd2, .int .i64 hi2, .slice a2 n2 c2, .slice b2 m2 cc2]) ∧ Below w.heap.size w w6) := ⟨(HD.out.2.2.2.1.only o6 (by obtain ⟨hb1, hb2⟩ := HBM.out; omega)), PicAt.lower (lo := w4.heap.size) ⟨_, _, _, _, _, _, _, _, _, _, _, _, rfl, qf⟩ (by have := HD.out.2.2.2.2.2; omega), HD.out.2.2.2.2.1.trans (o6.below.mono (by obtain ⟨hb1, hb2⟩ := HBM.out; omega))⟩
    have hMQ : w.heap.size + 1 < MB := by have := HD.out.2.2.2.2.2; omega
    clear o6 qf HD
    obtain ⟨⟨g0, g1, g2, g3, g4, g5⟩, _⟩ := box6 rM
    refine hK.out _ _ ⟨g0, g1, g2, g3, g4, g5⟩ (fun hHeld => ?_)
    clear hK K g0 g1 g2 g3 g4 g5
    try simp only [List.getElem_toArray, List.getElem_cons_succ, List.getElem_cons_zero, Act.put, List.setIfInBounds_toArray, List.set_cons_zero, List.set_cons_succ]
    obtain ⟨⟨p0, p1, p2, p3, p4, p5⟩, o0, o1, o2, o3, o4, o5⟩ := box6 r2
    refine wpAnyH_ready (rs := [3]) (by kernel_rfl) (by simp) ?_
    refine AllReadyH.cons rfl (fun K hK => ?_) AllReadyH.nil
    go_simp
    rw [six_row r2]
    obtain ⟨V1, hV1⟩ : ∃ V1, V1 = w6.setRow w.heap.size #[.int .i64 k, .int .i64 d, .int .i64 wd, .int .i64 hi, .slice a n c, .slice b m cc] := ⟨_, rfl⟩
    rw [← hV1]
    have t2 : V1.heap[w.heap.size]? = some (.cells #[.int .i64 k, .int .i64 d, .int .i64 wd, .int .i64 hi, .slice a n c, .slice b m cc] 26 (0, 0)) := by rw [hV1]; exact setRow_heap _ _ _ _ _ _ r2
    have t3 : V1.heap[w.heap.size + 1]? = some (.cells #[.int .i64 0, .int .i64 0, .int .i64 0, .int .i64 0, .slice none 0 0, .slice none 0 0] 26 (0, 0)) := by rw [hV1]; exact (setRow_other _ _ _ _ (by omega)).trans r3
    have tM : V1.heap[MB]? = some (.cells #[.int .i64 k, .int .i64 d, .int .i64 wd, .int .i64 hi, .slice a n c, .slice b m cc] 26 (0, 0)) := by rw [hV1]; exact (setRow_other _ _ _ _ (by omega)).trans rM
    obtain ⟨⟨g0, g1, g2, g3, g4, g5⟩, _⟩ := box6 tM
    have HL1 : Hid (PicAt V1 (w.heap.size + 3) (.agg #[.int .i64 k, .int .i64 d, .int .i64 wd, .int .i64 hi, .slice a n c, .slice b m cc]) ∧ PicAt V1 (w.heap.size + 3) (.agg #[.int .i64 k2, .int .i64 d2, .int .i64 wd2, .int .i64 hi2, .slice a2 n2 c2, .slice b2 m2 cc2]) ∧ Below w.heap.size w V1) := by rw [hV1]; exact ⟨HL.out.1.row (by omega) _, HL.out.2.1.row (by omega) _, HL.out.2.2.trans ((below_setRow _ _ _).mono (Nat.le_refl _))⟩
    clear hV1 p0 p1 p2 p3 p4 p5 o0 o1 o2 o3 o4 o5 r2 r3 rM  HL
    refine hK.out _ _ ⟨g0, g1, g2, g3, g4, g5⟩ (fun hHeld => ?_)
    clear hK K
    try simp only [List.getElem_toArray, List.getElem_cons_succ, List.getElem_cons_zero, Act.put, List.setIfInBounds_toArray, List.set_cons_zero, List.set_cons_succ]
    obtain ⟨⟨p0, p1, p2, p3, p4, p5⟩, o0, o1, o2, o3, o4, o5⟩ := box6 t3
    refine wpAnyH_ready (rs := [4]) (by kernel_rfl) (by simp) ?_
    refine AllReadyH.cons rfl (fun K hK => ?_) AllReadyH.nil
    go_simp
    rw [six_row t3]
    obtain ⟨V2, hV2⟩ : ∃ V2, V2 = V1.setRow (w.heap.size + 1) #[.int .i64 k2, .int .i64 d2, .int .i64 wd2, .int .i64 hi2, .slice a2 n2 c2, .slice b2 m2 cc2] := ⟨_, rfl⟩
    rw [← hV2]
    have y2 : V2.heap[w.heap.size]? = some (.cells #[.int .i64 k, .int .i64 d, .int .i64 wd, .int .i64 hi, .slice a n c, .slice b m cc] 26 (0, 0)) := by rw [hV2]; exact (setRow_other _ _ _ _ (by omega)).trans t2
    have y3 : V2.heap[w.heap.size + 1]? = some (.cells #[.int .i64 k2, .int .i64 d2, .int .i64 wd2, .int .i64 hi2, .slice a2 n2 c2, .slice b2 m2 cc2] 26 (0, 0)) := by rw [hV2]; exact setRow_heap _ _ _ _ _ _ t3
    have yM : V2.heap[MB]? = some (.cells #[.int .i64 k, .int .i64 d, .int .i64 wd, .int .i64 hi, .slice a n c, .slice b m cc] 26 (0, 0)) := by rw [hV2]; exact (setRow_other _ _ _ _ (by omega)).trans tM
    obtain ⟨⟨h0, h1, h2, h3, h4, h5⟩, _⟩ := box6 yM
    have HL2 : Hid (PicAt V2 (w.heap.size + 3) (.agg #[.int .i64 k, .int .i64 d, .int .i64 wd, .int .i64 hi, .slice a n c, .slice b m cc]) ∧ PicAt V2 (w.heap.size + 3) (.agg #[.int .i64 k2, .int .i64 d2, .int .i64 wd2, .int .i64 hi2, .slice a2 n2 c2, .slice b2 m2 cc2]) ∧ Below w.heap.size w V2) := by rw [hV2]; exact ⟨HL1.out.1.row (by omega) _, HL1.out.2.1.row (by omega) _, HL1.out.2.2.trans ((below_setRow _ _ _).mono (by omega))⟩
    clear hV2 p0 p1 p2 p3 p4 p5 o0 o1 o2 o3 o4 o5 t2 t3 tM  HL1
    refine hK.out _ _ ⟨h0, h1, h2, h3, h4, h5⟩ (fun hHeld => ?_)
    clear hK K
    refine wpAnyH_done (by kernel_rfl) ?_ _
    try simp only [List.getElem_toArray, List.getElem_cons_succ, List.getElem_cons_zero, Act.put, List.setIfInBounds_toArray, List.set_cons_zero, List.set_cons_succ]
    obtain ⟨⟨p0, p1, p2, p3, p4, p5⟩, _⟩ := box6 y2
    obtain ⟨⟨o0, o1, o2, o3, o4, o5⟩, _⟩ := box6 y3
    clear hHeld
    go_wp2_with fail
    refine bodyPost_ret (v := .tuple #[.agg #[.int .i64 k, .int .i64 d, .int .i64 wd, .int .i64 hi, .slice a n c, .slice b m cc], .agg #[.int .i64 k2, .int .i64 d2, .int .i64 wd2, .int .i64 hi2, .slice a2 n2 c2, .slice b2 m2 cc2]]) (by simp [results, Try.results13, go_sem, p0, p1, p2, p3, p4, p5, o0, o1, o2, o3, o4, o5]) rfl ⟨⟨_, _, rfl, HL2.out.1, HL2.out.2.1⟩, HL2.out.2.2⟩
  · clear HIM HFL HPL hv HBM
    go_wp2_with fail
    refine (HRG.out _ HI.out.1 HI.out.2).mono ?_
    rintro e w5 ⟨⟨q, r, rfl, k2, d2, wd2, hi2, a2, n2, c2, cs2, b2, m2, cc2, ps2, rfl, qf⟩, b5⟩
    obtain ⟨w6, hw6⟩ : ∃ w6, w6 = w5.alloc (.cells #[.int .i64 k2, .int .i64 d2, .int .i64 wd2, .int .i64 hi2, .slice a2 n2 c2, .slice b2 m2 cc2] 26) := ⟨_, rfl⟩
    have b56 : Below w5.heap.size w5 w6 := by rw [hw6]; exact (Below.refl _ _).alloc (Nat.le_refl _) _
    have b6 : Below w4.heap.size w4 w6 := b5.trans (b56.mono b5.size)
    have rQ : w6.heap[w5.heap.size]? = some (.cells #[.int .i64 k2, .int .i64 d2, .int .i64 wd2, .int .i64 hi2, .slice a2 n2 c2, .slice b2 m2 cc2] 26 (0, 0)) := by rw [hw6]; exact heap_alloc_new _ _
    have r2 : w6.heap[w.heap.size]? = some (.cells #[.int .i64 0, .int .i64 0, .int .i64 0, .int .i64 0, .slice none 0 0, .slice none 0 0] 26 (0, 0)) := (b6.block _ (lt_of_block HD.out.1)).trans HD.out.1
    have r3 : w6.heap[w.heap.size + 1]? = some (.cells #[.int .i64 0, .int .i64 0, .int .i64 0, .int .i64 0, .slice none 0 0, .slice none 0 0] 26 (0, 0)) := (b6.block _ (lt_of_block HD.out.2.1)).trans HD.out.2.1
    have rM : w6.heap[MB]? = some (.cells #[.int .i64 k, .int .i64 d, .int .i64 wd, .int .i64 hi, .slice a n c, .slice b m cc] 26 (0, 0)) := (b6.block _ (lt_of_block HD.out.2.2.1)).trans HD.out.2.2.1
    have PM : PicAt w6 (w.heap.size + 3) (.agg #[.int .i64 k, .int .i64 d, .int .i64 wd, .int .i64 hi, .slice a n c, .slice b m cc]) := HD.out.2.2.2.1.kept b6
    have PQ : PicAt w6 (w.heap.size + 3) (.agg #[.int .i64 k2, .int .i64 d2, .int .i64 wd2, .int .i64 hi2, .slice a2 n2 c2, .slice b2 m2 cc2]) := (PicAt.lower ⟨_, _, _, _, _, _, _, _, _, _, _, _, rfl, qf⟩ (by have := HD.out.2.2.2.2.2; omega)).kept b56
    have bl6 : Below w.heap.size w w6 := HD.out.2.2.2.2.1.trans (b6.mono HD.out.2.2.2.2.1.size)
    have hQB : w.heap.size + 1 < w5.heap.size := by have := HD.out.2.2.2.2.2; have := b5.size; omega
    have hMQ : w.heap.size + 1 < MB := by have := HD.out.2.2.2.2.2; omega
    have HI6 : Hid (Ints w6 a cs ∧ Ints w6 b ps) := ⟨HI.out.1.kept b6, HI.out.2.kept b6⟩
    clear qf b5 b56 b6
    cases r with
    | true =>
      have HL : Hid (PicAt w6 (w.heap.size + 3) (.agg #[.int .i64 k, .int .i64 d, .int .i64 wd, .int .i64 hi, .slice a n c, .slice b m cc]) ∧ PicAt w6 (w.heap.size + 3) (.agg #[.int .i64 k2, .int .i64 d2, .int .i64 wd2, .int .i64 hi2, .slice a2 n2 c2, .slice b2 m2 cc2]) ∧ Below w.heap.size w w6) := ⟨PM, PQ, bl6⟩
      clear PM PQ bl6 HD HI
      go_wp2_with fail
      rw [← hw6]
      clear hw6
      obtain ⟨⟨z0, z1, z2, z3, z4, z5⟩, _⟩ := box6 rM
      obtain ⟨⟨zq0, zq1, zq2, zq3, zq4, zq5⟩, _⟩ := box6 rQ
      refine wp_region_held_drew (S := fun w' => w'.cell? ⟨MB, 0, none⟩ = some (.int .i64 k) ∧ w'.cell? ⟨MB, 1, none⟩ = some (.int .i64 d) ∧ w'.cell? ⟨MB, 2, none⟩ = some (.int .i64 wd) ∧ w'.cell? ⟨MB, 3, none⟩ = some (.int .i64 hi) ∧ w'.cell? ⟨MB, 4, none⟩ = some (.slice a n c) ∧ w'.cell? ⟨MB, 5, none⟩ = some (.slice b m cc) ∧ w'.cell? ⟨w5.heap.size, 0, none⟩ = some (.int .i64 k2) ∧ w'.cell? ⟨w5.heap.size, 1, none⟩ = some (.int .i64 d2) ∧ w'.cell? ⟨w5.heap.size, 2, none⟩ = some (.int .i64 wd2) ∧ w'.cell? ⟨w5.heap.size, 3, none⟩ = some (.int .i64 hi2) ∧ w'.cell? ⟨w5.heap.size, 4, none⟩ = some (.slice a2 n2 c2) ∧ w'.cell? ⟨w5.heap.size, 5, none⟩ = some (.slice b2 m2 cc2)) (by kernel_rfl) ⟨z0, z1, z2, z3, z4, z5, zq0, zq1, zq2, zq3, zq4, zq5⟩ (fun hHeld => ?_)
      refine wpAnyH_take (i := 0) (v := .agg #[.int .i64 k, .int .i64 d, .int .i64 wd, .int .i64 hi, .slice a n c, .slice b m cc]) rfl (by kernel_rfl) (by kernel_rfl) (by kernel_rfl) (fun _ _ _ h => h) (Or.inl ⟨by rfl, ?_⟩) hHeld ?_
      · intro w' hSw
        obtain ⟨s0, s1, s2, s3, s4, s5, sq0, sq1, sq2, sq3, sq4, sq5⟩ := hSw
        go_simp
      try simp only [List.getElem_toArray, List.getElem_cons_succ, List.getElem_cons_zero, Act.put, List.setIfInBounds_toArray, List.set_cons_zero, List.set_cons_succ]
      refine wpAnyH_take (i := 1) (v := .agg #[.int .i64 k2, .int .i64 d2, .int .i64 wd2, .int .i64 hi2, .slice a2 n2 c2, .slice b2 m2 cc2]) rfl (by kernel_rfl) (by kernel_rfl) (by kernel_rfl) (fun _ _ _ h => h) (Or.inl ⟨by rfl, ?_⟩) hHeld ?_
      · intro w' hSw
        obtain ⟨s0, s1, s2, s3, s4, s5, sq0, sq1, sq2, sq3, sq4, sq5⟩ := hSw
        go_simp
      try simp only [List.getElem_toArray, List.getElem_cons_succ, List.getElem_cons_zero, Act.put, List.setIfInBounds_toArray, List.set_cons_zero, List.set_cons_succ]
      obtain ⟨⟨p0, p1, p2, p3, p4, p5⟩, o0, o1, o2, o3, o4, o5⟩ := box6 r2
      refine wpAnyH_ready (rs := [2]) (by kernel_rfl) (by simp) ?_
      refine AllReadyH.cons rfl (fun K hK => ?_) AllReadyH.nil
      go_simp
      rw [six_row r2]
      obtain ⟨V1, hV1⟩ : ∃ V1, V1 = w6.setRow w.heap.size #[.int .i64 k, .int .i64 d, .int .i64 wd, .int .i64 hi, .slice a n c, .slice b m cc] := ⟨_, rfl⟩
      rw [← hV1]
      have t2 : V1.heap[w.heap.size]? = some (.cells #[.int .i64 k, .int .i64 d, .int .i64 wd, .int .i64 hi, .slice a n c, .slice b m cc] 26 (0, 0)) := by rw [hV1]; exact setRow_heap _ _ _ _ _ _ r2
      have t3 : V1.heap[w.heap.size + 1]? = some (.cells #[.int .i64 0, .int .i64 0, .int .i64 0, .int .i64 0, .slice none 0 0, .slice none 0 0] 26 (0, 0)) := by rw [hV1]; exact (setRow_other _ _ _ _ (by omega)).trans r3
      have tM : V1.heap[MB]? = some (.cells #[.int .i64 k, .int .i64 d, .int .i64 wd, .int .i64 hi, .slice a n c, .slice b m cc] 26 (0, 0)) := by rw [hV1]; exact (setRow_other _ _ _ _ (by omega)).trans rM
      have tQ : V1.heap[w5.heap.size]? = some (.cells #[.int .i64 k2, .int .i64 d2, .int .i64 wd2, .int .i64 hi2, .slice a2 n2 c2, .slice b2 m2 cc2] 26 (0, 0)) := by rw [hV1]; exact (setRow_other _ _ _ _ (by omega)).trans rQ
      obtain ⟨⟨gq0, gq1, gq2, gq3, gq4, gq5⟩, _⟩ := box6 tQ
      obtain ⟨⟨g0, g1, g2, g3, g4, g5⟩, _⟩ := box6 tM
      have HL1 : Hid (PicAt V1 (w.heap.size + 3) (.agg #[.int .i64 k, .int .i64 d, .int .i64 wd, .int .i64 hi, .slice a n c, .slice b m cc]) ∧ PicAt V1 (w.heap.size + 3) (.agg #[.int .i64 k2, .int .i64 d2, .int .i64 wd2, .int .i64 hi2, .slice a2 n2 c2, .slice b2 m2 cc2]) ∧ Below w.heap.size w V1) := by rw [hV1]; exact ⟨HL.out.1.row (by omega) _, HL.out.2.1.row (by omega) _, HL.out.2.2.trans ((below_setRow _ _ _).mono (Nat.le_refl _))⟩
      clear hV1 p0 p1 p2 p3 p4 p5 o0 o1 o2 o3 o4 o5 r2 r3 rM rQ HL
      refine hK.out _ _ ⟨g0, g1, g2, g3, g4, g5, gq0, gq1, gq2, gq3, gq4, gq5⟩ (fun hHeld => ?_)
      clear hK K
      try simp only [List.getElem_toArray, List.getElem_cons_succ, List.getElem_cons_zero, Act.put, List.setIfInBounds_toArray, List.set_cons_zero, List.set_cons_succ]
      obtain ⟨⟨p0, p1, p2, p3, p4, p5⟩, o0, o1, o2, o3, o4, o5⟩ := box6 t3
      refine wpAnyH_ready (rs := [3]) (by kernel_rfl) (by simp) ?_
      refine AllReadyH.cons rfl (fun K hK => ?_) AllReadyH.nil
      go_simp
      rw [six_row t3]
      obtain ⟨V2, hV2⟩ : ∃ V2, V2 = V1.setRow (w.heap.size + 1) #[.int .i64 k2, .int .i64 d2, .int .i64 wd2, .int .i64 hi2, .slice a2 n2 c2, .slice b2 m2 cc2] := ⟨_, rfl⟩
      rw [← hV2]
      have y2 : V2.heap[w.heap.size]? = some (.cells #[.int .i64 k, .int .i64 d, .int .i64 wd, .int .i64 hi, .slice a n c, .slice b m cc] 26 (0, 0)) := by rw [hV2]; exact (setRow_other _ _ _ _ (by omega)).trans t2
      have y3 : V2.heap[w.heap.size + 1]? = some (.cells #[.int .i64 k2, .int .i64 d2, .int .i64 wd2, .int .i64 hi2, .slice a2 n2 c2, .slice b2 m2 cc2] 26 (0, 0)) := by rw [hV2]; exact setRow_heap _ _ _ _ _ _ t3
      have yM : V2.heap[MB]? = some (.cells #[.int .i64 k, .int .i64 d, .int .i64 wd, .int .i64 hi, .slice a n c, .slice b m cc] 26 (0, 0)) := by rw [hV2]; exact (setRow_other _ _ _ _ (by omega)).trans tM
      have yQ : V2.heap[w5.heap.size]? = some (.cells #[.int .i64 k2, .int .i64 d2, .int .i64 wd2, .int .i64 hi2, .slice a2 n2 c2, .slice b2 m2 cc2] 26 (0, 0)) := by rw [hV2]; exact (setRow_other _ _ _ _ (by omega)).trans tQ
      obtain ⟨⟨hq0, hq1, hq2, hq3, hq4, hq5⟩, _⟩ := box6 yQ
      obtain ⟨⟨h0, h1, h2, h3, h4, h5⟩, _⟩ := box6 yM
      have HL2 : Hid (PicAt V2 (w.heap.size + 3) (.agg #[.int .i64 k, .int .i64 d, .int .i64 wd, .int .i64 hi, .slice a n c, .slice b m cc]) ∧ PicAt V2 (w.heap.size + 3) (.agg #[.int .i64 k2, .int .i64 d2, .int .i64 wd2, .int .i64 hi2, .slice a2 n2 c2, .slice b2 m2 cc2]) ∧ Below w.heap.size w V2) := by rw [hV2]; exact ⟨HL1.out.1.row (by omega) _, HL1.out.2.1.row (by omega) _, HL1.out.2.2.trans ((below_setRow _ _ _).mono (by omega))⟩
      clear hV2 p0 p1 p2 p3 p4 p5 o0 o1 o2 o3 o4 o5 t2 t3 tM tQ HL1
      refine hK.out _ _ ⟨h0, h1, h2, h3, h4, h5, hq0, hq1, hq2, hq3, hq4, hq5⟩ (fun hHeld => ?_)
      clear hK K
      refine wpAnyH_done (by kernel_rfl) ?_ _
      try simp only [List.getElem_toArray, List.getElem_cons_succ, List.getElem_cons_zero, Act.put, List.setIfInBounds_toArray, List.set_cons_zero, List.set_cons_succ]
      obtain ⟨⟨p0, p1, p2, p3, p4, p5⟩, _⟩ := box6 y2
      obtain ⟨⟨o0, o1, o2, o3, o4, o5⟩, _⟩ := box6 y3
      clear hHeld
      go_wp2_with fail
      refine bodyPost_ret (v := .tuple #[.agg #[.int .i64 k, .int .i64 d, .int .i64 wd, .int .i64 hi, .slice a n c, .slice b m cc], .agg #[.int .i64 k2, .int .i64 d2, .int .i64 wd2, .int .i64 hi2, .slice a2 n2 c2, .slice b2 m2 cc2]]) (by simp [results, Try.results13, go_sem, p0, p1, p2, p3, p4, p5, o0, o1, o2, o3, o4, o5]) rfl ⟨⟨_, _, rfl, HL2.out.1, HL2.out.2.1⟩, HL2.out.2.2.drew⟩
    | false =>
      have HDn : Hid (w6.heap[w.heap.size]? = some (.cells #[.int .i64 0, .int .i64 0, .int .i64 0, .int .i64 0, .slice none 0 0, .slice none 0 0] 26 (0, 0)) ∧ w6.heap[w.heap.size + 1]? = some (.cells #[.int .i64 0, .int .i64 0, .int .i64 0, .int .i64 0, .slice none 0 0, .slice none 0 0] 26 (0, 0)) ∧ w6.heap[MB]? = some (.cells #[.int .i64 k, .int .i64 d, .int .i64 wd, .int .i64 hi, .slice a n c, .slice b m cc] 26 (0, 0)) ∧ PicAt w6 (w.heap.size + 3) (.agg #[.int .i64 k, .int .i64 d, .int .i64 wd, .int .i64 hi, .slice a n c, .slice b m cc]) ∧ Below w.heap.size w w6 ∧ w.heap.size + 2 < MB ∧ MB < w6.heap.size) := ⟨r2, r3, rM, PM, bl6, HD.out.2.2.2.2.2.1, lt_of_block rM⟩
      go_wp2_with fail
      rw [← hw6]
      clear hw6 HD HI PM PQ bl6 r2 r3 rM rQ
      generalize hw7 : w6 = w7 at *
      clear hw7
      have HD := HDn
      have HI := HI6
      obtain ⟨⟨z0, z1, z2, z3, z4, z5⟩, _⟩ := box6 HD.out.2.2.1
      clear HDn HI6
      refine wp_region_held_drew (S := fun w' => w'.cell? ⟨MB, 0, none⟩ = some (.int .i64 k) ∧ w'.cell? ⟨MB, 1, none⟩ = some (.int .i64 d) ∧ w'.cell? ⟨MB, 2, none⟩ = some (.int .i64 wd) ∧ w'.cell? ⟨MB, 3, none⟩ = some (.int .i64 hi) ∧ w'.cell? ⟨MB, 4, none⟩ = some (.slice a n c) ∧ w'.cell? ⟨MB, 5, none⟩ = some (.slice b m cc)) (by kernel_rfl) ⟨z0, z1, z2, z3, z4, z5⟩ (fun hHeld => ?_)
      refine wpAnyH_take (i := 0) (v := .agg #[.int .i64 k, .int .i64 d, .int .i64 wd, .int .i64 hi, .slice a n c, .slice b m cc]) rfl (by kernel_rfl) (by kernel_rfl) (by kernel_rfl) (fun _ _ _ h => h) (Or.inl ⟨by rfl, ?_⟩) hHeld ?_
      · intro w' hSw
        obtain ⟨s0, s1, s2, s3, s4, s5⟩ := hSw
        go_simp
      try simp only [List.getElem_toArray, List.getElem_cons_succ, List.getElem_cons_zero, Act.put, List.setIfInBounds_toArray, List.set_cons_zero, List.set_cons_succ]
      refine wpAnyH_take (i := 1) (v := .agg #[.int .i64 k, .int .i64 d, .int .i64 wd, .int .i64 hi, .slice a n c, .slice b m cc]) rfl (by kernel_rfl) (by kernel_rfl) (by kernel_rfl) (fun _ _ _ h => h) (Or.inl ⟨by rfl, ?_⟩) hHeld ?_
      · intro w' hSw
        obtain ⟨s0, s1, s2, s3, s4, s5⟩ := hSw
        go_simp
      try simp only [List.getElem_toArray, List.getElem_cons_succ, List.getElem_cons_zero, Act.put, List.setIfInBounds_toArray, List.set_cons_zero, List.set_cons_succ]
      refine wpAnyH_ready (rs := [2]) (by kernel_rfl) (by simp) ?_
      refine AllReadyH.cons rfl (fun K hK => ?_) AllReadyH.nil
      go_simp
      refine (HCP.out w7.drew (show Ints w7.drew _ _ from HI.out.1) (show Ints w7.drew _ _ from HI.out.2)).mono ?_
      rintro e w6 ⟨⟨q, rfl, k2, d2, wd2, hi2, a2, n2, c2, cs2, b2, m2, cc2, ps2, rfl, qf⟩, b6'⟩
      have b6 := box_drew b6'
      clear b6'
      have r2 : w6.heap[w.heap.size]? = some (.cells #[.int .i64 0, .int .i64 0, .int .i64 0, .int .i64 0, .slice none 0 0, .slice none 0 0] 26 (0, 0)) := (b6.block _ (lt_of_block HD.out.1)).trans HD.out.1
      have r3 : w6.heap[w.heap.size + 1]? = some (.cells #[.int .i64 0, .int .i64 0, .int .i64 0, .int .i64 0, .slice none 0 0, .slice none 0 0] 26 (0, 0)) := (b6.block _ (lt_of_block HD.out.2.1)).trans HD.out.2.1
      have rM : w6.heap[MB]? = some (.cells #[.int .i64 k, .int .i64 d, .int .i64 wd, .int .i64 hi, .slice a n c, .slice b m cc] 26 (0, 0)) := (b6.block _ (lt_of_block HD.out.2.2.1)).trans HD.out.2.2.1
      have HL : Hid (PicAt w6 (w.heap.size + 3) (.agg #[.int .i64 k, .int .i64 d, .int .i64 wd, .int .i64 hi, .slice a n c, .slice b m cc]) ∧ PicAt w6 (w.heap.size + 3) (.agg #[.int .i64 k2, .int .i64 d2, .int .i64 wd2, .int .i64 hi2, .slice a2 n2 c2, .slice b2 m2 cc2]) ∧ Below w.heap.size w w6) := ⟨HD.out.2.2.2.1.kept b6, PicAt.lower (lo := w7.heap.size) ⟨_, _, _, _, _, _, _, _, _, _, _, _, rfl, qf⟩ (by have := HD.out.2.2.2.2.2; have := b6.size; omega), HD.out.2.2.2.2.1.trans (b6.mono HD.out.2.2.2.2.1.size)⟩
      have hMQ : w.heap.size + 1 < MB := by have := HD.out.2.2.2.2.2; omega
      clear b6 qf HD
      obtain ⟨⟨g0, g1, g2, g3, g4, g5⟩, _⟩ := box6 rM
      refine hK.out _ _ ⟨g0, g1, g2, g3, g4, g5⟩ (fun hHeld => ?_)
      clear hK K g0 g1 g2 g3 g4 g5
      try simp only [List.getElem_toArray, List.getElem_cons_succ, List.getElem_cons_zero, Act.put, List.setIfInBounds_toArray, List.set_cons_zero, List.set_cons_succ]
      obtain ⟨⟨p0, p1, p2, p3, p4, p5⟩, o0, o1, o2, o3, o4, o5⟩ := box6 r2
      refine wpAnyH_ready (rs := [3]) (by kernel_rfl) (by simp) ?_
      refine AllReadyH.cons rfl (fun K hK => ?_) AllReadyH.nil
      go_simp
      rw [six_row r2]
      obtain ⟨V1, hV1⟩ : ∃ V1, V1 = w6.setRow w.heap.size #[.int .i64 k, .int .i64 d, .int .i64 wd, .int .i64 hi, .slice a n c, .slice b m cc] := ⟨_, rfl⟩
      rw [← hV1]
      have t2 : V1.heap[w.heap.size]? = some (.cells #[.int .i64 k, .int .i64 d, .int .i64 wd, .int .i64 hi, .slice a n c, .slice b m cc] 26 (0, 0)) := by rw [hV1]; exact setRow_heap _ _ _ _ _ _ r2
      have t3 : V1.heap[w.heap.size + 1]? = some (.cells #[.int .i64 0, .int .i64 0, .int .i64 0, .int .i64 0, .slice none 0 0, .slice none 0 0] 26 (0, 0)) := by rw [hV1]; exact (setRow_other _ _ _ _ (by omega)).trans r3
      have tM : V1.heap[MB]? = some (.cells #[.int .i64 k, .int .i64 d, .int .i64 wd, .int .i64 hi, .slice a n c, .slice b m cc] 26 (0, 0)) := by rw [hV1]; exact (setRow_other _ _ _ _ (by omega)).trans rM
      obtain ⟨⟨g0, g1, g2, g3, g4, g5⟩, _⟩ := box6 tM
      have HL1 : Hid (PicAt V1 (w.heap.size + 3) (.agg #[.int .i64 k, .int .i64 d, .int .i64 wd, .int .i64 hi, .slice a n c, .slice b m cc]) ∧ PicAt V1 (w.heap.size + 3) (.agg #[.int .i64 k2, .int .i64 d2, .int .i64 wd2, .int .i64 hi2, .slice a2 n2 c2, .slice b2 m2 cc2]) ∧ Below w.heap.size w V1) := by rw [hV1]; exact ⟨HL.out.1.row (by omega) _, HL.out.2.1.row (by omega) _, HL.out.2.2.trans ((below_setRow _ _ _).mono (Nat.le_refl _))⟩
      clear hV1 p0 p1 p2 p3 p4 p5 o0 o1 o2 o3 o4 o5 r2 r3 rM  HL
      refine hK.out _ _ ⟨g0, g1, g2, g3, g4, g5⟩ (fun hHeld => ?_)
      clear hK K
      try simp only [List.getElem_toArray, List.getElem_cons_succ, List.getElem_cons_zero, Act.put, List.setIfInBounds_toArray, List.set_cons_zero, List.set_cons_succ]
      obtain ⟨⟨p0, p1, p2, p3, p4, p5⟩, o0, o1, o2, o3, o4, o5⟩ := box6 t3
      refine wpAnyH_ready (rs := [4]) (by kernel_rfl) (by simp) ?_
      refine AllReadyH.cons rfl (fun K hK => ?_) AllReadyH.nil
      go_simp
      rw [six_row t3]
      obtain ⟨V2, hV2⟩ : ∃ V2, V2 = V1.setRow (w.heap.size + 1) #[.int .i64 k2, .int .i64 d2, .int .i64 wd2, .int .i64 hi2, .slice a2 n2 c2, .slice b2 m2 cc2] := ⟨_, rfl⟩
      rw [← hV2]
      have y2 : V2.heap[w.heap.size]? = some (.cells #[.int .i64 k, .int .i64 d, .int .i64 wd, .int .i64 hi, .slice a n c, .slice b m cc] 26 (0, 0)) := by rw [hV2]; exact (setRow_other _ _ _ _ (by omega)).trans t2
      have y3 : V2.heap[w.heap.size + 1]? = some (.cells #[.int .i64 k2, .int .i64 d2, .int .i64 wd2, .int .i64 hi2, .slice a2 n2 c2, .slice b2 m2 cc2] 26 (0, 0)) := by rw [hV2]; exact setRow_heap _ _ _ _ _ _ t3
      have yM : V2.heap[MB]? = some (.cells #[.int .i64 k, .int .i64 d, .int .i64 wd, .int .i64 hi, .slice a n c, .slice b m cc] 26 (0, 0)) := by rw [hV2]; exact (setRow_other _ _ _ _ (by omega)).trans tM
      obtain ⟨⟨h0, h1, h2, h3, h4, h5⟩, _⟩ := box6 yM
      have HL2 : Hid (PicAt V2 (w.heap.size + 3) (.agg #[.int .i64 k, .int .i64 d, .int .i64 wd, .int .i64 hi, .slice a n c, .slice b m cc]) ∧ PicAt V2 (w.heap.size + 3) (.agg #[.int .i64 k2, .int .i64 d2, .int .i64 wd2, .int .i64 hi2, .slice a2 n2 c2, .slice b2 m2 cc2]) ∧ Below w.heap.size w V2) := by rw [hV2]; exact ⟨HL1.out.1.row (by omega) _, HL1.out.2.1.row (by omega) _, HL1.out.2.2.trans ((below_setRow _ _ _).mono (by omega))⟩
      clear hV2 p0 p1 p2 p3 p4 p5 o0 o1 o2 o3 o4 o5 t2 t3 tM  HL1
      refine hK.out _ _ ⟨h0, h1, h2, h3, h4, h5⟩ (fun hHeld => ?_)
      clear hK K
      refine wpAnyH_done (by kernel_rfl) ?_ _
      try simp only [List.getElem_toArray, List.getElem_cons_succ, List.getElem_cons_zero, Act.put, List.setIfInBounds_toArray, List.set_cons_zero, List.set_cons_succ]
      obtain ⟨⟨p0, p1, p2, p3, p4, p5⟩, _⟩ := box6 y2
      obtain ⟨⟨o0, o1, o2, o3, o4, o5⟩, _⟩ := box6 y3
      clear hHeld
      go_wp2_with fail
      refine bodyPost_ret (v := .tuple #[.agg #[.int .i64 k, .int .i64 d, .int .i64 wd, .int .i64 hi, .slice a n c, .slice b m cc], .agg #[.int .i64 k2, .int .i64 d2, .int .i64 wd2, .int .i64 hi2, .slice a2 n2 c2, .slice b2 m2 cc2]]) (by simp [results, Try.results13, go_sem, p0, p1, p2, p3, p4, p5, o0, o1, o2, o3, o4, o5]) rfl ⟨⟨_, _, rfl, HL2.out.1, HL2.out.2.1⟩, HL2.out.2.2⟩
  · clear HIM HFL HRG hv HBM
    go_wp2_with fail
    refine (HPL.out _ HI.out.1 HI.out.2).mono ?_
    rintro e w5 ⟨⟨q, r, rfl, k2, d2, wd2, hi2, a2, n2, c2, cs2, b2, m2, cc2, ps2, rfl, qf⟩, b5⟩
    obtain ⟨w6, hw6⟩ : ∃ w6, w6 = w5.alloc (.cells #[.int .i64 k2, .int .i64 d2, .int .i64 wd2, .int .i64 hi2, .slice a2 n2 c2, .slice b2 m2 cc2] 26) := ⟨_, rfl⟩
    have b56 : Below w5.heap.size w5 w6 := by rw [hw6]; exact (Below.refl _ _).alloc (Nat.le_refl _) _
    have b6 : Below w4.heap.size w4 w6 := b5.trans (b56.mono b5.size)
    have rQ : w6.heap[w5.heap.size]? = some (.cells #[.int .i64 k2, .int .i64 d2, .int .i64 wd2, .int .i64 hi2, .slice a2 n2 c2, .slice b2 m2 cc2] 26 (0, 0)) := by rw [hw6]; exact heap_alloc_new _ _
    have r2 : w6.heap[w.heap.size]? = some (.cells #[.int .i64 0, .int .i64 0, .int .i64 0, .int .i64 0, .slice none 0 0, .slice none 0 0] 26 (0, 0)) := (b6.block _ (lt_of_block HD.out.1)).trans HD.out.1
    have r3 : w6.heap[w.heap.size + 1]? = some (.cells #[.int .i64 0, .int .i64 0, .int .i64 0, .int .i64 0, .slice none 0 0, .slice none 0 0] 26 (0, 0)) := (b6.block _ (lt_of_block HD.out.2.1)).trans HD.out.2.1
    have rM : w6.heap[MB]? = some (.cells #[.int .i64 k, .int .i64 d, .int .i64 wd, .int .i64 hi, .slice a n c, .slice b m cc] 26 (0, 0)) := (b6.block _ (lt_of_block HD.out.2.2.1)).trans HD.out.2.2.1
    have PM : PicAt w6 (w.heap.size + 3) (.agg #[.int .i64 k, .int .i64 d, .int .i64 wd, .int .i64 hi, .slice a n c, .slice b m cc]) := HD.out.2.2.2.1.kept b6
    have PQ : PicAt w6 (w.heap.size + 3) (.agg #[.int .i64 k2, .int .i64 d2, .int .i64 wd2, .int .i64 hi2, .slice a2 n2 c2, .slice b2 m2 cc2]) := (PicAt.lower ⟨_, _, _, _, _, _, _, _, _, _, _, _, rfl, qf⟩ (by have := HD.out.2.2.2.2.2; omega)).kept b56
    have bl6 : Below w.heap.size w w6 := HD.out.2.2.2.2.1.trans (b6.mono HD.out.2.2.2.2.1.size)
    have hQB : w.heap.size + 1 < w5.heap.size := by have := HD.out.2.2.2.2.2; have := b5.size; omega
    have hMQ : w.heap.size + 1 < MB := by have := HD.out.2.2.2.2.2; omega
    have HI6 : Hid (Ints w6 a cs ∧ Ints w6 b ps) := ⟨HI.out.1.kept b6, HI.out.2.kept b6⟩
    clear qf b5 b56 b6
    cases r with
    | true =>
      have HL : Hid (PicAt w6 (w.heap.size + 3) (.agg #[.int .i64 k2, .int .i64 d2, .int .i64 wd2, .int .i64 hi2, .slice a2 n2 c2, .slice b2 m2 cc2]) ∧ PicAt w6 (w.heap.size + 3) (.agg #[.int .i64 k, .int .i64 d, .int .i64 wd, .int .i64 hi, .slice a n c, .slice b m cc]) ∧ Below w.heap.size w w6) := ⟨PQ, PM, bl6⟩
      clear PM PQ bl6 HD HI
      go_wp2_with fail
      rw [← hw6]
      clear hw6
      obtain ⟨⟨z0, z1, z2, z3, z4, z5⟩, _⟩ := box6 rM
      obtain ⟨⟨zq0, zq1, zq2, zq3, zq4, zq5⟩, _⟩ := box6 rQ
      refine wp_region_held_drew (S := fun w' => w'.cell? ⟨MB, 0, none⟩ = some (.int .i64 k) ∧ w'.cell? ⟨MB, 1, none⟩ = some (.int .i64 d) ∧ w'.cell? ⟨MB, 2, none⟩ = some (.int .i64 wd) ∧ w'.cell? ⟨MB, 3, none⟩ = some (.int .i64 hi) ∧ w'.cell? ⟨MB, 4, none⟩ = some (.slice a n c) ∧ w'.cell? ⟨MB, 5, none⟩ = some (.slice b m cc) ∧ w'.cell? ⟨w5.heap.size, 0, none⟩ = some (.int .i64 k2) ∧ w'.cell? ⟨w5.heap.size, 1, none⟩ = some (.int .i64 d2) ∧ w'.cell? ⟨w5.heap.size, 2, none⟩ = some (.int .i64 wd2) ∧ w'.cell? ⟨w5.heap.size, 3, none⟩ = some (.int .i64 hi2) ∧ w'.cell? ⟨w5.heap.size, 4, none⟩ = some (.slice a2 n2 c2) ∧ w'.cell? ⟨w5.heap.size, 5, none⟩ = some (.slice b2 m2 cc2)) (by kernel_rfl) ⟨z0, z1, z2, z3, z4, z5, zq0, zq1, zq2, zq3, zq4, zq5⟩ (fun hHeld => ?_)
      refine wpAnyH_take (i := 0) (v := .agg #[.int .i64 k2, .int .i64 d2, .int .i64 wd2, .int .i64 hi2, .slice a2 n2 c2, .slice b2 m2 cc2]) rfl (by kernel_rfl) (by kernel_rfl) (by kernel_rfl) (fun _ _ _ h => h) (Or.inl ⟨by rfl, ?_⟩) hHeld ?_
      · intro w' hSw
        obtain ⟨s0, s1, s2, s3, s4, s5, sq0, sq1, sq2, sq3, sq4, sq5⟩ := hSw
        go_simp
      try simp only [List.getElem_toArray, List.getElem_cons_succ, List.getElem_cons_zero, Act.put, List.setIfInBounds_toArray, List.set_cons_zero, List.set_cons_succ]
      refine wpAnyH_take (i := 1) (v := .agg #[.int .i64 k, .int .i64 d, .int .i64 wd, .int .i64 hi, .slice a n c, .slice b m cc]) rfl (by kernel_rfl) (by kernel_rfl) (by kernel_rfl) (fun _ _ _ h => h) (Or.inl ⟨by rfl, ?_⟩) hHeld ?_
      · intro w' hSw
        obtain ⟨s0, s1, s2, s3, s4, s5, sq0, sq1, sq2, sq3, sq4, sq5⟩ := hSw
        go_simp
      try simp only [List.getElem_toArray, List.getElem_cons_succ, List.getElem_cons_zero, Act.put, List.setIfInBounds_toArray, List.set_cons_zero, List.set_cons_succ]
      obtain ⟨⟨p0, p1, p2, p3, p4, p5⟩, o0, o1, o2, o3, o4, o5⟩ := box6 r2
      refine wpAnyH_ready (rs := [2]) (by kernel_rfl) (by simp) ?_
      refine AllReadyH.cons rfl (fun K hK => ?_) AllReadyH.nil
      go_simp
      rw [six_row r2]
      obtain ⟨V1, hV1⟩ : ∃ V1, V1 = w6.setRow w.heap.size #[.int .i64 k2, .int .i64 d2, .int .i64 wd2, .int .i64 hi2, .slice a2 n2 c2, .slice b2 m2 cc2] := ⟨_, rfl⟩
      rw [← hV1]
      have t2 : V1.heap[w.heap.size]? = some (.cells #[.int .i64 k2, .int .i64 d2, .int .i64 wd2, .int .i64 hi2, .slice a2 n2 c2, .slice b2 m2 cc2] 26 (0, 0)) := by rw [hV1]; exact setRow_heap _ _ _ _ _ _ r2
      have t3 : V1.heap[w.heap.size + 1]? = some (.cells #[.int .i64 0, .int .i64 0, .int .i64 0, .int .i64 0, .slice none 0 0, .slice none 0 0] 26 (0, 0)) := by rw [hV1]; exact (setRow_other _ _ _ _ (by omega)).trans r3
      have tM : V1.heap[MB]? = some (.cells #[.int .i64 k, .int .i64 d, .int .i64 wd, .int .i64 hi, .slice a n c, .slice b m cc] 26 (0, 0)) := by rw [hV1]; exact (setRow_other _ _ _ _ (by omega)).trans rM
      have tQ : V1.heap[w5.heap.size]? = some (.cells #[.int .i64 k2, .int .i64 d2, .int .i64 wd2, .int .i64 hi2, .slice a2 n2 c2, .slice b2 m2 cc2] 26 (0, 0)) := by rw [hV1]; exact (setRow_other _ _ _ _ (by omega)).trans rQ
      obtain ⟨⟨gq0, gq1, gq2, gq3, gq4, gq5⟩, _⟩ := box6 tQ
      obtain ⟨⟨g0, g1, g2, g3, g4, g5⟩, _⟩ := box6 tM
      have HL1 : Hid (PicAt V1 (w.heap.size + 3) (.agg #[.int .i64 k2, .int .i64 d2, .int .i64 wd2, .int .i64 hi2, .slice a2 n2 c2, .slice b2 m2 cc2]) ∧ PicAt V1 (w.heap.size + 3) (.agg #[.int .i64 k, .int .i64 d, .int .i64 wd, .int .i64 hi, .slice a n c, .slice b m cc]) ∧ Below w.heap.size w V1) := by rw [hV1]; exact ⟨HL.out.1.row (by omega) _, HL.out.2.1.row (by omega) _, HL.out.2.2.trans ((below_setRow _ _ _).mono (Nat.le_refl _))⟩
      clear hV1 p0 p1 p2 p3 p4 p5 o0 o1 o2 o3 o4 o5 r2 r3 rM rQ HL
      refine hK.out _ _ ⟨g0, g1, g2, g3, g4, g5, gq0, gq1, gq2, gq3, gq4, gq5⟩ (fun hHeld => ?_)
      clear hK K
      try simp only [List.getElem_toArray, List.getElem_cons_succ, List.getElem_cons_zero, Act.put, List.setIfInBounds_toArray, List.set_cons_zero, List.set_cons_succ]
      obtain ⟨⟨p0, p1, p2, p3, p4, p5⟩, o0, o1, o2, o3, o4, o5⟩ := box6 t3
      refine wpAnyH_ready (rs := [3]) (by kernel_rfl) (by simp) ?_
      refine AllReadyH.cons rfl (fun K hK => ?_) AllReadyH.nil
      go_simp
      rw [six_row t3]
      obtain ⟨V2, hV2⟩ : ∃ V2, V2 = V1.setRow (w.heap.size + 1) #[.int .i64 k, .int .i64 d, .int .i64 wd, .int .i64 hi, .slice a n c, .slice b m cc] := ⟨_, rfl⟩
      rw [← hV2]
      have y2 : V2.heap[w.heap.size]? = some (.cells #[.int .i64 k2, .int .i64 d2, .int .i64 wd2, .int .i64 hi2, .slice a2 n2 c2, .slice b2 m2 cc2] 26 (0, 0)) := by rw [hV2]; exact (setRow_other _ _ _ _ (by omega)).trans t2
      have y3 : V2.heap[w.heap.size + 1]? = some (.cells #[.int .i64 k, .int .i64 d, .int .i64 wd, .int .i64 hi, .slice a n c, .slice b m cc] 26 (0, 0)) := by rw [hV2]; exact setRow_heap _ _ _ _ _ _ t3
      have yM : V2.heap[MB]? = some (.cells #[.int .i64 k, .int .i64 d, .int .i64 wd, .int .i64 hi, .slice a n c, .slice b m cc] 26 (0, 0)) := by rw [hV2]; exact (setRow_other _ _ _ _ (by omega)).trans tM
      have yQ : V2.heap[w5.heap.size]? = some (.cells #[.int .i64 k2, .int .i64 d2, .int .i64 wd2, .int .i64 hi2, .slice a2 n2 c2, .slice b2 m2 cc2] 26 (0, 0)) := by rw [hV2]; exact (setRow_other _ _ _ _ (by omega)).trans tQ
      obtain ⟨⟨hq0, hq1, hq2, hq3, hq4, hq5⟩, _⟩ := box6 yQ
      obtain ⟨⟨h0, h1, h2, h3, h4, h5⟩, _⟩ := box6 yM
      have HL2 : Hid (PicAt V2 (w.heap.size + 3) (.agg #[.int .i64 k2, .int .i64 d2, .int .i64 wd2, .int .i64 hi2, .slice a2 n2 c2, .slice b2 m2 cc2]) ∧ PicAt V2 (w.heap.size + 3) (.agg #[.int .i64 k, .int .i64 d, .int .i64 wd, .int .i64 hi, .slice a n c, .slice b m cc]) ∧ Below w.heap.size w V2) := by rw [hV2]; exact ⟨HL1.out.1.row (by omega) _, HL1.out.2.1.row (by omega) _, HL1.out.2.2.trans ((below_setRow _ _ _).mono (by omega))⟩
      clear hV2 p0 p1 p2 p3 p4 p5 o0 o1 o2 o3 o4 o5 t2 t3 tM tQ HL1
      refine hK.out _ _ ⟨h0, h1, h2, h3, h4, h5, hq0, hq1, hq2, hq3, hq4, hq5⟩ (fun hHeld => ?_)
      clear hK K
      refine wpAnyH_done (by kernel_rfl) ?_ _
      try simp only [List.getElem_toArray, List.getElem_cons_succ, List.getElem_cons_zero, Act.put, List.setIfInBounds_toArray, List.set_cons_zero, List.set_cons_succ]
      obtain ⟨⟨p0, p1, p2, p3, p4, p5⟩, _⟩ := box6 y2
      obtain ⟨⟨o0, o1, o2, o3, o4, o5⟩, _⟩ := box6 y3
      clear hHeld
      go_wp2_with fail
      refine bodyPost_ret (v := .tuple #[.agg #[.int .i64 k2, .int .i64 d2, .int .i64 wd2, .int .i64 hi2, .slice a2 n2 c2, .slice b2 m2 cc2], .agg #[.int .i64 k, .int .i64 d, .int .i64 wd, .int .i64 hi, .slice a n c, .slice b m cc]]) (by simp [results, Try.results13, go_sem, p0, p1, p2, p3, p4, p5, o0, o1, o2, o3, o4, o5]) rfl ⟨⟨_, _, rfl, HL2.out.1, HL2.out.2.1⟩, HL2.out.2.2.drew⟩
    | false =>
      have HDn : Hid (w6.heap[w.heap.size]? = some (.cells #[.int .i64 0, .int .i64 0, .int .i64 0, .int .i64 0, .slice none 0 0, .slice none 0 0] 26 (0, 0)) ∧ w6.heap[w.heap.size + 1]? = some (.cells #[.int .i64 0, .int .i64 0, .int .i64 0, .int .i64 0, .slice none 0 0, .slice none 0 0] 26 (0, 0)) ∧ w6.heap[MB]? = some (.cells #[.int .i64 k, .int .i64 d, .int .i64 wd, .int .i64 hi, .slice a n c, .slice b m cc] 26 (0, 0)) ∧ PicAt w6 (w.heap.size + 3) (.agg #[.int .i64 k, .int .i64 d, .int .i64 wd, .int .i64 hi, .slice a n c, .slice b m cc]) ∧ Below w.heap.size w w6 ∧ w.heap.size + 2 < MB ∧ MB < w6.heap.size) := ⟨r2, r3, rM, PM, bl6, HD.out.2.2.2.2.2.1, lt_of_block rM⟩
      go_wp2_with fail
      rw [← hw6]
      clear hw6 HD HI PM PQ bl6 r2 r3 rM rQ
      generalize hw7 : w6 = w7 at *
      clear hw7
      have HD := HDn
      have HI := HI6
      obtain ⟨⟨z0, z1, z2, z3, z4, z5⟩, _⟩ := box6 HD.out.2.2.1
      clear HDn HI6
      refine wp_region_held_drew (S := fun w' => w'.cell? ⟨MB, 0, none⟩ = some (.int .i64 k) ∧ w'.cell? ⟨MB, 1, none⟩ = some (.int .i64 d) ∧ w'.cell? ⟨MB, 2, none⟩ = some (.int .i64 wd) ∧ w'.cell? ⟨MB, 3, none⟩ = some (.int .i64 hi) ∧ w'.cell? ⟨MB, 4, none⟩ = some (.slice a n c) ∧ w'.cell? ⟨MB, 5, none⟩ = some (.slice b m cc)) (by kernel_rfl) ⟨z0, z1, z2, z3, z4, z5⟩ (fun hHeld => ?_)
      refine wpAnyH_take (i := 0) (v := .agg #[.int .i64 k, .int .i64 d, .int .i64 wd, .int .i64 hi, .slice a n c, .slice b m cc]) rfl (by kernel_rfl) (by kernel_rfl) (by kernel_rfl) (fun _ _ _ h => h) (Or.inl ⟨by rfl, ?_⟩) hHeld ?_
      · intro w' hSw
        obtain ⟨s0, s1, s2, s3, s4, s5⟩ := hSw
        go_simp
      try simp only [List.getElem_toArray, List.getElem_cons_succ, List.getElem_cons_zero, Act.put, List.setIfInBounds_toArray, List.set_cons_zero, List.set_cons_succ]
      refine wpAnyH_take (i := 1) (v := .agg #[.int .i64 k, .int .i64 d, .int .i64 wd, .int .i64 hi, .slice a n c, .slice b m cc]) rfl (by kernel_rfl) (by kernel_rfl) (by kernel_rfl) (fun _ _ _ h => h) (Or.inl ⟨by rfl, ?_⟩) hHeld ?_
      · intro w' hSw
        obtain ⟨s0, s1, s2, s3, s4, s5⟩ := hSw
        go_simp
      try simp only [List.getElem_toArray, List.getElem_cons_succ, List.getElem_cons_zero, Act.put, List.setIfInBounds_toArray, List.set_cons_zero, List.set_cons_succ]
      refine wpAnyH_ready (rs := [2]) (by kernel_rfl) (by simp) ?_
      refine AllReadyH.cons rfl (fun K hK => ?_) AllReadyH.nil
      go_simp
      refine (HCP.out w7.drew (show Ints w7.drew _ _ from HI.out.1) (show Ints w7.drew _ _ from HI.out.2)).mono ?_
      rintro e w6 ⟨⟨q, rfl, k2, d2, wd2, hi2, a2, n2, c2, cs2, b2, m2, cc2, ps2, rfl, qf⟩, b6'⟩
      have b6 := box_drew b6'
      clear b6'
      have r2 : w6.heap[w.heap.size]? = some (.cells #[.int .i64 0, .int .i64 0, .int .i64 0, .int .i64 0, .slice none 0 0, .slice none 0 0] 26 (0, 0)) := (b6.block _ (lt_of_block HD.out.1)).trans HD.out.1
      have r3 : w6.heap[w.heap.size + 1]? = some (.cells #[.int .i64 0, .int .i64 0, .int .i64 0, .int .i64 0, .slice none 0 0, .slice none 0 0] 26 (0, 0)) := (b6.block _ (lt_of_block HD.out.2.1)).trans HD.out.2.1
      have rM : w6.heap[MB]? = some (.cells #[.int .i64 k, .int .i64 d, .int .i64 wd, .int .i64 hi, .slice a n c, .slice b m cc] 26 (0, 0)) := (b6.block _ (lt_of_block HD.out.2.2.1)).trans HD.out.2.2.1
      have HL : Hid (PicAt w6 (w.heap.size + 3) (.agg #[.int .i64 k, .int .i64 d, .int .i64 wd, .int .i64 hi, .slice a n c, .slice b m cc]) ∧ PicAt w6 (w.heap.size + 3) (.agg #[.int .i64 k2, .int .i64 d2, .int .i64 wd2, .int .i64 hi2, .slice a2 n2 c2, .slice b2 m2 cc2]) ∧ Below w.heap.size w w6) := ⟨HD.out.2.2.2.1.kept b6, PicAt.lower (lo := w7.heap.size) ⟨_, _, _, _, _, _, _, _, _, _, _, _, rfl, qf⟩ (by have := HD.out.2.2.2.2.2; have := b6.size; omega), HD.out.2.2.2.2.1.trans (b6.mono HD.out.2.2.2.2.1.size)⟩
      have hMQ : w.heap.size + 1 < MB := by have := HD.out.2.2.2.2.2; omega
      clear b6 qf HD
      obtain ⟨⟨g0, g1, g2, g3, g4, g5⟩, _⟩ := box6 rM
      refine hK.out _ _ ⟨g0, g1, g2, g3, g4, g5⟩ (fun hHeld => ?_)
      clear hK K g0 g1 g2 g3 g4 g5
      try simp only [List.getElem_toArray, List.getElem_cons_succ, List.getElem_cons_zero, Act.put, List.setIfInBounds_toArray, List.set_cons_zero, List.set_cons_succ]
      obtain ⟨⟨p0, p1, p2, p3, p4, p5⟩, o0, o1, o2, o3, o4, o5⟩ := box6 r2
      refine wpAnyH_ready (rs := [3]) (by kernel_rfl) (by simp) ?_
      refine AllReadyH.cons rfl (fun K hK => ?_) AllReadyH.nil
      go_simp
      rw [six_row r2]
      obtain ⟨V1, hV1⟩ : ∃ V1, V1 = w6.setRow w.heap.size #[.int .i64 k, .int .i64 d, .int .i64 wd, .int .i64 hi, .slice a n c, .slice b m cc] := ⟨_, rfl⟩
      rw [← hV1]
      have t2 : V1.heap[w.heap.size]? = some (.cells #[.int .i64 k, .int .i64 d, .int .i64 wd, .int .i64 hi, .slice a n c, .slice b m cc] 26 (0, 0)) := by rw [hV1]; exact setRow_heap _ _ _ _ _ _ r2
      have t3 : V1.heap[w.heap.size + 1]? = some (.cells #[.int .i64 0, .int .i64 0, .int .i64 0, .int .i64 0, .slice none 0 0, .slice none 0 0] 26 (0, 0)) := by rw [hV1]; exact (setRow_other _ _ _ _ (by omega)).trans r3
      have tM : V1.heap[MB]? = some (.cells #[.int .i64 k, .int .i64 d, .int .i64 wd, .int .i64 hi, .slice a n c, .slice b m cc] 26 (0, 0)) := by rw [hV1]; exact (setRow_other _ _ _ _ (by omega)).trans rM
      obtain ⟨⟨g0, g1, g2, g3, g4, g5⟩, _⟩ := box6 tM
      have HL1 : Hid (PicAt V1 (w.heap.size + 3) (.agg #[.int .i64 k, .int .i64 d, .int .i64 wd, .int .i64 hi, .slice a n c, .slice b m cc]) ∧ PicAt V1 (w.heap.size + 3) (.agg #[.int .i64 k2, .int .i64 d2, .int .i64 wd2, .int .i64 hi2, .slice a2 n2 c2, .slice b2 m2 cc2]) ∧ Below w.heap.size w V1) := by rw [hV1]; exact ⟨HL.out.1.row (by omega) _, HL.out.2.1.row (by omega) _, HL.out.2.2.trans ((below_setRow _ _ _).mono (Nat.le_refl _))⟩
      clear hV1 p0 p1 p2 p3 p4 p5 o0 o1 o2 o3 o4 o5 r2 r3 rM  HL
      refine hK.out _ _ ⟨g0, g1, g2, g3, g4, g5⟩ (fun hHeld => ?_)
      clear hK K
      try simp only [List.getElem_toArray, List.getElem_cons_succ, List.getElem_cons_zero, Act.put, List.setIfInBounds_toArray, List.set_cons_zero, List.set_cons_succ]
      obtain ⟨⟨p0, p1, p2, p3, p4, p5⟩, o0, o1, o2, o3, o4, o5⟩ := box6 t3
      refine wpAnyH_ready (rs := [4]) (by kernel_rfl) (by simp) ?_
      refine AllReadyH.cons rfl (fun K hK => ?_) AllReadyH.nil
      go_simp
      rw [six_row t3]
      obtain ⟨V2, hV2⟩ : ∃ V2, V2 = V1.setRow (w.heap.size + 1) #[.int .i64 k2, .int .i64 d2, .int .i64 wd2, .int .i64 hi2, .slice a2 n2 c2, .slice b2 m2 cc2] := ⟨_, rfl⟩
      rw [← hV2]
      have y2 : V2.heap[w.heap.size]? = some (.cells #[.int .i64 k, .int .i64 d, .int .i64 wd, .int .i64 hi, .slice a n c, .slice b m cc] 26 (0, 0)) := by rw [hV2]; exact (setRow_other _ _ _ _ (by omega)).trans t2
      have y3 : V2.heap[w.heap.size + 1]? = some (.cells #[.int .i64 k2, .int .i64 d2, .int .i64 wd2, .int .i64 hi2, .slice a2 n2 c2, .slice b2 m2 cc2] 26 (0, 0)) := by rw [hV2]; exact setRow_heap _ _ _ _ _ _ t3
      have yM : V2.heap[MB]? = some (.cells #[.int .i64 k, .int .i64 d, .int .i64 wd, .int .i64 hi, .slice a n c, .slice b m cc] 26 (0, 0)) := by rw [hV2]; exact (setRow_other _ _ _ _ (by omega)).trans tM
      obtain ⟨⟨h0, h1, h2, h3, h4, h5⟩, _⟩ := box6 yM
      have HL2 : Hid (PicAt V2 (w.heap.size + 3) (.agg #[.int .i64 k, .int .i64 d, .int .i64 wd, .int .i64 hi, .slice a n c, .slice b m cc]) ∧ PicAt V2 (w.heap.size + 3) (.agg #[.int .i64 k2, .int .i64 d2, .int .i64 wd2, .int .i64 hi2, .slice a2 n2 c2, .slice b2 m2 cc2]) ∧ Below w.heap.size w V2) := by rw [hV2]; exact ⟨HL1.out.1.row (by omega) _, HL1.out.2.1.row (by omega) _, HL1.out.2.2.trans ((below_setRow _ _ _).mono (by omega))⟩
      clear hV2 p0 p1 p2 p3 p4 p5 o0 o1 o2 o3 o4 o5 t2 t3 tM  HL1
      refine hK.out _ _ ⟨h0, h1, h2, h3, h4, h5⟩ (fun hHeld => ?_)
      clear hK K
      refine wpAnyH_done (by kernel_rfl) ?_ _
      try simp only [List.getElem_toArray, List.getElem_cons_succ, List.getElem_cons_zero, Act.put, List.setIfInBounds_toArray, List.set_cons_zero, List.set_cons_succ]
      obtain ⟨⟨p0, p1, p2, p3, p4, p5⟩, _⟩ := box6 y2
      obtain ⟨⟨o0, o1, o2, o3, o4, o5⟩, _⟩ := box6 y3
      clear hHeld
      go_wp2_with fail
      refine bodyPost_ret (v := .tuple #[.agg #[.int .i64 k, .int .i64 d, .int .i64 wd, .int .i64 hi, .slice a n c, .slice b m cc], .agg #[.int .i64 k2, .int .i64 d2, .int .i64 wd2, .int .i64 hi2, .slice a2 n2 c2, .slice b2 m2 cc2]]) (by simp [results, Try.results13, go_sem, p0, p1, p2, p3, p4, p5, o0, o1, o2, o3, o4, o5]) rfl ⟨⟨_, _, rfl, HL2.out.1, HL2.out.2.1⟩, HL2.out.2.2⟩
  · clear HIM HRG HPL HCP hv HBM
    go_wp2_with fail
    refine wp_region_held_drew (S := fun w' => w'.cell? ⟨MB, 0, none⟩ = some (.int .i64 k) ∧ w'.cell? ⟨MB, 1, none⟩ = some (.int .i64 d) ∧ w'.cell? ⟨MB, 2, none⟩ = some (.int .i64 wd) ∧ w'.cell? ⟨MB, 3, none⟩ = some (.int .i64 hi) ∧ w'.cell? ⟨MB, 4, none⟩ = some (.slice a n c) ∧ w'.cell? ⟨MB, 5, none⟩ = some (.slice b m cc)) (by kernel_rfl) ⟨z0, z1, z2, z3, z4, z5⟩ (fun hHeld => ?_)
    refine wpAnyH_take (i := 0) (v := .agg #[.int .i64 k, .int .i64 d, .int .i64 wd, .int .i64 hi, .slice a n c, .slice b m cc]) rfl (by kernel_rfl) (by kernel_rfl) (by kernel_rfl) (fun _ _ _ h => h) (Or.inl ⟨by rfl, ?_⟩) hHeld ?_
    · intro w' hSw
      obtain ⟨s0, s1, s2, s3, s4, s5⟩ := hSw
      go_simp
    try simp only [List.getElem_toArray, List.getElem_cons_succ, List.getElem_cons_zero, Act.put, List.setIfInBounds_toArray, List.set_cons_zero, List.set_cons_succ]
    refine wpAnyH_take (i := 1) (v := .agg #[.int .i64 k, .int .i64 d, .int .i64 wd, .int .i64 hi, .slice a n c, .slice b m cc]) rfl (by kernel_rfl) (by kernel_rfl) (by kernel_rfl) (fun _ _ _ h => h) (Or.inl ⟨by rfl, ?_⟩) hHeld ?_
    · intro w' hSw
      obtain ⟨s0, s1, s2, s3, s4, s5⟩ := hSw
      go_simp
    try simp only [List.getElem_toArray, List.getElem_cons_succ, List.getElem_cons_zero, Act.put, List.setIfInBounds_toArray, List.set_cons_zero, List.set_cons_succ]
    refine wpAnyH_ready (rs := [2]) (by kernel_rfl) (by simp) ?_
    refine AllReadyH.cons rfl (fun K hK => ?_) AllReadyH.nil
    go_simp
    refine (HFL.out w4.drew (show Ints w4.drew _ _ from HI.out.1) (show Ints w4.drew _ _ from HI.out.2)).mono ?_
    rintro e w6 ⟨⟨q, rfl, k2, d2, wd2, hi2, a2, n2, c2, cs2, b2, m2, cc2, ps2, rfl, qf⟩, b6'⟩
    have b6 := box_drew b6'
    clear b6'
    have r2 : w6.heap[w.heap.size]? = some (.cells #[.int .i64 0, .int .i64 0, .int .i64 0, .int .i64 0, .slice none 0 0, .slice none 0 0] 26 (0, 0)) := (b6.block _ (lt_of_block HD.out.1)).trans HD.out.1
    have r3 : w6.heap[w.heap.size + 1]? = some (.cells #[.int .i64 0, .int .i64 0, .int .i64 0, .int .i64 0, .slice none 0 0, .slice none 0 0] 26 (0, 0)) := (b6.block _ (lt_of_block HD.out.2.1)).trans HD.out.2.1
    have rM : w6.heap[MB]? = some (.cells #[.int .i64 k, .int .i64 d, .int .i64 wd, .int .i64 hi, .slice a n c, .slice b m cc] 26 (0, 0)) := (b6.block _ (lt_of_block HD.out.2.2.1)).trans HD.out.2.2.1
    have HL : Hid (PicAt w6 (w.heap.size + 3) (.agg #[.int .i64 k, .int .i64 d, .int .i64 wd, .int .i64 hi, .slice a n c, .slice b m cc]) ∧ PicAt w6 (w.heap.size + 3) (.agg #[.int .i64 k2, .int .i64 d2, .int .i64 wd2, .int .i64 hi2, .slice a2 n2 c2, .slice b2 m2 cc2]) ∧ Below w.heap.size w w6) := ⟨HD.out.2.2.2.1.kept b6, PicAt.lower (lo := w4.heap.size) ⟨_, _, _, _, _, _, _, _, _, _, _, _, rfl, qf⟩ (by have := HD.out.2.2.2.2.2; have := b6.size; omega), HD.out.2.2.2.2.1.trans (b6.mono HD.out.2.2.2.2.1.size)⟩
    have hMQ : w.heap.size + 1 < MB := by have := HD.out.2.2.2.2.2; omega
    clear b6 qf HD
    obtain ⟨⟨g0, g1, g2, g3, g4, g5⟩, _⟩ := box6 rM
    refine hK.out _ _ ⟨g0, g1, g2, g3, g4, g5⟩ (fun hHeld => ?_)
    clear hK K g0 g1 g2 g3 g4 g5
    try simp only [List.getElem_toArray, List.getElem_cons_succ, List.getElem_cons_zero, Act.put, List.setIfInBounds_toArray, List.set_cons_zero, List.set_cons_succ]
    obtain ⟨⟨p0, p1, p2, p3, p4, p5⟩, o0, o1, o2, o3, o4, o5⟩ := box6 r2
    refine wpAnyH_ready (rs := [3]) (by kernel_rfl) (by simp) ?_
    refine AllReadyH.cons rfl (fun K hK => ?_) AllReadyH.nil
    go_simp
    rw [six_row r2]
    obtain ⟨V1, hV1⟩ : ∃ V1, V1 = w6.setRow w.heap.size #[.int .i64 k, .int .i64 d, .int .i64 wd, .int .i64 hi, .slice a n c, .slice b m cc] := ⟨_, rfl⟩
    rw [← hV1]
    have t2 : V1.heap[w.heap.size]? = some (.cells #[.int .i64 k, .int .i64 d, .int .i64 wd, .int .i64 hi, .slice a n c, .slice b m cc] 26 (0, 0)) := by rw [hV1]; exact setRow_heap _ _ _ _ _ _ r2
    have t3 : V1.heap[w.heap.size + 1]? = some (.cells #[.int .i64 0, .int .i64 0, .int .i64 0, .int .i64 0, .slice none 0 0, .slice none 0 0] 26 (0, 0)) := by rw [hV1]; exact (setRow_other _ _ _ _ (by omega)).trans r3
    have tM : V1.heap[MB]? = some (.cells #[.int .i64 k, .int .i64 d, .int .i64 wd, .int .i64 hi, .slice a n c, .slice b m cc] 26 (0, 0)) := by rw [hV1]; exact (setRow_other _ _ _ _ (by omega)).trans rM
    obtain ⟨⟨g0, g1, g2, g3, g4, g5⟩, _⟩ := box6 tM
    have HL1 : Hid (PicAt V1 (w.heap.size + 3) (.agg #[.int .i64 k, .int .i64 d, .int .i64 wd, .int .i64 hi, .slice a n c, .slice b m cc]) ∧ PicAt V1 (w.heap.size + 3) (.agg #[.int .i64 k2, .int .i64 d2, .int .i64 wd2, .int .i64 hi2, .slice a2 n2 c2, .slice b2 m2 cc2]) ∧ Below w.heap.size w V1) := by rw [hV1]; exact ⟨HL.out.1.row (by omega) _, HL.out.2.1.row (by omega) _, HL.out.2.2.trans ((below_setRow _ _ _).mono (Nat.le_refl _))⟩
    clear hV1 p0 p1 p2 p3 p4 p5 o0 o1 o2 o3 o4 o5 r2 r3 rM  HL
    refine hK.out _ _ ⟨g0, g1, g2, g3, g4, g5⟩ (fun hHeld => ?_)
    clear hK K
    try simp only [List.getElem_toArray, List.getElem_cons_succ, List.getElem_cons_zero, Act.put, List.setIfInBounds_toArray, List.set_cons_zero, List.set_cons_succ]
    obtain ⟨⟨p0, p1, p2, p3, p4, p5⟩, o0, o1, o2, o3, o4, o5⟩ := box6 t3
    refine wpAnyH_ready (rs := [4]) (by kernel_rfl) (by simp) ?_
    refine AllReadyH.cons rfl (fun K hK => ?_) AllReadyH.nil
    go_simp
    rw [six_row t3]
    obtain ⟨V2, hV2⟩ : ∃ V2, V2 = V1.setRow (w.heap.size + 1) #[.int .i64 k2, .int .i64 d2, .int .i64 wd2, .int .i64 hi2, .slice a2 n2 c2, .slice b2 m2 cc2] := ⟨_, rfl⟩
    rw [← hV2]
    have y2 : V2.heap[w.heap.size]? = some (.cells #[.int .i64 k, .int .i64 d, .int .i64 wd, .int .i64 hi, .slice a n c, .slice b m cc] 26 (0, 0)) := by rw [hV2]; exact (setRow_other _ _ _ _ (by omega)).trans t2
    have y3 : V2.heap[w.heap.size + 1]? = some (.cells #[.int .i64 k2, .int .i64 d2, .int .i64 wd2, .int .i64 hi2, .slice a2 n2 c2, .slice b2 m2 cc2] 26 (0, 0)) := by rw [hV2]; exact setRow_heap _ _ _ _ _ _ t3
    have yM : V2.heap[MB]? = some (.cells #[.int .i64 k, .int .i64 d, .int .i64 wd, .int .i64 hi, .slice a n c, .slice b m cc] 26 (0, 0)) := by rw [hV2]; exact (setRow_other _ _ _ _ (by omega)).trans tM
    obtain ⟨⟨h0, h1, h2, h3, h4, h5⟩, _⟩ := box6 yM
    have HL2 : Hid (PicAt V2 (w.heap.size + 3) (.agg #[.int .i64 k, .int .i64 d, .int .i64 wd, .int .i64 hi, .slice a n c, .slice b m cc]) ∧ PicAt V2 (w.heap.size + 3) (.agg #[.int .i64 k2, .int .i64 d2, .int .i64 wd2, .int .i64 hi2, .slice a2 n2 c2, .slice b2 m2 cc2]) ∧ Below w.heap.size w V2) := by rw [hV2]; exact ⟨HL1.out.1.row (by omega) _, HL1.out.2.1.row (by omega) _, HL1.out.2.2.trans ((below_setRow _ _ _).mono (by omega))⟩
    clear hV2 p0 p1 p2 p3 p4 p5 o0 o1 o2 o3 o4 o5 t2 t3 tM  HL1
    refine hK.out _ _ ⟨h0, h1, h2, h3, h4, h5⟩ (fun hHeld => ?_)
    clear hK K
    refine wpAnyH_done (by kernel_rfl) ?_ _
    try simp only [List.getElem_toArray, List.getElem_cons_succ, List.getElem_cons_zero, Act.put, List.setIfInBounds_toArray, List.set_cons_zero, List.set_cons_succ]
    obtain ⟨⟨p0, p1, p2, p3, p4, p5⟩, _⟩ := box6 y2
    obtain ⟨⟨o0, o1, o2, o3, o4, o5⟩, _⟩ := box6 y3
    clear hHeld
    go_wp2_with fail
    refine bodyPost_ret (v := .tuple #[.agg #[.int .i64 k, .int .i64 d, .int .i64 wd, .int .i64 hi, .slice a n c, .slice b m cc], .agg #[.int .i64 k2, .int .i64 d2, .int .i64 wd2, .int .i64 hi2, .slice a2 n2 c2, .slice b2 m2 cc2]]) (by simp [results, Try.results13, go_sem, p0, p1, p2, p3, p4, p5, o0, o1, o2, o3, o4, o5]) rfl ⟨⟨_, _, rfl, HL2.out.1, HL2.out.2.1⟩, HL2.out.2.2⟩
  · clear HIM HRG HPL HFL hv HBM
    go_wp2_with fail
    refine wp_region_held_drew (S := fun w' => w'.cell? ⟨MB, 0, none⟩ = some (.int .i64 k) ∧ w'.cell? ⟨MB, 1, none⟩ = some (.int .i64 d) ∧ w'.cell? ⟨MB, 2, none⟩ = some (.int .i64 wd) ∧ w'.cell? ⟨MB, 3, none⟩ = some (.int .i64 hi) ∧ w'.cell? ⟨MB, 4, none⟩ = some (.slice a n c) ∧ w'.cell? ⟨MB, 5, none⟩ = some (.slice b m cc)) (by kernel_rfl) ⟨z0, z1, z2, z3, z4, z5⟩ (fun hHeld => ?_)
    refine wpAnyH_take (i := 0) (v := .agg #[.int .i64 k, .int .i64 d, .int .i64 wd, .int .i64 hi, .slice a n c, .slice b m cc]) rfl (by kernel_rfl) (by kernel_rfl) (by kernel_rfl) (fun _ _ _ h => h) (Or.inl ⟨by rfl, ?_⟩) hHeld ?_
    · intro w' hSw
      obtain ⟨s0, s1, s2, s3, s4, s5⟩ := hSw
      go_simp
    try simp only [List.getElem_toArray, List.getElem_cons_succ, List.getElem_cons_zero, Act.put, List.setIfInBounds_toArray, List.set_cons_zero, List.set_cons_succ]
    refine wpAnyH_take (i := 1) (v := .agg #[.int .i64 k, .int .i64 d, .int .i64 wd, .int .i64 hi, .slice a n c, .slice b m cc]) rfl (by kernel_rfl) (by kernel_rfl) (by kernel_rfl) (fun _ _ _ h => h) (Or.inl ⟨by rfl, ?_⟩) hHeld ?_
    · intro w' hSw
      obtain ⟨s0, s1, s2, s3, s4, s5⟩ := hSw
      go_simp
    try simp only [List.getElem_toArray, List.getElem_cons_succ, List.getElem_cons_zero, Act.put, List.setIfInBounds_toArray, List.set_cons_zero, List.set_cons_succ]
    refine wpAnyH_ready (rs := [2]) (by kernel_rfl) (by simp) ?_
    refine AllReadyH.cons rfl (fun K hK => ?_) AllReadyH.nil
    go_simp
    refine (HCP.out w4.drew (show Ints w4.drew _ _ from HI.out.1) (show Ints w4.drew _ _ from HI.out.2)).mono ?_
    rintro e w6 ⟨⟨q, rfl, k2, d2, wd2, hi2, a2, n2, c2, cs2, b2, m2, cc2, ps2, rfl, qf⟩, b6'⟩
    have b6 := box_drew b6'
    clear b6'
    have r2 : w6.heap[w.heap.size]? = some (.cells #[.int .i64 0, .int .i64 0, .int .i64 0, .int .i64 0, .slice none 0 0, .slice none 0 0] 26 (0, 0)) := (b6.block _ (lt_of_block HD.out.1)).trans HD.out.1
    have r3 : w6.heap[w.heap.size + 1]? = some (.cells #[.int .i64 0, .int .i64 0, .int .i64 0, .int .i64 0, .slice none 0 0, .slice none 0 0] 26 (0, 0)) := (b6.block _ (lt_of_block HD.out.2.1)).trans HD.out.2.1
    have rM : w6.heap[MB]? = some (.cells #[.int .i64 k, .int .i64 d, .int .i64 wd, .int .i64 hi, .slice a n c, .slice b m cc] 26 (0, 0)) := (b6.block _ (lt_of_block HD.out.2.2.1)).trans HD.out.2.2.1
    have HL : Hid (PicAt w6 (w.heap.size + 3) (.agg #[.int .i64 k, .int .i64 d, .int .i64 wd, .int .i64 hi, .slice a n c, .slice b m cc]) ∧ PicAt w6 (w.heap.size + 3) (.agg #[.int .i64 k2, .int .i64 d2, .int .i64 wd2, .int .i64 hi2, .slice a2 n2 c2, .slice b2 m2 cc2]) ∧ Below w.heap.size w w6) := ⟨HD.out.2.2.2.1.kept b6, PicAt.lower (lo := w4.heap.size) ⟨_, _, _, _, _, _, _, _, _, _, _, _, rfl, qf⟩ (by have := HD.out.2.2.2.2.2; have := b6.size; omega), HD.out.2.2.2.2.1.trans (b6.mono HD.out.2.2.2.2.1.size)⟩
    have hMQ : w.heap.size + 1 < MB := by have := HD.out.2.2.2.2.2; omega
    clear b6 qf HD
    obtain ⟨⟨g0, g1, g2, g3, g4, g5⟩, _⟩ := box6 rM
    refine hK.out _ _ ⟨g0, g1, g2, g3, g4, g5⟩ (fun hHeld => ?_)
    clear hK K g0 g1 g2 g3 g4 g5
    try simp only [List.getElem_toArray, List.getElem_cons_succ, List.getElem_cons_zero, Act.put, List.setIfInBounds_toArray, List.set_cons_zero, List.set_cons_succ]
    obtain ⟨⟨p0, p1, p2, p3, p4, p5⟩, o0, o1, o2, o3, o4, o5⟩ := box6 r2
    refine wpAnyH_ready (rs := [3]) (by kernel_rfl) (by simp) ?_
    refine AllReadyH.cons rfl (fun K hK => ?_) AllReadyH.nil
    go_simp
    rw [six_row r2]
    obtain ⟨V1, hV1⟩ : ∃ V1, V1 = w6.setRow w.heap.size #[.int .i64 k, .int .i64 d, .int .i64 wd, .int .i64 hi, .slice a n c, .slice b m cc] := ⟨_, rfl⟩
    rw [← hV1]
    have t2 : V1.heap[w.heap.size]? = some (.cells #[.int .i64 k, .int .i64 d, .int .i64 wd, .int .i64 hi, .slice a n c, .slice b m cc] 26 (0, 0)) := by rw [hV1]; exact setRow_heap _ _ _ _ _ _ r2
    have t3 : V1.heap[w.heap.size + 1]? = some (.cells #[.int .i64 0, .int .i64 0, .int .i64 0, .int .i64 0, .slice none 0 0, .slice none 0 0] 26 (0, 0)) := by rw [hV1]; exact (setRow_other _ _ _ _ (by omega)).trans r3
    have tM : V1.heap[MB]? = some (.cells #[.int .i64 k, .int .i64 d, .int .i64 wd, .int .i64 hi, .slice a n c, .slice b m cc] 26 (0, 0)) := by rw [hV1]; exact (setRow_other _ _ _ _ (by omega)).trans rM
    obtain ⟨⟨g0, g1, g2, g3, g4, g5⟩, _⟩ := box6 tM
    have HL1 : Hid (PicAt V1 (w.heap.size + 3) (.agg #[.int .i64 k, .int .i64 d, .int .i64 wd, .int .i64 hi, .slice a n c, .slice b m cc]) ∧ PicAt V1 (w.heap.size + 3) (.agg #[.int .i64 k2, .int .i64 d2, .int .i64 wd2, .int .i64 hi2, .slice a2 n2 c2, .slice b2 m2 cc2]) ∧ Below w.heap.size w V1) := by rw [hV1]; exact ⟨HL.out.1.row (by omega) _, HL.out.2.1.row (by omega) _, HL.out.2.2.trans ((below_setRow _ _ _).mono (Nat.le_refl _))⟩
    clear hV1 p0 p1 p2 p3 p4 p5 o0 o1 o2 o3 o4 o5 r2 r3 rM  HL
    refine hK.out _ _ ⟨g0, g1, g2, g3, g4, g5⟩ (fun hHeld => ?_)
    clear hK K
    try simp only [List.getElem_toArray, List.getElem_cons_succ, List.getElem_cons_zero, Act.put, List.setIfInBounds_toArray, List.set_cons_zero, List.set_cons_succ]
    obtain ⟨⟨p0, p1, p2, p3, p4, p5⟩, o0, o1, o2, o3, o4, o5⟩ := box6 t3
    refine wpAnyH_ready (rs := [4]) (by kernel_rfl) (by simp) ?_
    refine AllReadyH.cons rfl (fun K hK => ?_) AllReadyH.nil
    go_simp
    rw [six_row t3]
    obtain ⟨V2, hV2⟩ : ∃ V2, V2 = V1.setRow (w.heap.size + 1) #[.int .i64 k2, .int .i64 d2, .int .i64 wd2, .int .i64 hi2, .slice a2 n2 c2, .slice b2 m2 cc2] := ⟨_, rfl⟩
    rw [← hV2]
    have y2 : V2.heap[w.heap.size]? = some (.cells #[.int .i64 k, .int .i64 d, .int .i64 wd, .int .i64 hi, .slice a n c, .slice b m cc] 26 (0, 0)) := by rw [hV2]; exact (setRow_other _ _ _ _ (by omega)).trans t2
    have y3 : V2.heap[w.heap.size + 1]? = some (.cells #[.int .i64 k2, .int .i64 d2, .int .i64 wd2, .int .i64 hi2, .slice a2 n2 c2, .slice b2 m2 cc2] 26 (0, 0)) := by rw [hV2]; exact setRow_heap _ _ _ _ _ _ t3
    have yM : V2.heap[MB]? = some (.cells #[.int .i64 k, .int .i64 d, .int .i64 wd, .int .i64 hi, .slice a n c, .slice b m cc] 26 (0, 0)) := by rw [hV2]; exact (setRow_other _ _ _ _ (by omega)).trans tM
    obtain ⟨⟨h0, h1, h2, h3, h4, h5⟩, _⟩ := box6 yM
    have HL2 : Hid (PicAt V2 (w.heap.size + 3) (.agg #[.int .i64 k, .int .i64 d, .int .i64 wd, .int .i64 hi, .slice a n c, .slice b m cc]) ∧ PicAt V2 (w.heap.size + 3) (.agg #[.int .i64 k2, .int .i64 d2, .int .i64 wd2, .int .i64 hi2, .slice a2 n2 c2, .slice b2 m2 cc2]) ∧ Below w.heap.size w V2) := by rw [hV2]; exact ⟨HL1.out.1.row (by omega) _, HL1.out.2.1.row (by omega) _, HL1.out.2.2.trans ((below_setRow _ _ _).mono (by omega))⟩
    clear hV2 p0 p1 p2 p3 p4 p5 o0 o1 o2 o3 o4 o5 t2 t3 tM  HL1
    refine hK.out _ _ ⟨h0, h1, h2, h3, h4, h5⟩ (fun hHeld => ?_)
    clear hK K
    refine wpAnyH_done (by kernel_rfl) ?_ _
    try simp only [List.getElem_toArray, List.getElem_cons_succ, List.getElem_cons_zero, Act.put, List.setIfInBounds_toArray, List.set_cons_zero, List.set_cons_succ]
    obtain ⟨⟨p0, p1, p2, p3, p4, p5⟩, _⟩ := box6 y2
    obtain ⟨⟨o0, o1, o2, o3, o4, o5⟩, _⟩ := box6 y3
    clear hHeld
    go_wp2_with fail
    refine bodyPost_ret (v := .tuple #[.agg #[.int .i64 k, .int .i64 d, .int .i64 wd, .int .i64 hi, .slice a n c, .slice b m cc], .agg #[.int .i64 k2, .int .i64 d2, .int .i64 wd2, .int .i64 hi2, .slice a2 n2 c2, .slice b2 m2 cc2]]) (by simp [results, Try.results13, go_sem, p0, p1, p2, p3, p4, p5, o0, o1, o2, o3, o4, o5]) rfl ⟨⟨_, _, rfl, HL2.out.1, HL2.out.2.1⟩, HL2.out.2.2⟩
end Go.Proofs.Ytjiogneidioknaa
