/- Texts laid together: ImplLike, SpecLike, RgbSeen, ImplRgb, ColSpecTop, SpecRgb, TopRgb, TopLike, AnyDraw, RowCode, DrawRgb, WiInts, WiImage, ColImpl, LawImageRgb. -/
import Derived.Test.YtchaepkdpbiffaaColSeen
import Derived.Test.YtchaepkdpbiffaaPicLaw
import Derived.Deep.RegionHeld3
import Derived.Test.YtchaepkdpbiffaaRgbMath
import Derived.Test.YtchaepkdpbiffaaBlankSpec
import Derived.Test.YtchaepkdpbiffaaSixRow
import Derived.Test.YtchaepkdpbiffaaRnWent
import Derived.Test.YtchaepkdpbiffaaColTop
import Derived.Test.YtchaepkdpbiffaaAppOne
import Derived.Test.YtchaepkdpbiffaaImgOk3
import Derived.Test.YtchaepkdpbiffaaImgSpec3
import Derived.Test.YtchaepkdpbiffaaSpoil
import Derived.Test.YtchaepkdpbiffaaImgDraw
import Derived.Test.YtchaepkdpbiffaaDrawWalks
import Derived.Test.YtchaepkdpbiffaaIntsWalks
import Derived.Test.YtchaepkdpbiffaaBoxWalks
import Derived.Deep.DeepCutAuto
/- ImageLike of the program. -/
namespace Go.Proofs.Ytchaepkdpbiffaa
open Go.RowKit

set_option maxHeartbeats 1000000 in
set_option maxRecDepth 20000 in
theorem impl_like_bad1 (k d wd hi : Int) (ca : Option Addr) (cn cc : Nat) (pa : Option Addr) (pn pc : Nat) (k2 d2 wd2 hi2 : Int) (ca2 : Option Addr) (cn2 cc2 : Nat) (pa2 : Option Addr) (pn2 pc2 : Nat) (w : World) (hOA : (∀ w', Below w.heap.size w w' → Calls Try.prog 12 #[.agg #[.int .i64 k, .int .i64 d, .int .i64 wd, .int .i64 hi, .slice ca cn cc, .slice pa pn pc]] w' fun e w'' => e = .returned (.bool false) ∧ Below w'.heap.size w' w'')) :
    Calls Try.prog 15 #[.agg #[.int .i64 k, .int .i64 d, .int .i64 wd, .int .i64 hi, .slice ca cn cc, .slice pa pn pc], .agg #[.int .i64 k2, .int .i64 d2, .int .i64 wd2, .int .i64 hi2, .slice ca2 cn2 cc2, .slice pa2 pn2 pc2]] w fun e w' => e = .returned (.bool false) ∧ Below w.heap.size w w' := by
  have hB0 : Below w.heap.size w ((w.alloc (.cells #[.int .i64 k, .int .i64 d, .int .i64 wd, .int .i64 hi, .slice ca cn cc, .slice pa pn pc] 25)).alloc (.cells #[.int .i64 k2, .int .i64 d2, .int .i64 wd2, .int .i64 hi2, .slice ca2 cn2 cc2, .slice pa2 pn2 pc2] 25)) := ((Below.refl _ _).alloc (Nat.le_refl _) _).alloc (by simp) _
  have A0 : Hid (Bx ((w.alloc (.cells #[.int .i64 k, .int .i64 d, .int .i64 wd, .int .i64 hi, .slice ca cn cc, .slice pa pn pc] 25)).alloc (.cells #[.int .i64 k2, .int .i64 d2, .int .i64 wd2, .int .i64 hi2, .slice ca2 cn2 cc2, .slice pa2 pn2 pc2] 25)) w.heap.size (.int .i64 k) (.int .i64 d) (.int .i64 wd) (.int .i64 hi) (.slice ca cn cc) (.slice pa pn pc)) := (bx_new w _ _ _ _ _ _ 25).kept ((Below.refl _ _).alloc (Nat.le_refl _) _)
  have B0 : Hid (Bx ((w.alloc (.cells #[.int .i64 k, .int .i64 d, .int .i64 wd, .int .i64 hi, .slice ca cn cc, .slice pa pn pc] 25)).alloc (.cells #[.int .i64 k2, .int .i64 d2, .int .i64 wd2, .int .i64 hi2, .slice ca2 cn2 cc2, .slice pa2 pn2 pc2] 25)) (w.heap.size + 1) (.int .i64 k2) (.int .i64 d2) (.int .i64 wd2) (.int .i64 hi2) (.slice ca2 cn2 cc2) (.slice pa2 pn2 pc2)) := by
    have := bx_new (w.alloc (.cells #[.int .i64 k, .int .i64 d, .int .i64 wd, .int .i64 hi, .slice ca cn cc, .slice pa pn pc] 25)) (.int .i64 k2) (.int .i64 d2) (.int .i64 wd2) (.int .i64 hi2) (.slice ca2 cn2 cc2) (.slice pa2 pn2 pc2) 25
    rw [World.size_alloc] at this; exact this
  have HOA : Hid (∀ w', Below w.heap.size w w' → Calls Try.prog 12 #[.agg #[.int .i64 k, .int .i64 d, .int .i64 wd, .int .i64 hi, .slice ca cn cc, .slice pa pn pc]] w' fun e w'' => e = .returned (.bool false) ∧ Below w'.heap.size w' w'') := hOA
  clear hOA
  go_enter Try.func15, Try.ntmps15
  go_wp2_with fail
  refine (HOA.out _ hB0).mono ?_
  rintro e w1 ⟨rfl, b1⟩
  have A1 : Hid (Bx w1 w.heap.size (.int .i64 k) (.int .i64 d) (.int .i64 wd) (.int .i64 hi) (.slice ca cn cc) (.slice pa pn pc)) := A0.out.kept b1
  have B1 : Hid (Bx w1 (w.heap.size + 1) (.int .i64 k2) (.int .i64 d2) (.int .i64 wd2) (.int .i64 hi2) (.slice ca2 cn2 cc2) (.slice pa2 pn2 pc2)) := B0.out.kept b1
  have bel1 : Below w.heap.size w w1 := hB0.trans (b1.mono hB0.size)
  clear b1 hB0 A0 B0 HOA
  clear A1 B1
  go_wp2_with fail
  go_ret
  exact ⟨rfl, bel1⟩

set_option maxHeartbeats 1000000 in
set_option maxRecDepth 20000 in
theorem impl_like_bad2 (k d wd hi : Int) (ca : Option Addr) (cn cc : Nat) (pa : Option Addr) (pn pc : Nat) (k2 d2 wd2 hi2 : Int) (ca2 : Option Addr) (cn2 cc2 : Nat) (pa2 : Option Addr) (pn2 pc2 : Nat) (w : World) (hOA : (∀ w', Below w.heap.size w w' → Calls Try.prog 12 #[.agg #[.int .i64 k, .int .i64 d, .int .i64 wd, .int .i64 hi, .slice ca cn cc, .slice pa pn pc]] w' fun e w'' => e = .returned (.bool true) ∧ Below w'.heap.size w' w'')) (hOB : (∀ w', Below w.heap.size w w' → Calls Try.prog 12 #[.agg #[.int .i64 k2, .int .i64 d2, .int .i64 wd2, .int .i64 hi2, .slice ca2 cn2 cc2, .slice pa2 pn2 pc2]] w' fun e w'' => e = .returned (.bool false) ∧ Below w'.heap.size w' w'')) :
    Calls Try.prog 15 #[.agg #[.int .i64 k, .int .i64 d, .int .i64 wd, .int .i64 hi, .slice ca cn cc, .slice pa pn pc], .agg #[.int .i64 k2, .int .i64 d2, .int .i64 wd2, .int .i64 hi2, .slice ca2 cn2 cc2, .slice pa2 pn2 pc2]] w fun e w' => e = .returned (.bool false) ∧ Below w.heap.size w w' := by
  have hB0 : Below w.heap.size w ((w.alloc (.cells #[.int .i64 k, .int .i64 d, .int .i64 wd, .int .i64 hi, .slice ca cn cc, .slice pa pn pc] 25)).alloc (.cells #[.int .i64 k2, .int .i64 d2, .int .i64 wd2, .int .i64 hi2, .slice ca2 cn2 cc2, .slice pa2 pn2 pc2] 25)) := ((Below.refl _ _).alloc (Nat.le_refl _) _).alloc (by simp) _
  have A0 : Hid (Bx ((w.alloc (.cells #[.int .i64 k, .int .i64 d, .int .i64 wd, .int .i64 hi, .slice ca cn cc, .slice pa pn pc] 25)).alloc (.cells #[.int .i64 k2, .int .i64 d2, .int .i64 wd2, .int .i64 hi2, .slice ca2 cn2 cc2, .slice pa2 pn2 pc2] 25)) w.heap.size (.int .i64 k) (.int .i64 d) (.int .i64 wd) (.int .i64 hi) (.slice ca cn cc) (.slice pa pn pc)) := (bx_new w _ _ _ _ _ _ 25).kept ((Below.refl _ _).alloc (Nat.le_refl _) _)
  have B0 : Hid (Bx ((w.alloc (.cells #[.int .i64 k, .int .i64 d, .int .i64 wd, .int .i64 hi, .slice ca cn cc, .slice pa pn pc] 25)).alloc (.cells #[.int .i64 k2, .int .i64 d2, .int .i64 wd2, .int .i64 hi2, .slice ca2 cn2 cc2, .slice pa2 pn2 pc2] 25)) (w.heap.size + 1) (.int .i64 k2) (.int .i64 d2) (.int .i64 wd2) (.int .i64 hi2) (.slice ca2 cn2 cc2) (.slice pa2 pn2 pc2)) := by
    have := bx_new (w.alloc (.cells #[.int .i64 k, .int .i64 d, .int .i64 wd, .int .i64 hi, .slice ca cn cc, .slice pa pn pc] 25)) (.int .i64 k2) (.int .i64 d2) (.int .i64 wd2) (.int .i64 hi2) (.slice ca2 cn2 cc2) (.slice pa2 pn2 pc2) 25
    rw [World.size_alloc] at this; exact this
  have HOA : Hid (∀ w', Below w.heap.size w w' → Calls Try.prog 12 #[.agg #[.int .i64 k, .int .i64 d, .int .i64 wd, .int .i64 hi, .slice ca cn cc, .slice pa pn pc]] w' fun e w'' => e = .returned (.bool true) ∧ Below w'.heap.size w' w'') := hOA
  have HOB : Hid (∀ w', Below w.heap.size w w' → Calls Try.prog 12 #[.agg #[.int .i64 k2, .int .i64 d2, .int .i64 wd2, .int .i64 hi2, .slice ca2 cn2 cc2, .slice pa2 pn2 pc2]] w' fun e w'' => e = .returned (.bool false) ∧ Below w'.heap.size w' w'') := hOB
  clear hOA hOB
  go_enter Try.func15, Try.ntmps15
  go_wp2_with fail
  refine (HOA.out _ hB0).mono ?_
  rintro e w1 ⟨rfl, b1⟩
  have A1 : Hid (Bx w1 w.heap.size (.int .i64 k) (.int .i64 d) (.int .i64 wd) (.int .i64 hi) (.slice ca cn cc) (.slice pa pn pc)) := A0.out.kept b1
  have B1 : Hid (Bx w1 (w.heap.size + 1) (.int .i64 k2) (.int .i64 d2) (.int .i64 wd2) (.int .i64 hi2) (.slice ca2 cn2 cc2) (.slice pa2 pn2 pc2)) := B0.out.kept b1
  have bel1 : Below w.heap.size w w1 := hB0.trans (b1.mono hB0.size)
  clear b1 hB0 A0 B0 HOA
  obtain ⟨_, p0, p1, p2, p3, p4, p5⟩ := B1.out
  go_wp2_with fail
  refine (HOB.out _ bel1).mono ?_
  rintro e w2 ⟨rfl, b2⟩
  have A2 : Hid (Bx w2 w.heap.size (.int .i64 k) (.int .i64 d) (.int .i64 wd) (.int .i64 hi) (.slice ca cn cc) (.slice pa pn pc)) := A1.out.kept b2
  have B2 : Hid (Bx w2 (w.heap.size + 1) (.int .i64 k2) (.int .i64 d2) (.int .i64 wd2) (.int .i64 hi2) (.slice ca2 cn2 cc2) (.slice pa2 pn2 pc2)) := B1.out.kept b2
  have bel2 : Below w.heap.size w w2 := bel1.trans (b2.mono bel1.size)
  clear b2 bel1 A1 B1 HOB p0 p1 p2 p3 p4 p5
  obtain ⟨_, a0, a1, a2, a3, a4, a5⟩ := A2.out
  obtain ⟨_, p0, p1, p2, p3, p4, p5⟩ := B2.out
  clear A2 B2
  go_wp2_with fail
  go_ret
  exact ⟨rfl, bel2⟩

set_option maxHeartbeats 1000000 in
set_option maxRecDepth 20000 in
theorem impl_like_wide (k d wd hi : Int) (ca : Option Addr) (cn cc : Nat) (pa : Option Addr) (pn pc : Nat) (k2 d2 wd2 hi2 : Int) (ca2 : Option Addr) (cn2 cc2 : Nat) (pa2 : Option Addr) (pn2 pc2 : Nat) (w : World) (hno : ¬ wd = wd2) (hOA : (∀ w', Below w.heap.size w w' → Calls Try.prog 12 #[.agg #[.int .i64 k, .int .i64 d, .int .i64 wd, .int .i64 hi, .slice ca cn cc, .slice pa pn pc]] w' fun e w'' => e = .returned (.bool true) ∧ Below w'.heap.size w' w'')) (hOB : (∀ w', Below w.heap.size w w' → Calls Try.prog 12 #[.agg #[.int .i64 k2, .int .i64 d2, .int .i64 wd2, .int .i64 hi2, .slice ca2 cn2 cc2, .slice pa2 pn2 pc2]] w' fun e w'' => e = .returned (.bool true) ∧ Below w'.heap.size w' w'')) :
    Calls Try.prog 15 #[.agg #[.int .i64 k, .int .i64 d, .int .i64 wd, .int .i64 hi, .slice ca cn cc, .slice pa pn pc], .agg #[.int .i64 k2, .int .i64 d2, .int .i64 wd2, .int .i64 hi2, .slice ca2 cn2 cc2, .slice pa2 pn2 pc2]] w fun e w' => e = .returned (.bool false) ∧ Below w.heap.size w w' := by
  have hB0 : Below w.heap.size w ((w.alloc (.cells #[.int .i64 k, .int .i64 d, .int .i64 wd, .int .i64 hi, .slice ca cn cc, .slice pa pn pc] 25)).alloc (.cells #[.int .i64 k2, .int .i64 d2, .int .i64 wd2, .int .i64 hi2, .slice ca2 cn2 cc2, .slice pa2 pn2 pc2] 25)) := ((Below.refl _ _).alloc (Nat.le_refl _) _).alloc (by simp) _
  have A0 : Hid (Bx ((w.alloc (.cells #[.int .i64 k, .int .i64 d, .int .i64 wd, .int .i64 hi, .slice ca cn cc, .slice pa pn pc] 25)).alloc (.cells #[.int .i64 k2, .int .i64 d2, .int .i64 wd2, .int .i64 hi2, .slice ca2 cn2 cc2, .slice pa2 pn2 pc2] 25)) w.heap.size (.int .i64 k) (.int .i64 d) (.int .i64 wd) (.int .i64 hi) (.slice ca cn cc) (.slice pa pn pc)) := (bx_new w _ _ _ _ _ _ 25).kept ((Below.refl _ _).alloc (Nat.le_refl _) _)
  have B0 : Hid (Bx ((w.alloc (.cells #[.int .i64 k, .int .i64 d, .int .i64 wd, .int .i64 hi, .slice ca cn cc, .slice pa pn pc] 25)).alloc (.cells #[.int .i64 k2, .int .i64 d2, .int .i64 wd2, .int .i64 hi2, .slice ca2 cn2 cc2, .slice pa2 pn2 pc2] 25)) (w.heap.size + 1) (.int .i64 k2) (.int .i64 d2) (.int .i64 wd2) (.int .i64 hi2) (.slice ca2 cn2 cc2) (.slice pa2 pn2 pc2)) := by
    have := bx_new (w.alloc (.cells #[.int .i64 k, .int .i64 d, .int .i64 wd, .int .i64 hi, .slice ca cn cc, .slice pa pn pc] 25)) (.int .i64 k2) (.int .i64 d2) (.int .i64 wd2) (.int .i64 hi2) (.slice ca2 cn2 cc2) (.slice pa2 pn2 pc2) 25
    rw [World.size_alloc] at this; exact this
  have HOA : Hid (∀ w', Below w.heap.size w w' → Calls Try.prog 12 #[.agg #[.int .i64 k, .int .i64 d, .int .i64 wd, .int .i64 hi, .slice ca cn cc, .slice pa pn pc]] w' fun e w'' => e = .returned (.bool true) ∧ Below w'.heap.size w' w'') := hOA
  have HOB : Hid (∀ w', Below w.heap.size w w' → Calls Try.prog 12 #[.agg #[.int .i64 k2, .int .i64 d2, .int .i64 wd2, .int .i64 hi2, .slice ca2 cn2 cc2, .slice pa2 pn2 pc2]] w' fun e w'' => e = .returned (.bool true) ∧ Below w'.heap.size w' w'') := hOB
  clear hOA hOB
  have hbne : (wd == wd2) = false := by rw [beq_eq_false_iff_ne]; exact hno
  go_enter Try.func15, Try.ntmps15
  go_wp2_with fail
  refine (HOA.out _ hB0).mono ?_
  rintro e w1 ⟨rfl, b1⟩
  have A1 : Hid (Bx w1 w.heap.size (.int .i64 k) (.int .i64 d) (.int .i64 wd) (.int .i64 hi) (.slice ca cn cc) (.slice pa pn pc)) := A0.out.kept b1
  have B1 : Hid (Bx w1 (w.heap.size + 1) (.int .i64 k2) (.int .i64 d2) (.int .i64 wd2) (.int .i64 hi2) (.slice ca2 cn2 cc2) (.slice pa2 pn2 pc2)) := B0.out.kept b1
  have bel1 : Below w.heap.size w w1 := hB0.trans (b1.mono hB0.size)
  clear b1 hB0 A0 B0 HOA
  obtain ⟨_, p0, p1, p2, p3, p4, p5⟩ := B1.out
  go_wp2_with fail
  refine (HOB.out _ bel1).mono ?_
  rintro e w2 ⟨rfl, b2⟩
  have A2 : Hid (Bx w2 w.heap.size (.int .i64 k) (.int .i64 d) (.int .i64 wd) (.int .i64 hi) (.slice ca cn cc) (.slice pa pn pc)) := A1.out.kept b2
  have B2 : Hid (Bx w2 (w.heap.size + 1) (.int .i64 k2) (.int .i64 d2) (.int .i64 wd2) (.int .i64 hi2) (.slice ca2 cn2 cc2) (.slice pa2 pn2 pc2)) := B1.out.kept b2
  have bel2 : Below w.heap.size w w2 := bel1.trans (b2.mono bel1.size)
  clear b2 bel1 A1 B1 HOB p0 p1 p2 p3 p4 p5
  obtain ⟨_, a0, a1, a2, a3, a4, a5⟩ := A2.out
  obtain ⟨_, p0, p1, p2, p3, p4, p5⟩ := B2.out
  clear A2 B2
  go_wp2_with fail
  go_ret
  exact ⟨rfl, bel2⟩

set_option maxHeartbeats 1000000 in
set_option maxRecDepth 20000 in
theorem impl_like_high (k d wd hi : Int) (ca : Option Addr) (cn cc : Nat) (pa : Option Addr) (pn pc : Nat) (k2 d2 hi2 : Int) (ca2 : Option Addr) (cn2 cc2 : Nat) (pa2 : Option Addr) (pn2 pc2 : Nat) (w : World) (hno : ¬ hi = hi2) (hOA : (∀ w', Below w.heap.size w w' → Calls Try.prog 12 #[.agg #[.int .i64 k, .int .i64 d, .int .i64 wd, .int .i64 hi, .slice ca cn cc, .slice pa pn pc]] w' fun e w'' => e = .returned (.bool true) ∧ Below w'.heap.size w' w'')) (hOB : (∀ w', Below w.heap.size w w' → Calls Try.prog 12 #[.agg #[.int .i64 k2, .int .i64 d2, .int .i64 wd, .int .i64 hi2, .slice ca2 cn2 cc2, .slice pa2 pn2 pc2]] w' fun e w'' => e = .returned (.bool true) ∧ Below w'.heap.size w' w'')) :
    Calls Try.prog 15 #[.agg #[.int .i64 k, .int .i64 d, .int .i64 wd, .int .i64 hi, .slice ca cn cc, .slice pa pn pc], .agg #[.int .i64 k2, .int .i64 d2, .int .i64 wd, .int .i64 hi2, .slice ca2 cn2 cc2, .slice pa2 pn2 pc2]] w fun e w' => e = .returned (.bool false) ∧ Below w.heap.size w w' := by
  have hB0 : Below w.heap.size w ((w.alloc (.cells #[.int .i64 k, .int .i64 d, .int .i64 wd, .int .i64 hi, .slice ca cn cc, .slice pa pn pc] 25)).alloc (.cells #[.int .i64 k2, .int .i64 d2, .int .i64 wd, .int .i64 hi2, .slice ca2 cn2 cc2, .slice pa2 pn2 pc2] 25)) := ((Below.refl _ _).alloc (Nat.le_refl _) _).alloc (by simp) _
  have A0 : Hid (Bx ((w.alloc (.cells #[.int .i64 k, .int .i64 d, .int .i64 wd, .int .i64 hi, .slice ca cn cc, .slice pa pn pc] 25)).alloc (.cells #[.int .i64 k2, .int .i64 d2, .int .i64 wd, .int .i64 hi2, .slice ca2 cn2 cc2, .slice pa2 pn2 pc2] 25)) w.heap.size (.int .i64 k) (.int .i64 d) (.int .i64 wd) (.int .i64 hi) (.slice ca cn cc) (.slice pa pn pc)) := (bx_new w _ _ _ _ _ _ 25).kept ((Below.refl _ _).alloc (Nat.le_refl _) _)
  have B0 : Hid (Bx ((w.alloc (.cells #[.int .i64 k, .int .i64 d, .int .i64 wd, .int .i64 hi, .slice ca cn cc, .slice pa pn pc] 25)).alloc (.cells #[.int .i64 k2, .int .i64 d2, .int .i64 wd, .int .i64 hi2, .slice ca2 cn2 cc2, .slice pa2 pn2 pc2] 25)) (w.heap.size + 1) (.int .i64 k2) (.int .i64 d2) (.int .i64 wd) (.int .i64 hi2) (.slice ca2 cn2 cc2) (.slice pa2 pn2 pc2)) := by
    have := bx_new (w.alloc (.cells #[.int .i64 k, .int .i64 d, .int .i64 wd, .int .i64 hi, .slice ca cn cc, .slice pa pn pc] 25)) (.int .i64 k2) (.int .i64 d2) (.int .i64 wd) (.int .i64 hi2) (.slice ca2 cn2 cc2) (.slice pa2 pn2 pc2) 25
    rw [World.size_alloc] at this; exact this
  have HOA : Hid (∀ w', Below w.heap.size w w' → Calls Try.prog 12 #[.agg #[.int .i64 k, .int .i64 d, .int .i64 wd, .int .i64 hi, .slice ca cn cc, .slice pa pn pc]] w' fun e w'' => e = .returned (.bool true) ∧ Below w'.heap.size w' w'') := hOA
  have HOB : Hid (∀ w', Below w.heap.size w w' → Calls Try.prog 12 #[.agg #[.int .i64 k2, .int .i64 d2, .int .i64 wd, .int .i64 hi2, .slice ca2 cn2 cc2, .slice pa2 pn2 pc2]] w' fun e w'' => e = .returned (.bool true) ∧ Below w'.heap.size w' w'') := hOB
  clear hOA hOB
  have hbne : (hi == hi2) = false := by rw [beq_eq_false_iff_ne]; exact hno
  go_enter Try.func15, Try.ntmps15
  go_wp2_with fail
  refine (HOA.out _ hB0).mono ?_
  rintro e w1 ⟨rfl, b1⟩
  have A1 : Hid (Bx w1 w.heap.size (.int .i64 k) (.int .i64 d) (.int .i64 wd) (.int .i64 hi) (.slice ca cn cc) (.slice pa pn pc)) := A0.out.kept b1
  have B1 : Hid (Bx w1 (w.heap.size + 1) (.int .i64 k2) (.int .i64 d2) (.int .i64 wd) (.int .i64 hi2) (.slice ca2 cn2 cc2) (.slice pa2 pn2 pc2)) := B0.out.kept b1
  have bel1 : Below w.heap.size w w1 := hB0.trans (b1.mono hB0.size)
  clear b1 hB0 A0 B0 HOA
  obtain ⟨_, p0, p1, p2, p3, p4, p5⟩ := B1.out
  go_wp2_with fail
  refine (HOB.out _ bel1).mono ?_
  rintro e w2 ⟨rfl, b2⟩
  have A2 : Hid (Bx w2 w.heap.size (.int .i64 k) (.int .i64 d) (.int .i64 wd) (.int .i64 hi) (.slice ca cn cc) (.slice pa pn pc)) := A1.out.kept b2
  have B2 : Hid (Bx w2 (w.heap.size + 1) (.int .i64 k2) (.int .i64 d2) (.int .i64 wd) (.int .i64 hi2) (.slice ca2 cn2 cc2) (.slice pa2 pn2 pc2)) := B1.out.kept b2
  have bel2 : Below w.heap.size w w2 := bel1.trans (b2.mono bel1.size)
  clear b2 bel1 A1 B1 HOB p0 p1 p2 p3 p4 p5
  obtain ⟨_, a0, a1, a2, a3, a4, a5⟩ := A2.out
  obtain ⟨_, p0, p1, p2, p3, p4, p5⟩ := B2.out
  clear A2 B2
  go_wp2_with fail
  go_ret
  exact ⟨rfl, bel2⟩

set_option maxHeartbeats 8000000 in
set_option maxRecDepth 20000 in
theorem impl_like_yes (k : Int) (D Wd Hi : Nat) (ca : Option Addr) (cn cc : Nat) (pa : Option Addr) (pn pc : Nat) (k2 : Int) (D2 : Nat) (ca2 : Option Addr) (cn2 cc2 : Nat) (pa2 : Option Addr) (pn2 pc2 : Nat) (cs ps cs2 ps2 : List Int) (w : World) (ok : Im.Ok k (D : Int) (Wd : Int) (Hi : Int) cs ps) (ok2 : Im.Ok k2 (D2 : Int) (Wd : Int) (Hi : Int) cs2 ps2) (hc : Ints w ca cs) (hcn : cs.length = cn) (hp : Ints w pa ps) (hpn : ps.length = pn) (hc2 : Ints w ca2 cs2) (hcn2 : cs2.length = cn2) (hp2 : Ints w pa2 ps2) (hpn2 : ps2.length = pn2) (hW : Wd ≤ 20) (hH : Hi ≤ 20) (hm : pn = Wd * Hi) (hm2 : pn2 = Wd * Hi)
    (hOA : (∀ w', Below w.heap.size w w' → Calls Try.prog 12 #[.agg #[.int .i64 k, .int .i64 (D : Int), .int .i64 (Wd : Int), .int .i64 (Hi : Int), .slice ca cn cc, .slice pa pn pc]] w' fun e w'' => e = .returned (.bool true) ∧ Below w'.heap.size w' w'')) (hOB : (∀ w', Below w.heap.size w w' → Calls Try.prog 12 #[.agg #[.int .i64 k2, .int .i64 (D2 : Int), .int .i64 (Wd : Int), .int .i64 (Hi : Int), .slice ca2 cn2 cc2, .slice pa2 pn2 pc2]] w' fun e w'' => e = .returned (.bool true) ∧ Below w'.heap.size w' w'')) :
    Calls Try.prog 15 #[.agg #[.int .i64 k, .int .i64 (D : Int), .int .i64 (Wd : Int), .int .i64 (Hi : Int), .slice ca cn cc, .slice pa pn pc], .agg #[.int .i64 k2, .int .i64 (D2 : Int), .int .i64 (Wd : Int), .int .i64 (Hi : Int), .slice ca2 cn2 cc2, .slice pa2 pn2 pc2]] w fun e w' => e = .returned (.bool (decide (cols k D cs ps = cols k2 D2 cs2 ps2))) ∧ Below w.heap.size w w' := by
  have hB0 : Below w.heap.size w ((w.alloc (.cells #[.int .i64 k, .int .i64 (D : Int), .int .i64 (Wd : Int), .int .i64 (Hi : Int), .slice ca cn cc, .slice pa pn pc] 25)).alloc (.cells #[.int .i64 k2, .int .i64 (D2 : Int), .int .i64 (Wd : Int), .int .i64 (Hi : Int), .slice ca2 cn2 cc2, .slice pa2 pn2 pc2] 25)) := ((Below.refl _ _).alloc (Nat.le_refl _) _).alloc (by simp) _
  have A0 : Hid (Bx ((w.alloc (.cells #[.int .i64 k, .int .i64 (D : Int), .int .i64 (Wd : Int), .int .i64 (Hi : Int), .slice ca cn cc, .slice pa pn pc] 25)).alloc (.cells #[.int .i64 k2, .int .i64 (D2 : Int), .int .i64 (Wd : Int), .int .i64 (Hi : Int), .slice ca2 cn2 cc2, .slice pa2 pn2 pc2] 25)) w.heap.size (.int .i64 k) (.int .i64 (D : Int)) (.int .i64 (Wd : Int)) (.int .i64 (Hi : Int)) (.slice ca cn cc) (.slice pa pn pc)) := (bx_new w _ _ _ _ _ _ 25).kept ((Below.refl _ _).alloc (Nat.le_refl _) _)
  have B0 : Hid (Bx ((w.alloc (.cells #[.int .i64 k, .int .i64 (D : Int), .int .i64 (Wd : Int), .int .i64 (Hi : Int), .slice ca cn cc, .slice pa pn pc] 25)).alloc (.cells #[.int .i64 k2, .int .i64 (D2 : Int), .int .i64 (Wd : Int), .int .i64 (Hi : Int), .slice ca2 cn2 cc2, .slice pa2 pn2 pc2] 25)) (w.heap.size + 1) (.int .i64 k2) (.int .i64 (D2 : Int)) (.int .i64 (Wd : Int)) (.int .i64 (Hi : Int)) (.slice ca2 cn2 cc2) (.slice pa2 pn2 pc2)) := by
    have := bx_new (w.alloc (.cells #[.int .i64 k, .int .i64 (D : Int), .int .i64 (Wd : Int), .int .i64 (Hi : Int), .slice ca cn cc, .slice pa pn pc] 25)) (.int .i64 k2) (.int .i64 (D2 : Int)) (.int .i64 (Wd : Int)) (.int .i64 (Hi : Int)) (.slice ca2 cn2 cc2) (.slice pa2 pn2 pc2) 25
    rw [World.size_alloc] at this; exact this
  have HOA : Hid (∀ w', Below w.heap.size w w' → Calls Try.prog 12 #[.agg #[.int .i64 k, .int .i64 (D : Int), .int .i64 (Wd : Int), .int .i64 (Hi : Int), .slice ca cn cc, .slice pa pn pc]] w' fun e w'' => e = .returned (.bool true) ∧ Below w'.heap.size w' w'') := hOA
  have HOB : Hid (∀ w', Below w.heap.size w w' → Calls Try.prog 12 #[.agg #[.int .i64 k2, .int .i64 (D2 : Int), .int .i64 (Wd : Int), .int .i64 (Hi : Int), .slice ca2 cn2 cc2, .slice pa2 pn2 pc2]] w' fun e w'' => e = .returned (.bool true) ∧ Below w'.heap.size w' w'') := hOB
  have HCA : Hid (∀ w', Below w.heap.size w w' → Calls Try.prog 31 #[.agg #[.int .i64 k, .int .i64 (D : Int), .int .i64 (Wd : Int), .int .i64 (Hi : Int), .slice ca cn cc, .slice pa pn pc]] w' fun e w'' => (∃ V fs rs fa ra, e = .returned (.iface 54 V) ∧ Seen 54 V fs rs fa ra Wd Hi (colF k D cs Wd ps) w''.heap.size w'') ∧ Below w'.heap.size w' w'') := fun w' b => colored_seen k D Wd Hi ca cn cc pa pn pc cs ps w' ok (hc.kept b) hcn (hp.kept b) hpn hW hH hm
  have HCB : Hid (∀ w', Below w.heap.size w w' → Calls Try.prog 31 #[.agg #[.int .i64 k2, .int .i64 (D2 : Int), .int .i64 (Wd : Int), .int .i64 (Hi : Int), .slice ca2 cn2 cc2, .slice pa2 pn2 pc2]] w' fun e w'' => (∃ V fs rs fa ra, e = .returned (.iface 54 V) ∧ Seen 54 V fs rs fa ra Wd Hi (colF k2 D2 cs2 Wd ps2) w''.heap.size w'') ∧ Below w'.heap.size w' w'') := fun w' b => colored_seen k2 D2 Wd Hi ca2 cn2 cc2 pa2 pn2 pc2 cs2 ps2 w' ok2 (hc2.kept b) hcn2 (hp2.kept b) hpn2 hW hH hm2
  have hmul : Wd * Hi ≤ 20 * 20 := Nat.mul_le_mul hW hH
  have HEQ : Hid (∀ (a : Option Addr) (ca : Nat) (b : Option Addr) (cb : Nat) (w : World), Ints w a (upto (ptF Wd (colF k D cs Wd ps)) (Wd * Hi)) → Ints w b (upto (ptF Wd (colF k2 D2 cs2 Wd ps2)) (Wd * Hi)) → Calls Try.prog 46 #[.slice a (Wd * Hi) ca, .slice b (Wd * Hi) cb] w fun e w' => e = .returned (.bool (decide (cols k D cs ps = cols k2 D2 cs2 ps2))) ∧ ∃ q, w' = w.drewN q) := fun a ca b cb w h1 h2 => by
    have := equal_any a (Wd * Hi) ca _ b (Wd * Hi) cb _ w h1 h2 (upto_length _ _) (upto_length _ _) (by omega) (by omega)
    rw [cols_upto k D cs ps Wd Hi (by omega), cols_upto k2 D2 cs2 ps2 Wd Hi (by omega)] at this
    exact this
  clear hOA hOB ok ok2 hc hcn hp hpn hc2 hcn2 hp2 hpn2 hm hm2 hmul
  go_enter Try.func15, Try.ntmps15
  go_wp2_with fail
  refine (HOA.out _ hB0).mono ?_
  rintro e w1 ⟨rfl, b1⟩
  have A1 : Hid (Bx w1 w.heap.size (.int .i64 k) (.int .i64 (D : Int)) (.int .i64 (Wd : Int)) (.int .i64 (Hi : Int)) (.slice ca cn cc) (.slice pa pn pc)) := A0.out.kept b1
  have B1 : Hid (Bx w1 (w.heap.size + 1) (.int .i64 k2) (.int .i64 (D2 : Int)) (.int .i64 (Wd : Int)) (.int .i64 (Hi : Int)) (.slice ca2 cn2 cc2) (.slice pa2 pn2 pc2)) := B0.out.kept b1
  have bel1 : Below w.heap.size w w1 := hB0.trans (b1.mono hB0.size)
  clear b1 hB0 A0 B0 HOA
  obtain ⟨_, p0, p1, p2, p3, p4, p5⟩ := B1.out
  go_wp2_with fail
  refine (HOB.out _ bel1).mono ?_
  rintro e w2 ⟨rfl, b2⟩
  have A2 : Hid (Bx w2 w.heap.size (.int .i64 k) (.int .i64 (D : Int)) (.int .i64 (Wd : Int)) (.int .i64 (Hi : Int)) (.slice ca cn cc) (.slice pa pn pc)) := A1.out.kept b2
  have B2 : Hid (Bx w2 (w.heap.size + 1) (.int .i64 k2) (.int .i64 (D2 : Int)) (.int .i64 (Wd : Int)) (.int .i64 (Hi : Int)) (.slice ca2 cn2 cc2) (.slice pa2 pn2 pc2)) := B1.out.kept b2
  have bel2 : Below w.heap.size w w2 := bel1.trans (b2.mono bel1.size)
  clear b2 bel1 A1 B1 HOB p0 p1 p2 p3 p4 p5
  obtain ⟨_, a0, a1, a2, a3, a4, a5⟩ := A2.out
  obtain ⟨_, p0, p1, p2, p3, p4, p5⟩ := B2.out
  go_wp2_with fail
  go_region_held3 (fun w' => w'.cell? ⟨w.heap.size, 0, none⟩ = some (.int .i64 k) ∧ w'.cell? ⟨w.heap.size, 1, none⟩ = some (.int .i64 (D : Int)) ∧ w'.cell? ⟨w.heap.size, 2, none⟩ = some (.int .i64 (Wd : Int)) ∧ w'.cell? ⟨w.heap.size, 3, none⟩ = some (.int .i64 (Hi : Int)) ∧ w'.cell? ⟨w.heap.size, 4, none⟩ = some (.slice ca cn cc) ∧ w'.cell? ⟨w.heap.size, 5, none⟩ = some (.slice pa pn pc) ∧ w'.cell? ⟨w.heap.size + 1, 0, none⟩ = some (.int .i64 k2) ∧ w'.cell? ⟨w.heap.size + 1, 1, none⟩ = some (.int .i64 (D2 : Int)) ∧ w'.cell? ⟨w.heap.size + 1, 2, none⟩ = some (.int .i64 (Wd : Int)) ∧ w'.cell? ⟨w.heap.size + 1, 3, none⟩ = some (.int .i64 (Hi : Int)) ∧ w'.cell? ⟨w.heap.size + 1, 4, none⟩ = some (.slice ca2 cn2 cc2) ∧ w'.cell? ⟨w.heap.size + 1, 5, none⟩ = some (.slice pa2 pn2 pc2)) (go_keep) (first | (go_at_call_of 31 (Value.slice pa pn pc); refine (HCA.out _ bel2.drew).mono ?_; rintro e w3 ⟨⟨V3, fs3, rs3, fa3, ra3, rfl, S3⟩, b3⟩; have b3' : Below w2.heap.size w2 w3 := box_drew b3; have bel3 : Below w.heap.size w w3 := bel2.trans (b3'.mono bel2.size); have A3 : Hid (Bx w3 w.heap.size (.int .i64 k) (.int .i64 (D : Int)) (.int .i64 (Wd : Int)) (.int .i64 (Hi : Int)) (.slice ca cn cc) (.slice pa pn pc)) := A2.out.kept b3'; have B3 : Hid (Bx w3 (w.heap.size + 1) (.int .i64 k2) (.int .i64 (D2 : Int)) (.int .i64 (Wd : Int)) (.int .i64 (Hi : Int)) (.slice ca2 cn2 cc2) (.slice pa2 pn2 pc2)) := B2.out.kept b3'; obtain ⟨_, m0, m1, m2, m3, m4, m5⟩ := A3.out; obtain ⟨_, n0, n1, n2, n3, n4, n5⟩ := B3.out; have G3 : Hid (Calls Try.prog 47 #[.func (.func 62) #[] #[.pointer (some ⟨w3.heap.size, 0, none⟩)]] (w3.alloc (.cells #[.iface 54 V3] 50)) fun e W' => (∃ y cy, e = .returned (.slice y (Wd * Hi) cy) ∧ Ints W' y (upto (ptF Wd (colF k D cs Wd ps)) (Wd * Hi))) ∧ Below w3.heap.size w3 W') := gathered 54 V3 fs3 rs3 fa3 ra3 Wd Hi _ hW hH w3 S3; clear S3) | (go_at_call_of 30 V3; refine (pointsOf_any _ V3 _).mono ?_; rintro e w4 ⟨rfl, hw4⟩; subst hw4) | (go_at_call_of 47 (Value.pointer (some ⟨w3.heap.size, 0, none⟩)); refine G3.out.mono ?_; rintro e w5 ⟨⟨y5, cy5, rfl, I5⟩, b5⟩; have bel5 : Below w.heap.size w w5 := bel3.trans (b5.mono bel3.size); have HI5 : Hid (Ints w5 y5 (upto (ptF Wd (colF k D cs Wd ps)) (Wd * Hi))) := I5; clear m0 m1 m2 m3 m4 m5 n0 n1 n2 n3 n4 n5 I5; have A5 : Hid (Bx w5 w.heap.size (.int .i64 k) (.int .i64 (D : Int)) (.int .i64 (Wd : Int)) (.int .i64 (Hi : Int)) (.slice ca cn cc) (.slice pa pn pc)) := A3.out.kept b5; have B5 : Hid (Bx w5 (w.heap.size + 1) (.int .i64 k2) (.int .i64 (D2 : Int)) (.int .i64 (Wd : Int)) (.int .i64 (Hi : Int)) (.slice ca2 cn2 cc2) (.slice pa2 pn2 pc2)) := B3.out.kept b5; obtain ⟨_, m0, m1, m2, m3, m4, m5⟩ := A5.out; obtain ⟨_, n0, n1, n2, n3, n4, n5⟩ := B5.out) | (go_at_call_of 31 (Value.slice pa2 pn2 pc2); refine (HCB.out _ bel5).mono ?_; rintro e w6 ⟨⟨V6, fs6, rs6, fa6, ra6, rfl, S6⟩, b6⟩; have bel6 : Below w.heap.size w w6 := bel5.trans (b6.mono bel5.size); clear m0 m1 m2 m3 m4 m5 n0 n1 n2 n3 n4 n5; have A6 : Hid (Bx w6 w.heap.size (.int .i64 k) (.int .i64 (D : Int)) (.int .i64 (Wd : Int)) (.int .i64 (Hi : Int)) (.slice ca cn cc) (.slice pa pn pc)) := A5.out.kept b6; have B6 : Hid (Bx w6 (w.heap.size + 1) (.int .i64 k2) (.int .i64 (D2 : Int)) (.int .i64 (Wd : Int)) (.int .i64 (Hi : Int)) (.slice ca2 cn2 cc2) (.slice pa2 pn2 pc2)) := B5.out.kept b6; obtain ⟨_, m0, m1, m2, m3, m4, m5⟩ := A6.out; obtain ⟨_, n0, n1, n2, n3, n4, n5⟩ := B6.out; have G6 : Hid (Calls Try.prog 47 #[.func (.func 62) #[] #[.pointer (some ⟨w6.heap.size, 0, none⟩)]] (w6.alloc (.cells #[.iface 54 V6] 50)) fun e W' => (∃ y cy, e = .returned (.slice y (Wd * Hi) cy) ∧ Ints W' y (upto (ptF Wd (colF k2 D2 cs2 Wd ps2)) (Wd * Hi))) ∧ Below w6.heap.size w6 W') := gathered 54 V6 fs6 rs6 fa6 ra6 Wd Hi _ hW hH w6 S6; have HI6 : Hid (Ints w6 y5 (upto (ptF Wd (colF k D cs Wd ps)) (Wd * Hi))) := HI5.out.kept b6; clear S6) | (go_at_call_of 30 V6; refine (pointsOf_any _ V6 _).mono ?_; rintro e w7 ⟨rfl, hw7⟩; subst hw7) | (go_at_call_of 47 (Value.pointer (some ⟨w6.heap.size, 0, none⟩)); refine G6.out.mono ?_; rintro e w8 ⟨⟨y8, cy8, rfl, I8⟩, b8⟩; have bel8 : Below w.heap.size w w8 := bel6.trans (b8.mono bel6.size); have HI8 : Hid (Ints w8 y5 (upto (ptF Wd (colF k D cs Wd ps)) (Wd * Hi)) ∧ Ints w8 y8 (upto (ptF Wd (colF k2 D2 cs2 Wd ps2)) (Wd * Hi))) := ⟨HI6.out.kept b8, I8⟩; clear m0 m1 m2 m3 m4 m5 n0 n1 n2 n3 n4 n5 I8; have A8 : Hid (Bx w8 w.heap.size (.int .i64 k) (.int .i64 (D : Int)) (.int .i64 (Wd : Int)) (.int .i64 (Hi : Int)) (.slice ca cn cc) (.slice pa pn pc)) := A6.out.kept b8; have B8 : Hid (Bx w8 (w.heap.size + 1) (.int .i64 k2) (.int .i64 (D2 : Int)) (.int .i64 (Wd : Int)) (.int .i64 (Hi : Int)) (.slice ca2 cn2 cc2) (.slice pa2 pn2 pc2)) := B6.out.kept b8; obtain ⟨_, m0, m1, m2, m3, m4, m5⟩ := A8.out; obtain ⟨_, n0, n1, n2, n3, n4, n5⟩ := B8.out) | (go_at_call 46; refine (HEQ.out y5 cy5 y8 cy8 w8 HI8.out.1 HI8.out.2).mono ?_; rintro e w9 ⟨rfl, q9, hw9⟩; have bel9 : Below w.heap.size w w9 := (by rw [hw9]; exact below_drewN bel8 _); have b9 : Below w8.heap.size w8 w9 := (by rw [hw9]; exact below_drewN (Below.refl _ _) _); clear hw9 m0 m1 m2 m3 m4 m5 n0 n1 n2 n3 n4 n5; have A9 : Hid (Bx w9 w.heap.size (.int .i64 k) (.int .i64 (D : Int)) (.int .i64 (Wd : Int)) (.int .i64 (Hi : Int)) (.slice ca cn cc) (.slice pa pn pc)) := A8.out.kept b9; have B9 : Hid (Bx w9 (w.heap.size + 1) (.int .i64 k2) (.int .i64 (D2 : Int)) (.int .i64 (Wd : Int)) (.int .i64 (Hi : Int)) (.slice ca2 cn2 cc2) (.slice pa2 pn2 pc2)) := B8.out.kept b9; obtain ⟨_, m0, m1, m2, m3, m4, m5⟩ := A9.out; obtain ⟨_, n0, n1, n2, n3, n4, n5⟩ := B9.out))
  all_goals
    clear m0 m1 m2 m3 m4 m5 n0 n1 n2 n3 n4 n5 a0 a1 a2 a3 a4 a5 p0 p1 p2 p3 p4 p5 HCA HCB HEQ
    go_wp2_with fail
    go_ret
    exact ⟨rfl, bel9⟩
end Go.Proofs.Ytchaepkdpbiffaa

/- ImageLike of the specification. -/
namespace Go.Proofs.Ytchaepkdpbiffaa
open Go.RowKit

set_option maxHeartbeats 1000000 in
set_option maxRecDepth 20000 in
theorem spec_like_bad1 (k d wd hi : Int) (ca : Option Addr) (cn cc : Nat) (pa : Option Addr) (pn pc : Nat) (k2 d2 wd2 hi2 : Int) (ca2 : Option Addr) (cn2 cc2 : Nat) (pa2 : Option Addr) (pn2 pc2 : Nat) (w : World) (hOA : (∀ w', Below w.heap.size w w' → Calls Try.prog 13 #[.agg #[.int .i64 k, .int .i64 d, .int .i64 wd, .int .i64 hi, .slice ca cn cc, .slice pa pn pc]] w' fun e w'' => e = .returned (.bool false) ∧ Below w'.heap.size w' w'')) :
    Calls Try.prog 21 #[.agg #[.int .i64 k, .int .i64 d, .int .i64 wd, .int .i64 hi, .slice ca cn cc, .slice pa pn pc], .agg #[.int .i64 k2, .int .i64 d2, .int .i64 wd2, .int .i64 hi2, .slice ca2 cn2 cc2, .slice pa2 pn2 pc2]] w fun e w' => e = .returned (.bool false) ∧ Below w.heap.size w w' := by
  have hB0 : Below w.heap.size w ((w.alloc (.cells #[.int .i64 k, .int .i64 d, .int .i64 wd, .int .i64 hi, .slice ca cn cc, .slice pa pn pc] 25)).alloc (.cells #[.int .i64 k2, .int .i64 d2, .int .i64 wd2, .int .i64 hi2, .slice ca2 cn2 cc2, .slice pa2 pn2 pc2] 25)) := ((Below.refl _ _).alloc (Nat.le_refl _) _).alloc (by simp) _
  have A0 : Hid (Bx ((w.alloc (.cells #[.int .i64 k, .int .i64 d, .int .i64 wd, .int .i64 hi, .slice ca cn cc, .slice pa pn pc] 25)).alloc (.cells #[.int .i64 k2, .int .i64 d2, .int .i64 wd2, .int .i64 hi2, .slice ca2 cn2 cc2, .slice pa2 pn2 pc2] 25)) w.heap.size (.int .i64 k) (.int .i64 d) (.int .i64 wd) (.int .i64 hi) (.slice ca cn cc) (.slice pa pn pc)) := (bx_new w _ _ _ _ _ _ 25).kept ((Below.refl _ _).alloc (Nat.le_refl _) _)
  have B0 : Hid (Bx ((w.alloc (.cells #[.int .i64 k, .int .i64 d, .int .i64 wd, .int .i64 hi, .slice ca cn cc, .slice pa pn pc] 25)).alloc (.cells #[.int .i64 k2, .int .i64 d2, .int .i64 wd2, .int .i64 hi2, .slice ca2 cn2 cc2, .slice pa2 pn2 pc2] 25)) (w.heap.size + 1) (.int .i64 k2) (.int .i64 d2) (.int .i64 wd2) (.int .i64 hi2) (.slice ca2 cn2 cc2) (.slice pa2 pn2 pc2)) := by
    have := bx_new (w.alloc (.cells #[.int .i64 k, .int .i64 d, .int .i64 wd, .int .i64 hi, .slice ca cn cc, .slice pa pn pc] 25)) (.int .i64 k2) (.int .i64 d2) (.int .i64 wd2) (.int .i64 hi2) (.slice ca2 cn2 cc2) (.slice pa2 pn2 pc2) 25
    rw [World.size_alloc] at this; exact this
  have HOA : Hid (∀ w', Below w.heap.size w w' → Calls Try.prog 13 #[.agg #[.int .i64 k, .int .i64 d, .int .i64 wd, .int .i64 hi, .slice ca cn cc, .slice pa pn pc]] w' fun e w'' => e = .returned (.bool false) ∧ Below w'.heap.size w' w'') := hOA
  clear hOA
  go_enter Try.func21, Try.ntmps21
  go_wp2_with fail
  refine (HOA.out _ hB0).mono ?_
  rintro e w1 ⟨rfl, b1⟩
  have A1 : Hid (Bx w1 w.heap.size (.int .i64 k) (.int .i64 d) (.int .i64 wd) (.int .i64 hi) (.slice ca cn cc) (.slice pa pn pc)) := A0.out.kept b1
  have B1 : Hid (Bx w1 (w.heap.size + 1) (.int .i64 k2) (.int .i64 d2) (.int .i64 wd2) (.int .i64 hi2) (.slice ca2 cn2 cc2) (.slice pa2 pn2 pc2)) := B0.out.kept b1
  have bel1 : Below w.heap.size w w1 := hB0.trans (b1.mono hB0.size)
  clear b1 hB0 A0 B0 HOA
  clear A1 B1
  go_wp2_with fail
  go_ret
  exact ⟨rfl, bel1⟩

set_option maxHeartbeats 1000000 in
set_option maxRecDepth 20000 in
theorem spec_like_bad2 (k d wd hi : Int) (ca : Option Addr) (cn cc : Nat) (pa : Option Addr) (pn pc : Nat) (k2 d2 wd2 hi2 : Int) (ca2 : Option Addr) (cn2 cc2 : Nat) (pa2 : Option Addr) (pn2 pc2 : Nat) (w : World) (hOA : (∀ w', Below w.heap.size w w' → Calls Try.prog 13 #[.agg #[.int .i64 k, .int .i64 d, .int .i64 wd, .int .i64 hi, .slice ca cn cc, .slice pa pn pc]] w' fun e w'' => e = .returned (.bool true) ∧ Below w'.heap.size w' w'')) (hOB : (∀ w', Below w.heap.size w w' → Calls Try.prog 13 #[.agg #[.int .i64 k2, .int .i64 d2, .int .i64 wd2, .int .i64 hi2, .slice ca2 cn2 cc2, .slice pa2 pn2 pc2]] w' fun e w'' => e = .returned (.bool false) ∧ Below w'.heap.size w' w'')) :
    Calls Try.prog 21 #[.agg #[.int .i64 k, .int .i64 d, .int .i64 wd, .int .i64 hi, .slice ca cn cc, .slice pa pn pc], .agg #[.int .i64 k2, .int .i64 d2, .int .i64 wd2, .int .i64 hi2, .slice ca2 cn2 cc2, .slice pa2 pn2 pc2]] w fun e w' => e = .returned (.bool false) ∧ Below w.heap.size w w' := by
  have hB0 : Below w.heap.size w ((w.alloc (.cells #[.int .i64 k, .int .i64 d, .int .i64 wd, .int .i64 hi, .slice ca cn cc, .slice pa pn pc] 25)).alloc (.cells #[.int .i64 k2, .int .i64 d2, .int .i64 wd2, .int .i64 hi2, .slice ca2 cn2 cc2, .slice pa2 pn2 pc2] 25)) := ((Below.refl _ _).alloc (Nat.le_refl _) _).alloc (by simp) _
  have A0 : Hid (Bx ((w.alloc (.cells #[.int .i64 k, .int .i64 d, .int .i64 wd, .int .i64 hi, .slice ca cn cc, .slice pa pn pc] 25)).alloc (.cells #[.int .i64 k2, .int .i64 d2, .int .i64 wd2, .int .i64 hi2, .slice ca2 cn2 cc2, .slice pa2 pn2 pc2] 25)) w.heap.size (.int .i64 k) (.int .i64 d) (.int .i64 wd) (.int .i64 hi) (.slice ca cn cc) (.slice pa pn pc)) := (bx_new w _ _ _ _ _ _ 25).kept ((Below.refl _ _).alloc (Nat.le_refl _) _)
  have B0 : Hid (Bx ((w.alloc (.cells #[.int .i64 k, .int .i64 d, .int .i64 wd, .int .i64 hi, .slice ca cn cc, .slice pa pn pc] 25)).alloc (.cells #[.int .i64 k2, .int .i64 d2, .int .i64 wd2, .int .i64 hi2, .slice ca2 cn2 cc2, .slice pa2 pn2 pc2] 25)) (w.heap.size + 1) (.int .i64 k2) (.int .i64 d2) (.int .i64 wd2) (.int .i64 hi2) (.slice ca2 cn2 cc2) (.slice pa2 pn2 pc2)) := by
    have := bx_new (w.alloc (.cells #[.int .i64 k, .int .i64 d, .int .i64 wd, .int .i64 hi, .slice ca cn cc, .slice pa pn pc] 25)) (.int .i64 k2) (.int .i64 d2) (.int .i64 wd2) (.int .i64 hi2) (.slice ca2 cn2 cc2) (.slice pa2 pn2 pc2) 25
    rw [World.size_alloc] at this; exact this
  have HOA : Hid (∀ w', Below w.heap.size w w' → Calls Try.prog 13 #[.agg #[.int .i64 k, .int .i64 d, .int .i64 wd, .int .i64 hi, .slice ca cn cc, .slice pa pn pc]] w' fun e w'' => e = .returned (.bool true) ∧ Below w'.heap.size w' w'') := hOA
  have HOB : Hid (∀ w', Below w.heap.size w w' → Calls Try.prog 13 #[.agg #[.int .i64 k2, .int .i64 d2, .int .i64 wd2, .int .i64 hi2, .slice ca2 cn2 cc2, .slice pa2 pn2 pc2]] w' fun e w'' => e = .returned (.bool false) ∧ Below w'.heap.size w' w'') := hOB
  clear hOA hOB
  go_enter Try.func21, Try.ntmps21
  go_wp2_with fail
  refine (HOA.out _ hB0).mono ?_
  rintro e w1 ⟨rfl, b1⟩
  have A1 : Hid (Bx w1 w.heap.size (.int .i64 k) (.int .i64 d) (.int .i64 wd) (.int .i64 hi) (.slice ca cn cc) (.slice pa pn pc)) := A0.out.kept b1
  have B1 : Hid (Bx w1 (w.heap.size + 1) (.int .i64 k2) (.int .i64 d2) (.int .i64 wd2) (.int .i64 hi2) (.slice ca2 cn2 cc2) (.slice pa2 pn2 pc2)) := B0.out.kept b1
  have bel1 : Below w.heap.size w w1 := hB0.trans (b1.mono hB0.size)
  clear b1 hB0 A0 B0 HOA
  obtain ⟨_, p0, p1, p2, p3, p4, p5⟩ := B1.out
  go_wp2_with fail
  refine (HOB.out _ bel1).mono ?_
  rintro e w2 ⟨rfl, b2⟩
  have A2 : Hid (Bx w2 w.heap.size (.int .i64 k) (.int .i64 d) (.int .i64 wd) (.int .i64 hi) (.slice ca cn cc) (.slice pa pn pc)) := A1.out.kept b2
  have B2 : Hid (Bx w2 (w.heap.size + 1) (.int .i64 k2) (.int .i64 d2) (.int .i64 wd2) (.int .i64 hi2) (.slice ca2 cn2 cc2) (.slice pa2 pn2 pc2)) := B1.out.kept b2
  have bel2 : Below w.heap.size w w2 := bel1.trans (b2.mono bel1.size)
  clear b2 bel1 A1 B1 HOB p0 p1 p2 p3 p4 p5
  obtain ⟨_, a0, a1, a2, a3, a4, a5⟩ := A2.out
  obtain ⟨_, p0, p1, p2, p3, p4, p5⟩ := B2.out
  clear A2 B2
  go_wp2_with fail
  go_ret
  exact ⟨rfl, bel2⟩

set_option maxHeartbeats 1000000 in
set_option maxRecDepth 20000 in
theorem spec_like_wide (k d wd hi : Int) (ca : Option Addr) (cn cc : Nat) (pa : Option Addr) (pn pc : Nat) (k2 d2 wd2 hi2 : Int) (ca2 : Option Addr) (cn2 cc2 : Nat) (pa2 : Option Addr) (pn2 pc2 : Nat) (w : World) (hno : ¬ wd = wd2) (hOA : (∀ w', Below w.heap.size w w' → Calls Try.prog 13 #[.agg #[.int .i64 k, .int .i64 d, .int .i64 wd, .int .i64 hi, .slice ca cn cc, .slice pa pn pc]] w' fun e w'' => e = .returned (.bool true) ∧ Below w'.heap.size w' w'')) (hOB : (∀ w', Below w.heap.size w w' → Calls Try.prog 13 #[.agg #[.int .i64 k2, .int .i64 d2, .int .i64 wd2, .int .i64 hi2, .slice ca2 cn2 cc2, .slice pa2 pn2 pc2]] w' fun e w'' => e = .returned (.bool true) ∧ Below w'.heap.size w' w'')) :
    Calls Try.prog 21 #[.agg #[.int .i64 k, .int .i64 d, .int .i64 wd, .int .i64 hi, .slice ca cn cc, .slice pa pn pc], .agg #[.int .i64 k2, .int .i64 d2, .int .i64 wd2, .int .i64 hi2, .slice ca2 cn2 cc2, .slice pa2 pn2 pc2]] w fun e w' => e = .returned (.bool false) ∧ Below w.heap.size w w' := by
  have hB0 : Below w.heap.size w ((w.alloc (.cells #[.int .i64 k, .int .i64 d, .int .i64 wd, .int .i64 hi, .slice ca cn cc, .slice pa pn pc] 25)).alloc (.cells #[.int .i64 k2, .int .i64 d2, .int .i64 wd2, .int .i64 hi2, .slice ca2 cn2 cc2, .slice pa2 pn2 pc2] 25)) := ((Below.refl _ _).alloc (Nat.le_refl _) _).alloc (by simp) _
  have A0 : Hid (Bx ((w.alloc (.cells #[.int .i64 k, .int .i64 d, .int .i64 wd, .int .i64 hi, .slice ca cn cc, .slice pa pn pc] 25)).alloc (.cells #[.int .i64 k2, .int .i64 d2, .int .i64 wd2, .int .i64 hi2, .slice ca2 cn2 cc2, .slice pa2 pn2 pc2] 25)) w.heap.size (.int .i64 k) (.int .i64 d) (.int .i64 wd) (.int .i64 hi) (.slice ca cn cc) (.slice pa pn pc)) := (bx_new w _ _ _ _ _ _ 25).kept ((Below.refl _ _).alloc (Nat.le_refl _) _)
  have B0 : Hid (Bx ((w.alloc (.cells #[.int .i64 k, .int .i64 d, .int .i64 wd, .int .i64 hi, .slice ca cn cc, .slice pa pn pc] 25)).alloc (.cells #[.int .i64 k2, .int .i64 d2, .int .i64 wd2, .int .i64 hi2, .slice ca2 cn2 cc2, .slice pa2 pn2 pc2] 25)) (w.heap.size + 1) (.int .i64 k2) (.int .i64 d2) (.int .i64 wd2) (.int .i64 hi2) (.slice ca2 cn2 cc2) (.slice pa2 pn2 pc2)) := by
    have := bx_new (w.alloc (.cells #[.int .i64 k, .int .i64 d, .int .i64 wd, .int .i64 hi, .slice ca cn cc, .slice pa pn pc] 25)) (.int .i64 k2) (.int .i64 d2) (.int .i64 wd2) (.int .i64 hi2) (.slice ca2 cn2 cc2) (.slice pa2 pn2 pc2) 25
    rw [World.size_alloc] at this; exact this
  have HOA : Hid (∀ w', Below w.heap.size w w' → Calls Try.prog 13 #[.agg #[.int .i64 k, .int .i64 d, .int .i64 wd, .int .i64 hi, .slice ca cn cc, .slice pa pn pc]] w' fun e w'' => e = .returned (.bool true) ∧ Below w'.heap.size w' w'') := hOA
  have HOB : Hid (∀ w', Below w.heap.size w w' → Calls Try.prog 13 #[.agg #[.int .i64 k2, .int .i64 d2, .int .i64 wd2, .int .i64 hi2, .slice ca2 cn2 cc2, .slice pa2 pn2 pc2]] w' fun e w'' => e = .returned (.bool true) ∧ Below w'.heap.size w' w'') := hOB
  clear hOA hOB
  have hbne : (wd == wd2) = false := by rw [beq_eq_false_iff_ne]; exact hno
  go_enter Try.func21, Try.ntmps21
  go_wp2_with fail
  refine (HOA.out _ hB0).mono ?_
  rintro e w1 ⟨rfl, b1⟩
  have A1 : Hid (Bx w1 w.heap.size (.int .i64 k) (.int .i64 d) (.int .i64 wd) (.int .i64 hi) (.slice ca cn cc) (.slice pa pn pc)) := A0.out.kept b1
  have B1 : Hid (Bx w1 (w.heap.size + 1) (.int .i64 k2) (.int .i64 d2) (.int .i64 wd2) (.int .i64 hi2) (.slice ca2 cn2 cc2) (.slice pa2 pn2 pc2)) := B0.out.kept b1
  have bel1 : Below w.heap.size w w1 := hB0.trans (b1.mono hB0.size)
  clear b1 hB0 A0 B0 HOA
  obtain ⟨_, p0, p1, p2, p3, p4, p5⟩ := B1.out
  go_wp2_with fail
  refine (HOB.out _ bel1).mono ?_
  rintro e w2 ⟨rfl, b2⟩
  have A2 : Hid (Bx w2 w.heap.size (.int .i64 k) (.int .i64 d) (.int .i64 wd) (.int .i64 hi) (.slice ca cn cc) (.slice pa pn pc)) := A1.out.kept b2
  have B2 : Hid (Bx w2 (w.heap.size + 1) (.int .i64 k2) (.int .i64 d2) (.int .i64 wd2) (.int .i64 hi2) (.slice ca2 cn2 cc2) (.slice pa2 pn2 pc2)) := B1.out.kept b2
  have bel2 : Below w.heap.size w w2 := bel1.trans (b2.mono bel1.size)
  clear b2 bel1 A1 B1 HOB p0 p1 p2 p3 p4 p5
  obtain ⟨_, a0, a1, a2, a3, a4, a5⟩ := A2.out
  obtain ⟨_, p0, p1, p2, p3, p4, p5⟩ := B2.out
  clear A2 B2
  go_wp2_with fail
  go_ret
  exact ⟨rfl, bel2⟩

set_option maxHeartbeats 1000000 in
set_option maxRecDepth 20000 in
theorem spec_like_high (k d wd hi : Int) (ca : Option Addr) (cn cc : Nat) (pa : Option Addr) (pn pc : Nat) (k2 d2 hi2 : Int) (ca2 : Option Addr) (cn2 cc2 : Nat) (pa2 : Option Addr) (pn2 pc2 : Nat) (w : World) (hno : ¬ hi = hi2) (hOA : (∀ w', Below w.heap.size w w' → Calls Try.prog 13 #[.agg #[.int .i64 k, .int .i64 d, .int .i64 wd, .int .i64 hi, .slice ca cn cc, .slice pa pn pc]] w' fun e w'' => e = .returned (.bool true) ∧ Below w'.heap.size w' w'')) (hOB : (∀ w', Below w.heap.size w w' → Calls Try.prog 13 #[.agg #[.int .i64 k2, .int .i64 d2, .int .i64 wd, .int .i64 hi2, .slice ca2 cn2 cc2, .slice pa2 pn2 pc2]] w' fun e w'' => e = .returned (.bool true) ∧ Below w'.heap.size w' w'')) :
    Calls Try.prog 21 #[.agg #[.int .i64 k, .int .i64 d, .int .i64 wd, .int .i64 hi, .slice ca cn cc, .slice pa pn pc], .agg #[.int .i64 k2, .int .i64 d2, .int .i64 wd, .int .i64 hi2, .slice ca2 cn2 cc2, .slice pa2 pn2 pc2]] w fun e w' => e = .returned (.bool false) ∧ Below w.heap.size w w' := by
  have hB0 : Below w.heap.size w ((w.alloc (.cells #[.int .i64 k, .int .i64 d, .int .i64 wd, .int .i64 hi, .slice ca cn cc, .slice pa pn pc] 25)).alloc (.cells #[.int .i64 k2, .int .i64 d2, .int .i64 wd, .int .i64 hi2, .slice ca2 cn2 cc2, .slice pa2 pn2 pc2] 25)) := ((Below.refl _ _).alloc (Nat.le_refl _) _).alloc (by simp) _
  have A0 : Hid (Bx ((w.alloc (.cells #[.int .i64 k, .int .i64 d, .int .i64 wd, .int .i64 hi, .slice ca cn cc, .slice pa pn pc] 25)).alloc (.cells #[.int .i64 k2, .int .i64 d2, .int .i64 wd, .int .i64 hi2, .slice ca2 cn2 cc2, .slice pa2 pn2 pc2] 25)) w.heap.size (.int .i64 k) (.int .i64 d) (.int .i64 wd) (.int .i64 hi) (.slice ca cn cc) (.slice pa pn pc)) := (bx_new w _ _ _ _ _ _ 25).kept ((Below.refl _ _).alloc (Nat.le_refl _) _)
  have B0 : Hid (Bx ((w.alloc (.cells #[.int .i64 k, .int .i64 d, .int .i64 wd, .int .i64 hi, .slice ca cn cc, .slice pa pn pc] 25)).alloc (.cells #[.int .i64 k2, .int .i64 d2, .int .i64 wd, .int .i64 hi2, .slice ca2 cn2 cc2, .slice pa2 pn2 pc2] 25)) (w.heap.size + 1) (.int .i64 k2) (.int .i64 d2) (.int .i64 wd) (.int .i64 hi2) (.slice ca2 cn2 cc2) (.slice pa2 pn2 pc2)) := by
    have := bx_new (w.alloc (.cells #[.int .i64 k, .int .i64 d, .int .i64 wd, .int .i64 hi, .slice ca cn cc, .slice pa pn pc] 25)) (.int .i64 k2) (.int .i64 d2) (.int .i64 wd) (.int .i64 hi2) (.slice ca2 cn2 cc2) (.slice pa2 pn2 pc2) 25
    rw [World.size_alloc] at this; exact this
  have HOA : Hid (∀ w', Below w.heap.size w w' → Calls Try.prog 13 #[.agg #[.int .i64 k, .int .i64 d, .int .i64 wd, .int .i64 hi, .slice ca cn cc, .slice pa pn pc]] w' fun e w'' => e = .returned (.bool true) ∧ Below w'.heap.size w' w'') := hOA
  have HOB : Hid (∀ w', Below w.heap.size w w' → Calls Try.prog 13 #[.agg #[.int .i64 k2, .int .i64 d2, .int .i64 wd, .int .i64 hi2, .slice ca2 cn2 cc2, .slice pa2 pn2 pc2]] w' fun e w'' => e = .returned (.bool true) ∧ Below w'.heap.size w' w'') := hOB
  clear hOA hOB
  have hbne : (hi == hi2) = false := by rw [beq_eq_false_iff_ne]; exact hno
  go_enter Try.func21, Try.ntmps21
  go_wp2_with fail
  refine (HOA.out _ hB0).mono ?_
  rintro e w1 ⟨rfl, b1⟩
  have A1 : Hid (Bx w1 w.heap.size (.int .i64 k) (.int .i64 d) (.int .i64 wd) (.int .i64 hi) (.slice ca cn cc) (.slice pa pn pc)) := A0.out.kept b1
  have B1 : Hid (Bx w1 (w.heap.size + 1) (.int .i64 k2) (.int .i64 d2) (.int .i64 wd) (.int .i64 hi2) (.slice ca2 cn2 cc2) (.slice pa2 pn2 pc2)) := B0.out.kept b1
  have bel1 : Below w.heap.size w w1 := hB0.trans (b1.mono hB0.size)
  clear b1 hB0 A0 B0 HOA
  obtain ⟨_, p0, p1, p2, p3, p4, p5⟩ := B1.out
  go_wp2_with fail
  refine (HOB.out _ bel1).mono ?_
  rintro e w2 ⟨rfl, b2⟩
  have A2 : Hid (Bx w2 w.heap.size (.int .i64 k) (.int .i64 d) (.int .i64 wd) (.int .i64 hi) (.slice ca cn cc) (.slice pa pn pc)) := A1.out.kept b2
  have B2 : Hid (Bx w2 (w.heap.size + 1) (.int .i64 k2) (.int .i64 d2) (.int .i64 wd) (.int .i64 hi2) (.slice ca2 cn2 cc2) (.slice pa2 pn2 pc2)) := B1.out.kept b2
  have bel2 : Below w.heap.size w w2 := bel1.trans (b2.mono bel1.size)
  clear b2 bel1 A1 B1 HOB p0 p1 p2 p3 p4 p5
  obtain ⟨_, a0, a1, a2, a3, a4, a5⟩ := A2.out
  obtain ⟨_, p0, p1, p2, p3, p4, p5⟩ := B2.out
  clear A2 B2
  go_wp2_with fail
  go_ret
  exact ⟨rfl, bel2⟩

set_option maxHeartbeats 8000000 in
set_option maxRecDepth 20000 in
theorem spec_like_yes (k : Int) (D Wd Hi : Nat) (ca : Option Addr) (cn cc : Nat) (pa : Option Addr) (pn pc : Nat) (k2 : Int) (D2 : Nat) (ca2 : Option Addr) (cn2 cc2 : Nat) (pa2 : Option Addr) (pn2 pc2 : Nat) (cs ps cs2 ps2 : List Int) (w : World) (ok : Im.Ok k (D : Int) (Wd : Int) (Hi : Int) cs ps) (ok2 : Im.Ok k2 (D2 : Int) (Wd : Int) (Hi : Int) cs2 ps2) (hc : Ints w ca cs) (hcn : cs.length = cn) (hp : Ints w pa ps) (hpn : ps.length = pn) (hc2 : Ints w ca2 cs2) (hcn2 : cs2.length = cn2) (hp2 : Ints w pa2 ps2) (hpn2 : ps2.length = pn2) (hW : Wd ≤ 20) (hH : Hi ≤ 20) (hm : pn = Wd * Hi) (hm2 : pn2 = Wd * Hi)
    (hOA : (∀ w', Below w.heap.size w w' → Calls Try.prog 13 #[.agg #[.int .i64 k, .int .i64 (D : Int), .int .i64 (Wd : Int), .int .i64 (Hi : Int), .slice ca cn cc, .slice pa pn pc]] w' fun e w'' => e = .returned (.bool true) ∧ Below w'.heap.size w' w'')) (hOB : (∀ w', Below w.heap.size w w' → Calls Try.prog 13 #[.agg #[.int .i64 k2, .int .i64 (D2 : Int), .int .i64 (Wd : Int), .int .i64 (Hi : Int), .slice ca2 cn2 cc2, .slice pa2 pn2 pc2]] w' fun e w'' => e = .returned (.bool true) ∧ Below w'.heap.size w' w'')) :
    Calls Try.prog 21 #[.agg #[.int .i64 k, .int .i64 (D : Int), .int .i64 (Wd : Int), .int .i64 (Hi : Int), .slice ca cn cc, .slice pa pn pc], .agg #[.int .i64 k2, .int .i64 (D2 : Int), .int .i64 (Wd : Int), .int .i64 (Hi : Int), .slice ca2 cn2 cc2, .slice pa2 pn2 pc2]] w fun e w' => e = .returned (.bool (decide (cols k D cs ps = cols k2 D2 cs2 ps2))) ∧ Below w.heap.size w w' := by
  have hB0 : Below w.heap.size w ((w.alloc (.cells #[.int .i64 k, .int .i64 (D : Int), .int .i64 (Wd : Int), .int .i64 (Hi : Int), .slice ca cn cc, .slice pa pn pc] 25)).alloc (.cells #[.int .i64 k2, .int .i64 (D2 : Int), .int .i64 (Wd : Int), .int .i64 (Hi : Int), .slice ca2 cn2 cc2, .slice pa2 pn2 pc2] 25)) := ((Below.refl _ _).alloc (Nat.le_refl _) _).alloc (by simp) _
  have A0 : Hid (Bx ((w.alloc (.cells #[.int .i64 k, .int .i64 (D : Int), .int .i64 (Wd : Int), .int .i64 (Hi : Int), .slice ca cn cc, .slice pa pn pc] 25)).alloc (.cells #[.int .i64 k2, .int .i64 (D2 : Int), .int .i64 (Wd : Int), .int .i64 (Hi : Int), .slice ca2 cn2 cc2, .slice pa2 pn2 pc2] 25)) w.heap.size (.int .i64 k) (.int .i64 (D : Int)) (.int .i64 (Wd : Int)) (.int .i64 (Hi : Int)) (.slice ca cn cc) (.slice pa pn pc)) := (bx_new w _ _ _ _ _ _ 25).kept ((Below.refl _ _).alloc (Nat.le_refl _) _)
  have B0 : Hid (Bx ((w.alloc (.cells #[.int .i64 k, .int .i64 (D : Int), .int .i64 (Wd : Int), .int .i64 (Hi : Int), .slice ca cn cc, .slice pa pn pc] 25)).alloc (.cells #[.int .i64 k2, .int .i64 (D2 : Int), .int .i64 (Wd : Int), .int .i64 (Hi : Int), .slice ca2 cn2 cc2, .slice pa2 pn2 pc2] 25)) (w.heap.size + 1) (.int .i64 k2) (.int .i64 (D2 : Int)) (.int .i64 (Wd : Int)) (.int .i64 (Hi : Int)) (.slice ca2 cn2 cc2) (.slice pa2 pn2 pc2)) := by
    have := bx_new (w.alloc (.cells #[.int .i64 k, .int .i64 (D : Int), .int .i64 (Wd : Int), .int .i64 (Hi : Int), .slice ca cn cc, .slice pa pn pc] 25)) (.int .i64 k2) (.int .i64 (D2 : Int)) (.int .i64 (Wd : Int)) (.int .i64 (Hi : Int)) (.slice ca2 cn2 cc2) (.slice pa2 pn2 pc2) 25
    rw [World.size_alloc] at this; exact this
  have HOA : Hid (∀ w', Below w.heap.size w w' → Calls Try.prog 13 #[.agg #[.int .i64 k, .int .i64 (D : Int), .int .i64 (Wd : Int), .int .i64 (Hi : Int), .slice ca cn cc, .slice pa pn pc]] w' fun e w'' => e = .returned (.bool true) ∧ Below w'.heap.size w' w'') := hOA
  have HOB : Hid (∀ w', Below w.heap.size w w' → Calls Try.prog 13 #[.agg #[.int .i64 k2, .int .i64 (D2 : Int), .int .i64 (Wd : Int), .int .i64 (Hi : Int), .slice ca2 cn2 cc2, .slice pa2 pn2 pc2]] w' fun e w'' => e = .returned (.bool true) ∧ Below w'.heap.size w' w'') := hOB
  have HLA : Hid (∀ (x : Nat) (w' : World), Below w.heap.size w w' → PtOk k D cs x → Calls Try.prog 34 #[.agg #[.int .i64 k, .int .i64 (D : Int), .int .i64 (Wd : Int), .int .i64 (Hi : Int), .slice ca cn cc, .slice pa pn pc], .int .i64 (x : Int)] w' fun e w'' => e = .returned (.int .i64 (colOf k D cs (x : Int))) ∧ Below w'.heap.size w' w'') := fun x w' b h => l8Color_any k D x (Wd : Int) (Hi : Int) ca cn cc pa pn pc cs w' (hc.kept b) hcn h
  have HLB : Hid (∀ (x : Nat) (w' : World), Below w.heap.size w w' → PtOk k2 D2 cs2 x → Calls Try.prog 34 #[.agg #[.int .i64 k2, .int .i64 (D2 : Int), .int .i64 (Wd : Int), .int .i64 (Hi : Int), .slice ca2 cn2 cc2, .slice pa2 pn2 pc2], .int .i64 (x : Int)] w' fun e w'' => e = .returned (.int .i64 (colOf k2 D2 cs2 (x : Int))) ∧ Below w'.heap.size w' w'') := fun x w' b h => l8Color_any k2 D2 x (Wd : Int) (Hi : Int) ca2 cn2 cc2 pa2 pn2 pc2 cs2 w' (hc2.kept b) hcn2 h
  have HP : Hid (∀ w', Below w.heap.size w w' → Ints w' pa ps ∧ Ints w' pa2 ps2) := fun w' b => ⟨hp.kept b, hp2.kept b⟩
  have HPO : Hid (∀ j, j < pn → (∃ p : Nat, ps.getD j 0 = (p : Int) ∧ PtOk k D cs p) ∧ (∃ q : Nat, ps2.getD j 0 = (q : Int) ∧ PtOk k2 D2 cs2 q)) := fun j hj => ⟨Im.pt_ok ok j (by omega), Im.pt_ok ok2 j (by omega)⟩
  have HN : Hid (ps.length = pn ∧ ps2.length = pn2 ∧ pn = pn2) := ⟨hpn, hpn2, by omega⟩
  have hmul : Wd * Hi ≤ 20 * 20 := Nat.mul_le_mul hW hH
  have hpb : pn ≤ 400 := by omega
  have hpb2 : pn2 ≤ 400 := by omega
  clear hOA hOB ok ok2 hc hcn hp hpn hc2 hcn2 hp2 hpn2 hm hm2 hmul
  go_enter Try.func21, Try.ntmps21
  go_wp2_with fail
  refine (HOA.out _ hB0).mono ?_
  rintro e w1 ⟨rfl, b1⟩
  have A1 : Hid (Bx w1 w.heap.size (.int .i64 k) (.int .i64 (D : Int)) (.int .i64 (Wd : Int)) (.int .i64 (Hi : Int)) (.slice ca cn cc) (.slice pa pn pc)) := A0.out.kept b1
  have B1 : Hid (Bx w1 (w.heap.size + 1) (.int .i64 k2) (.int .i64 (D2 : Int)) (.int .i64 (Wd : Int)) (.int .i64 (Hi : Int)) (.slice ca2 cn2 cc2) (.slice pa2 pn2 pc2)) := B0.out.kept b1
  have bel1 : Below w.heap.size w w1 := hB0.trans (b1.mono hB0.size)
  clear b1 hB0 A0 B0 HOA
  obtain ⟨_, p0, p1, p2, p3, p4, p5⟩ := B1.out
  go_wp2_with fail
  refine (HOB.out _ bel1).mono ?_
  rintro e w2 ⟨rfl, b2⟩
  have A2 : Hid (Bx w2 w.heap.size (.int .i64 k) (.int .i64 (D : Int)) (.int .i64 (Wd : Int)) (.int .i64 (Hi : Int)) (.slice ca cn cc) (.slice pa pn pc)) := A1.out.kept b2
  have B2 : Hid (Bx w2 (w.heap.size + 1) (.int .i64 k2) (.int .i64 (D2 : Int)) (.int .i64 (Wd : Int)) (.int .i64 (Hi : Int)) (.slice ca2 cn2 cc2) (.slice pa2 pn2 pc2)) := B1.out.kept b2
  have bel2 : Below w.heap.size w w2 := bel1.trans (b2.mono bel1.size)
  clear b2 bel1 A1 B1 HOB p0 p1 p2 p3 p4 p5
  obtain ⟨_, a0, a1, a2, a3, a4, a5⟩ := A2.out
  obtain ⟨_, p0, p1, p2, p3, p4, p5⟩ := B2.out
  go_wp2_with fail
  clear a0 a1 a2 a3 a4 a5 p0 p1 p2 p3 p4 p5
  go_loopw [5] (fun i wr => ∃ j : Nat, j ≤ pn ∧ i = .int .i64 j ∧ (∀ t, t < j → colOf k D cs (ps.getD t 0) = colOf k2 D2 cs2 (ps2.getD t 0)) ∧ Below w2.heap.size w2 wr) (fun i _ => pn - (intOf i).toNat)
  case atStart => exact ⟨0, Nat.zero_le _, rfl, fun t ht => absurd ht (by omega), Below.refl _ _⟩
  case round =>
    obtain ⟨j, hj, rfl, hall, hbel⟩ := hrel
    have HALL : Hid (∀ t, t < j → colOf k D cs (ps.getD t 0) = colOf k2 D2 cs2 (ps2.getD t 0)) := hall
    have Ar : Hid (Bx wr w.heap.size (.int .i64 k) (.int .i64 (D : Int)) (.int .i64 (Wd : Int)) (.int .i64 (Hi : Int)) (.slice ca cn cc) (.slice pa pn pc)) := A2.out.kept hbel
    have Br : Hid (Bx wr (w.heap.size + 1) (.int .i64 k2) (.int .i64 (D2 : Int)) (.int .i64 (Wd : Int)) (.int .i64 (Hi : Int)) (.slice ca2 cn2 cc2) (.slice pa2 pn2 pc2)) := B2.out.kept hbel
    have belr : Below w.heap.size w wr := bel2.trans (hbel.mono bel2.size)
    obtain ⟨_, a0, a1, a2, a3, a4, a5⟩ := Ar.out
    obtain ⟨_, p0, p1, p2, p3, p4, p5⟩ := Br.out
    clear hall
    by_cases hlt : j < pn
    · obtain ⟨⟨p, hp, hPO1⟩, ⟨q, hq, hPO2⟩⟩ := HPO.out j hlt
      have hP1 : Hid (PtOk k D cs p) := hPO1
      have hP2 : Hid (PtOk k2 D2 cs2 q) := hPO2
      clear hPO1 hPO2
      have hj1 : j < ps.length := by have := HN.out.1; omega
      have hj2 : j < ps2.length := by have := HN.out; omega
      obtain ⟨hI1, hI2⟩ := HP.out wr belr
      rcases hI1 with h | ⟨b, off, rfl, hbl, c1⟩
      · rw [h] at hj1; simp at hj1
      · rcases hI2 with h | ⟨b2, off2, rfl, hbl2, c2⟩
        · rw [h] at hj2; simp at hj2
        · have e1 : wr.cell? ⟨b, off + j, none⟩ = some (.int .i64 (p : Int)) := by
            rw [c1 j hj1, ← hp, List.getD_eq_getElem?_getD, List.getElem?_eq_getElem hj1]; rfl
          have e2 : wr.cell? ⟨b2, off2 + j, none⟩ = some (.int .i64 (q : Int)) := by
            rw [c2 j hj2, ← hq, List.getD_eq_getElem?_getD, List.getElem?_eq_getElem hj2]; rfl
          have hji : (j : Int) < (pn : Int) := by omega
          have hji2 : (j : Int) < (pn2 : Int) := by have := HN.out; omega
          have HCC : Hid (colOf k D cs (ps.getD j 0) = colOf k D cs (p : Int) ∧ colOf k2 D2 cs2 (ps2.getD j 0) = colOf k2 D2 cs2 (q : Int)) := ⟨by rw [hp], by rw [hq]⟩
          clear c1 c2 hp hq hj1 hj2
          obtain ⟨u, hu⟩ : ∃ u, u = colOf k D cs (p : Int) := ⟨_, rfl⟩
          obtain ⟨v, hv⟩ : ∃ v, v = colOf k2 D2 cs2 (q : Int) := ⟨_, rfl⟩
          rw [← hu, ← hv] at HCC
          have HLp : Hid (∀ w' : World, Below w.heap.size w w' → Calls Try.prog 34 #[.agg #[.int .i64 k, .int .i64 (D : Int), .int .i64 (Wd : Int), .int .i64 (Hi : Int), .slice ca cn cc, .slice (some ⟨b, off, none⟩) pn pc], .int .i64 (p : Int)] w' fun e w'' => e = .returned (.int .i64 u) ∧ Below w'.heap.size w' w'') := fun w' b => by rw [hu]; exact HLA.out p w' b hP1.out
          have HLq : Hid (∀ w' : World, Below w.heap.size w w' → Calls Try.prog 34 #[.agg #[.int .i64 k2, .int .i64 (D2 : Int), .int .i64 (Wd : Int), .int .i64 (Hi : Int), .slice ca2 cn2 cc2, .slice (some ⟨b2, off2, none⟩) pn2 pc2], .int .i64 (q : Int)] w' fun e w'' => e = .returned (.int .i64 v) ∧ Below w'.heap.size w' w'') := fun w' b => by rw [hv]; exact HLB.out q w' b hP2.out
          clear hu hv HLA HLB hP1 hP2
          by_cases huv : u = v
          · have HAL2 : Hid (∀ t, t < j + 1 → colOf k D cs (ps.getD t 0) = colOf k2 D2 cs2 (ps2.getD t 0)) := fun t ht => by
              by_cases e : t < j
              · exact HALL.out t e
              · have : t = j := by omega
                subst this
                rw [HCC.out.1, HCC.out.2, huv]
            clear HALL HCC
            subst huv
            go_wp2_with fail
            go_region_held3 (fun w' => w'.cell? ⟨w.heap.size, 0, none⟩ = some (.int .i64 k) ∧ w'.cell? ⟨w.heap.size, 1, none⟩ = some (.int .i64 (D : Int)) ∧ w'.cell? ⟨w.heap.size, 2, none⟩ = some (.int .i64 (Wd : Int)) ∧ w'.cell? ⟨w.heap.size, 3, none⟩ = some (.int .i64 (Hi : Int)) ∧ w'.cell? ⟨w.heap.size, 4, none⟩ = some (.slice ca cn cc) ∧ w'.cell? ⟨w.heap.size, 5, none⟩ = some (.slice (some ⟨b, off, none⟩) pn pc) ∧ w'.cell? ⟨w.heap.size + 1, 0, none⟩ = some (.int .i64 k2) ∧ w'.cell? ⟨w.heap.size + 1, 1, none⟩ = some (.int .i64 (D2 : Int)) ∧ w'.cell? ⟨w.heap.size + 1, 2, none⟩ = some (.int .i64 (Wd : Int)) ∧ w'.cell? ⟨w.heap.size + 1, 3, none⟩ = some (.int .i64 (Hi : Int)) ∧ w'.cell? ⟨w.heap.size + 1, 4, none⟩ = some (.slice ca2 cn2 cc2) ∧ w'.cell? ⟨w.heap.size + 1, 5, none⟩ = some (.slice (some ⟨b2, off2, none⟩) pn2 pc2) ∧ w'.cell? ⟨b, off + j, none⟩ = some (.int .i64 (p : Int)) ∧ w'.cell? ⟨b2, off2 + j, none⟩ = some (.int .i64 (q : Int))) (go_keep) (first | (go_at_call_of 34 (Value.slice (some ⟨b, off, none⟩) pn pc); refine (HLp.out wr.drew belr.drew).mono ?_; rintro e w5 ⟨rfl, b5⟩; have b5' : Below wr.heap.size wr w5 := box_drew b5; have bel5 : Below w.heap.size w w5 := belr.trans (b5'.mono belr.size); have r1 := (b5'.cell (p := ⟨b, off + j, none⟩) hbl).trans e1; have r2 := (b5'.cell (p := ⟨b2, off2 + j, none⟩) hbl2).trans e2; have A5 : Hid (Bx w5 w.heap.size (.int .i64 k) (.int .i64 (D : Int)) (.int .i64 (Wd : Int)) (.int .i64 (Hi : Int)) (.slice ca cn cc) (.slice (some ⟨b, off, none⟩) pn pc)) := Ar.out.kept b5'; have B5 : Hid (Bx w5 (w.heap.size + 1) (.int .i64 k2) (.int .i64 (D2 : Int)) (.int .i64 (Wd : Int)) (.int .i64 (Hi : Int)) (.slice ca2 cn2 cc2) (.slice (some ⟨b2, off2, none⟩) pn2 pc2)) := Br.out.kept b5'; obtain ⟨_, m0, m1, m2, m3, m4, m5⟩ := A5.out; obtain ⟨_, n0, n1, n2, n3, n4, n5⟩ := B5.out) | (go_at_call_of 34 (Value.slice (some ⟨b2, off2, none⟩) pn2 pc2); refine (HLq.out w5 bel5).mono ?_; rintro e w6 ⟨rfl, b6⟩; have bel6 : Below w2.heap.size w2 w6 := (hbel.trans (b5'.mono hbel.size)).trans (b6.mono (Nat.le_trans hbel.size b5'.size)); have s1 := (b6.cell (p := ⟨b, off + j, none⟩) (Nat.lt_of_lt_of_le hbl b5'.size)).trans r1; have s2 := (b6.cell (p := ⟨b2, off2 + j, none⟩) (Nat.lt_of_lt_of_le hbl2 b5'.size)).trans r2; clear m0 m1 m2 m3 m4 m5 n0 n1 n2 n3 n4 n5; have A6 : Hid (Bx w6 w.heap.size (.int .i64 k) (.int .i64 (D : Int)) (.int .i64 (Wd : Int)) (.int .i64 (Hi : Int)) (.slice ca cn cc) (.slice (some ⟨b, off, none⟩) pn pc)) := A5.out.kept b6; have B6 : Hid (Bx w6 (w.heap.size + 1) (.int .i64 k2) (.int .i64 (D2 : Int)) (.int .i64 (Wd : Int)) (.int .i64 (Hi : Int)) (.slice ca2 cn2 cc2) (.slice (some ⟨b2, off2, none⟩) pn2 pc2)) := B5.out.kept b6; obtain ⟨_, m0, m1, m2, m3, m4, m5⟩ := A6.out; obtain ⟨_, n0, n1, n2, n3, n4, n5⟩ := B6.out))
            all_goals
              clear m0 m1 m2 m3 m4 m5 n0 n1 n2 n3 n4 n5 a0 a1 a2 a3 a4 a5 p0 p1 p2 p3 p4 p5 e1 e2 r1 r2 s1 s2 hbel
              go_wp2_with fail
              go_roundw
              case rel => exact ⟨j + 1, by omega, by go_num, HAL2.out, bel6⟩
              case measure => simp [intOf]; omega
          · have HD : Hid (decide (cols k D cs ps = cols k2 D2 cs2 ps2) = false) := decide_eq_false (fun e => huv (by
              have h1 : (cols k D cs ps).getD j (colOf k D cs 0) = (cols k2 D2 cs2 ps2).getD j (colOf k D cs 0) := by rw [e]
              have hl1 := HN.out.1
              have hl2 := HN.out.2
              have f1 : (cols k D cs ps).getD j (colOf k D cs 0) = colOf k D cs (ps.getD j 0) := by
                simp [cols, show j < ps.length by omega]
              have f2 : (cols k2 D2 cs2 ps2).getD j (colOf k D cs 0) = colOf k2 D2 cs2 (ps2.getD j 0) := by
                simp [cols, show j < ps2.length by omega]
              rw [f1, f2, HCC.out.1, HCC.out.2] at h1
              exact h1))
            have hbne : (u == v) = false := by rw [beq_eq_false_iff_ne]; exact huv
            clear HALL HCC
            go_wp2_with fail
            go_region_held3 (fun w' => w'.cell? ⟨w.heap.size, 0, none⟩ = some (.int .i64 k) ∧ w'.cell? ⟨w.heap.size, 1, none⟩ = some (.int .i64 (D : Int)) ∧ w'.cell? ⟨w.heap.size, 2, none⟩ = some (.int .i64 (Wd : Int)) ∧ w'.cell? ⟨w.heap.size, 3, none⟩ = some (.int .i64 (Hi : Int)) ∧ w'.cell? ⟨w.heap.size, 4, none⟩ = some (.slice ca cn cc) ∧ w'.cell? ⟨w.heap.size, 5, none⟩ = some (.slice (some ⟨b, off, none⟩) pn pc) ∧ w'.cell? ⟨w.heap.size + 1, 0, none⟩ = some (.int .i64 k2) ∧ w'.cell? ⟨w.heap.size + 1, 1, none⟩ = some (.int .i64 (D2 : Int)) ∧ w'.cell? ⟨w.heap.size + 1, 2, none⟩ = some (.int .i64 (Wd : Int)) ∧ w'.cell? ⟨w.heap.size + 1, 3, none⟩ = some (.int .i64 (Hi : Int)) ∧ w'.cell? ⟨w.heap.size + 1, 4, none⟩ = some (.slice ca2 cn2 cc2) ∧ w'.cell? ⟨w.heap.size + 1, 5, none⟩ = some (.slice (some ⟨b2, off2, none⟩) pn2 pc2) ∧ w'.cell? ⟨b, off + j, none⟩ = some (.int .i64 (p : Int)) ∧ w'.cell? ⟨b2, off2 + j, none⟩ = some (.int .i64 (q : Int))) (go_keep) (first | (go_at_call_of 34 (Value.slice (some ⟨b, off, none⟩) pn pc); refine (HLp.out wr.drew belr.drew).mono ?_; rintro e w5 ⟨rfl, b5⟩; have b5' : Below wr.heap.size wr w5 := box_drew b5; have bel5 : Below w.heap.size w w5 := belr.trans (b5'.mono belr.size); have r1 := (b5'.cell (p := ⟨b, off + j, none⟩) hbl).trans e1; have r2 := (b5'.cell (p := ⟨b2, off2 + j, none⟩) hbl2).trans e2; have A5 : Hid (Bx w5 w.heap.size (.int .i64 k) (.int .i64 (D : Int)) (.int .i64 (Wd : Int)) (.int .i64 (Hi : Int)) (.slice ca cn cc) (.slice (some ⟨b, off, none⟩) pn pc)) := Ar.out.kept b5'; have B5 : Hid (Bx w5 (w.heap.size + 1) (.int .i64 k2) (.int .i64 (D2 : Int)) (.int .i64 (Wd : Int)) (.int .i64 (Hi : Int)) (.slice ca2 cn2 cc2) (.slice (some ⟨b2, off2, none⟩) pn2 pc2)) := Br.out.kept b5'; obtain ⟨_, m0, m1, m2, m3, m4, m5⟩ := A5.out; obtain ⟨_, n0, n1, n2, n3, n4, n5⟩ := B5.out) | (go_at_call_of 34 (Value.slice (some ⟨b2, off2, none⟩) pn2 pc2); refine (HLq.out w5 bel5).mono ?_; rintro e w6 ⟨rfl, b6⟩; have bel6 : Below w2.heap.size w2 w6 := (hbel.trans (b5'.mono hbel.size)).trans (b6.mono (Nat.le_trans hbel.size b5'.size)); have s1 := (b6.cell (p := ⟨b, off + j, none⟩) (Nat.lt_of_lt_of_le hbl b5'.size)).trans r1; have s2 := (b6.cell (p := ⟨b2, off2 + j, none⟩) (Nat.lt_of_lt_of_le hbl2 b5'.size)).trans r2; clear m0 m1 m2 m3 m4 m5 n0 n1 n2 n3 n4 n5; have A6 : Hid (Bx w6 w.heap.size (.int .i64 k) (.int .i64 (D : Int)) (.int .i64 (Wd : Int)) (.int .i64 (Hi : Int)) (.slice ca cn cc) (.slice (some ⟨b, off, none⟩) pn pc)) := A5.out.kept b6; have B6 : Hid (Bx w6 (w.heap.size + 1) (.int .i64 k2) (.int .i64 (D2 : Int)) (.int .i64 (Wd : Int)) (.int .i64 (Hi : Int)) (.slice ca2 cn2 cc2) (.slice (some ⟨b2, off2, none⟩) pn2 pc2)) := B5.out.kept b6; obtain ⟨_, m0, m1, m2, m3, m4, m5⟩ := A6.out; obtain ⟨_, n0, n1, n2, n3, n4, n5⟩ := B6.out))
            all_goals
              clear m0 m1 m2 m3 m4 m5 n0 n1 n2 n3 n4 n5 a0 a1 a2 a3 a4 a5 p0 p1 p2 p3 p4 p5 e1 e2 r1 r2 s1 s2 hbel
              have bel9 : Below w.heap.size w w6 := bel2.trans (bel6.mono bel2.size)
              go_wp2_with fail
              go_ret
              exact ⟨by rw [HD.out]; rfl, bel9⟩
    · have HD : Hid (decide (cols k D cs ps = cols k2 D2 cs2 ps2) = true) := decide_eq_true (by
        have hl := HN.out
        apply List.ext_getElem
        · simp [cols]; omega
        · intro i h1 h2
          have hi1 : i < ps.length := by simpa [cols] using h1
          have hi2 : i < ps2.length := by simpa [cols] using h2
          have := HALL.out i (by omega)
          rw [List.getD_eq_getElem?_getD, List.getElem?_eq_getElem hi1, List.getD_eq_getElem?_getD, List.getElem?_eq_getElem hi2] at this
          simpa [cols] using this)
      have hlt' : ¬ (j : Int) < (pn : Int) := by omega
      clear HALL
      go_wp2_with fail
      go_ret
      exact ⟨by rw [HD.out]; rfl, belr⟩
end Go.Proofs.Ytchaepkdpbiffaa

/- A coloured picture, each point of which is told without its density. -/
namespace Go.Proofs.Ytchaepkdpbiffaa
open Go.RowKit

set_option maxHeartbeats 400000 in
theorem bare_any (c : Nat) (w : World) (hc : c ≤ 4294967295) :
    Calls Try.prog 32 #[.int .i64 (c : Int)] w fun e w' => e = .returned (.int .i64 ((c : Int) / 256)) ∧ w' = w := by
  go_enter Try.func32, Try.ntmps32
  go_wp2_with fail
  go_ret
  exact ⟨rfl, rfl⟩

theorem nest_ma (V : Value) (w : World) : (method 200 54 (.agg #[.iface 54 V, .func (.func 32) #[] #[]]) "loop.example/intarsia/impl.at").run Try.prog w = .ok (89, (.agg #[.iface 54 V, .func (.func 32) #[] #[]])) w := by kernel_rfl
theorem nest_na (V : Value) (w : World) : (nilAhead 200 54 (.agg #[.iface 54 V, .func (.func 32) #[] #[]]) "loop.example/intarsia/impl.at").run Try.prog w = .ok (some false) w := by kernel_rfl

/-- the size of what is told otherwise is that of what lies beneath -/
def Nest (V : Value) (fs : Nat) (rs : Value) : Prop := (∀ w, (method 200 54 (.agg #[.iface 54 V, .func (.func 32) #[] #[]]) "loop.example/intarsia/impl.size").run Try.prog w = .ok (fs, rs) w) ∧ ∀ w, (nilAhead 200 54 (.agg #[.iface 54 V, .func (.func 32) #[] #[]]) "loop.example/intarsia/impl.size").run Try.prog w = .ok (some false) w

set_option maxHeartbeats 2000000 in
set_option maxRecDepth 20000 in
theorem nest_at (V : Value) (fa : Nat) (ra : Value) (x y : Int) (v : Nat) (w : World) (m1 : ∀ w, (method 200 54 V "loop.example/intarsia/impl.at").run Try.prog w = .ok (fa, ra) w) (_m2 : ∀ w, (nilAhead 200 54 V "loop.example/intarsia/impl.at").run Try.prog w = .ok (some false) w)
    (ea : ∀ args w', (callFunc fa args).run Try.prog w' = .ok (.enter fa args) w') (hv : v ≤ 4294967295)
    (hat : ∀ w', Below w.heap.size w w' → Calls Try.prog fa #[ra, .int .i64 x, .int .i64 y] w' fun e w'' => e = .returned (.int .i64 (v : Int)) ∧ Below w'.heap.size w' w'') :
    Calls Try.prog 89 #[(.agg #[.iface 54 V, .func (.func 32) #[] #[]]), .int .i64 x, .int .i64 y] w fun e w' => e = .returned (.int .i64 ((v : Int) / 256)) ∧ Below w.heap.size w w' := by
  have HAT : Hid (∀ w', Below w.heap.size w w' → Calls Try.prog fa #[ra, .int .i64 x, .int .i64 y] w' fun e w'' => e = .returned (.int .i64 (v : Int)) ∧ Below w'.heap.size w' w'') := hat
  have HFN : Hid (∀ w', Calls Try.prog 32 #[.int .i64 (v : Int)] w' fun e w'' => e = .returned (.int .i64 ((v : Int) / 256)) ∧ w'' = w') := fun w' => bare_any v w' hv
  clear hat hv
  have hB0 : Below w.heap.size w (w.alloc (.cells #[.iface 54 V, .func (.func 32) #[] #[]] 54)) := (Below.refl _ _).alloc (Nat.le_refl _) _
  have b0 : (w.alloc (.cells #[.iface 54 V, .func (.func 32) #[] #[]] 54)).cell? ⟨w.heap.size, 0, none⟩ = some (.iface 54 V) := by rw [World.cell?_alloc_at _ _ _ _ rfl]; rfl
  have b1 : (w.alloc (.cells #[.iface 54 V, .func (.func 32) #[] #[]] 54)).cell? ⟨w.heap.size, 1, none⟩ = some (.func (.func 32) #[] #[]) := by rw [World.cell?_alloc_at _ _ _ _ rfl]; rfl
  generalize hv : (v : Int) / 256 = u at *
  clear hv
  go_enter Try.func89, Try.ntmps89
  go_wp2_with fail
  go_region_held3 (fun w' => w'.cell? ⟨w.heap.size, 0, none⟩ = some (.iface 54 V) ∧ w'.cell? ⟨w.heap.size, 1, none⟩ = some (.func (.func 32) #[] #[])) (go_keep) (first | (go_at_call 32; refine (HFN.out _).mono ?_; rintro e w3 ⟨rfl, rfl⟩) | (refine (HAT.out _ hB0.drew).mono ?_; rintro e w2 ⟨rfl, b2⟩; have bw2 : Below w.heap.size w w2 := hB0.trans ((box_drew b2).mono (by simp)); have hlt : w.heap.size < (w.alloc (.cells #[.iface 54 V, .func (.func 32) #[] #[]] 54)).heap.size := (by simp); have c0 := ((box_drew b2).cell (p := ⟨w.heap.size, 0, none⟩) hlt).trans b0; have c1 := ((box_drew b2).cell (p := ⟨w.heap.size, 1, none⟩) hlt).trans b1))
  all_goals
    clear b2
    go_wp2_with fail
    go_ret
    exact ⟨rfl, bw2⟩

theorem nest_seen (V : Value) (fs : Nat) (rs : Value) (fa : Nat) (ra : Value) (Wd Hi : Nat) (f : Nat → Nat → Int) (w : World) (S : Seen 54 V fs rs fa ra Wd Hi f w.heap.size w) (hN : Nest V fs rs) (hf : ∀ x y, x < Wd → y < Hi → ∃ v : Nat, f x y = (v : Int) ∧ v ≤ 4294967295) :
    Seen 54 (.agg #[.iface 54 V, .func (.func 32) #[] #[]]) fs rs 89 (.agg #[.iface 54 V, .func (.func 32) #[] #[]]) Wd Hi (fun x y => f x y / 256) w.heap.size w where
  ms := hN.1
  ns := hN.2
  ma := nest_ma V
  na := nest_na V
  es := S.es
  ea := enters_of Try.func89 (by kernel_rfl) rfl
  size := S.size
  at' := fun w' x y hx hy b => by
    obtain ⟨v, hv, hvb⟩ := hf x y hx hy
    show Calls _ _ _ _ fun e w'' => e = .returned (.int .i64 (f x y / 256)) ∧ _
    rw [hv]
    refine nest_at V fa ra x y v w' S.ma S.na S.ea hvb (fun w'' b' => ?_)
    have := S.at' w'' x y hx hy (b.trans (b'.mono b.size))
    rw [hv] at this; exact this

theorem gray_nest (A B : Nat) (D Wd Hi : Nat) (ca : Option Addr) (cn cc : Nat) (pa : Option Addr) (pn pc : Nat) : Nest (.agg #[.iface 62 (.agg #[.int .i64 1, .int .i64 (D : Int), .int .i64 (Wd : Int), .int .i64 (Hi : Int), .slice ca cn cc, .slice pa pn pc]), .func (.func 70) #[] #[.pointer (some ⟨A, 0, none⟩), .pointer (some ⟨B, 0, none⟩)]]) 91 (.agg #[.int .i64 1, .int .i64 (D : Int), .int .i64 (Wd : Int), .int .i64 (Hi : Int), .slice ca cn cc, .slice pa pn pc]) :=
  ⟨fun w => by kernel_rfl, fun w => by kernel_rfl⟩
theorem pal_nest (A B : Nat) (D Wd Hi : Nat) (ca : Option Addr) (cn cc : Nat) (pa : Option Addr) (pn pc : Nat) : Nest (.agg #[.iface 62 (.agg #[.int .i64 4, .int .i64 (D : Int), .int .i64 (Wd : Int), .int .i64 (Hi : Int), .slice ca cn cc, .slice pa pn pc]), .func (.func 71) #[] #[.pointer (some ⟨A, 0, none⟩), .pointer (some ⟨B, 0, none⟩)]]) 91 (.agg #[.int .i64 4, .int .i64 (D : Int), .int .i64 (Wd : Int), .int .i64 (Hi : Int), .slice ca cn cc, .slice pa pn pc]) :=
  ⟨fun w => by kernel_rfl, fun w => by kernel_rfl⟩
theorem rgb_nest (D Wd Hi : Nat) (ca : Option Addr) (cn cc : Nat) (pa : Option Addr) (pn pc : Nat) : Nest (.agg #[.iface 62 (.agg #[.int .i64 2, .int .i64 (D : Int), .int .i64 (Wd : Int), .int .i64 (Hi : Int), .slice ca cn cc, .slice pa pn pc]), .func (.func 69) #[] #[]]) 91 (.agg #[.int .i64 2, .int .i64 (D : Int), .int .i64 (Wd : Int), .int .i64 (Hi : Int), .slice ca cn cc, .slice pa pn pc]) :=
  ⟨fun w => by kernel_rfl, fun w => by kernel_rfl⟩
theorem rgba_nest (D Wd Hi : Nat) (ca : Option Addr) (cn cc : Nat) (pa : Option Addr) (pn pc : Nat) : Nest (.agg #[.iface 62 (.agg #[.int .i64 3, .int .i64 (D : Int), .int .i64 (Wd : Int), .int .i64 (Hi : Int), .slice ca cn cc, .slice pa pn pc]), .func (.func 72) #[] #[]]) 91 (.agg #[.int .i64 3, .int .i64 (D : Int), .int .i64 (Wd : Int), .int .i64 (Hi : Int), .slice ca cn cc, .slice pa pn pc]) :=
  ⟨fun w => by kernel_rfl, fun w => by kernel_rfl⟩

theorem colored_nest (k : Int) (D Wd Hi : Nat) (ca : Option Addr) (cn cc : Nat) (pa : Option Addr) (pn pc : Nat) (cs ps : List Int) (w : World) (hok : Im.Ok k (D : Int) (Wd : Int) (Hi : Int) cs ps) (hc : Ints w ca cs) (hcn : cs.length = cn) (hp : Ints w pa ps) (hpn : ps.length = pn) (hW : Wd ≤ 20) (hH : Hi ≤ 20) (hm : pn = Wd * Hi) :
    Calls Try.prog 31 #[.agg #[.int .i64 k, .int .i64 (D : Int), .int .i64 (Wd : Int), .int .i64 (Hi : Int), .slice ca cn cc, .slice pa pn pc]] w fun e w' => (∃ V fs rs fa ra, e = .returned (.iface 54 V) ∧ Nest V fs rs ∧ Seen 54 V fs rs fa ra Wd Hi (colF k D cs Wd ps) w'.heap.size w') ∧ Below w.heap.size w w' := by
  rcases Im.kinds hok.1 with ⟨rfl, hD⟩ | ⟨rfl, hD⟩ | ⟨rfl, hD⟩ | ⟨rfl, hD⟩
  · refine (colored_gray D (Wd : Int) (Hi : Int) ca cn cc pa pn pc w hD).mono ?_
    rintro e w' ⟨⟨A, B, rfl, hA, hB, hA2, hB2⟩, b⟩
    exact ⟨⟨_, _, _, _, _, rfl, gray_nest A B D Wd Hi ca cn cc pa pn pc, gray_cseen A B D Wd Hi ca cn cc pa pn pc cs ps w' hok hA hB hA2 hB2 (hp.kept b) hpn hW hH hm⟩, b⟩
  · refine (colored_rgb (D : Int) (Wd : Int) (Hi : Int) ca cn cc pa pn pc w).mono ?_
    rintro e w' ⟨rfl, b⟩
    exact ⟨⟨_, _, _, _, _, rfl, rgb_nest D Wd Hi ca cn cc pa pn pc, rgb_cseen D Wd Hi ca cn cc pa pn pc cs ps w' hok (hp.kept b) hpn hW hH hm⟩, b⟩
  · refine (colored_rgba (D : Int) (Wd : Int) (Hi : Int) ca cn cc pa pn pc w).mono ?_
    rintro e w' ⟨rfl, b⟩
    exact ⟨⟨_, _, _, _, _, rfl, rgba_nest D Wd Hi ca cn cc pa pn pc, rgba_cseen D Wd Hi ca cn cc pa pn pc cs ps w' hok (hp.kept b) hpn hW hH hm⟩, b⟩
  · refine (colored_pal (D : Int) (Wd : Int) (Hi : Int) ca cn cc pa pn pc w).mono ?_
    rintro e w' ⟨⟨A, B, rfl, hA, hB, hA2, hB2⟩, b⟩
    exact ⟨⟨_, _, _, _, _, rfl, pal_nest A B D Wd Hi ca cn cc pa pn pc, pal_cseen A B D Wd Hi ca cn cc pa pn pc cs ps w' hok hA hB hA2 hB2 (hc.kept b) hcn (hp.kept b) hpn hW hH hm⟩, b⟩
end Go.Proofs.Ytchaepkdpbiffaa

/- ImageRgb of the program. -/
namespace Go.Proofs.Ytchaepkdpbiffaa
open Go.RowKit Go.Shelf

attribute [local go_sem] Oper.semAt_some

theorem heap_setCell_other (w : World) (a : Addr) (u : Value) (k : Nat) (h : k ≠ a.block) : (w.setCell a u).heap[k]? = w.heap[k]? := by
  simp only [World.setCell, Array.getElem?_modify]
  rw [if_neg (Ne.symm h)]

theorem heap_alloc3_mid (w : World) (a b c : Obj) : (((w.alloc a).alloc b).alloc c).heap[w.heap.size + 1]? = some b :=
  (Below.heap_alloc _ _ _ (by simp)).trans (by have := World.alloc_heap_new (w.alloc a) b; rwa [World.size_alloc] at this)
theorem heap_alloc3_end (w : World) (a b c : Obj) : (((w.alloc a).alloc b).alloc c).heap[w.heap.size + 2]? = some c := by
  have := World.alloc_heap_new ((w.alloc a).alloc b) c; rwa [World.size_alloc, World.size_alloc] at this
theorem heap_alloc3_first (w : World) (a b c : Obj) : (((w.alloc a).alloc b).alloc c).heap[w.heap.size]? = some a :=
  (Below.heap_alloc _ _ _ (by simp; omega)).trans ((Below.heap_alloc _ _ _ (by simp)).trans (World.alloc_heap_new w a))

set_option maxHeartbeats 1000000 in
set_option maxRecDepth 20000 in
theorem impl_rgb_no (k d wd hi : Int) (ca : Option Addr) (cn cc : Nat) (pa : Option Addr) (pn pc : Nat) (w : World)
    (hO : ∀ w', Below w.heap.size w w' → Calls Try.prog 12 #[.agg #[.int .i64 k, .int .i64 d, .int .i64 wd, .int .i64 hi, .slice ca cn cc, .slice pa pn pc]] w' fun e w'' => e = .returned (.bool false) ∧ Below w'.heap.size w' w'') :
    Calls Try.prog 9 #[.agg #[.int .i64 k, .int .i64 d, .int .i64 wd, .int .i64 hi, .slice ca cn cc, .slice pa pn pc]] w fun e w' => e = .returned (.tuple #[.agg #[.int .i64 0, .int .i64 0, .int .i64 0, .int .i64 0, .slice none 0 0, .slice none 0 0], .bool false]) ∧ Below w.heap.size w w' := by
  have hB0 : Below w.heap.size w (((w.alloc (.cells #[.int .i64 k, .int .i64 d, .int .i64 wd, .int .i64 hi, .slice ca cn cc, .slice pa pn pc] 25)).alloc (.cells #[.int .i64 0, .int .i64 0, .int .i64 0, .int .i64 0, .slice none 0 0, .slice none 0 0] 25)).alloc (.cells #[.bool false] 4)) := (((Below.refl _ _).alloc (Nat.le_refl _) _).alloc (by simp) _).alloc (by simp; omega) _
  have HO : Hid (∀ w', Below w.heap.size w w' → Calls Try.prog 12 #[.agg #[.int .i64 k, .int .i64 d, .int .i64 wd, .int .i64 hi, .slice ca cn cc, .slice pa pn pc]] w' fun e w'' => e = .returned (.bool false) ∧ Below w'.heap.size w' w'') := hO
  clear hO
  have HZ : Hid ((((w.alloc (.cells #[.int .i64 k, .int .i64 d, .int .i64 wd, .int .i64 hi, .slice ca cn cc, .slice pa pn pc] 25)).alloc (.cells #[.int .i64 0, .int .i64 0, .int .i64 0, .int .i64 0, .slice none 0 0, .slice none 0 0] 25)).alloc (.cells #[.bool false] 4)).heap[w.heap.size + 1]? = some (.cells #[.int .i64 0, .int .i64 0, .int .i64 0, .int .i64 0, .slice none 0 0, .slice none 0 0] 25 (0, 0))) := heap_alloc3_mid _ _ _ _
  have HF : Hid ((((w.alloc (.cells #[.int .i64 k, .int .i64 d, .int .i64 wd, .int .i64 hi, .slice ca cn cc, .slice pa pn pc] 25)).alloc (.cells #[.int .i64 0, .int .i64 0, .int .i64 0, .int .i64 0, .slice none 0 0, .slice none 0 0] 25)).alloc (.cells #[.bool false] 4)).heap[w.heap.size + 2]? = some (.cells #[.bool false] 4 (0, 0))) := heap_alloc3_end _ _ _ _
  go_enter Try.func9, Try.ntmps9
  go_wp2_with fail
  refine (HO.out _ hB0).mono ?_
  rintro e w1 ⟨rfl, b1⟩
  have bel1 := hB0.trans (b1.mono hB0.size)
  have hz1 : w1.heap[w.heap.size + 1]? = some (.cells #[.int .i64 0, .int .i64 0, .int .i64 0, .int .i64 0, .slice none 0 0, .slice none 0 0] 25 (0, 0)) := (b1.block _ (by simp)).trans HZ.out
  have hf1 : Boxed w1 (w.heap.size + 2) 4 (.bool false) := (b1.block _ (by simp)).trans HF.out
  have hI6 : (Try.prog.info? 25).map (·.size) = some (#[Value.int .i64 0, .int .i64 0, .int .i64 0, .int .i64 0, .slice none 0 0, .slice none 0 0]).size := by kernel_rfl
  have h16 : (#[Value.int .i64 0, .int .i64 0, .int .i64 0, .int .i64 0, .slice none 0 0, .slice none 0 0]).all (·.oneCell') = true := by simp [Value.oneCell']
  have hs2 := setRow_heap w1 (w.heap.size + 1) _ #[.int .i64 0, .int .i64 0, .int .i64 0, .int .i64 0, .slice none 0 0, .slice none 0 0] _ _ hz1
  obtain ⟨⟨z0, z1, z2, z3, z4, z5⟩, _⟩ := box6 hs2
  have hf2 : Boxed (w1.setRow (w.heap.size + 1) #[.int .i64 0, .int .i64 0, .int .i64 0, .int .i64 0, .slice none 0 0, .slice none 0 0]) (w.heap.size + 2) 4 (.bool false) := (setRow_other _ _ _ _ (by omega)).trans hf1
  have hfc := hf2.cell
  have hff := hf2.frozen
  clear b1 hB0 HO HZ HF hf1
  go_wp2_with (refine wpList_store_row rfl 25 (.tmp 2) (.tmp 9) rfl (w.heap.size + 1) #[.int .i64 0, .int .i64 0, .int .i64 0, .int .i64 0, .slice none 0 0, .slice none 0 0] rfl rfl 25 #[.int .i64 0, .int .i64 0, .int .i64 0, .int .i64 0, .slice none 0 0, .slice none 0 0] hz1 hI6 rfl h16 ?_)
  refine bodyPost_ret (v := .tuple #[.agg #[.int .i64 0, .int .i64 0, .int .i64 0, .int .i64 0, .slice none 0 0, .slice none 0 0], .bool false]) (by simp [results, Try.results9, go_sem, z0, z1, z2, z3, z4, z5, hfc]) rfl ⟨rfl, ?_⟩
  exact (bel1.trans ((below_setRow _ _ _).mono (by omega))).setCell (by show w.heap.size ≤ w.heap.size + 1 + 1; omega) _

theorem Owns.above {w w' : World} {lo : Nat} {a : Option Addr} {l : List Int} (h : Owns w lo a l) (hs : w.heap.size ≤ w'.heap.size) (hb : ∀ k, lo ≤ k → w'.heap[k]? = w.heap[k]?) : Owns w' lo a l := by
  rcases h with e | ⟨b, rfl, hlo, h2, h3⟩
  · exact .inl e
  · have hh := hb b hlo
    exact .inr ⟨b, rfl, hlo, Nat.lt_of_lt_of_le h2 hs, fun i hi => ⟨(World.cell?_of_block (w := w) (a := ⟨b, i, none⟩) hh).trans (h3 i hi).1, (World.frozen?_of_block (w := w) (a := ⟨b, i, none⟩) hh).trans (h3 i hi).2⟩⟩
theorem Pair2.above {w w' : World} {lo : Nat} {x y : Option Addr} {cs ps : List Int} (h : Pair2 w lo x cs y ps) (hs : w.heap.size ≤ w'.heap.size) (hb : ∀ k, lo ≤ k → w'.heap[k]? = w.heap[k]?) : Pair2 w' lo x cs y ps := by
  obtain ⟨m, h1, h2, h3, h4⟩ := h
  exact ⟨m, h1, h2.above hs hb, h3, h4.above hs (fun k hk => hb k (Nat.le_trans h1 hk))⟩

/-- a point that is less than dense was met: what is answered lies there -/
def RgbX (w : World) (c : Code) (pre : List Int) (W : World) : Prop :=
  c = .ret ∧ (∃ z ∈ pre, ¬ z.tmod 256 = 255) ∧ W.heap[w.heap.size + 1]? = some (.cells #[.int .i64 0, .int .i64 0, .int .i64 0, .int .i64 0, .slice none 0 0, .slice none 0 0] 25 (0, 0)) ∧ W.heap[w.heap.size + 2]? = some (.cells #[.bool false] 4 (0, 0)) ∧ Below w.heap.size w W

theorem rgbX_own (w : World) (c : Code) (B : Nat) (hB : w.heap.size + 3 ≤ B) : OwnFrom B (RgbX w c) := by
  rintro pre X Y row ⟨h1, h2, h3, h4, h5⟩ hg hrow
  have hne : ∀ k, k < w.heap.size + 3 → some k ≠ row := fun k hk e => by have := (hrow k e.symm).1; omega
  exact ⟨h1, h2, (hg.block _ (lt_of_at h3) (hne _ (by omega))).trans h3, (hg.block _ (lt_of_at h4) (hne _ (by omega))).trans h4, h5.grown hg h5.size (fun k e => by have := (hrow k e).1; omega)⟩

def RgbI (W0 : World) (pre : List Int) (W : World) : Prop := (∀ z ∈ pre, z.tmod 256 = 255) ∧ Below W0.heap.size W0 W

theorem rgbI_own (W0 : World) : OwnFrom W0.heap.size (RgbI W0) := by
  rintro pre X Y row ⟨h1, h2⟩ hg hrow
  exact ⟨h1, h2.grown hg h2.size (fun k e => (hrow k e).1)⟩

set_option maxRecDepth 100000 in
set_option maxHeartbeats 4000000 in
theorem impl_rgb_in (k : Int) (D Wd Hi : Nat) (ca : Option Addr) (cn cc : Nat) (pa : Option Addr) (pn pc : Nat) (cs ps : List Int) (w : World) (hok : Im.Ok k (D : Int) (Wd : Int) (Hi : Int) cs ps) (hc : Ints w ca cs) (hcn : cs.length = cn) (hp : Ints w pa ps) (hpn : ps.length = pn) (hW : Wd ≤ 20) (hH : Hi ≤ 20) (hm : pn = Wd * Hi)
    (hO : ∀ w', Below w.heap.size w w' → Calls Try.prog 12 #[.agg #[.int .i64 k, .int .i64 (D : Int), .int .i64 (Wd : Int), .int .i64 (Hi : Int), .slice ca cn cc, .slice pa pn pc]] w' fun e w'' => e = .returned (.bool true) ∧ Below w'.heap.size w' w'') :
    CallsIn Fence.wide 2 Try.prog 9 #[.agg #[.int .i64 k, .int .i64 (D : Int), .int .i64 (Wd : Int), .int .i64 (Hi : Int), .slice ca cn cc, .slice pa pn pc]] w fun e w' =>
      (((∀ z ∈ cols k D cs ps, z.tmod 256 = 255) ∧ ∃ x cx y cy, e = .returned (.tuple #[.agg #[.int .i64 2, .int .i64 24, .int .i64 (Wd : Int), .int .i64 (Hi : Int), .slice x 0 cx, .slice y (Wd * Hi) cy], .bool true]) ∧ Pair2 w' w.heap.size x [] y (upto (ptF Wd (fun x y => colF k D cs Wd ps x y / 256)) (Wd * Hi))) ∨
       ((∃ z ∈ cols k D cs ps, ¬ z.tmod 256 = 255) ∧ e = .returned (.tuple #[.agg #[.int .i64 0, .int .i64 0, .int .i64 0, .int .i64 0, .slice none 0 0, .slice none 0 0], .bool false]))) ∧ Below w.heap.size w w' := by
  have hro : Fence.wide.round = none := rfl
  have hB0 : Below w.heap.size w (((w.alloc (.cells #[.int .i64 k, .int .i64 (D : Int), .int .i64 (Wd : Int), .int .i64 (Hi : Int), .slice ca cn cc, .slice pa pn pc] 25)).alloc (.cells #[.int .i64 0, .int .i64 0, .int .i64 0, .int .i64 0, .slice none 0 0, .slice none 0 0] 25)).alloc (.cells #[.bool false] 4)) := (((Below.refl _ _).alloc (Nat.le_refl _) _).alloc (by simp) _).alloc (by simp; omega) _
  have HO : Hid (∀ w', Below w.heap.size w w' → Calls Try.prog 12 #[.agg #[.int .i64 k, .int .i64 (D : Int), .int .i64 (Wd : Int), .int .i64 (Hi : Int), .slice ca cn cc, .slice pa pn pc]] w' fun e w'' => e = .returned (.bool true) ∧ Below w'.heap.size w' w'') := hO
  clear hO
  have HZ : Hid ((((w.alloc (.cells #[.int .i64 k, .int .i64 (D : Int), .int .i64 (Wd : Int), .int .i64 (Hi : Int), .slice ca cn cc, .slice pa pn pc] 25)).alloc (.cells #[.int .i64 0, .int .i64 0, .int .i64 0, .int .i64 0, .slice none 0 0, .slice none 0 0] 25)).alloc (.cells #[.bool false] 4)).heap[w.heap.size + 1]? = some (.cells #[.int .i64 0, .int .i64 0, .int .i64 0, .int .i64 0, .slice none 0 0, .slice none 0 0] 25 (0, 0))) := heap_alloc3_mid _ _ _ _
  have HF : Hid ((((w.alloc (.cells #[.int .i64 k, .int .i64 (D : Int), .int .i64 (Wd : Int), .int .i64 (Hi : Int), .slice ca cn cc, .slice pa pn pc] 25)).alloc (.cells #[.int .i64 0, .int .i64 0, .int .i64 0, .int .i64 0, .slice none 0 0, .slice none 0 0] 25)).alloc (.cells #[.bool false] 4)).heap[w.heap.size + 2]? = some (.cells #[.bool false] 4 (0, 0))) := heap_alloc3_end _ _ _ _
  have A0 : Hid (Bx (((w.alloc (.cells #[.int .i64 k, .int .i64 (D : Int), .int .i64 (Wd : Int), .int .i64 (Hi : Int), .slice ca cn cc, .slice pa pn pc] 25)).alloc (.cells #[.int .i64 0, .int .i64 0, .int .i64 0, .int .i64 0, .slice none 0 0, .slice none 0 0] 25)).alloc (.cells #[.bool false] 4)) w.heap.size (.int .i64 k) (.int .i64 (D : Int)) (.int .i64 (Wd : Int)) (.int .i64 (Hi : Int)) (.slice ca cn cc) (.slice pa pn pc)) := ((bx_new w _ _ _ _ _ _ 25).kept ((Below.refl _ _).alloc (Nat.le_refl _) _)).kept ((Below.refl _ _).alloc (Nat.le_refl _) _)
  have HCN : Hid (∀ w', Below w.heap.size w w' → Calls Try.prog 31 #[.agg #[.int .i64 k, .int .i64 (D : Int), .int .i64 (Wd : Int), .int .i64 (Hi : Int), .slice ca cn cc, .slice pa pn pc]] w' fun e w'' => (∃ V fs rs fa ra, e = .returned (.iface 54 V) ∧ Nest V fs rs ∧ Seen 54 V fs rs fa ra Wd Hi (colF k D cs Wd ps) w''.heap.size w'') ∧ Below w'.heap.size w' w'') := fun w' b => colored_nest k D Wd Hi ca cn cc pa pn pc cs ps w' hok (hc.kept b) hcn (hp.kept b) hpn hW hH hm
  have HCO : Hid (upto (ptF Wd (colF k D cs Wd ps)) (Wd * Hi) = cols k D cs ps) := cols_upto k D cs ps Wd Hi (by rw [hpn, hm])
  have HFB : Hid (∀ x y, x < Wd → y < Hi → ∃ v : Nat, colF k D cs Wd ps x y = (v : Int) ∧ v ≤ 4294967295) := fun x y hx hy => by
    have hs := (spot_in hx hy hW hH hm).lt
    have hjl : y * Wd + x < ps.length := by rw [hpn]; exact hs
    have hmm : ps.getD (y * Wd + x) 0 ∈ ps := by rw [List.getD_eq_getElem?_getD, List.getElem?_eq_getElem hjl]; exact List.getElem_mem hjl
    obtain ⟨b0, b1, _⟩ := col_bounds hok hmm
    obtain ⟨c, hc⟩ := Int.eq_ofNat_of_zero_le b0
    exact ⟨c, hc, by omega⟩
  clear hok hc hcn hp hpn hm
  refine callsIn_of_wp_marks Try.func9 rfl trivial ?_ hro
  simp only [Try.ntmps9, List.size_toArray, List.length_cons, List.length_nil, Nat.reduceAdd, Nat.reduceSub, Array.replicate_succ, Array.replicate_zero, List.push_toArray, List.append_toArray, List.nil_append, List.cons_append]
  gi_wp2
  refine ⟨trivial, ?_⟩
  gi_wp2
  refine (callsIn_wide.2 (HO.out _ hB0)).mono ?_
  rintro e w1 ⟨rfl, b1⟩
  have bel1 := hB0.trans (b1.mono hB0.size)
  have A1 : Hid (Bx w1 w.heap.size (.int .i64 k) (.int .i64 (D : Int)) (.int .i64 (Wd : Int)) (.int .i64 (Hi : Int)) (.slice ca cn cc) (.slice pa pn pc)) := A0.out.kept b1
  have HZ1 : Hid (w1.heap[w.heap.size + 1]? = some (.cells #[.int .i64 0, .int .i64 0, .int .i64 0, .int .i64 0, .slice none 0 0, .slice none 0 0] 25 (0, 0))) := (b1.block _ (by simp)).trans HZ.out
  have HF1 : Hid (w1.heap[w.heap.size + 2]? = some (.cells #[.bool false] 4 (0, 0))) := (b1.block _ (by simp)).trans HF.out
  have hlt1 : w.heap.size + 3 ≤ w1.heap.size := Nat.le_trans (by simp) b1.size
  clear b1 hB0 HO A0 HZ HF
  obtain ⟨_, a0, a1, a2, a3, a4, a5⟩ := A1.out
  gi_wp2
  refine ⟨trivial, ?_⟩
  gi_wp2
  refine (callsIn_wide.2 (HCN.out w1 bel1)).mono ?_
  rintro e w2 ⟨⟨V, fs, rs, fa, ra, rfl, _, S⟩, b2⟩
  clear a0 a1 a2 a3 a4 a5
  gi_wp2
  refine ⟨trivial, ?_⟩
  gi_wp2
  refine (callsIn_wide.2 (pointsOf_any _ _ w2)).mono ?_
  rintro e w3 ⟨rfl, hw3⟩
  have HT := points_tells 1 (Nat.le_refl _) _ V fs rs fa ra Wd Hi _ hW hH w2 S
  rw [HCO.out] at HT
  rw [← hw3] at HT
  have b3 : Below w1.heap.size w1 w3 := by rw [hw3]; exact b2.alloc b2.size _
  have bel3 : Below w.heap.size w w3 := bel1.trans (b3.mono bel1.size)
  have A3 : Hid (Bx w3 w.heap.size (.int .i64 k) (.int .i64 (D : Int)) (.int .i64 (Wd : Int)) (.int .i64 (Hi : Int)) (.slice ca cn cc) (.slice pa pn pc)) := A1.out.kept b3
  have HZ3 : Hid (w3.heap[w.heap.size + 1]? = some (.cells #[.int .i64 0, .int .i64 0, .int .i64 0, .int .i64 0, .slice none 0 0, .slice none 0 0] 25 (0, 0))) := (b3.block _ (by omega)).trans HZ1.out
  have HF3 : Hid (w3.heap[w.heap.size + 2]? = some (.cells #[.bool false] 4 (0, 0))) := (b3.block _ (by omega)).trans HF1.out
  have hlt3 : w.heap.size + 3 ≤ w3.heap.size := Nat.le_trans hlt1 b3.size
  clear b3 b2 S hw3 A1 HZ1 HF1 hlt1 bel1
  gi_wp2
  refine wpIn_rangeFunc_ownG hro (by omega) (gf := 62) (lb := _) rfl trivial (enters_of Try.func62 (by kernel_rfl) rfl) HT belowK_t (belowK_b (Nat.le_refl _)) (Below.refl _ _) (fun _ => rfl)
    (RgbI w3) (RgbX w) (rgbI_own w3) (fun c => rgbX_own w c _ hlt3) ⟨fun z hz => by simp at hz, Below.refl _ _⟩
    (fun x => { tmps := #[.agg #[.int .i64 k, .int .i64 (D : Int), .int .i64 (Wd : Int), .int .i64 (Hi : Int), .slice ca cn cc, .slice pa pn pc], .pointer (some ⟨w.heap.size, 0, none⟩), .pointer (some ⟨w.heap.size + 1, 0, none⟩), .pointer (some ⟨w.heap.size + 2, 0, none⟩), .int .i64 x, undef, .agg #[.int .i64 k, .int .i64 (D : Int), .int .i64 (Wd : Int), .int .i64 (Hi : Int), .slice ca cn cc, .slice pa pn pc], .bool true, .bool false, undef, .agg #[.int .i64 k, .int .i64 (D : Int), .int .i64 (Wd : Int), .int .i64 (Hi : Int), .slice ca cn cc, .slice pa pn pc], .iface 54 V, .func (.func 62) #[] #[.pointer (some ⟨w2.heap.size, 0, none⟩)], .int .i64 x, undef, undef, undef, undef, undef, undef, undef, undef, undef, undef], defers := [] }) ?assign ?body ?done ?stop
  case assign =>
    intro l x W K hK
    gi_wp2
    exact hK
  case body =>
    rintro l pre x W ⟨hd, hB⟩ hlt
    have hI6 : (Try.prog.info? 25).map (·.size) = some (#[Value.int .i64 0, .int .i64 0, .int .i64 0, .int .i64 0, .slice none 0 0, .slice none 0 0]).size := by kernel_rfl
    have h16 : (#[Value.int .i64 0, .int .i64 0, .int .i64 0, .int .i64 0, .slice none 0 0, .slice none 0 0]).all (·.oneCell') = true := by simp [Value.oneCell']
    by_cases hx : x.tmod 256 = 255
    · have hb : (x.tmod 256 != 255) = false := by rw [hx]; rfl
      have HX : Hid (x.tmod 256 = 255) := hx
      clear hx
      gi_wp2
      refine ⟨KeepsFrom.refl _ _, Below.refl _ _, ?_, hB⟩
      intro z hz
      rcases List.mem_append.1 hz with h | h
      · exact hd z h
      · rw [List.mem_singleton.1 h]; exact HX.out
    · have hb : (x.tmod 256 != 255) = true := by rw [bne_iff_ne]; exact hx
      have hzW : W.heap[w.heap.size + 1]? = some (.cells #[.int .i64 0, .int .i64 0, .int .i64 0, .int .i64 0, .slice none 0 0, .slice none 0 0] 25 (0, 0)) := (hB.block _ (by omega)).trans HZ3.out
      have hfW : Boxed W (w.heap.size + 2) 4 (.bool false) := (hB.block _ (by omega)).trans HF3.out
      have HQ : Hid (RgbX w .ret (pre ++ [x]) ((W.setRow (w.heap.size + 1) #[.int .i64 0, .int .i64 0, .int .i64 0, .int .i64 0, .slice none 0 0, .slice none 0 0]).setCell ⟨w.heap.size + 2, 0, none⟩ (.bool false)) ∧ KeepsFrom w3.heap.size W ((W.setRow (w.heap.size + 1) #[.int .i64 0, .int .i64 0, .int .i64 0, .int .i64 0, .slice none 0 0, .slice none 0 0]).setCell ⟨w.heap.size + 2, 0, none⟩ (.bool false))) := by
        have hs := setRow_heap W (w.heap.size + 1) _ #[.int .i64 0, .int .i64 0, .int .i64 0, .int .i64 0, .slice none 0 0, .slice none 0 0] _ _ hzW
        have hf2 : Boxed (W.setRow (w.heap.size + 1) #[.int .i64 0, .int .i64 0, .int .i64 0, .int .i64 0, .slice none 0 0, .slice none 0 0]) (w.heap.size + 2) 4 (.bool false) := (setRow_other _ _ _ _ (by omega)).trans hfW
        refine ⟨⟨rfl, ⟨x, by simp, hx⟩, ?_, hf2.set _, ?_⟩, ?_, ?_⟩
        · rw [heap_setCell_other _ _ _ _ (by show w.heap.size + 1 ≠ w.heap.size + 2; omega)]; exact hs
        · exact ((bel3.trans (hB.mono bel3.size)).trans ((below_setRow _ _ _).mono (by omega))).setCell (by show w.heap.size ≤ w.heap.size + 2; omega) _
        · simp
        · intro j o hj ho _
          rw [heap_setCell_other _ _ _ _ (by show j ≠ w.heap.size + 2; omega), setRow_other _ _ _ _ (by omega)]; exact ho
      obtain ⟨⟨z0, z1, z2, z3, z4, z5⟩, f0, f1, f2, f3, f4, f5⟩ := box6 hzW
      have hfc := hfW.cell
      have hff := hfW.frozen
      have hsix := six_row hzW (.int .i64 0) (.int .i64 0) (.int .i64 0) (.int .i64 0) (.slice none 0 0) (.slice none 0 0)
      have HSX : Hid (((((((W.setCell ⟨w.heap.size + 1, 0, none⟩ (.int .i64 0)).setCell ⟨w.heap.size + 1, 1, none⟩ (.int .i64 0)).setCell ⟨w.heap.size + 1, 2, none⟩ (.int .i64 0)).setCell ⟨w.heap.size + 1, 3, none⟩ (.int .i64 0)).setCell ⟨w.heap.size + 1, 4, none⟩ (.slice none 0 0)).setCell ⟨w.heap.size + 1, 5, none⟩ (.slice none 0 0)).setCell ⟨w.heap.size + 2, 0, none⟩ (.bool false) = (W.setRow (w.heap.size + 1) #[.int .i64 0, .int .i64 0, .int .i64 0, .int .i64 0, .slice none 0 0, .slice none 0 0]).setCell ⟨w.heap.size + 2, 0, none⟩ (.bool false)) := by show _ = _; rw [hsix]
      clear hsix hzW hfW hd hB hI6 h16
      gi_wp2
      rw [HSX.out]
      exact ⟨HQ.out.2, HQ.out.1⟩
  case done =>
    rintro DD ys W hD hys ⟨hd, hB⟩ hK
    subst hys
    have AW : Hid (Bx W w.heap.size (.int .i64 k) (.int .i64 (D : Int)) (.int .i64 (Wd : Int)) (.int .i64 (Hi : Int)) (.slice ca cn cc) (.slice pa pn pc)) := A3.out.kept hB
    have belW : Below w.heap.size w W := bel3.trans (hB.mono bel3.size)
    have HKD : Hid (W.heap[DD]? = some (.deferred (some []))) := hK
    have hDW : DD < W.heap.size := lt_of_at hK
    have HZW : Hid (W.heap[w.heap.size + 1]? = some (.cells #[.int .i64 0, .int .i64 0, .int .i64 0, .int .i64 0, .slice none 0 0, .slice none 0 0] 25 (0, 0))) := (hB.block _ (by omega)).trans HZ3.out
    have HFW : Hid (W.heap[w.heap.size + 2]? = some (.cells #[.bool false] 4 (0, 0))) := (hB.block _ (by omega)).trans HF3.out
    have hltW : w.heap.size + 3 ≤ W.heap.size := Nat.le_trans hlt3 hB.size
    clear hB hK A3 bel3 HZ3 HF3 HT
    obtain ⟨_, a0, a1, a2, a3, a4, a5⟩ := AW.out
    gi_wp2
    refine ⟨trivial, ?_⟩
    gi_wp2
    refine (callsIn_wide.2 (HCN.out W belW)).mono ?_
    rintro e w5 ⟨⟨V2, fs2, rs2, fa2, ra2, rfl, hN2, S2⟩, b5⟩
    have bel5 := belW.trans (b5.mono belW.size)
    have HS5 := nest_seen V2 fs2 rs2 fa2 ra2 Wd Hi _ w5 S2 hN2 HFB.out
    have HM : Hid (Calls Try.prog 33 #[.iface 54 (.agg #[.iface 54 V2, .func (.func 32) #[] #[]]), .int .i64 2, .int .i64 24, .slice none 0 0] w5 fun e w'' =>
        (∃ x cx y cy, e = .returned (.agg #[.int .i64 2, .int .i64 24, .int .i64 (Wd : Int), .int .i64 (Hi : Int), .slice x 0 cx, .slice y (Wd * Hi) cy]) ∧ Pair2 w'' w5.heap.size x [] y (upto (ptF Wd (fun x y => colF k D cs Wd ps x y / 256)) (Wd * Hi))) ∧ Below w5.heap.size w5 w'') :=
      drawn_any 54 _ _ _ _ _ Wd Hi _ hW hH 2 24 none 0 0 [] w5 HS5 (.inl rfl) rfl (by omega)
    clear a0 a1 a2 a3 a4 a5 HS5 S2 hN2 HCN
    gi_wp2
    refine ⟨trivial, ?_⟩
    gi_wp2
    refine (callsIn_wide.2 HM.out).mono ?_
    rintro e w6 ⟨⟨x, cx, y, cy, rfl, hP⟩, b6⟩
    have b56 : Below W.heap.size W w6 := b5.trans (b6.mono b5.size)
    have hz6 : w6.heap[w.heap.size + 1]? = some (.cells #[.int .i64 0, .int .i64 0, .int .i64 0, .int .i64 0, .slice none 0 0, .slice none 0 0] 25 (0, 0)) := (b56.block _ (by omega)).trans HZW.out
    have hf6 : Boxed w6 (w.heap.size + 2) 4 (.bool false) := (b56.block _ (by omega)).trans HFW.out
    have hk6 : w6.heap[DD]? = some (.deferred (some [])) := (b56.block _ hDW).trans HKD.out
    have bel6 : Below w.heap.size w w6 := belW.trans (b56.mono belW.size)
    have hsix := six_row hz6 (.int .i64 2) (.int .i64 24) (.int .i64 (Wd : Int)) (.int .i64 (Hi : Int)) (.slice x 0 cx) (.slice y (Wd * Hi) cy)
    obtain ⟨⟨z0, z1, z2, z3, z4, z5⟩, f0, f1, f2, f3, f4, f5⟩ := box6 hz6
    have hf7 : Boxed (w6.setRow (w.heap.size + 1) #[.int .i64 2, .int .i64 24, .int .i64 (Wd : Int), .int .i64 (Hi : Int), .slice x 0 cx, .slice y (Wd * Hi) cy]) (w.heap.size + 1 + 1) 4 (.bool false) := (setRow_other _ _ _ _ (by omega)).trans hf6
    have hfc := hf7.cell
    have hff := hf7.frozen
    have HP6 : Hid (Pair2 w6 w5.heap.size x [] y (upto (ptF Wd (fun x y => colF k D cs Wd ps x y / 256)) (Wd * Hi))) := hP
    have hb5s := b5.size
    have hb6s := b6.size
    clear b56 b6 b5 hP HM
    gi_wp2
    obtain ⟨w7, hw7⟩ : ∃ w7, w7 = (w6.setRow (w.heap.size + 1) #[.int .i64 2, .int .i64 24, .int .i64 (Wd : Int), .int .i64 (Hi : Int), .slice x 0 cx, .slice y (Wd * Hi) cy]).setCell ⟨w.heap.size + 1 + 1, 0, none⟩ (.bool true) := ⟨_, rfl⟩
    rw [← hw7]
    have hz7 : w7.heap[w.heap.size + 1]? = some (.cells #[.int .i64 2, .int .i64 24, .int .i64 (Wd : Int), .int .i64 (Hi : Int), .slice x 0 cx, .slice y (Wd * Hi) cy] 25 (0, 0)) := by
      rw [hw7, heap_setCell_other _ _ _ _ (by show w.heap.size + 1 ≠ w.heap.size + 1 + 1; omega)]; exact setRow_heap w6 (w.heap.size + 1) _ _ _ _ hz6
    have hb7 : Boxed w7 (w.heap.size + 1 + 1) 4 (.bool true) := by rw [hw7]; exact hf7.set _
    have hsame : ∀ k, w.heap.size + 3 ≤ k → w7.heap[k]? = w6.heap[k]? := fun k hk => by
      rw [hw7, heap_setCell_other _ _ _ _ (by show k ≠ w.heap.size + 1 + 1; omega), setRow_other _ _ _ _ (by omega)]
    have hs7 : w7.heap.size = w6.heap.size := by rw [hw7]; simp
    have hk7 : w7.heap[DD]? = some (.deferred (some [])) := (hsame DD (by omega)).trans hk6
    have bel7 : Below w.heap.size w w7 := by rw [hw7]; exact (bel6.trans ((below_setRow _ _ _).mono (by omega))).setCell (by show w.heap.size ≤ w.heap.size + 1 + 1; omega) _
    refine ⟨by simp, .inl ⟨_, _, rfl, run_takeDeferred hk7, ?_⟩⟩
    have hz8 : (w7.putObj DD (.deferred none)).heap[w.heap.size + 1]? = some (.cells #[.int .i64 2, .int .i64 24, .int .i64 (Wd : Int), .int .i64 (Hi : Int), .slice x 0 cx, .slice y (Wd * Hi) cy] 25 (0, 0)) := (World.putObj_heap_other (by omega)).trans hz7
    have hb8 : Boxed (w7.putObj DD (.deferred none)) (w.heap.size + 1 + 1) 4 (.bool true) := (World.putObj_heap_other (by omega)).trans hb7
    obtain ⟨⟨q0, q1, q2, q3, q4, q5⟩, _⟩ := box6 hz8
    have q6 := hb8.cell
    refine ⟨.tuple #[.agg #[.int .i64 2, .int .i64 24, .int .i64 (Wd : Int), .int .i64 (Hi : Int), .slice x 0 cx, .slice y (Wd * Hi) cy], .bool true], by simp [results, Try.results9, go_sem, q0, q1, q2, q3, q4, q5, q6], .inl ⟨hd, x, cx, y, cy, rfl, ?_⟩, bel7.trans (belowK_b (w := w) (Nat.le_refl _) w7 DD _ _ (by omega) hk7 rfl rfl)⟩
    exact (HP6.out.above (by simp [hs7]) (fun k hk => (World.putObj_heap_other (by omega)).trans (hsame k (by omega)))).lower (by omega)
  case stop =>
    rintro DD c pre W hD hpre ⟨rfl, ⟨z, hz, hz2⟩, h3, h4, h5⟩ hK
    gi_wp2
    refine ⟨by simp, .inl ⟨_, _, rfl, run_takeDeferred hK, ?_⟩⟩
    have hz8 : (W.putObj DD (.deferred none)).heap[w.heap.size + 1]? = some (.cells #[.int .i64 0, .int .i64 0, .int .i64 0, .int .i64 0, .slice none 0 0, .slice none 0 0] 25 (0, 0)) := (World.putObj_heap_other (by omega)).trans h3
    have hb8 : Boxed (W.putObj DD (.deferred none)) (w.heap.size + 1 + 1) 4 (.bool false) := (World.putObj_heap_other (by omega)).trans h4
    obtain ⟨⟨q0, q1, q2, q3, q4, q5⟩, _⟩ := box6 hz8
    have q6 := hb8.cell
    exact ⟨.tuple #[.agg #[.int .i64 0, .int .i64 0, .int .i64 0, .int .i64 0, .slice none 0 0, .slice none 0 0], .bool false], by simp [results, Try.results9, go_sem, q0, q1, q2, q3, q4, q5, q6], .inr ⟨⟨z, hpre.subset hz, hz2⟩, rfl⟩, h5.trans (belowK_b (w := w) (Nat.le_refl _) W DD _ _ (by omega) hK rfl rfl)⟩
end Go.Proofs.Ytchaepkdpbiffaa

/- ImageColor of the specification, for every picture and place. -/
namespace Go.Proofs.Ytchaepkdpbiffaa
open Go.RowKit

end Go.Proofs.Ytchaepkdpbiffaa

/- ImageRgb of the specification. -/
namespace Go.Proofs.Ytchaepkdpbiffaa
open Go.RowKit

/-- no colour is less than dense -/
def denseB (l : List Int) : Bool := l.all fun c => c % 256 == 255
theorem denseB_no {l : List Int} {c : Int} (h : c ∈ l) (hc : ¬ c % 256 = 255) : denseB l = false := by
  unfold denseB; rw [List.all_eq_false]; exact ⟨c, h, by simpa using hc⟩
theorem denseB_yes {l : List Int} (h : ∀ c ∈ l, c % 256 = 255) : denseB l = true := by
  unfold denseB; rw [List.all_eq_true]; intro c hc; simpa using h c hc
/-- what is red, green and blue of colours -/
def bares (l : List Int) : List Int := l.map (· / 256)

set_option maxHeartbeats 1000000 in
set_option maxRecDepth 20000 in
theorem spec_rgb_no (k d wd hi : Int) (ca : Option Addr) (cn cc : Nat) (pa : Option Addr) (pn pc : Nat) (w : World)
    (hO : ∀ w', Below w.heap.size w w' → Calls Try.prog 13 #[.agg #[.int .i64 k, .int .i64 d, .int .i64 wd, .int .i64 hi, .slice ca cn cc, .slice pa pn pc]] w' fun e w'' => e = .returned (.bool false) ∧ Below w'.heap.size w' w'') :
    Calls Try.prog 10 #[.agg #[.int .i64 k, .int .i64 d, .int .i64 wd, .int .i64 hi, .slice ca cn cc, .slice pa pn pc]] w fun e w' => e = .returned (.tuple #[.agg #[.int .i64 0, .int .i64 0, .int .i64 0, .int .i64 0, .slice none 0 0, .slice none 0 0], .bool false]) ∧ Below w.heap.size w w' := by
  have hB0 : Below w.heap.size w ((w.alloc (.cells #[.int .i64 k, .int .i64 d, .int .i64 wd, .int .i64 hi, .slice ca cn cc, .slice pa pn pc] 25)).alloc (.cells #[.int .i64 0, .int .i64 0, .int .i64 0, .int .i64 0, .slice none 0 0, .slice none 0 0] 25)) := ((Below.refl _ _).alloc (Nat.le_refl _) _).alloc (by simp) _
  have HO : Hid (∀ w', Below w.heap.size w w' → Calls Try.prog 13 #[.agg #[.int .i64 k, .int .i64 d, .int .i64 wd, .int .i64 hi, .slice ca cn cc, .slice pa pn pc]] w' fun e w'' => e = .returned (.bool false) ∧ Below w'.heap.size w' w'') := hO
  clear hO
  have HZ : Hid (((w.alloc (.cells #[.int .i64 k, .int .i64 d, .int .i64 wd, .int .i64 hi, .slice ca cn cc, .slice pa pn pc] 25)).alloc (.cells #[.int .i64 0, .int .i64 0, .int .i64 0, .int .i64 0, .slice none 0 0, .slice none 0 0] 25)).heap[w.heap.size + 1]? = some (.cells #[.int .i64 0, .int .i64 0, .int .i64 0, .int .i64 0, .slice none 0 0, .slice none 0 0] 25 (0, 0))) := heap_alloc2_new _ _ _
  go_enter Try.func10, Try.ntmps10
  go_wp2_with fail
  refine (HO.out _ hB0).mono ?_
  rintro e w1 ⟨rfl, b1⟩
  have bel1 := hB0.trans (b1.mono hB0.size)
  have hz1 : w1.heap[w.heap.size + 1]? = some (.cells #[.int .i64 0, .int .i64 0, .int .i64 0, .int .i64 0, .slice none 0 0, .slice none 0 0] 25 (0, 0)) := (b1.block _ (by simp)).trans HZ.out
  clear b1 hB0 HO HZ
  have hI6 : (Try.prog.info? 25).map (·.size) = some (#[Value.int .i64 0, .int .i64 0, .int .i64 0, .int .i64 0, .slice none 0 0, .slice none 0 0]).size := by kernel_rfl
  have h16 : (#[Value.int .i64 0, .int .i64 0, .int .i64 0, .int .i64 0, .slice none 0 0, .slice none 0 0]).all (·.oneCell') = true := by simp [Value.oneCell']
  have hs2 := setRow_heap w1 (w.heap.size + 1) _ #[.int .i64 0, .int .i64 0, .int .i64 0, .int .i64 0, .slice none 0 0, .slice none 0 0] _ _ hz1
  obtain ⟨⟨z0, z1, z2, z3, z4, z5⟩, _⟩ := box6 hs2
  go_wp2_with (refine wpList_store_row rfl 25 (.tmp 2) (.tmp 10) rfl (w.heap.size + 1) #[.int .i64 0, .int .i64 0, .int .i64 0, .int .i64 0, .slice none 0 0, .slice none 0 0] rfl rfl 25 #[.int .i64 0, .int .i64 0, .int .i64 0, .int .i64 0, .slice none 0 0, .slice none 0 0] hz1 hI6 rfl h16 ?_)
  refine bodyPost_ret (v := .tuple #[.agg #[.int .i64 0, .int .i64 0, .int .i64 0, .int .i64 0, .slice none 0 0, .slice none 0 0], .bool false]) (by simp [results, Try.results10, go_sem, z0, z1, z2, z3, z4, z5]) rfl ⟨rfl, ?_⟩
  exact bel1.trans ((below_setRow _ _ _).mono (by omega))

set_option maxHeartbeats 4000000 in
set_option maxRecDepth 20000 in
theorem spec_rgb_ok (k : Int) (D Wd Hi : Nat) (ca : Option Addr) (cn cc : Nat) (pa : Option Addr) (pn pc : Nat) (cs ps : List Int) (w : World) (ok : Im.Ok k (D : Int) (Wd : Int) (Hi : Int) cs ps) (hc : Ints w ca cs) (hcn : cs.length = cn) (hp : Ints w pa ps) (hpn : ps.length = pn) (hW : Wd ≤ 20) (hH : Hi ≤ 20) (hm : pn = Wd * Hi)
    (hOA : ∀ w', Below w.heap.size w w' → Calls Try.prog 13 #[.agg #[.int .i64 k, .int .i64 (D : Int), .int .i64 (Wd : Int), .int .i64 (Hi : Int), .slice ca cn cc, .slice pa pn pc]] w' fun e w'' => e = .returned (.bool true) ∧ Below w'.heap.size w' w'') :
    Calls Try.prog 10 #[.agg #[.int .i64 k, .int .i64 (D : Int), .int .i64 (Wd : Int), .int .i64 (Hi : Int), .slice ca cn cc, .slice pa pn pc]] w fun e w' =>
      ((denseB (cols k D cs ps) = true ∧ ∃ y cy, e = .returned (.tuple #[.agg #[.int .i64 2, .int .i64 24, .int .i64 (Wd : Int), .int .i64 (Hi : Int), .slice none 0 0, .slice y pn cy], .bool true]) ∧ Ints w' y (bares (cols k D cs ps))) ∨
       (denseB (cols k D cs ps) = false ∧ e = .returned (.tuple #[.agg #[.int .i64 0, .int .i64 0, .int .i64 0, .int .i64 0, .slice none 0 0, .slice none 0 0], .bool false]))) ∧ Below w.heap.size w w' := by
  obtain ⟨i0, hi0, hz0, hz1', hz2⟩ := info_parts info_int
  have hB0 : Below w.heap.size w ((w.alloc (.cells #[.int .i64 k, .int .i64 (D : Int), .int .i64 (Wd : Int), .int .i64 (Hi : Int), .slice ca cn cc, .slice pa pn pc] 25)).alloc (.cells #[.int .i64 0, .int .i64 0, .int .i64 0, .int .i64 0, .slice none 0 0, .slice none 0 0] 25)) := ((Below.refl _ _).alloc (Nat.le_refl _) _).alloc (by simp) _
  have A0 : Hid (Bx ((w.alloc (.cells #[.int .i64 k, .int .i64 (D : Int), .int .i64 (Wd : Int), .int .i64 (Hi : Int), .slice ca cn cc, .slice pa pn pc] 25)).alloc (.cells #[.int .i64 0, .int .i64 0, .int .i64 0, .int .i64 0, .slice none 0 0, .slice none 0 0] 25)) w.heap.size (.int .i64 k) (.int .i64 (D : Int)) (.int .i64 (Wd : Int)) (.int .i64 (Hi : Int)) (.slice ca cn cc) (.slice pa pn pc)) := (bx_new w _ _ _ _ _ _ 25).kept ((Below.refl _ _).alloc (Nat.le_refl _) _)
  have HZ : Hid (((w.alloc (.cells #[.int .i64 k, .int .i64 (D : Int), .int .i64 (Wd : Int), .int .i64 (Hi : Int), .slice ca cn cc, .slice pa pn pc] 25)).alloc (.cells #[.int .i64 0, .int .i64 0, .int .i64 0, .int .i64 0, .slice none 0 0, .slice none 0 0] 25)).heap[w.heap.size + 1]? = some (.cells #[.int .i64 0, .int .i64 0, .int .i64 0, .int .i64 0, .slice none 0 0, .slice none 0 0] 25 (0, 0))) := heap_alloc2_new _ _ _
  have HOA : Hid (∀ w', Below w.heap.size w w' → Calls Try.prog 13 #[.agg #[.int .i64 k, .int .i64 (D : Int), .int .i64 (Wd : Int), .int .i64 (Hi : Int), .slice ca cn cc, .slice pa pn pc]] w' fun e w'' => e = .returned (.bool true) ∧ Below w'.heap.size w' w'') := hOA
  have HLA : Hid (∀ (x : Nat) (w' : World), Below w.heap.size w w' → PtOk k D cs x → Calls Try.prog 34 #[.agg #[.int .i64 k, .int .i64 (D : Int), .int .i64 (Wd : Int), .int .i64 (Hi : Int), .slice ca cn cc, .slice pa pn pc], .int .i64 (x : Int)] w' fun e w'' => e = .returned (.int .i64 (colOf k D cs (x : Int))) ∧ Below w'.heap.size w' w'') := fun x w' b h => l8Color_any k D x (Wd : Int) (Hi : Int) ca cn cc pa pn pc cs w' (hc.kept b) hcn h
  have HP : Hid (∀ w', Below w.heap.size w w' → Ints w' pa ps) := fun w' b => hp.kept b
  have HPO : Hid (∀ j, j < pn → ∃ (p c : Nat), ps.getD j 0 = (p : Int) ∧ PtOk k D cs p ∧ colOf k D cs (p : Int) = (c : Int) ∧ c ≤ 4294967295) := fun j hj => by
    obtain ⟨p, h1, h2⟩ := Im.pt_ok ok j (by omega)
    have hjl : j < ps.length := by omega
    have hm : (p : Int) ∈ ps := by rw [← h1, List.getD_eq_getElem?_getD, List.getElem?_eq_getElem hjl]; exact List.getElem_mem hjl
    obtain ⟨b0, b1, _⟩ := col_bounds ok hm
    obtain ⟨c, hc⟩ := Int.eq_ofNat_of_zero_le b0
    exact ⟨p, c, h1, h2, hc, by omega⟩
  have HN : Hid (ps.length = pn) := hpn
  have hmul : Wd * Hi ≤ 20 * 20 := Nat.mul_le_mul hW hH
  have hpb : pn ≤ 400 := by omega
  clear hOA ok hc hcn hp hpn hm hmul
  go_enter Try.func10, Try.ntmps10
  go_wp2_with fail
  refine (HOA.out _ hB0).mono ?_
  rintro e w1 ⟨rfl, b1⟩
  have A1 : Hid (Bx w1 w.heap.size (.int .i64 k) (.int .i64 (D : Int)) (.int .i64 (Wd : Int)) (.int .i64 (Hi : Int)) (.slice ca cn cc) (.slice pa pn pc)) := A0.out.kept b1
  have HZ1 : Hid (w1.heap[w.heap.size + 1]? = some (.cells #[.int .i64 0, .int .i64 0, .int .i64 0, .int .i64 0, .slice none 0 0, .slice none 0 0] 25 (0, 0))) := (b1.block _ (by simp)).trans HZ.out
  have bel1 : Below w.heap.size w w1 := hB0.trans (b1.mono hB0.size)
  have hlt1 : w.heap.size + 1 < w1.heap.size := Nat.lt_of_lt_of_le (by simp) b1.size
  clear b1 hB0 A0 HOA HZ
  obtain ⟨_, a0, a1, a2, a3, a4, a5⟩ := A1.out
  go_wp2_with fail
  clear a0 a1 a2 a3 a4 a5
  obtain ⟨WX, hWX⟩ : ∃ WX, WX = w1.alloc (.cells #[.int .i64 2, .int .i64 24, .int .i64 (Wd : Int), .int .i64 (Hi : Int), .slice none 0 0, .slice none 0 0] 25) := ⟨_, rfl⟩
  have HX0 : Hid (Bx WX w1.heap.size (.int .i64 2) (.int .i64 24) (.int .i64 (Wd : Int)) (.int .i64 (Hi : Int)) (.slice none 0 0) (.slice none 0 0) ∧ WX.frozen? ⟨w1.heap.size, 5, none⟩ = false ∧ Below w1.heap.size w1 WX ∧ w1.heap.size + 1 ≤ WX.heap.size) := by
    have hb := heap_alloc_new w1 (.cells #[.int .i64 2, .int .i64 24, .int .i64 (Wd : Int), .int .i64 (Hi : Int), .slice none 0 0, .slice none 0 0] 25)
    refine ⟨by rw [hWX]; exact bx_new w1 _ _ _ _ _ _ 25, by rw [hWX]; exact (box6 hb).2.2.2.2.2.2, by rw [hWX]; exact (Below.refl _ _).alloc (Nat.le_refl _) _, by rw [hWX]; simp⟩
  rw [← hWX]
  clear hWX
  go_loopw [5] (fun i wr => ∃ (j : Nat) (v : Value), j ≤ pn ∧ i = .int .i64 (j : Int) ∧ OwnI wr (w1.heap.size + 1) v j (bares (cols k D cs (ps.take j))) ∧ (∀ c ∈ cols k D cs (ps.take j), c % 256 = 255) ∧ Bx wr w1.heap.size (.int .i64 2) (.int .i64 24) (.int .i64 (Wd : Int)) (.int .i64 (Hi : Int)) (.slice none 0 0) v ∧ wr.frozen? ⟨w1.heap.size, 5, none⟩ = false ∧ Below w1.heap.size w1 wr) (fun i _ => pn - (intOf i).toNat)
  case atStart => exact ⟨0, .slice none 0 0, Nat.zero_le _, rfl, World.ownsRow_nil _ _ _ _, fun c hc => by simp [cols] at hc, HX0.out.1, HX0.out.2.1, HX0.out.2.2.1⟩
  case round =>
    obtain ⟨j, v, hj, rfl, hown, hall, hbx, hfz, hbel⟩ := hrel
    have HOw : Hid (OwnI wr (w1.heap.size + 1) v j (bares (cols k D cs (ps.take j)))) := hown
    have HAL : Hid (∀ c ∈ cols k D cs (ps.take j), c % 256 = 255) := hall
    have Ar : Hid (Bx wr w.heap.size (.int .i64 k) (.int .i64 (D : Int)) (.int .i64 (Wd : Int)) (.int .i64 (Hi : Int)) (.slice ca cn cc) (.slice pa pn pc)) := A1.out.kept hbel
    have HBX : Hid (Bx wr w1.heap.size (.int .i64 2) (.int .i64 24) (.int .i64 (Wd : Int)) (.int .i64 (Hi : Int)) (.slice none 0 0) v ∧ wr.frozen? ⟨w1.heap.size, 5, none⟩ = false) := ⟨hbx, hfz⟩
    have belr : Below w.heap.size w wr := bel1.trans (hbel.mono bel1.size)
    have hXr : w1.heap.size + 1 ≤ wr.heap.size := hbx.1
    have HZr : Hid (wr.heap[w.heap.size + 1]? = some (.cells #[.int .i64 0, .int .i64 0, .int .i64 0, .int .i64 0, .slice none 0 0, .slice none 0 0] 25 (0, 0))) := (hbel.block _ hlt1).trans HZ1.out
    clear hown hall hbx hfz HX0
    obtain ⟨_, a0, a1, a2, a3, a4, a5⟩ := Ar.out
    by_cases hlt : j < pn
    · obtain ⟨p, c, hpv, hPO1, hcol, hcb⟩ := HPO.out j hlt
      have hj1 : j < ps.length := by have := HN.out; omega
      have HTK : Hid (cols k D cs (ps.take (j + 1)) = cols k D cs (ps.take j) ++ [(c : Int)] ∧ (c : Int) ∈ cols k D cs ps) := by
        have hg : ps[j] = (p : Int) := by rw [← hpv, List.getD_eq_getElem?_getD, List.getElem?_eq_getElem hj1]; rfl
        refine ⟨?_, ?_⟩
        · rw [List.take_succ_eq_append_getElem hj1]
          unfold cols
          rw [List.map_append, List.map_singleton, hg, hcol]
        · unfold cols
          rw [← hcol, ← hg]; exact List.mem_map_of_mem (List.getElem_mem hj1)
      rcases HP.out wr belr with h | ⟨b, off, rfl, hbl, c1⟩
      · rw [h] at hj1; simp at hj1
      have e1 : wr.cell? ⟨b, off + j, none⟩ = some (.int .i64 (p : Int)) := by
        rw [c1 j hj1, ← hpv, List.getD_eq_getElem?_getD, List.getElem?_eq_getElem hj1]; rfl
      have hji : (j : Int) < (pn : Int) := by omega
      have HLp : Hid (∀ w' : World, Below w.heap.size w w' → Calls Try.prog 34 #[.agg #[.int .i64 k, .int .i64 (D : Int), .int .i64 (Wd : Int), .int .i64 (Hi : Int), .slice ca cn cc, .slice (some ⟨b, off, none⟩) pn pc], .int .i64 (p : Int)] w' fun e w'' => e = .returned (.int .i64 (c : Int)) ∧ Below w'.heap.size w' w'') := fun w' b => by rw [← hcol]; exact HLA.out p w' b hPO1
      clear c1 hpv hj1 hcol hPO1 HLA HPO HP
      go_wp2_with fail
      go_region_held3 (fun w' => w'.cell? ⟨w.heap.size, 0, none⟩ = some (.int .i64 k) ∧ w'.cell? ⟨w.heap.size, 1, none⟩ = some (.int .i64 (D : Int)) ∧ w'.cell? ⟨w.heap.size, 2, none⟩ = some (.int .i64 (Wd : Int)) ∧ w'.cell? ⟨w.heap.size, 3, none⟩ = some (.int .i64 (Hi : Int)) ∧ w'.cell? ⟨w.heap.size, 4, none⟩ = some (.slice ca cn cc) ∧ w'.cell? ⟨w.heap.size, 5, none⟩ = some (.slice (some ⟨b, off, none⟩) pn pc) ∧ w'.cell? ⟨b, off + j, none⟩ = some (.int .i64 (p : Int))) (go_keep) ((go_at_call 34; refine (HLp.out wr.drew belr.drew).mono ?_; rintro e w5 ⟨rfl, b5⟩; have b5' : Below wr.heap.size wr w5 := box_drew b5; obtain ⟨m0, m1, m2, m3, m4, m5⟩ := box_kept ⟨a0, a1, a2, a3, a4, a5⟩ b5' (World.block_lt_of_cell? _ _ a0); have r1 := (b5'.cell (p := ⟨b, off + j, none⟩) hbl).trans e1))
      all_goals
        clear b5 m0 m1 m2 m3 m4 m5 r1 a0 a1 a2 a3 a4 a5 e1
        have hown5 : OwnI w5 (w1.heap.size + 1) v j (bares (cols k D cs (ps.take j))) := World.ownsRow.kept (show World.ownsRow _ _ _ _ _ _ _ from HOw.out) (grown_of_below b5') (by cases v.ownBlock <;> simp)
        have hbx5 : Bx w5 w1.heap.size (.int .i64 2) (.int .i64 24) (.int .i64 (Wd : Int)) (.int .i64 (Hi : Int)) (.slice none 0 0) v := HBX.out.1.kept b5'
        have hfz5 : w5.frozen? ⟨w1.heap.size, 5, none⟩ = false := (b5'.frozen (p := ⟨w1.heap.size, 5, none⟩) hXr).trans HBX.out.2
        have bel5 : Below w1.heap.size w1 w5 := hbel.trans (b5'.mono (by omega))
        have hs5 : w1.heap.size + 1 ≤ w5.heap.size := Nat.le_trans hXr b5'.size
        have hz5 : w5.heap[w.heap.size + 1]? = some (.cells #[.int .i64 0, .int .i64 0, .int .i64 0, .int .i64 0, .slice none 0 0, .slice none 0 0] 25 (0, 0)) := (b5'.block _ (by omega)).trans HZr.out
        clear b5' hbel HOw HBX HZr
        by_cases hdn : (c : Int) % 256 = 255
        · have hbn : ((c : Int) % 256 != 255) = false := by rw [hdn]; rfl
          have HAL2 : Hid (∀ z ∈ cols k D cs (ps.take (j + 1)), z % 256 = 255) := by
            intro z hz
            rw [HTK.out.1] at hz
            rcases List.mem_append.1 hz with h | h
            · exact HAL.out z h
            · rw [List.mem_singleton.1 h]; exact hdn
          have HBR : Hid (bares (cols k D cs (ps.take (j + 1))) = bares (cols k D cs (ps.take j)) ++ [(c : Int) / 256]) := by
            show _ = _
            rw [HTK.out.1]; unfold bares; rw [List.map_append]; rfl
          generalize hL : bares (cols k D cs (ps.take j)) = L at *
          obtain ⟨hXlt, x0, x1, x2, x3, x4, x5⟩ := hbx5
          obtain ⟨u, hu⟩ : ∃ u, u = (c : Int) / 256 := ⟨_, rfl⟩
          rw [← hu] at HBR
          have HX6 : Hid (Bx w5 w1.heap.size (.int .i64 2) (.int .i64 24) (.int .i64 (Wd : Int)) (.int .i64 (Hi : Int)) (.slice none 0 0) v) := ⟨hXlt, x0, x1, x2, x3, x4, x5⟩
          have x5' : (w5.alloc (.cells #[.int .i64 u] 3)).cell? ⟨w1.heap.size, 5, none⟩ = some v := (World.cell?_alloc_some w5 _ _ (by rw [x5]; rfl)).trans x5
          clear hdn HAL hL x0 x1 x2 x3 x4
          go_wp2_with (at_builtin; rw [← hu]; refine wpList_app1 w5 (by rfl) _ _ (by rfl) (w1.heap.size + 1) v j L u (by rfl) hown5 (by rfl) (by omega) hs5 ?_)
          intro g cap w6 hown6 hgr
          have hnx : v.ownBlock ≠ some w1.heap.size := fun e => by have := (World.ownsRow.lt hown5 _ e).1; omega
          have x6 : w6.cell? ⟨w1.heap.size, 5, none⟩ = some v := (hgr.cell (a := ⟨w1.heap.size, 5, none⟩) hXlt hnx).trans x5
          have hblk : w6.heap[w1.heap.size]? = w5.heap[w1.heap.size]? := hgr.block w1.heap.size hXlt (fun e => hnx e.symm)
          have f6 : w6.frozen? ⟨w1.heap.size, 5, none⟩ = false := (World.frozen?_of_block (w := w5) (a := ⟨w1.heap.size, 5, none⟩) hblk).trans hfz5
          have bel6 : Below w1.heap.size w1 w6 := hgr.below bel5 (by omega) (by omega)
          have HX7 : Hid (Bx (w6.setCell ⟨w1.heap.size, 5, none⟩ (.slice (some ⟨g, 0, none⟩) (j + 1) cap)) w1.heap.size (.int .i64 2) (.int .i64 24) (.int .i64 (Wd : Int)) (.int .i64 (Hi : Int)) (.slice none 0 0) (.slice (some ⟨g, 0, none⟩) (j + 1) cap)) := by
            obtain ⟨_, q0, q1, q2, q3, q4, _⟩ := HX6.out
            have old : ∀ i (y : Value), i ≠ 5 → w5.cell? ⟨w1.heap.size, i, none⟩ = some y → (w6.setCell ⟨w1.heap.size, 5, none⟩ (.slice (some ⟨g, 0, none⟩) (j + 1) cap)).cell? ⟨w1.heap.size, i, none⟩ = some y := fun i y hi h =>
              (World.cell?_setCell_other _ _ _ _ (fun e => hi (by have := congrArg Addr.off e; simpa using this.symm))).trans ((World.cell?_of_block (w := w5) (a := ⟨w1.heap.size, i, none⟩) hblk).trans h)
            exact ⟨by simp; exact Nat.lt_of_lt_of_le hXlt hgr.size, old 0 _ (by decide) q0, old 1 _ (by decide) q1, old 2 _ (by decide) q2, old 3 _ (by decide) q3, old 4 _ (by decide) q4, World.cell?_setCell_same _ _ _ x6⟩
          have HF7 : Hid ((w6.setCell ⟨w1.heap.size, 5, none⟩ (.slice (some ⟨g, 0, none⟩) (j + 1) cap)).frozen? ⟨w1.heap.size, 5, none⟩ = false) := by show _ = _; rw [World.frozen?_setCell]; exact f6
          have HO7 : Hid (OwnI (w6.setCell ⟨w1.heap.size, 5, none⟩ (.slice (some ⟨g, 0, none⟩) (j + 1) cap)) (w1.heap.size + 1) (.slice (some ⟨g, 0, none⟩) (j + 1) cap) (j + 1) (L ++ [u])) := by
            show OwnI _ _ _ _ _
            rw [hu]
            exact ownsRow_setCell_below (show World.ownsRow _ _ _ _ _ _ _ from hown6) (a := ⟨w1.heap.size, 5, none⟩) (show w1.heap.size < w1.heap.size + 1 by omega) _
          have HB7 : Hid (Below w1.heap.size w1 (w6.setCell ⟨w1.heap.size, 5, none⟩ (.slice (some ⟨g, 0, none⟩) (j + 1) cap))) := bel6.setCell (Nat.le_refl _) _
          clear hgr hown6 hown5 bel5 bel6 x5 x5' HX6 hfz5 hz5 hblk
          go_wp2_with fail
          go_roundw
          case rel => exact ⟨j + 1, _, by omega, by go_num, by rw [HBR.out]; exact HO7.out, HAL2.out, HX7.out, HF7.out, HB7.out⟩
          case measure => simp [intOf]; omega
        · have hbn : ((c : Int) % 256 != 255) = true := by rw [bne_iff_ne]; exact hdn
          have HND : Hid (denseB (cols k D cs ps) = false) := denseB_no HTK.out.2 hdn
          have hI6 : (Try.prog.info? 25).map (·.size) = some (#[Value.int .i64 0, .int .i64 0, .int .i64 0, .int .i64 0, .slice none 0 0, .slice none 0 0]).size := by kernel_rfl
          have h16 : (#[Value.int .i64 0, .int .i64 0, .int .i64 0, .int .i64 0, .slice none 0 0, .slice none 0 0]).all (·.oneCell') = true := by simp [Value.oneCell']
          have hs2 := setRow_heap w5 (w.heap.size + 1) _ #[.int .i64 0, .int .i64 0, .int .i64 0, .int .i64 0, .slice none 0 0, .slice none 0 0] _ _ hz5
          obtain ⟨⟨z0, z1, z2, z3, z4, z5⟩, _⟩ := box6 hs2
          have belw5 : Below w.heap.size w w5 := bel1.trans (bel5.mono bel1.size)
          clear hown5 hbx5 hfz5 HAL HTK
          go_wp2_with (refine wpList_store_row rfl 25 (.tmp 2) (.tmp 33) rfl (w.heap.size + 1) #[.int .i64 0, .int .i64 0, .int .i64 0, .int .i64 0, .slice none 0 0, .slice none 0 0] rfl rfl 25 #[.int .i64 0, .int .i64 0, .int .i64 0, .int .i64 0, .slice none 0 0, .slice none 0 0] hz5 hI6 rfl h16 ?_)
          refine bodyPost_ret (v := .tuple #[.agg #[.int .i64 0, .int .i64 0, .int .i64 0, .int .i64 0, .slice none 0 0, .slice none 0 0], .bool false]) (by simp [results, Try.results10, go_sem, z0, z1, z2, z3, z4, z5]) rfl ⟨.inr ⟨HND.out, rfl⟩, ?_⟩
          exact belw5.trans ((below_setRow _ _ _).mono (by omega))
    · obtain rfl : j = pn := by omega
      have HTA : Hid (ps.take j = ps) := by show _ = _; rw [List.take_of_length_le (by have := HN.out; omega)]
      rw [HTA.out] at HOw HAL
      obtain ⟨hXlt, x0, x1, x2, x3, x4, x5⟩ := HBX.out.1
      obtain ⟨y, cy, rfl, hOy⟩ := HOw.out.owns
      have HDN : Hid (denseB (cols k D cs ps) = true) := denseB_yes HAL.out
      have hzr := HZr.out
      have hI6 : (Try.prog.info? 25).map (·.size) = some (#[Value.int .i64 2, .int .i64 24, .int .i64 (Wd : Int), .int .i64 (Hi : Int), .slice none 0 0, .slice y j cy]).size := by kernel_rfl
      have h16 : (#[Value.int .i64 2, .int .i64 24, .int .i64 (Wd : Int), .int .i64 (Hi : Int), .slice none 0 0, .slice y j cy]).all (·.oneCell') = true := by simp [Value.oneCell']
      have hs2 := setRow_heap wr (w.heap.size + 1) _ #[.int .i64 2, .int .i64 24, .int .i64 (Wd : Int), .int .i64 (Hi : Int), .slice none 0 0, .slice y j cy] _ _ hzr
      obtain ⟨⟨z0, z1, z2, z3, z4, z5⟩, _⟩ := box6 hs2
      have HIY : Hid (Ints (wr.setRow (w.heap.size + 1) #[.int .i64 2, .int .i64 24, .int .i64 (Wd : Int), .int .i64 (Hi : Int), .slice none 0 0, .slice y j cy]) y (bares (cols k D cs ps))) := (hOy.row (by omega) _).ints
      clear HAL HOw HBX hOy HPO HP HLA
      go_wp2_with (refine wpList_store_row rfl 25 (.tmp 2) (.tmp 41) rfl (w.heap.size + 1) #[.int .i64 2, .int .i64 24, .int .i64 (Wd : Int), .int .i64 (Hi : Int), .slice none 0 0, .slice y j cy] rfl rfl 25 #[.int .i64 0, .int .i64 0, .int .i64 0, .int .i64 0, .slice none 0 0, .slice none 0 0] hzr hI6 rfl h16 ?_)
      refine bodyPost_ret (v := .tuple #[.agg #[.int .i64 2, .int .i64 24, .int .i64 (Wd : Int), .int .i64 (Hi : Int), .slice none 0 0, .slice y j cy], .bool true]) (by simp [results, Try.results10, go_sem, z0, z1, z2, z3, z4, z5]) rfl ⟨.inl ⟨HDN.out, y, cy, rfl, HIY.out⟩, ?_⟩
      exact belr.trans ((below_setRow _ _ _).mono (by omega))
end Go.Proofs.Ytchaepkdpbiffaa

/- ImageRgb at every picture, of both. -/
namespace Go.Proofs.Ytchaepkdpbiffaa
open Go.RowKit

theorem Im.okB_open {k d wd hi : Int} {cs ps : List Int} (h : Im.okB k d wd hi cs ps = true) : Im.Ok k d wd hi cs ps := @of_decide_eq_true _ (Classical.propDecidable _) h

/-- whether a picture can be made one of red, green and blue -/
noncomputable def rgB (k d wd hi : Int) (cs ps : List Int) : Bool := Im.okB k d wd hi cs ps && denseB (cols k d.toNat cs ps)
/-- a field of what comes out -/
noncomputable def rgK (k d wd hi : Int) (cs ps : List Int) (v : Int) : Int := if rgB k d wd hi cs ps then v else 0
/-- its points -/
noncomputable def rgL (k d wd hi : Int) (cs ps : List Int) : List Int := if rgB k d wd hi cs ps then bares (cols k d.toNat cs ps) else []
theorem bares_len (l : List Int) : (bares l).length = l.length := by simp [bares]
theorem cols_len (k : Int) (D : Nat) (cs ps : List Int) : (cols k D cs ps).length = ps.length := by simp [cols]

theorem rg_yes {k wd hi : Int} {D : Nat} {cs ps : List Int} (h : Im.okB k (D : Int) wd hi cs ps = true) (hd : denseB (cols k D cs ps) = true) :
    rgB k (D : Int) wd hi cs ps = true ∧ rgL k (D : Int) wd hi cs ps = bares (cols k D cs ps) ∧ ∀ v, rgK k (D : Int) wd hi cs ps v = v := by
  have hB : rgB k (D : Int) wd hi cs ps = true := by unfold rgB; rw [h, Int.toNat_natCast, hd]; rfl
  exact ⟨hB, by unfold rgL; rw [hB, Int.toNat_natCast]; rfl, fun v => by unfold rgK; rw [hB]; rfl⟩
theorem rg_no {k d wd hi : Int} {cs ps : List Int} (h : Im.okB k d wd hi cs ps = false ∨ denseB (cols k d.toNat cs ps) = false) :
    rgB k d wd hi cs ps = false ∧ rgL k d wd hi cs ps = [] ∧ ∀ v, rgK k d wd hi cs ps v = 0 := by
  have hB : rgB k d wd hi cs ps = false := by
    unfold rgB
    rcases h with h | h <;> rw [h] <;> simp
  exact ⟨hB, by unfold rgL; rw [hB]; rfl, fun v => by unfold rgK; rw [hB]; rfl⟩
theorem rgL_len (k d wd hi : Int) (cs ps : List Int) : (rgL k d wd hi cs ps).length ≤ 1048576 := by
  unfold rgL
  split
  · next h =>
    unfold rgB at h
    rw [Bool.and_eq_true] at h
    obtain ⟨_, hw, hh, _, hm, _⟩ := Im.okB_open h.1
    rw [bares_len, cols_len]
    obtain ⟨Wd, rfl⟩ := Int.eq_ofNat_of_zero_le (show 0 ≤ wd by omega)
    obtain ⟨Hi, rfl⟩ := Int.eq_ofNat_of_zero_le (show 0 ≤ hi by omega)
    have e : ((Wd * Hi : Nat) : Int) = (Wd : Int) * (Hi : Int) := by simp
    have : Wd * Hi ≤ 20 * 20 := Nat.mul_le_mul (by omega) (by omega)
    omega
  · simp
theorem rgb_upto (k : Int) (D : Nat) (cs ps : List Int) (Wd Hi : Nat) (h : ps.length = Wd * Hi) : upto (ptF Wd (fun x y => colF k D cs Wd ps x y / 256)) (Wd * Hi) = bares (cols k D cs ps) := by
  rw [← cols_upto k D cs ps Wd Hi h]
  unfold bares upto
  rw [List.map_map]; rfl
theorem tmod_col {k wd hi : Int} {D : Nat} {cs ps : List Int} (hok : Im.Ok k (D : Int) wd hi cs ps) {c : Int} (hc : c ∈ cols k D cs ps) : c.tmod 256 = c % 256 := by
  unfold cols at hc
  obtain ⟨p, hp, rfl⟩ := List.mem_map.1 hc
  exact Int.tmod_eq_emod_of_nonneg (col_bounds hok hp).1

theorem spec_rgb (k d wd hi : Int) (ca : Option Addr) (cn cc : Nat) (pa : Option Addr) (pn pc : Nat) (cs ps : List Int) (w : World) (hc : Ints w ca cs) (hcn : cs.length = cn) (hcl : cn ≤ 1048576) (hp : Ints w pa ps) (hpn : ps.length = pn) (_hpl : pn ≤ 1048576) :
    Calls Try.prog 10 #[.agg #[.int .i64 k, .int .i64 d, .int .i64 wd, .int .i64 hi, .slice ca cn cc, .slice pa pn pc]] w fun e w'' => (∃ x cx y cy, e = .returned (.tuple #[.agg #[.int .i64 (rgK k d wd hi cs ps 2), .int .i64 (rgK k d wd hi cs ps 24), .int .i64 (rgK k d wd hi cs ps wd), .int .i64 (rgK k d wd hi cs ps hi), .slice x 0 cx, .slice y (rgL k d wd hi cs ps).length cy], .bool (rgB k d wd hi cs ps)]) ∧ Ints w'' x [] ∧ Ints w'' y (rgL k d wd hi cs ps)) ∧ Below w.heap.size w w'' := by
  rcases hok : Im.okB k d wd hi cs ps with _ | _
  · refine (spec_rgb_no k d wd hi ca cn cc pa pn pc w (fun w'' b => by have := spec_imageOk k d wd hi ca cn cc pa pn pc w'' cs ps (hc.kept b) hcn hcl (hp.kept b) hpn; rw [hok] at this; exact this)).mono ?_
    rintro e w'' ⟨rfl, b⟩
    obtain ⟨hB, hL, hK⟩ := rg_no (k := k) (d := d) (wd := wd) (hi := hi) (cs := cs) (ps := ps) (.inl hok)
    refine ⟨⟨none, 0, none, 0, ?_, .inl rfl, .inl hL⟩, b⟩
    rw [hB, hK, hK, hK, hK, hL]; rfl
  · have hOk := Im.okB_open hok
    obtain ⟨hd, hw, hh, _, hm, _⟩ := hOk
    obtain ⟨Wd, rfl⟩ := Int.eq_ofNat_of_zero_le (show 0 ≤ wd by omega)
    obtain ⟨Hi, rfl⟩ := Int.eq_ofNat_of_zero_le (show 0 ≤ hi by omega)
    obtain ⟨D, rfl, _, _⟩ := Im.dep_all hd
    have e : ((Wd * Hi : Nat) : Int) = (Wd : Int) * (Hi : Int) := by simp
    have hmm : pn = Wd * Hi := by omega
    have hOk := Im.okB_open hok
    · skip
      refine (spec_rgb_ok k D Wd Hi ca cn cc pa pn pc cs ps w hOk hc hcn hp hpn (by omega) (by omega) hmm (fun w'' b => by
        have := spec_imageOk k D Wd Hi ca cn cc pa pn pc w'' cs ps (hc.kept b) hcn hcl (hp.kept b) hpn
        rw [hok] at this; exact this)).mono ?_
      rintro e w'' ⟨h | h, b⟩
      · obtain ⟨hd, y, cy, rfl, hy⟩ := h
        obtain ⟨hB, hL, hK⟩ := rg_yes hok hd
        refine ⟨⟨none, 0, y, cy, ?_, .inl rfl, ?_⟩, b⟩
        · rw [hB, hK, hK, hK, hK, hL, bares_len, cols_len, hpn]
        · rw [hL]; exact hy
      · obtain ⟨hd, rfl⟩ := h
        obtain ⟨hB, hL, hK⟩ := rg_no (d := (D : Int)) (wd := (Wd : Int)) (hi := (Hi : Int)) (k := k) (cs := cs) (ps := ps) (.inr hd)
        refine ⟨⟨none, 0, none, 0, ?_, .inl rfl, .inl hL⟩, b⟩
        rw [hB, hK, hK, hK, hK, hL]; rfl

theorem impl_rgb (k d wd hi : Int) (ca : Option Addr) (cn cc : Nat) (pa : Option Addr) (pn pc : Nat) (cs ps : List Int) (w : World) (hc : Ints w ca cs) (hcn : cs.length = cn) (hcl : cn ≤ 1048576) (hp : Ints w pa ps) (hpn : ps.length = pn) (hpl : pn ≤ 1048576) :
    Calls Try.prog 9 #[.agg #[.int .i64 k, .int .i64 d, .int .i64 wd, .int .i64 hi, .slice ca cn cc, .slice pa pn pc]] w fun e w'' => (∃ x cx y cy, e = .returned (.tuple #[.agg #[.int .i64 (rgK k d wd hi cs ps 2), .int .i64 (rgK k d wd hi cs ps 24), .int .i64 (rgK k d wd hi cs ps wd), .int .i64 (rgK k d wd hi cs ps hi), .slice x 0 cx, .slice y (rgL k d wd hi cs ps).length cy], .bool (rgB k d wd hi cs ps)]) ∧ Pair2 w'' w.heap.size x [] y (rgL k d wd hi cs ps)) ∧ Below w.heap.size w w'' := by
  rcases hok : Im.okB k d wd hi cs ps with _ | _
  · refine (impl_rgb_no k d wd hi ca cn cc pa pn pc w (fun w'' b => by have := impl_imageOk k d wd hi ca cn cc pa pn pc w'' cs ps (hc.kept b) hcn hcl (hp.kept b) hpn (by omega); rw [hok] at this; exact this)).mono ?_
    rintro e w'' ⟨rfl, b⟩
    obtain ⟨hB, hL, hK⟩ := rg_no (k := k) (d := d) (wd := wd) (hi := hi) (cs := cs) (ps := ps) (.inl hok)
    refine ⟨⟨none, 0, none, 0, ?_, ⟨w.heap.size, Nat.le_refl _, .inl rfl, .inl rfl, .inl hL⟩⟩, b⟩
    rw [hB, hK, hK, hK, hK, hL]; rfl
  · have hOk := Im.okB_open hok
    obtain ⟨hd, hw, hh, _, hm, _⟩ := hOk
    obtain ⟨Wd, rfl⟩ := Int.eq_ofNat_of_zero_le (show 0 ≤ wd by omega)
    obtain ⟨Hi, rfl⟩ := Int.eq_ofNat_of_zero_le (show 0 ≤ hi by omega)
    obtain ⟨D, rfl, _, _⟩ := Im.dep_all hd
    have e : ((Wd * Hi : Nat) : Int) = (Wd : Int) * (Hi : Int) := by simp
    have hmm : pn = Wd * Hi := by omega
    have hOk := Im.okB_open hok
    · skip
      refine (callsIn_wide.1 (impl_rgb_in k D Wd Hi ca cn cc pa pn pc cs ps w hOk hc hcn hp hpn (by omega) (by omega) hmm (fun w'' b => by
        have := impl_imageOk k D Wd Hi ca cn cc pa pn pc w'' cs ps (hc.kept b) hcn hcl (hp.kept b) hpn (by omega)
        rw [hok] at this; exact this))).mono ?_
      rintro e w'' ⟨h | h, b⟩
      · obtain ⟨hd, x, cx, y, cy, rfl, hP⟩ := h
        have hd' : denseB (cols k D cs ps) = true := denseB_yes (fun c hc => by
          have h1 := hd c hc
          rwa [tmod_col hOk hc] at h1)
        obtain ⟨hB, hL, hK⟩ := rg_yes hok hd'
        refine ⟨⟨x, cx, y, cy, ?_, ?_⟩, b⟩
        · rw [hB, hK, hK, hK, hK, hL, bares_len, cols_len, hpn, hmm]
        · rw [hL, ← rgb_upto k D cs ps Wd Hi (by rw [hpn, hmm])]; exact hP
      · obtain ⟨⟨z, hz, hz2⟩, rfl⟩ := h
        have hd' : denseB (cols k D cs ps) = false := denseB_no hz (by rwa [tmod_col hOk hz] at hz2)
        obtain ⟨hB, hL, hK⟩ := rg_no (d := (D : Int)) (wd := (Wd : Int)) (hi := (Hi : Int)) (k := k) (cs := cs) (ps := ps) (.inr hd')
        refine ⟨⟨none, 0, none, 0, ?_, ⟨w.heap.size, Nat.le_refl _, .inl rfl, .inl rfl, .inl hL⟩⟩, b⟩
        rw [hB, hK, hK, hK, hK, hL]; rfl
end Go.Proofs.Ytchaepkdpbiffaa

/- ImageLike at every two pictures, of both. -/
namespace Go.Proofs.Ytchaepkdpbiffaa
open Go.RowKit

/-- two pictures look the same -/
noncomputable def likeB (k d wd hi : Int) (cs ps : List Int) (k2 d2 wd2 hi2 : Int) (cs2 ps2 : List Int) : Bool :=
  Im.okB k d wd hi cs ps && Im.okB k2 d2 wd2 hi2 cs2 ps2 && decide (wd = wd2) && decide (hi = hi2) && decide (cols k d.toNat cs ps = cols k2 d2.toNat cs2 ps2)
theorem like_no {k d wd hi : Int} {cs ps : List Int} {k2 d2 wd2 hi2 : Int} {cs2 ps2 : List Int} (h : Im.okB k d wd hi cs ps = false ∨ Im.okB k2 d2 wd2 hi2 cs2 ps2 = false ∨ ¬ wd = wd2 ∨ ¬ hi = hi2) : likeB k d wd hi cs ps k2 d2 wd2 hi2 cs2 ps2 = false := by
  unfold likeB
  rcases h with h | h | h | h <;> simp [h]
theorem like_yes {k wd hi : Int} {D : Nat} {cs ps : List Int} {k2 : Int} {D2 : Nat} {cs2 ps2 : List Int} (h : Im.okB k (D : Int) wd hi cs ps = true) (h2 : Im.okB k2 (D2 : Int) wd hi cs2 ps2 = true) : likeB k (D : Int) wd hi cs ps k2 (D2 : Int) wd hi cs2 ps2 = decide (cols k D cs ps = cols k2 D2 cs2 ps2) := by
  unfold likeB
  rw [h, h2, Int.toNat_natCast, Int.toNat_natCast]; simp

theorem spec_like (k d wd hi : Int) (x : Option Addr) (cn cc : Nat) (y : Option Addr) (pn pc : Nat) (k2 d2 wd2 hi2 : Int) (x2 : Option Addr) (cn2 cc2 : Nat) (y2 : Option Addr) (pn2 pc2 : Nat) (cs ps cs2 ps2 : List Int) (w : World) (H1 : Ints w x cs) (hcn : cs.length = cn) (hcl : cn ≤ 1048576) (H2 : Ints w y ps) (hpn : ps.length = pn) (_hpl : pn ≤ 1048576) (H21 : Ints w x2 cs2) (hcn2 : cs2.length = cn2) (hcl2 : cn2 ≤ 1048576) (H22 : Ints w y2 ps2) (hpn2 : ps2.length = pn2) (_hpl2 : pn2 ≤ 1048576) :
    Calls Try.prog 21 #[.agg #[.int .i64 k, .int .i64 d, .int .i64 wd, .int .i64 hi, .slice x cn cc, .slice y pn pc], .agg #[.int .i64 k2, .int .i64 d2, .int .i64 wd2, .int .i64 hi2, .slice x2 cn2 cc2, .slice y2 pn2 pc2]] w fun e w' => e = .returned (.bool (likeB k d wd hi cs ps k2 d2 wd2 hi2 cs2 ps2)) ∧ Below w.heap.size w w' := by
  rcases hok : Im.okB k d wd hi cs ps with _ | _
  · rw [like_no (.inl hok)]
    exact spec_like_bad1 k d wd hi x cn cc y pn pc k2 d2 wd2 hi2 x2 cn2 cc2 y2 pn2 pc2 w (fun w'' b => by have := spec_imageOk k d wd hi x cn cc y pn pc w'' cs ps (H1.kept b) hcn (by omega) (H2.kept b) hpn; rw [hok] at this; exact this)
  · rcases hok2 : Im.okB k2 d2 wd2 hi2 cs2 ps2 with _ | _
    · rw [like_no (.inr (.inl hok2))]
      exact spec_like_bad2 k d wd hi x cn cc y pn pc k2 d2 wd2 hi2 x2 cn2 cc2 y2 pn2 pc2 w (fun w'' b => by have := spec_imageOk k d wd hi x cn cc y pn pc w'' cs ps (H1.kept b) hcn (by omega) (H2.kept b) hpn; rw [hok] at this; exact this) (fun w'' b => by have := spec_imageOk k2 d2 wd2 hi2 x2 cn2 cc2 y2 pn2 pc2 w'' cs2 ps2 (H21.kept b) hcn2 (by omega) (H22.kept b) hpn2; rw [hok2] at this; exact this)
    · by_cases hw : wd = wd2
      · subst hw
        by_cases hh : hi = hi2
        · subst hh
          have O1 := Im.okB_open hok
          have O2 := Im.okB_open hok2
          have R1 := O1
          have R2 := O2
          obtain ⟨q1, q2, q3, _, q5, _⟩ := R1
          obtain ⟨q7, _, _, _, q6, _⟩ := R2
          obtain ⟨D, rfl, _⟩ := Im.dep_all q1
          obtain ⟨D2, rfl, _⟩ := Im.dep_all q7
          obtain ⟨Wd, rfl⟩ := Int.eq_ofNat_of_zero_le (show 0 ≤ wd by omega)
          obtain ⟨Hi, rfl⟩ := Int.eq_ofNat_of_zero_le (show 0 ≤ hi by omega)
          have em : ((Wd * Hi : Nat) : Int) = (Wd : Int) * (Hi : Int) := by simp
          have hm : pn = Wd * Hi := by omega
          have hm2 : pn2 = Wd * Hi := by omega
          rw [like_yes hok hok2]
          exact spec_like_yes k D Wd Hi x cn cc y pn pc k2 D2 x2 cn2 cc2 y2 pn2 pc2 cs ps cs2 ps2 w O1 O2 H1 hcn H2 hpn H21 hcn2 H22 hpn2 (by omega) (by omega) hm hm2 (fun w'' b => by have := spec_imageOk k D Wd Hi x cn cc y pn pc w'' cs ps (H1.kept b) hcn (by omega) (H2.kept b) hpn; rw [hok] at this; exact this) (fun w'' b => by have := spec_imageOk k2 D2 Wd Hi x2 cn2 cc2 y2 pn2 pc2 w'' cs2 ps2 (H21.kept b) hcn2 (by omega) (H22.kept b) hpn2; rw [hok2] at this; exact this)
        · rw [like_no (.inr (.inr (.inr hh)))]
          exact spec_like_high k d wd hi x cn cc y pn pc k2 d2 hi2 x2 cn2 cc2 y2 pn2 pc2 w hh (fun w'' b => by have := spec_imageOk k d wd hi x cn cc y pn pc w'' cs ps (H1.kept b) hcn (by omega) (H2.kept b) hpn; rw [hok] at this; exact this) (fun w'' b => by have := spec_imageOk k2 d2 wd hi2 x2 cn2 cc2 y2 pn2 pc2 w'' cs2 ps2 (H21.kept b) hcn2 (by omega) (H22.kept b) hpn2; rw [hok2] at this; exact this)
      · rw [like_no (.inr (.inr (.inl hw)))]
        exact spec_like_wide k d wd hi x cn cc y pn pc k2 d2 wd2 hi2 x2 cn2 cc2 y2 pn2 pc2 w hw (fun w'' b => by have := spec_imageOk k d wd hi x cn cc y pn pc w'' cs ps (H1.kept b) hcn (by omega) (H2.kept b) hpn; rw [hok] at this; exact this) (fun w'' b => by have := spec_imageOk k2 d2 wd2 hi2 x2 cn2 cc2 y2 pn2 pc2 w'' cs2 ps2 (H21.kept b) hcn2 (by omega) (H22.kept b) hpn2; rw [hok2] at this; exact this)

theorem impl_like (k d wd hi : Int) (x : Option Addr) (cn cc : Nat) (y : Option Addr) (pn pc : Nat) (k2 d2 wd2 hi2 : Int) (x2 : Option Addr) (cn2 cc2 : Nat) (y2 : Option Addr) (pn2 pc2 : Nat) (cs ps cs2 ps2 : List Int) (w : World) (H1 : Ints w x cs) (hcn : cs.length = cn) (hcl : cn ≤ 1048576) (H2 : Ints w y ps) (hpn : ps.length = pn) (hpl : pn ≤ 1048576) (H21 : Ints w x2 cs2) (hcn2 : cs2.length = cn2) (hcl2 : cn2 ≤ 1048576) (H22 : Ints w y2 ps2) (hpn2 : ps2.length = pn2) (hpl2 : pn2 ≤ 1048576) :
    Calls Try.prog 15 #[.agg #[.int .i64 k, .int .i64 d, .int .i64 wd, .int .i64 hi, .slice x cn cc, .slice y pn pc], .agg #[.int .i64 k2, .int .i64 d2, .int .i64 wd2, .int .i64 hi2, .slice x2 cn2 cc2, .slice y2 pn2 pc2]] w fun e w' => e = .returned (.bool (likeB k d wd hi cs ps k2 d2 wd2 hi2 cs2 ps2)) ∧ Below w.heap.size w w' := by
  rcases hok : Im.okB k d wd hi cs ps with _ | _
  · rw [like_no (.inl hok)]
    exact impl_like_bad1 k d wd hi x cn cc y pn pc k2 d2 wd2 hi2 x2 cn2 cc2 y2 pn2 pc2 w (fun w'' b => by have := impl_imageOk k d wd hi x cn cc y pn pc w'' cs ps (H1.kept b) hcn (by omega) (H2.kept b) hpn (by omega); rw [hok] at this; exact this)
  · rcases hok2 : Im.okB k2 d2 wd2 hi2 cs2 ps2 with _ | _
    · rw [like_no (.inr (.inl hok2))]
      exact impl_like_bad2 k d wd hi x cn cc y pn pc k2 d2 wd2 hi2 x2 cn2 cc2 y2 pn2 pc2 w (fun w'' b => by have := impl_imageOk k d wd hi x cn cc y pn pc w'' cs ps (H1.kept b) hcn (by omega) (H2.kept b) hpn (by omega); rw [hok] at this; exact this) (fun w'' b => by have := impl_imageOk k2 d2 wd2 hi2 x2 cn2 cc2 y2 pn2 pc2 w'' cs2 ps2 (H21.kept b) hcn2 (by omega) (H22.kept b) hpn2 (by omega); rw [hok2] at this; exact this)
    · by_cases hw : wd = wd2
      · subst hw
        by_cases hh : hi = hi2
        · subst hh
          have O1 := Im.okB_open hok
          have O2 := Im.okB_open hok2
          have R1 := O1
          have R2 := O2
          obtain ⟨q1, q2, q3, _, q5, _⟩ := R1
          obtain ⟨q7, _, _, _, q6, _⟩ := R2
          obtain ⟨D, rfl, _⟩ := Im.dep_all q1
          obtain ⟨D2, rfl, _⟩ := Im.dep_all q7
          obtain ⟨Wd, rfl⟩ := Int.eq_ofNat_of_zero_le (show 0 ≤ wd by omega)
          obtain ⟨Hi, rfl⟩ := Int.eq_ofNat_of_zero_le (show 0 ≤ hi by omega)
          have em : ((Wd * Hi : Nat) : Int) = (Wd : Int) * (Hi : Int) := by simp
          have hm : pn = Wd * Hi := by omega
          have hm2 : pn2 = Wd * Hi := by omega
          rw [like_yes hok hok2]
          exact impl_like_yes k D Wd Hi x cn cc y pn pc k2 D2 x2 cn2 cc2 y2 pn2 pc2 cs ps cs2 ps2 w O1 O2 H1 hcn H2 hpn H21 hcn2 H22 hpn2 (by omega) (by omega) hm hm2 (fun w'' b => by have := impl_imageOk k D Wd Hi x cn cc y pn pc w'' cs ps (H1.kept b) hcn (by omega) (H2.kept b) hpn (by omega); rw [hok] at this; exact this) (fun w'' b => by have := impl_imageOk k2 D2 Wd Hi x2 cn2 cc2 y2 pn2 pc2 w'' cs2 ps2 (H21.kept b) hcn2 (by omega) (H22.kept b) hpn2 (by omega); rw [hok2] at this; exact this)
        · rw [like_no (.inr (.inr (.inr hh)))]
          exact impl_like_high k d wd hi x cn cc y pn pc k2 d2 hi2 x2 cn2 cc2 y2 pn2 pc2 w hh (fun w'' b => by have := impl_imageOk k d wd hi x cn cc y pn pc w'' cs ps (H1.kept b) hcn (by omega) (H2.kept b) hpn (by omega); rw [hok] at this; exact this) (fun w'' b => by have := impl_imageOk k2 d2 wd hi2 x2 cn2 cc2 y2 pn2 pc2 w'' cs2 ps2 (H21.kept b) hcn2 (by omega) (H22.kept b) hpn2 (by omega); rw [hok2] at this; exact this)
      · rw [like_no (.inr (.inr (.inl hw)))]
        exact impl_like_wide k d wd hi x cn cc y pn pc k2 d2 wd2 hi2 x2 cn2 cc2 y2 pn2 pc2 w hw (fun w'' b => by have := impl_imageOk k d wd hi x cn cc y pn pc w'' cs ps (H1.kept b) hcn (by omega) (H2.kept b) hpn (by omega); rw [hok] at this; exact this) (fun w'' b => by have := impl_imageOk k2 d2 wd2 hi2 x2 cn2 cc2 y2 pn2 pc2 w'' cs2 ps2 (H21.kept b) hcn2 (by omega) (H22.kept b) hpn2 (by omega); rw [hok2] at this; exact this)
end Go.Proofs.Ytchaepkdpbiffaa

/- The draw of any picture: l14Any. -/
namespace Go.Proofs.Ytchaepkdpbiffaa
open Go.RowKit

theorem Only.refl_lt {B : Nat} {w : World} (o : Obj) (h : B < w.heap.size) : Only B w (w.alloc o) := (Only.refl B w).alloc h o

theorem AnyOut.up {lo lo' : Nat} {e : Ending} {w : World} (h : AnyOut lo e w) (hl : lo' ≤ lo) : AnyOut lo' e w := by
  obtain ⟨k, d, wd, hi, a, n, c, cs, b, m, cc, ps, he, h1, h2, h3, h4, h5, r⟩ := h
  exact ⟨k, d, wd, hi, a, n, c, cs, b, m, cc, ps, he, h1.lower hl, h2, h3, h4, h5.lower hl, r⟩

/-- the box of a picture, and a result's box ahead of it -/
structure BX (w wc : World) (B X q : Nat) (k d wd hi : Int) (a : Option Addr) (n c : Nat) (b : Option Addr) (m cc : Nat) : Prop where
  rd : RdAt wc B q
  only : Only B w wc
  res : wc.heap[w.heap.size]? = some (.cells #[.int .i64 0, .int .i64 0, .int .i64 0, .int .i64 0, .slice none 0 0, .slice none 0 0] 25 (0, 0))
  box : wc.heap[X]? = some (.cells #[.int .i64 k, .int .i64 d, .int .i64 wd, .int .i64 hi, .slice a n c, .slice b m cc] 25 (0, 0))
  lt : B < w.heap.size

set_option maxHeartbeats 2000000 in
set_option maxRecDepth 20000 in
theorem l14Any_any (B p : Nat) (w : World) (hr : RdAt w B p) (hp : p ≤ 100000) :
    Calls Try.prog 28 #[.pointer (some ⟨B, 0, none⟩)] w fun e w' => AnyOut w.heap.size e w' ∧ (∃ q, q ≤ p + 6000 ∧ RdAt w' B q) ∧ Only B w w' := by
  have hlt := hr.lt
  obtain ⟨W0, hW0⟩ : ∃ W0, W0 = w.alloc (.cells #[.int .i64 0, .int .i64 0, .int .i64 0, .int .i64 0, .slice none 0 0, .slice none 0 0] 25) := ⟨_, rfl⟩
  have hs0 : W0.heap.size = w.heap.size + 1 := by rw [hW0]; simp
  have HR0 : Hid (RdAt W0 B p) := by rw [hW0]; exact hr.alloc _
  have HO0 : Hid (Only B w W0) := by rw [hW0]; exact Only.refl_lt _ hlt
  have HZ0 : Hid (W0.heap[w.heap.size]? = some (.cells #[.int .i64 0, .int .i64 0, .int .i64 0, .int .i64 0, .slice none 0 0, .slice none 0 0] 25 (0, 0))) := by rw [hW0]; exact heap_alloc_new _ _
  have HIM : Hid (Calls Try.prog 53 #[.pointer (some ⟨B, 0, none⟩)] W0 fun e w' => PicOut W0.heap.size e w' ∧ (∃ q, q ≤ p + 5000 ∧ RdAt w' B q) ∧ Only B W0 w') := l14Image_any B p W0 HR0.out hp
  clear hr
  go_enter Try.func28, Try.ntmps28
  go_upto_region 1 with fail
  rw [← hW0]
  clear hW0
  go_wp2_with fail
  refine HIM.out.mono ?_
  rintro e w1 ⟨⟨k, d, wd, hi, a, n, c, cs, b, m, cc, ps, rfl, h4, h5, hm, hwd1, hwd2, hhi1, hhi2, hn, hk1, hk2, hd⟩, ⟨q, hq, hR1⟩, hO1⟩
  have hB0 : Below w.heap.size w w1 → True := fun _ => trivial
  have hm4 : m ≤ 400 := by rw [hm]; exact Nat.mul_le_mul hwd2 hhi2
  have hm1 : 1 ≤ m := by rw [hm]; exact Nat.mul_pos hwd1 hhi1
  have hsz1 : W0.heap.size ≤ w1.heap.size := hO1.below.size
  have hw1 : w.heap.size < w1.heap.size := by omega
  have HX : Hid (BX w (w1.alloc (.cells #[.int .i64 (k : Int), .int .i64 (d : Int), .int .i64 (wd : Int), .int .i64 (hi : Int), .slice a n c, .slice b m cc] 25)) B w1.heap.size q k d wd hi a n c b m cc) :=
    ⟨hR1.alloc _, (HO0.out.trans hO1).alloc hR1.lt _, (heap_alloc_old _ _ (by omega)).trans ((hO1.rest _ (by omega) (by omega)).trans HZ0.out), heap_alloc_new _ _, hlt⟩
  have HI : Hid (IntsFrom (w1.alloc (.cells #[.int .i64 (k : Int), .int .i64 (d : Int), .int .i64 (wd : Int), .int .i64 (hi : Int), .slice a n c, .slice b m cc] 25)) (w.heap.size + 1) a cs ∧ IntsFrom (w1.alloc (.cells #[.int .i64 (k : Int), .int .i64 (d : Int), .int .i64 (wd : Int), .int .i64 (hi : Int), .slice a n c, .slice b m cc] 25)) (w.heap.size + 1) b ps ∧ n ≤ c ∧ m ≤ cc ∧ cs.length = n ∧ ps.length = m) :=
    ⟨by rw [← hs0]; exact (h4.old _).from, by rw [← hs0]; exact (h5.old _).from, h4.cap, h5.cap, h4.len, h5.len⟩
  clear HIM HR0 HO0 HZ0 h4 h5 hm hR1 hO1 hB0 hsz1 hs0
  go_wp2_with fail
  refine (pick_named B q _ _ HX.out.rd (by omega) (by omega) (by omega)).mono ?_
  rintro e w2 ⟨v, rfl, hv, hR2, hO2, hs2⟩
  have HX2 : Hid (BX w w2 B w1.heap.size (q + 1) k d wd hi a n c b m cc) :=
    ⟨hR2, HX.out.only.trans hO2, (hO2.rest _ (lt_of_block HX.out.res) (by omega)).trans HX.out.res, (hO2.rest _ (lt_of_block HX.out.box) (by omega)).trans HX.out.box, hlt⟩
  have HI2 : Hid (IntsFrom w2 (w.heap.size + 1) a cs ∧ IntsFrom w2 (w.heap.size + 1) b ps ∧ n ≤ c ∧ m ≤ cc ∧ cs.length = n ∧ ps.length = m) := by
    obtain ⟨i1, i2, r⟩ := HI.out
    exact ⟨i1.only hO2 (by omega), i2.only hO2 (by omega), r⟩
  clear HX HI hR2 hO2 hs2
  generalize w1.heap.size = X at *
  obtain ⟨⟨z0, z1, z2, z3, z4, z5⟩, y0, y1, y2, y3, y4, y5⟩ := box6 HX2.out.box
  by_cases h0 : v = 0
  · subst h0
    have HSP : Hid (Calls Try.prog 61 #[.pointer (some ⟨B, 0, none⟩), .agg #[.int .i64 (k : Int), .int .i64 (d : Int), .int .i64 (wd : Int), .int .i64 (hi : Int), .slice a n c, .slice b m cc]] w2 fun e w' => AnyOut w2.heap.size e w' ∧ (∃ q', q' ≤ q + 1 + 5 ∧ RdAt w' B q') ∧ Only B w2 w') :=
      l14Spoil_any B (q + 1) k d wd hi a n c b m cc cs ps w2 HX2.out.rd (by omega) HI2.out.1.ints HI2.out.2.2.2.2.1 hn HI2.out.2.1.ints HI2.out.2.2.2.2.2 hm1 hm4 ⟨hk1, hk2⟩ hd (by omega) (by omega)
    go_wp2_with fail
    refine HSP.out.mono ?_
    rintro e w3 ⟨⟨k3, d3, wd3, hi3, a3, n3, c3, cs3, b3, m3, cc3, ps3, rfl, i4, l4, l4', k4, i5, l5, l5', k5, bd⟩, ⟨q3, hq3, hR3⟩, hO3⟩
    have hres : w3.heap[w.heap.size]? = some (.cells #[.int .i64 0, .int .i64 0, .int .i64 0, .int .i64 0, .slice none 0 0, .slice none 0 0] 25 (0, 0)) := (hO3.rest _ (lt_of_block HX2.out.res) (by omega)).trans HX2.out.res
    have hsz2 : w.heap.size < w2.heap.size := lt_of_block HX2.out.res
    have HF : Hid (IntsFrom w3 (w.heap.size + 1) a3 cs3 ∧ IntsFrom w3 (w.heap.size + 1) b3 ps3 ∧ RdAt w3 B q3 ∧ Only B w w3) := ⟨i4.lower (by omega), i5.lower (by omega), hR3, HX2.out.only.trans hO3⟩
    have HL : Hid (cs3.length = n3 ∧ n3 ≤ 1000 ∧ n3 ≤ c3 ∧ ps3.length = m3 ∧ m3 ≤ 1000 ∧ m3 ≤ cc3 ∧ q3 ≤ p + 6000 ∧ 0 ≤ k3 ∧ k3 ≤ 100 ∧ 0 ≤ d3 ∧ d3 ≤ 100 ∧ 0 ≤ wd3 ∧ wd3 ≤ 100 ∧ 0 ≤ hi3 ∧ hi3 ≤ 100) := ⟨l4, l4', k4, l5, l5', k5, by omega, bd⟩
    clear HSP i4 i5 hR3 hO3 z0 z1 z2 z3 z4 z5 y0 y1 y2 y3 y4 y5 HX2 HI2 l4 l4' k4 l5 l5' k5 bd hq3
    have hI6 : (Try.prog.info? 25).map (·.size) = some (#[Value.int .i64 k3, .int .i64 d3, .int .i64 wd3, .int .i64 hi3, .slice a3 n3 c3, .slice b3 m3 cc3]).size := by kernel_rfl
    have h16 : (#[Value.int .i64 k3, .int .i64 d3, .int .i64 wd3, .int .i64 hi3, .slice a3 n3 c3, .slice b3 m3 cc3]).all (·.oneCell') = true := by simp [Value.oneCell']
    go_wp2_with (refine wpList_store_row rfl 25 (.tmp 2) (.tmp 11) rfl w.heap.size #[.int .i64 k3, .int .i64 d3, .int .i64 wd3, .int .i64 hi3, .slice a3 n3 c3, .slice b3 m3 cc3] rfl rfl 25 #[.int .i64 0, .int .i64 0, .int .i64 0, .int .i64 0, .slice none 0 0, .slice none 0 0] hres hI6 rfl h16 ?_)
    have hs2 := setRow_heap w3 w.heap.size _ #[.int .i64 k3, .int .i64 d3, .int .i64 wd3, .int .i64 hi3, .slice a3 n3 c3, .slice b3 m3 cc3] _ _ hres
    obtain ⟨f1, f2, f3, f4⟩ := HF.out
    obtain ⟨g1, g2, g3, g4, g5, g6, g7, g8⟩ := HL.out
    refine bodyPost_ret_by (results_cell_row (p := 2) (ty := 25) (by kernel_rfl) _ _ w.heap.size 25 _ (0, 0) _ rfl hs2 Try.underlying25 rfl (by kernel_rfl)) rfl
      ⟨⟨k3, d3, wd3, hi3, a3, n3, c3, cs3, b3, m3, cc3, ps3, rfl, (f1.row (by omega) _).lower (by omega), g1, g2, g3, (f2.row (by omega) _).lower (by omega), g4, g5, g6, g8⟩, ⟨q3, g7, f3.kept ((below_setRow _ _ _).mono hlt)⟩, f4.grown hlt ((below_setRow _ _ _).mono (Nat.le_refl _))⟩
  · have h0i : ¬ (v : Int) = 0 := by omega
    have hres := HX2.out.res
    have HL : Hid (cs.length = n ∧ n ≤ 1000 ∧ n ≤ c ∧ ps.length = m ∧ m ≤ 1000 ∧ m ≤ cc ∧ q + 1 ≤ p + 6000 ∧ (0 : Int) ≤ k ∧ (k : Int) ≤ 100 ∧ (0 : Int) ≤ d ∧ (d : Int) ≤ 100 ∧ (0 : Int) ≤ wd ∧ (wd : Int) ≤ 100 ∧ (0 : Int) ≤ hi ∧ (hi : Int) ≤ 100) := ⟨HI2.out.2.2.2.2.1, by omega, HI2.out.2.2.1, HI2.out.2.2.2.2.2, by omega, HI2.out.2.2.2.1, by omega, by omega, by omega, by omega, by omega, by omega, by omega, by omega, by omega⟩
    have hI6 : (Try.prog.info? 25).map (·.size) = some (#[Value.int .i64 (k : Int), .int .i64 (d : Int), .int .i64 (wd : Int), .int .i64 (hi : Int), .slice a n c, .slice b m cc]).size := by kernel_rfl
    have h16 : (#[Value.int .i64 (k : Int), .int .i64 (d : Int), .int .i64 (wd : Int), .int .i64 (hi : Int), .slice a n c, .slice b m cc]).all (·.oneCell') = true := by simp [Value.oneCell']
    go_wp2_with (refine wpList_store_row rfl 25 (.tmp 2) (.tmp 12) rfl w.heap.size #[.int .i64 (k : Int), .int .i64 (d : Int), .int .i64 (wd : Int), .int .i64 (hi : Int), .slice a n c, .slice b m cc] rfl rfl 25 #[.int .i64 0, .int .i64 0, .int .i64 0, .int .i64 0, .slice none 0 0, .slice none 0 0] hres hI6 rfl h16 ?_)
    have hs2 := setRow_heap w2 w.heap.size _ #[.int .i64 (k : Int), .int .i64 (d : Int), .int .i64 (wd : Int), .int .i64 (hi : Int), .slice a n c, .slice b m cc] _ _ hres
    obtain ⟨f1, f2, _⟩ := HI2.out
    obtain ⟨g1, g2, g3, g4, g5, g6, g7, g8⟩ := HL.out
    refine bodyPost_ret_by (results_cell_row (p := 2) (ty := 25) (by kernel_rfl) _ _ w.heap.size 25 _ (0, 0) _ rfl hs2 Try.underlying25 rfl (by kernel_rfl)) rfl
      ⟨⟨k, d, wd, hi, a, n, c, cs, b, m, cc, ps, rfl, (f1.row (by omega) _).lower (by omega), g1, g2, g3, (f2.row (by omega) _).lower (by omega), g4, g5, g6, g8⟩, ⟨q + 1, g7, HX2.out.rd.kept ((below_setRow _ _ _).mono hlt)⟩, HX2.out.only.grown hlt ((below_setRow _ _ _).mono (Nat.le_refl _))⟩
end Go.Proofs.Ytchaepkdpbiffaa

/- A slice of bytes that came in is a code that can be read. -/
namespace Go.Proofs.Ytchaepkdpbiffaa
open Go.RowKit

theorem addr_add (b off i : Nat) : (⟨b, off, none⟩ : Addr).add i = ⟨b, off + i, none⟩ := by
  simp [Addr.add]; try omega

theorem code8_of {w : World} {a : Option Addr} {len cap : Nat} {zs : List Int}
    (h : (a = none ∧ len = 0 ∧ cap = 0 ∧ zs = []) ∨ ∃ x, a = some x ∧ len ≤ cap ∧ cap ≤ maxLen ∧ zs.length = cap ∧ (∀ i, i < zs.length → w.cell? (x.add i) = some (.int .u8 (zs.getD i 0))) ∧ ∀ n ∈ zs, (Lit.int .u8 n).wf = true) :
    Code8 w a len cap := by
  rcases h with ⟨rfl, rfl, rfl, rfl⟩ | ⟨x, rfl, hl, hm, hz, hcell, hwz⟩
  · exact ⟨Nat.le_refl _, Nat.zero_le _, .inl rfl⟩
  · refine ⟨hl, hm, ?_⟩
    by_cases h0 : len = 0
    · exact .inl h0
    · obtain ⟨b, off, spot⟩ := x
      have hc := hcell 0 (by omega)
      have hspot : spot = none := by simpa [Addr.add] using World.cell?_spot hc
      subst hspot
      rw [addr_add] at hc
      refine .inr ⟨b, off, rfl, World.block_lt_of_cell? _ _ hc, fun i hi => ?_⟩
      have h1 := hcell i (by omega)
      rw [addr_add] at h1
      have hmem : zs.getD i 0 ∈ zs := by
        rw [List.getD_eq_getElem?_getD, List.getElem?_eq_getElem (by omega)]
        exact List.getElem_mem _
      have hw := bounds_u8 (hwz _ hmem)
      exact ⟨(zs.getD i 0).toNat, by omega, by rw [h1, Int.toNat_of_nonneg hw.1]⟩
end Go.Proofs.Ytchaepkdpbiffaa

/- A picture for ImageRgb, for ImagePal, drawn of a code. -/
namespace Go.Proofs.Ytchaepkdpbiffaa
open Go.RowKit

set_option maxHeartbeats 1000000 in
theorem drawImageRgb_any (a : Option Addr) (len cap : Nat) (w : World) (h : Code8 w a len cap) :
    Calls Try.prog 8 #[.slice a len cap] w fun e w' => AnyOut w.heap.size e w' ∧ Below w.heap.size w w' := by
  obtain ⟨W0, hW0⟩ : ∃ W0, W0 = w.alloc (.cells #[.int .i64 0, .int .i64 0, .int .i64 0, .int .i64 0, .slice none 0 0, .slice none 0 0] 25) := ⟨_, rfl⟩
  have hs0 : w.heap.size < W0.heap.size := by rw [hW0]; simp
  have hB0 : Below w.heap.size w W0 := by rw [hW0]; exact (Below.refl _ _).alloc (Nat.le_refl _) _
  have HZ0 : Hid (W0.heap[w.heap.size]? = some (.cells #[.int .i64 0, .int .i64 0, .int .i64 0, .int .i64 0, .slice none 0 0, .slice none 0 0] 25 (0, 0))) := by rw [hW0]; exact heap_alloc_new _ _
  have HOP : Hid (Calls Try.prog 29 #[.slice a len cap] W0 fun e w' => e = .returned (.pointer (some ⟨W0.heap.size, 0, none⟩)) ∧ RdAt w' W0.heap.size 0 ∧ Below W0.heap.size W0 w') := open_any a len cap W0 (h.kept hB0)
  have HB0 : Hid (Below w.heap.size w W0) := hB0
  clear h hB0
  go_enter Try.func8, Try.ntmps8
  go_upto_region 1 with fail
  rw [← hW0]
  clear hW0
  go_wp2_with fail
  refine HOP.out.mono ?_
  rintro e w1 ⟨rfl, hR, b1⟩
  have HAN : Hid (Calls Try.prog 28 #[.pointer (some ⟨W0.heap.size, 0, none⟩)] w1 fun e w' => AnyOut w1.heap.size e w' ∧ (∃ q, q ≤ 0 + 6000 ∧ RdAt w' W0.heap.size q) ∧ Only W0.heap.size w1 w') := l14Any_any W0.heap.size 0 w1 hR (by omega)
  have HB1 : Hid (Below W0.heap.size W0 w1) := b1
  have hsz1 := b1.size
  clear HOP hR b1
  go_wp2_with fail
  refine HAN.out.mono ?_
  rintro e w3 ⟨⟨k3, d3, wd3, hi3, a3, n3, c3, cs3, b3, m3, cc3, ps3, rfl, i4, l4, l4', k4, i5, l5, l5', k5, bd⟩, _, hO3⟩
  have hres : w3.heap[w.heap.size]? = some (.cells #[.int .i64 0, .int .i64 0, .int .i64 0, .int .i64 0, .slice none 0 0, .slice none 0 0] 25 (0, 0)) := (hO3.rest _ (by omega) (by omega)).trans ((HB1.out.block _ (by omega)).trans HZ0.out)
  have HF : Hid (IntsFrom w3 (w.heap.size + 1) a3 cs3 ∧ IntsFrom w3 (w.heap.size + 1) b3 ps3 ∧ Below w.heap.size w w3) := ⟨i4.lower (by omega), i5.lower (by omega), HB0.out.trans ((HB1.out.mono (by omega)).trans (hO3.below.mono (by omega)))⟩
  have HL : Hid (cs3.length = n3 ∧ n3 ≤ 1000 ∧ n3 ≤ c3 ∧ ps3.length = m3 ∧ m3 ≤ 1000 ∧ m3 ≤ cc3 ∧ 0 ≤ k3 ∧ k3 ≤ 100 ∧ 0 ≤ d3 ∧ d3 ≤ 100 ∧ 0 ≤ wd3 ∧ wd3 ≤ 100 ∧ 0 ≤ hi3 ∧ hi3 ≤ 100) := ⟨l4, l4', k4, l5, l5', k5, bd⟩
  clear HAN i4 i5 hO3 l4 l4' k4 l5 l5' k5 bd HB0 HB1 HZ0
  have hI6 : (Try.prog.info? 25).map (·.size) = some (#[Value.int .i64 k3, .int .i64 d3, .int .i64 wd3, .int .i64 hi3, .slice a3 n3 c3, .slice b3 m3 cc3]).size := by kernel_rfl
  have h16 : (#[Value.int .i64 k3, .int .i64 d3, .int .i64 wd3, .int .i64 hi3, .slice a3 n3 c3, .slice b3 m3 cc3]).all (·.oneCell') = true := by simp [Value.oneCell']
  go_wp2_with (refine wpList_store_row rfl 25 (.tmp 2) (.tmp 5) rfl w.heap.size #[.int .i64 k3, .int .i64 d3, .int .i64 wd3, .int .i64 hi3, .slice a3 n3 c3, .slice b3 m3 cc3] rfl rfl 25 #[.int .i64 0, .int .i64 0, .int .i64 0, .int .i64 0, .slice none 0 0, .slice none 0 0] hres hI6 rfl h16 ?_)
  have hs2 := setRow_heap w3 w.heap.size _ #[.int .i64 k3, .int .i64 d3, .int .i64 wd3, .int .i64 hi3, .slice a3 n3 c3, .slice b3 m3 cc3] _ _ hres
  obtain ⟨f1, f2, f3⟩ := HF.out
  obtain ⟨g1, g2, g3, g4, g5, g6, g8⟩ := HL.out
  refine bodyPost_ret_by (results_cell_row (p := 2) (ty := 25) (by kernel_rfl) _ _ w.heap.size 25 _ (0, 0) _ rfl hs2 Try.underlying25 rfl (by kernel_rfl)) rfl
    ⟨⟨k3, d3, wd3, hi3, a3, n3, c3, cs3, b3, m3, cc3, ps3, rfl, (f1.row (by omega) _).lower (by omega), g1, g2, g3, (f2.row (by omega) _).lower (by omega), g4, g5, g6, g8⟩, f3.trans ((below_setRow _ _ _).mono (Nat.le_refl _))⟩

set_option maxHeartbeats 1000000 in
theorem drawImagePal_any (a : Option Addr) (len cap : Nat) (w : World) (h : Code8 w a len cap) :
    Calls Try.prog 16 #[.slice a len cap] w fun e w' => AnyOut w.heap.size e w' ∧ Below w.heap.size w w' := by
  obtain ⟨W0, hW0⟩ : ∃ W0, W0 = w.alloc (.cells #[.int .i64 0, .int .i64 0, .int .i64 0, .int .i64 0, .slice none 0 0, .slice none 0 0] 25) := ⟨_, rfl⟩
  have hs0 : w.heap.size < W0.heap.size := by rw [hW0]; simp
  have hB0 : Below w.heap.size w W0 := by rw [hW0]; exact (Below.refl _ _).alloc (Nat.le_refl _) _
  have HZ0 : Hid (W0.heap[w.heap.size]? = some (.cells #[.int .i64 0, .int .i64 0, .int .i64 0, .int .i64 0, .slice none 0 0, .slice none 0 0] 25 (0, 0))) := by rw [hW0]; exact heap_alloc_new _ _
  have HOP : Hid (Calls Try.prog 29 #[.slice a len cap] W0 fun e w' => e = .returned (.pointer (some ⟨W0.heap.size, 0, none⟩)) ∧ RdAt w' W0.heap.size 0 ∧ Below W0.heap.size W0 w') := open_any a len cap W0 (h.kept hB0)
  have HB0 : Hid (Below w.heap.size w W0) := hB0
  clear h hB0
  go_enter Try.func16, Try.ntmps16
  go_upto_region 1 with fail
  rw [← hW0]
  clear hW0
  go_wp2_with fail
  refine HOP.out.mono ?_
  rintro e w1 ⟨rfl, hR, b1⟩
  have HAN : Hid (Calls Try.prog 28 #[.pointer (some ⟨W0.heap.size, 0, none⟩)] w1 fun e w' => AnyOut w1.heap.size e w' ∧ (∃ q, q ≤ 0 + 6000 ∧ RdAt w' W0.heap.size q) ∧ Only W0.heap.size w1 w') := l14Any_any W0.heap.size 0 w1 hR (by omega)
  have HB1 : Hid (Below W0.heap.size W0 w1) := b1
  have hsz1 := b1.size
  clear HOP hR b1
  go_wp2_with fail
  refine HAN.out.mono ?_
  rintro e w3 ⟨⟨k3, d3, wd3, hi3, a3, n3, c3, cs3, b3, m3, cc3, ps3, rfl, i4, l4, l4', k4, i5, l5, l5', k5, bd⟩, _, hO3⟩
  have hres : w3.heap[w.heap.size]? = some (.cells #[.int .i64 0, .int .i64 0, .int .i64 0, .int .i64 0, .slice none 0 0, .slice none 0 0] 25 (0, 0)) := (hO3.rest _ (by omega) (by omega)).trans ((HB1.out.block _ (by omega)).trans HZ0.out)
  have HF : Hid (IntsFrom w3 (w.heap.size + 1) a3 cs3 ∧ IntsFrom w3 (w.heap.size + 1) b3 ps3 ∧ Below w.heap.size w w3) := ⟨i4.lower (by omega), i5.lower (by omega), HB0.out.trans ((HB1.out.mono (by omega)).trans (hO3.below.mono (by omega)))⟩
  have HL : Hid (cs3.length = n3 ∧ n3 ≤ 1000 ∧ n3 ≤ c3 ∧ ps3.length = m3 ∧ m3 ≤ 1000 ∧ m3 ≤ cc3 ∧ 0 ≤ k3 ∧ k3 ≤ 100 ∧ 0 ≤ d3 ∧ d3 ≤ 100 ∧ 0 ≤ wd3 ∧ wd3 ≤ 100 ∧ 0 ≤ hi3 ∧ hi3 ≤ 100) := ⟨l4, l4', k4, l5, l5', k5, bd⟩
  clear HAN i4 i5 hO3 l4 l4' k4 l5 l5' k5 bd HB0 HB1 HZ0
  have hI6 : (Try.prog.info? 25).map (·.size) = some (#[Value.int .i64 k3, .int .i64 d3, .int .i64 wd3, .int .i64 hi3, .slice a3 n3 c3, .slice b3 m3 cc3]).size := by kernel_rfl
  have h16 : (#[Value.int .i64 k3, .int .i64 d3, .int .i64 wd3, .int .i64 hi3, .slice a3 n3 c3, .slice b3 m3 cc3]).all (·.oneCell') = true := by simp [Value.oneCell']
  go_wp2_with (refine wpList_store_row rfl 25 (.tmp 2) (.tmp 5) rfl w.heap.size #[.int .i64 k3, .int .i64 d3, .int .i64 wd3, .int .i64 hi3, .slice a3 n3 c3, .slice b3 m3 cc3] rfl rfl 25 #[.int .i64 0, .int .i64 0, .int .i64 0, .int .i64 0, .slice none 0 0, .slice none 0 0] hres hI6 rfl h16 ?_)
  have hs2 := setRow_heap w3 w.heap.size _ #[.int .i64 k3, .int .i64 d3, .int .i64 wd3, .int .i64 hi3, .slice a3 n3 c3, .slice b3 m3 cc3] _ _ hres
  obtain ⟨f1, f2, f3⟩ := HF.out
  obtain ⟨g1, g2, g3, g4, g5, g6, g8⟩ := HL.out
  refine bodyPost_ret_by (results_cell_row (p := 2) (ty := 25) (by kernel_rfl) _ _ w.heap.size 25 _ (0, 0) _ rfl hs2 Try.underlying25 rfl (by kernel_rfl)) rfl
    ⟨⟨k3, d3, wd3, hi3, a3, n3, c3, cs3, b3, m3, cc3, ps3, rfl, (f1.row (by omega) _).lower (by omega), g1, g2, g3, (f2.row (by omega) _).lower (by omega), g4, g5, g6, g8⟩, f3.trans ((below_setRow _ _ _).mono (Nat.le_refl _))⟩
end Go.Proofs.Ytchaepkdpbiffaa

/- Two lists of ints held against each other by the laws. -/
namespace Go.Proofs.Ytchaepkdpbiffaa
open Go.RowKit

set_option maxHeartbeats 400000 in
theorem wiInts_same (a : Option Addr) (cap : Nat) (b : Option Addr) (cap' n : Nat) (zs : List Int) (w : World) (h : Ints w a zs) (g : Ints w b zs) (hn : zs.length = n) (hl : n ≤ 2000000) :
    Calls Try.prog 35 #[.slice a n cap, .slice b n cap'] w fun e w' => e = .returned (.bool true) ∧ ∃ m, w' = w.drewN m := by
  have HI : Hid (Ints w a zs) := h
  have HG : Hid (Ints w b zs) := g
  clear h g
  have hzg : n ≤ zs.length := by omega
  clear hn
  go_enter Try.func35, Try.ntmps35
  go_wp2_with fail
  go_loopw [5] (fun i wr => ∃ k m : Nat, k ≤ n ∧ i = .int .i64 k ∧ wr = w.drewN m) (fun i _ => n - (intOf i).toNat)
  case atStart => exact ⟨0, 0, Nat.zero_le _, rfl, rfl⟩
  case round =>
    obtain ⟨k, m, hk, rfl, rfl⟩ := hrel
    by_cases hlt : k < n
    · have hkz : k < zs.length := by omega
      rcases HI.out with h | ⟨b1, off1, rfl, hb1, hc1⟩
      · rw [h] at hkz; simp at hkz
      · rcases HG.out with h | ⟨b2, off2, rfl, hb2, hc2⟩
        · rw [h] at hkz; simp at hkz
        · have e1 := hc1 k hkz
          have e2 := hc2 k hkz
          have hki : (k : Int) < (n : Int) := by omega
          clear hc1 hc2
          generalize zs[k] = x at *
          go_wp2_with fail
          go_region
          all_goals go_wp2_with fail
          all_goals
            go_roundw
            case rel => exact ⟨k + 1, m + 1, by omega, by go_num, rfl⟩
            case measure => simp [intOf]; omega
    · go_wp2_with fail
      go_ret
      exact ⟨rfl, m, rfl⟩
end Go.Proofs.Ytchaepkdpbiffaa

/- Two pictures that are the same, held against each other; pictures in boxes. -/
namespace Go.Proofs.Ytchaepkdpbiffaa
open Go.RowKit

theorem drewN_low (w : World) (m : Nat) : Below w.heap.size w (w.drewN m) := ⟨rfl, rfl, rfl, Nat.le_refl _, fun _ _ => rfl⟩

set_option maxHeartbeats 1000000 in
set_option maxRecDepth 20000 in
theorem wiImage_same (k d wd hi : Int) (n m : Nat) (cs ps : List Int) (hn : cs.length = n) (hm : ps.length = m) (hnl : n ≤ 1048576) (hml : m ≤ 1048576) (a : Option Addr) (c : Nat) (b : Option Addr) (cc : Nat) (a' : Option Addr) (c' : Nat) (b' : Option Addr) (cc' : Nat) (w : World) (h1 : Ints w a cs) (h2 : Ints w b ps) (h3 : Ints w a' cs) (h4 : Ints w b' ps) :
    Calls Try.prog 11 #[.agg #[.int .i64 k, .int .i64 d, .int .i64 wd, .int .i64 hi, .slice a n c, .slice b m cc], .agg #[.int .i64 k, .int .i64 d, .int .i64 wd, .int .i64 hi, .slice a' n c', .slice b' m cc']] w fun e w' => e = .returned (.bool true) ∧ Below w.heap.size w w' := by
  obtain ⟨W0, hW0⟩ : ∃ W0, W0 = (w.alloc (.cells #[.int .i64 k, .int .i64 d, .int .i64 wd, .int .i64 hi, .slice a n c, .slice b m cc] 25)).alloc (.cells #[.int .i64 k, .int .i64 d, .int .i64 wd, .int .i64 hi, .slice a' n c', .slice b' m cc'] 25) := ⟨_, rfl⟩
  have hB0 : Below w.heap.size w W0 := by rw [hW0]; exact ((Below.refl _ _).alloc (Nat.le_refl _) _).alloc (by simp) _
  have HC : Hid (∀ w', Ints w' a cs → Ints w' a' cs → Calls Try.prog 35 #[.slice a n c, .slice a' n c'] w' fun e w'' => e = .returned (.bool true) ∧ ∃ m, w'' = w'.drewN m) := fun w' g1 g2 => wiInts_same a c a' c' n cs w' g1 g2 hn (by omega)
  have HP : Hid (∀ w', Ints w' b ps → Ints w' b' ps → Calls Try.prog 35 #[.slice b m cc, .slice b' m cc'] w' fun e w'' => e = .returned (.bool true) ∧ ∃ m, w'' = w'.drewN m) := fun w' g1 g2 => wiInts_same b cc b' cc' m ps w' g1 g2 hm (by omega)
  have HI : Hid (∀ w', Below W0.heap.size W0 w' → Ints w' a cs ∧ Ints w' b ps ∧ Ints w' a' cs ∧ Ints w' b' ps) := fun w' b => ⟨(h1.kept hB0).kept b, (h2.kept hB0).kept b, (h3.kept hB0).kept b, (h4.kept hB0).kept b⟩
  have b0 : W0.cell? ⟨w.heap.size, 0, none⟩ = some (.int .i64 k) ∧ W0.cell? ⟨w.heap.size, 1, none⟩ = some (.int .i64 d) ∧ W0.cell? ⟨w.heap.size, 2, none⟩ = some (.int .i64 wd) ∧ W0.cell? ⟨w.heap.size, 3, none⟩ = some (.int .i64 hi) ∧ W0.cell? ⟨w.heap.size, 4, none⟩ = some (.slice a n c) ∧ W0.cell? ⟨w.heap.size, 5, none⟩ = some (.slice b m cc) := by
    rw [hW0]; exact box_kept (box_new w _ _ _ _ _ _ _) ((Below.refl _ _).alloc (Nat.le_refl _) _) (by simp)
  have b1 : W0.cell? ⟨w.heap.size + 1, 0, none⟩ = some (.int .i64 k) ∧ W0.cell? ⟨w.heap.size + 1, 1, none⟩ = some (.int .i64 d) ∧ W0.cell? ⟨w.heap.size + 1, 2, none⟩ = some (.int .i64 wd) ∧ W0.cell? ⟨w.heap.size + 1, 3, none⟩ = some (.int .i64 hi) ∧ W0.cell? ⟨w.heap.size + 1, 4, none⟩ = some (.slice a' n c') ∧ W0.cell? ⟨w.heap.size + 1, 5, none⟩ = some (.slice b' m cc') := by
    rw [hW0]
    have := box_new (w.alloc (.cells #[.int .i64 k, .int .i64 d, .int .i64 wd, .int .i64 hi, .slice a n c, .slice b m cc] 25)) (.int .i64 k) (.int .i64 d) (.int .i64 wd) (.int .i64 hi) (.slice a' n c') (.slice b' m cc') 25
    rw [World.size_alloc] at this; exact this
  obtain ⟨p0, p1, p2, p3, p4, p5⟩ := b0
  obtain ⟨q0, q1, q2, q3, q4, q5⟩ := b1
  have HB : Hid (Below w.heap.size w W0) := hB0
  clear h1 h2 h3 h4 hn hm hB0
  go_enter Try.func11, Try.ntmps11
  go_upto_region 1 with fail
  rw [← hW0]
  clear hW0
  go_wp2_with fail
  refine (HC.out _ (HI.out _ (Below.refl _ _)).1 (HI.out _ (Below.refl _ _)).2.2.1).mono ?_
  rintro e w1 ⟨rfl, m1, hw1⟩
  subst hw1
  go_wp2_with fail
  refine (HP.out _ (HI.out _ (drewN_low _ _)).2.1 (HI.out _ (drewN_low _ _)).2.2.2).mono ?_
  rintro e w2 ⟨rfl, m2, hw2⟩
  subst hw2
  go_wp2_with fail
  go_ret
  exact ⟨rfl, HB.out.trans ((drewN_low _ _).mono HB.out.size)⟩

/-- a picture in a box, its lists in memory -/
structure PB (w : World) (B : Nat) (k d wd hi : Int) (a : Option Addr) (n c : Nat) (cs : List Int) (b : Option Addr) (m cc : Nat) (ps : List Int) : Prop where
  lt : B < w.heap.size
  box : w.cell? ⟨B, 0, none⟩ = some (.int .i64 k) ∧ w.cell? ⟨B, 1, none⟩ = some (.int .i64 d) ∧ w.cell? ⟨B, 2, none⟩ = some (.int .i64 wd) ∧ w.cell? ⟨B, 3, none⟩ = some (.int .i64 hi) ∧ w.cell? ⟨B, 4, none⟩ = some (.slice a n c) ∧ w.cell? ⟨B, 5, none⟩ = some (.slice b m cc)
  i4 : Ints w a cs
  i5 : Ints w b ps
theorem PB.kept {w w' : World} {B n c m cc : Nat} {k d wd hi : Int} {a b : Option Addr} {cs ps : List Int} (h : PB w B k d wd hi a n c cs b m cc ps) (g : Below w.heap.size w w') : PB w' B k d wd hi a n c cs b m cc ps :=
  ⟨Nat.lt_of_lt_of_le h.lt g.size, box_kept h.box g h.lt, h.i4.kept g, h.i5.kept g⟩
theorem pb_new {w : World} {n c m cc : Nat} {k d wd hi : Int} {a b : Option Addr} {cs ps : List Int} (h4 : Ints w a cs) (h5 : Ints w b ps) : PB (w.alloc (.cells #[.int .i64 k, .int .i64 d, .int .i64 wd, .int .i64 hi, .slice a n c, .slice b m cc] 25)) w.heap.size k d wd hi a n c cs b m cc ps :=
  ⟨by simp, box_new w _ _ _ _ _ _ _, h4.kept ((Below.refl _ _).alloc (Nat.le_refl _) _), h5.kept ((Below.refl _ _).alloc (Nat.le_refl _) _)⟩
end Go.Proofs.Ytchaepkdpbiffaa

/- ImageColor of the program, for every picture and place. -/
namespace Go.Proofs.Ytchaepkdpbiffaa
open Go.RowKit

set_option maxHeartbeats 2000000 in
set_option maxRecDepth 20000 in
theorem impl_color_gray (D p : Nat) (wd hi x y : Int) (ca : Option Addr) (cn cc : Nat) (pa : Option Addr) (pn pc : Nat) (w : World) (cs : List Int) (hc : Ints w ca cs) (hcn : cs.length = cn) (hDD : D = 1 ∨ D = 2 ∨ D = 4 ∨ D = 8) (hp2 : p < 2 ^ D) 
    (hat : ∀ w', Below w.heap.size w w' → Calls Try.prog 90 #[.agg #[.int .i64 1, .int .i64 (D : Int), .int .i64 wd, .int .i64 hi, .slice ca cn cc, .slice pa pn pc], .int .i64 x, .int .i64 y] w' fun e w'' => e = .returned (.int .i64 (p : Int)) ∧ Below w'.heap.size w' w'')
    (hO : Calls Try.prog 12 #[.agg #[.int .i64 1, .int .i64 (D : Int), .int .i64 wd, .int .i64 hi, .slice ca cn cc, .slice pa pn pc]] (w.alloc (.cells #[.int .i64 1, .int .i64 (D : Int), .int .i64 wd, .int .i64 hi, .slice ca cn cc, .slice pa pn pc] 25)) fun e w' => e = .returned (.bool true) ∧ Below (w.alloc (.cells #[.int .i64 1, .int .i64 (D : Int), .int .i64 wd, .int .i64 hi, .slice ca cn cc, .slice pa pn pc] 25)).heap.size (w.alloc (.cells #[.int .i64 1, .int .i64 (D : Int), .int .i64 wd, .int .i64 hi, .slice ca cn cc, .slice pa pn pc] 25)) w') (hin : inB x y wd hi = true) :
    Calls Try.prog 14 #[.agg #[.int .i64 1, .int .i64 (D : Int), .int .i64 wd, .int .i64 hi, .slice ca cn cc, .slice pa pn pc], .int .i64 x, .int .i64 y] w fun e w' => e = .returned (.tuple #[.int .i64 (colOf 1 D cs (p : Int)), .bool true]) ∧ Below w.heap.size w w' := by
  have hcol : colOf 1 D cs (p : Int) = (p : Int) * (stepOf D : Int) * 16843008 + 255 := by
    unfold colOf; rw [if_pos rfl]
  have hst : p * stepOf D ≤ 255 := (gray_step hDD hp2).2.2.1
  have hB0 : Below w.heap.size w (w.alloc (.cells #[.int .i64 1, .int .i64 (D : Int), .int .i64 wd, .int .i64 hi, .slice ca cn cc, .slice pa pn pc] 25)) := (Below.refl _ _).alloc (Nat.le_refl _) _
  have HO : Hid (Calls Try.prog 12 #[.agg #[.int .i64 1, .int .i64 (D : Int), .int .i64 wd, .int .i64 hi, .slice ca cn cc, .slice pa pn pc]] (w.alloc (.cells #[.int .i64 1, .int .i64 (D : Int), .int .i64 wd, .int .i64 hi, .slice ca cn cc, .slice pa pn pc] 25)) fun e w' => e = .returned (.bool true) ∧ Below (w.alloc (.cells #[.int .i64 1, .int .i64 (D : Int), .int .i64 wd, .int .i64 hi, .slice ca cn cc, .slice pa pn pc] 25)).heap.size (w.alloc (.cells #[.int .i64 1, .int .i64 (D : Int), .int .i64 wd, .int .i64 hi, .slice ca cn cc, .slice pa pn pc] 25)) w') := hO
  have HIN : Hid (∀ w' : World, Calls Try.prog 45 #[.iface 62 (.agg #[.int .i64 1, .int .i64 (D : Int), .int .i64 wd, .int .i64 hi, .slice ca cn cc, .slice pa pn pc]), .int .i64 x, .int .i64 y] w' fun e w'' => e = .returned (.bool true) ∧ Below w'.heap.size w' w'') := by
    intro w'; have := inView_any 1 (D : Int) wd hi x y ca cn cc pa pn pc w'; rw [hin] at this; exact this
  have HAT : Hid (∀ w', Below w.heap.size w w' → Calls Try.prog 90 #[.agg #[.int .i64 1, .int .i64 (D : Int), .int .i64 wd, .int .i64 hi, .slice ca cn cc, .slice pa pn pc], .int .i64 x, .int .i64 y] w' fun e w'' => e = .returned (.int .i64 (p : Int)) ∧ Below w'.heap.size w' w'') := hat
  have HIC : Hid (∀ w', Below w.heap.size w w' → Ints w' ca cs) := fun w' b => hc.kept b
  have HCN : Hid (cs.length = cn) := hcn
  have HCOL : Hid (colOf 1 D cs (p : Int) = (p : Int) * (stepOf D : Int) * 16843008 + 255) := hcol
  clear hO hin hat hc hcn hcol
  generalize hcv : colOf 1 D cs (p : Int) = c at *
  have HCV : Hid (colOf 1 D cs (p : Int) = c) := hcv
  clear hcv
  go_enter Try.func14, Try.ntmps14
  go_wp2_with fail
  refine HO.out.mono ?_
  rintro e w1 ⟨rfl, b1⟩
  obtain ⟨k0, k1, k2, k3, k4, k5⟩ := box_kept (box_new w _ _ _ _ _ _ 25) b1 (by simp)
  have bel1 := hB0.trans (b1.mono (by simp))
  have hlt1 : w.heap.size < w1.heap.size := Nat.lt_of_lt_of_le (by simp) b1.size
  clear b1 HO hB0
  go_wp2_with fail
  refine (HIN.out _).mono ?_
  rintro e w2 ⟨rfl, b2⟩
  obtain ⟨j0, j1, j2, j3, j4, j5⟩ := box_kept ⟨k0, k1, k2, k3, k4, k5⟩ b2 hlt1
  have bel2 := bel1.trans (b2.mono bel1.size)
  clear b2 bel1 k0 k1 k2 k3 k4 k5 hlt1
  go_wp2_with fail
  refine (colored_gray D wd hi ca cn cc pa pn pc w2 hDD).mono ?_
  rintro e w3 ⟨⟨A, B, rfl, hA, hB, hA2, hB2⟩, b3⟩
  have bel3 := bel2.trans (b3.mono bel2.size)
  have hcol := HCOL.out
  have HCH : Hid (Calls Try.prog 89 #[.agg #[.iface 62 (.agg #[.int .i64 1, .int .i64 (D : Int), .int .i64 wd, .int .i64 hi, .slice ca cn cc, .slice pa pn pc]), .func (.func 70) #[] #[.pointer (some ⟨A, 0, none⟩), .pointer (some ⟨B, 0, none⟩)]], .int .i64 x, .int .i64 y] w3 fun e w' => e = .returned (.int .i64 c) ∧ Below w3.heap.size w3 w') :=
    changed_gray 1 (D : Int) wd hi x y (p : Int) c A B ca cn cc pa pn pc w3 (fun w' b' => HAT.out w' (bel3.trans (b'.mono bel3.size))) (fun w' b' => (gray_any A B (stepOf D) p w' ((b'.cell (p := ⟨A, 0, none⟩) hA2).trans hA) ((b'.cell (p := ⟨B, 0, none⟩) hB2).trans hB) hst).mono (fun e w'' h => ⟨by rw [h.1, hcol], by rw [h.2]; exact Below.refl _ _⟩))
  have m3 : ∀ w, (method 200 54 (.agg #[.iface 62 (.agg #[.int .i64 1, .int .i64 (D : Int), .int .i64 wd, .int .i64 hi, .slice ca cn cc, .slice pa pn pc]), .func (.func 70) #[] #[.pointer (some ⟨A, 0, none⟩), .pointer (some ⟨B, 0, none⟩)]]) "loop.example/intarsia/impl.at").run Try.prog w = .ok (89, .agg #[.iface 62 (.agg #[.int .i64 1, .int .i64 (D : Int), .int .i64 wd, .int .i64 hi, .slice ca cn cc, .slice pa pn pc]), .func (.func 70) #[] #[.pointer (some ⟨A, 0, none⟩), .pointer (some ⟨B, 0, none⟩)]]) w := fun w => by kernel_rfl
  have m4 : ∀ w, (nilAhead 200 54 (.agg #[.iface 62 (.agg #[.int .i64 1, .int .i64 (D : Int), .int .i64 wd, .int .i64 hi, .slice ca cn cc, .slice pa pn pc]), .func (.func 70) #[] #[.pointer (some ⟨A, 0, none⟩), .pointer (some ⟨B, 0, none⟩)]]) "loop.example/intarsia/impl.at").run Try.prog w = .ok (some false) w := fun w => by kernel_rfl
  clear b3 bel2 j0 j1 j2 j3 j4 j5 hcol
  go_wp2_with fail
  refine HCH.out.mono ?_
  rintro e w4 ⟨rfl, b4⟩
  have bel4 := bel3.trans (b4.mono bel3.size)
  clear b4 bel3 HCH m3 m4
  go_wp2_with fail
  go_ret2
  exact ⟨rfl, bel4⟩

set_option maxHeartbeats 2000000 in
set_option maxRecDepth 20000 in
theorem impl_color_pal (D p : Nat) (wd hi x y : Int) (ca : Option Addr) (cn cc : Nat) (pa : Option Addr) (pn pc : Nat) (w : World) (cs : List Int) (hc : Ints w ca cs) (hcn : cs.length = cn) (hpc : p < cn) (hW : Within 16777215 cs) 
    (hat : ∀ w', Below w.heap.size w w' → Calls Try.prog 90 #[.agg #[.int .i64 4, .int .i64 (D : Int), .int .i64 wd, .int .i64 hi, .slice ca cn cc, .slice pa pn pc], .int .i64 x, .int .i64 y] w' fun e w'' => e = .returned (.int .i64 (p : Int)) ∧ Below w'.heap.size w' w'')
    (hO : Calls Try.prog 12 #[.agg #[.int .i64 4, .int .i64 (D : Int), .int .i64 wd, .int .i64 hi, .slice ca cn cc, .slice pa pn pc]] (w.alloc (.cells #[.int .i64 4, .int .i64 (D : Int), .int .i64 wd, .int .i64 hi, .slice ca cn cc, .slice pa pn pc] 25)) fun e w' => e = .returned (.bool true) ∧ Below (w.alloc (.cells #[.int .i64 4, .int .i64 (D : Int), .int .i64 wd, .int .i64 hi, .slice ca cn cc, .slice pa pn pc] 25)).heap.size (w.alloc (.cells #[.int .i64 4, .int .i64 (D : Int), .int .i64 wd, .int .i64 hi, .slice ca cn cc, .slice pa pn pc] 25)) w') (hin : inB x y wd hi = true) :
    Calls Try.prog 14 #[.agg #[.int .i64 4, .int .i64 (D : Int), .int .i64 wd, .int .i64 hi, .slice ca cn cc, .slice pa pn pc], .int .i64 x, .int .i64 y] w fun e w' => e = .returned (.tuple #[.int .i64 (colOf 4 D cs (p : Int)), .bool true]) ∧ Below w.heap.size w w' := by
  have hcol : colOf 4 D cs (p : Int) = cs.getD p 0 * 256 + 255 := by
    unfold colOf; rw [if_neg (by decide), if_neg (by decide), if_pos rfl, Int.toNat_natCast]
  have hB0 : Below w.heap.size w (w.alloc (.cells #[.int .i64 4, .int .i64 (D : Int), .int .i64 wd, .int .i64 hi, .slice ca cn cc, .slice pa pn pc] 25)) := (Below.refl _ _).alloc (Nat.le_refl _) _
  have HO : Hid (Calls Try.prog 12 #[.agg #[.int .i64 4, .int .i64 (D : Int), .int .i64 wd, .int .i64 hi, .slice ca cn cc, .slice pa pn pc]] (w.alloc (.cells #[.int .i64 4, .int .i64 (D : Int), .int .i64 wd, .int .i64 hi, .slice ca cn cc, .slice pa pn pc] 25)) fun e w' => e = .returned (.bool true) ∧ Below (w.alloc (.cells #[.int .i64 4, .int .i64 (D : Int), .int .i64 wd, .int .i64 hi, .slice ca cn cc, .slice pa pn pc] 25)).heap.size (w.alloc (.cells #[.int .i64 4, .int .i64 (D : Int), .int .i64 wd, .int .i64 hi, .slice ca cn cc, .slice pa pn pc] 25)) w') := hO
  have HIN : Hid (∀ w' : World, Calls Try.prog 45 #[.iface 62 (.agg #[.int .i64 4, .int .i64 (D : Int), .int .i64 wd, .int .i64 hi, .slice ca cn cc, .slice pa pn pc]), .int .i64 x, .int .i64 y] w' fun e w'' => e = .returned (.bool true) ∧ Below w'.heap.size w' w'') := by
    intro w'; have := inView_any 4 (D : Int) wd hi x y ca cn cc pa pn pc w'; rw [hin] at this; exact this
  have HAT : Hid (∀ w', Below w.heap.size w w' → Calls Try.prog 90 #[.agg #[.int .i64 4, .int .i64 (D : Int), .int .i64 wd, .int .i64 hi, .slice ca cn cc, .slice pa pn pc], .int .i64 x, .int .i64 y] w' fun e w'' => e = .returned (.int .i64 (p : Int)) ∧ Below w'.heap.size w' w'') := hat
  have HIC : Hid (∀ w', Below w.heap.size w w' → Ints w' ca cs) := fun w' b => hc.kept b
  have HCN : Hid (cs.length = cn) := hcn
  have HCOL : Hid (colOf 4 D cs (p : Int) = cs.getD p 0 * 256 + 255) := hcol
  clear hO hin hat hc hcn hcol
  generalize hcv : colOf 4 D cs (p : Int) = c at *
  have HCV : Hid (colOf 4 D cs (p : Int) = c) := hcv
  clear hcv
  go_enter Try.func14, Try.ntmps14
  go_wp2_with fail
  refine HO.out.mono ?_
  rintro e w1 ⟨rfl, b1⟩
  obtain ⟨k0, k1, k2, k3, k4, k5⟩ := box_kept (box_new w _ _ _ _ _ _ 25) b1 (by simp)
  have bel1 := hB0.trans (b1.mono (by simp))
  have hlt1 : w.heap.size < w1.heap.size := Nat.lt_of_lt_of_le (by simp) b1.size
  clear b1 HO hB0
  go_wp2_with fail
  refine (HIN.out _).mono ?_
  rintro e w2 ⟨rfl, b2⟩
  obtain ⟨j0, j1, j2, j3, j4, j5⟩ := box_kept ⟨k0, k1, k2, k3, k4, k5⟩ b2 hlt1
  have bel2 := bel1.trans (b2.mono bel1.size)
  clear b2 bel1 k0 k1 k2 k3 k4 k5 hlt1
  go_wp2_with fail
  refine (colored_pal (D : Int) wd hi ca cn cc pa pn pc w2).mono ?_
  rintro e w3 ⟨⟨A, B, rfl, hA, hB, hA2, hB2⟩, b3⟩
  have bel3 := bel2.trans (b3.mono bel2.size)
  have hcol := HCOL.out
  have HCH : Hid (Calls Try.prog 89 #[.agg #[.iface 62 (.agg #[.int .i64 4, .int .i64 (D : Int), .int .i64 wd, .int .i64 hi, .slice ca cn cc, .slice pa pn pc]), .func (.func 71) #[] #[.pointer (some ⟨A, 0, none⟩), .pointer (some ⟨B, 0, none⟩)]], .int .i64 x, .int .i64 y] w3 fun e w' => e = .returned (.int .i64 c) ∧ Below w3.heap.size w3 w') :=
    changed_pal 4 (D : Int) wd hi x y (p : Int) c A B ca cn cc pa pn pc w3 (fun w' b' => HAT.out w' (bel3.trans (b'.mono bel3.size))) (fun w' b' => (pal_any A B p cn cc ca cs w' ((b'.cell (p := ⟨A, 0, none⟩) hA2).trans hA) ((b'.cell (p := ⟨B, 4, none⟩) hB2).trans hB) ((HIC.out _ bel3).kept b') HCN.out hpc hW).mono (fun e w'' h => ⟨by rw [h.1, hcol], by obtain ⟨m, hm⟩ := h.2; rw [hm]; exact below_drewN (Below.refl _ _) _⟩))
  have m3 : ∀ w, (method 200 54 (.agg #[.iface 62 (.agg #[.int .i64 4, .int .i64 (D : Int), .int .i64 wd, .int .i64 hi, .slice ca cn cc, .slice pa pn pc]), .func (.func 71) #[] #[.pointer (some ⟨A, 0, none⟩), .pointer (some ⟨B, 0, none⟩)]]) "loop.example/intarsia/impl.at").run Try.prog w = .ok (89, .agg #[.iface 62 (.agg #[.int .i64 4, .int .i64 (D : Int), .int .i64 wd, .int .i64 hi, .slice ca cn cc, .slice pa pn pc]), .func (.func 71) #[] #[.pointer (some ⟨A, 0, none⟩), .pointer (some ⟨B, 0, none⟩)]]) w := fun w => by kernel_rfl
  have m4 : ∀ w, (nilAhead 200 54 (.agg #[.iface 62 (.agg #[.int .i64 4, .int .i64 (D : Int), .int .i64 wd, .int .i64 hi, .slice ca cn cc, .slice pa pn pc]), .func (.func 71) #[] #[.pointer (some ⟨A, 0, none⟩), .pointer (some ⟨B, 0, none⟩)]]) "loop.example/intarsia/impl.at").run Try.prog w = .ok (some false) w := fun w => by kernel_rfl
  clear b3 bel2 j0 j1 j2 j3 j4 j5 hcol
  go_wp2_with fail
  refine HCH.out.mono ?_
  rintro e w4 ⟨rfl, b4⟩
  have bel4 := bel3.trans (b4.mono bel3.size)
  clear b4 bel3 HCH m3 m4
  go_wp2_with fail
  go_ret2
  exact ⟨rfl, bel4⟩

set_option maxHeartbeats 2000000 in
set_option maxRecDepth 20000 in
theorem impl_color_rgb (D p : Nat) (wd hi x y : Int) (ca : Option Addr) (cn cc : Nat) (pa : Option Addr) (pn pc : Nat) (w : World) (cs : List Int) (hc : Ints w ca cs) (hcn : cs.length = cn) (hp2 : p ≤ 16777216) 
    (hat : ∀ w', Below w.heap.size w w' → Calls Try.prog 90 #[.agg #[.int .i64 2, .int .i64 (D : Int), .int .i64 wd, .int .i64 hi, .slice ca cn cc, .slice pa pn pc], .int .i64 x, .int .i64 y] w' fun e w'' => e = .returned (.int .i64 (p : Int)) ∧ Below w'.heap.size w' w'')
    (hO : Calls Try.prog 12 #[.agg #[.int .i64 2, .int .i64 (D : Int), .int .i64 wd, .int .i64 hi, .slice ca cn cc, .slice pa pn pc]] (w.alloc (.cells #[.int .i64 2, .int .i64 (D : Int), .int .i64 wd, .int .i64 hi, .slice ca cn cc, .slice pa pn pc] 25)) fun e w' => e = .returned (.bool true) ∧ Below (w.alloc (.cells #[.int .i64 2, .int .i64 (D : Int), .int .i64 wd, .int .i64 hi, .slice ca cn cc, .slice pa pn pc] 25)).heap.size (w.alloc (.cells #[.int .i64 2, .int .i64 (D : Int), .int .i64 wd, .int .i64 hi, .slice ca cn cc, .slice pa pn pc] 25)) w') (hin : inB x y wd hi = true) :
    Calls Try.prog 14 #[.agg #[.int .i64 2, .int .i64 (D : Int), .int .i64 wd, .int .i64 hi, .slice ca cn cc, .slice pa pn pc], .int .i64 x, .int .i64 y] w fun e w' => e = .returned (.tuple #[.int .i64 (colOf 2 D cs (p : Int)), .bool true]) ∧ Below w.heap.size w w' := by
  have hcol : colOf 2 D cs (p : Int) = (p : Int) * 256 + 255 := by
    unfold colOf; rw [if_neg (by decide), if_pos rfl]
  have hB0 : Below w.heap.size w (w.alloc (.cells #[.int .i64 2, .int .i64 (D : Int), .int .i64 wd, .int .i64 hi, .slice ca cn cc, .slice pa pn pc] 25)) := (Below.refl _ _).alloc (Nat.le_refl _) _
  have HO : Hid (Calls Try.prog 12 #[.agg #[.int .i64 2, .int .i64 (D : Int), .int .i64 wd, .int .i64 hi, .slice ca cn cc, .slice pa pn pc]] (w.alloc (.cells #[.int .i64 2, .int .i64 (D : Int), .int .i64 wd, .int .i64 hi, .slice ca cn cc, .slice pa pn pc] 25)) fun e w' => e = .returned (.bool true) ∧ Below (w.alloc (.cells #[.int .i64 2, .int .i64 (D : Int), .int .i64 wd, .int .i64 hi, .slice ca cn cc, .slice pa pn pc] 25)).heap.size (w.alloc (.cells #[.int .i64 2, .int .i64 (D : Int), .int .i64 wd, .int .i64 hi, .slice ca cn cc, .slice pa pn pc] 25)) w') := hO
  have HIN : Hid (∀ w' : World, Calls Try.prog 45 #[.iface 62 (.agg #[.int .i64 2, .int .i64 (D : Int), .int .i64 wd, .int .i64 hi, .slice ca cn cc, .slice pa pn pc]), .int .i64 x, .int .i64 y] w' fun e w'' => e = .returned (.bool true) ∧ Below w'.heap.size w' w'') := by
    intro w'; have := inView_any 2 (D : Int) wd hi x y ca cn cc pa pn pc w'; rw [hin] at this; exact this
  have HAT : Hid (∀ w', Below w.heap.size w w' → Calls Try.prog 90 #[.agg #[.int .i64 2, .int .i64 (D : Int), .int .i64 wd, .int .i64 hi, .slice ca cn cc, .slice pa pn pc], .int .i64 x, .int .i64 y] w' fun e w'' => e = .returned (.int .i64 (p : Int)) ∧ Below w'.heap.size w' w'') := hat
  have HIC : Hid (∀ w', Below w.heap.size w w' → Ints w' ca cs) := fun w' b => hc.kept b
  have HCN : Hid (cs.length = cn) := hcn
  have HCOL : Hid (colOf 2 D cs (p : Int) = (p : Int) * 256 + 255) := hcol
  clear hO hin hat hc hcn hcol
  generalize hcv : colOf 2 D cs (p : Int) = c at *
  have HCV : Hid (colOf 2 D cs (p : Int) = c) := hcv
  clear hcv
  go_enter Try.func14, Try.ntmps14
  go_wp2_with fail
  refine HO.out.mono ?_
  rintro e w1 ⟨rfl, b1⟩
  obtain ⟨k0, k1, k2, k3, k4, k5⟩ := box_kept (box_new w _ _ _ _ _ _ 25) b1 (by simp)
  have bel1 := hB0.trans (b1.mono (by simp))
  have hlt1 : w.heap.size < w1.heap.size := Nat.lt_of_lt_of_le (by simp) b1.size
  clear b1 HO hB0
  go_wp2_with fail
  refine (HIN.out _).mono ?_
  rintro e w2 ⟨rfl, b2⟩
  obtain ⟨j0, j1, j2, j3, j4, j5⟩ := box_kept ⟨k0, k1, k2, k3, k4, k5⟩ b2 hlt1
  have bel2 := bel1.trans (b2.mono bel1.size)
  clear b2 bel1 k0 k1 k2 k3 k4 k5 hlt1
  go_wp2_with fail
  refine (colored_rgb (D : Int) wd hi ca cn cc pa pn pc w2).mono ?_
  rintro e w3 ⟨rfl, b3⟩
  have bel3 := bel2.trans (b3.mono bel2.size)
  have hcol := HCOL.out
  have HCH : Hid (Calls Try.prog 89 #[.agg #[.iface 62 (.agg #[.int .i64 2, .int .i64 (D : Int), .int .i64 wd, .int .i64 hi, .slice ca cn cc, .slice pa pn pc]), .func (.func 69) #[] #[]], .int .i64 x, .int .i64 y] w3 fun e w' => e = .returned (.int .i64 c) ∧ Below w3.heap.size w3 w') :=
    changed_rgb 2 (D : Int) wd hi x y (p : Int) c ca cn cc pa pn pc w3 (fun w' b' => HAT.out w' (bel3.trans (b'.mono bel3.size))) (fun w' b' => (solid_any (p : Int) w' (by omega) (by omega)).mono (fun e w'' h => ⟨by rw [h.1, hcol], by rw [h.2]; exact Below.refl _ _⟩))
  have m3 : ∀ w, (method 200 54 (.agg #[.iface 62 (.agg #[.int .i64 2, .int .i64 (D : Int), .int .i64 wd, .int .i64 hi, .slice ca cn cc, .slice pa pn pc]), .func (.func 69) #[] #[]]) "loop.example/intarsia/impl.at").run Try.prog w = .ok (89, .agg #[.iface 62 (.agg #[.int .i64 2, .int .i64 (D : Int), .int .i64 wd, .int .i64 hi, .slice ca cn cc, .slice pa pn pc]), .func (.func 69) #[] #[]]) w := fun w => by kernel_rfl
  have m4 : ∀ w, (nilAhead 200 54 (.agg #[.iface 62 (.agg #[.int .i64 2, .int .i64 (D : Int), .int .i64 wd, .int .i64 hi, .slice ca cn cc, .slice pa pn pc]), .func (.func 69) #[] #[]]) "loop.example/intarsia/impl.at").run Try.prog w = .ok (some false) w := fun w => by kernel_rfl
  clear b3 bel2 j0 j1 j2 j3 j4 j5 hcol
  go_wp2_with fail
  refine HCH.out.mono ?_
  rintro e w4 ⟨rfl, b4⟩
  have bel4 := bel3.trans (b4.mono bel3.size)
  clear b4 bel3 HCH m3 m4
  go_wp2_with fail
  go_ret2
  exact ⟨rfl, bel4⟩

set_option maxHeartbeats 2000000 in
set_option maxRecDepth 20000 in
theorem impl_color_rgba (D p : Nat) (wd hi x y : Int) (ca : Option Addr) (cn cc : Nat) (pa : Option Addr) (pn pc : Nat) (w : World) (cs : List Int) (hc : Ints w ca cs) (hcn : cs.length = cn) 
    (hat : ∀ w', Below w.heap.size w w' → Calls Try.prog 90 #[.agg #[.int .i64 3, .int .i64 (D : Int), .int .i64 wd, .int .i64 hi, .slice ca cn cc, .slice pa pn pc], .int .i64 x, .int .i64 y] w' fun e w'' => e = .returned (.int .i64 (p : Int)) ∧ Below w'.heap.size w' w'')
    (hO : Calls Try.prog 12 #[.agg #[.int .i64 3, .int .i64 (D : Int), .int .i64 wd, .int .i64 hi, .slice ca cn cc, .slice pa pn pc]] (w.alloc (.cells #[.int .i64 3, .int .i64 (D : Int), .int .i64 wd, .int .i64 hi, .slice ca cn cc, .slice pa pn pc] 25)) fun e w' => e = .returned (.bool true) ∧ Below (w.alloc (.cells #[.int .i64 3, .int .i64 (D : Int), .int .i64 wd, .int .i64 hi, .slice ca cn cc, .slice pa pn pc] 25)).heap.size (w.alloc (.cells #[.int .i64 3, .int .i64 (D : Int), .int .i64 wd, .int .i64 hi, .slice ca cn cc, .slice pa pn pc] 25)) w') (hin : inB x y wd hi = true) :
    Calls Try.prog 14 #[.agg #[.int .i64 3, .int .i64 (D : Int), .int .i64 wd, .int .i64 hi, .slice ca cn cc, .slice pa pn pc], .int .i64 x, .int .i64 y] w fun e w' => e = .returned (.tuple #[.int .i64 (colOf 3 D cs (p : Int)), .bool true]) ∧ Below w.heap.size w w' := by
  have hcol : colOf 3 D cs (p : Int) = (p : Int) := by
    unfold colOf; rw [if_neg (by decide), if_neg (by decide), if_neg (by decide)]
  have hB0 : Below w.heap.size w (w.alloc (.cells #[.int .i64 3, .int .i64 (D : Int), .int .i64 wd, .int .i64 hi, .slice ca cn cc, .slice pa pn pc] 25)) := (Below.refl _ _).alloc (Nat.le_refl _) _
  have HO : Hid (Calls Try.prog 12 #[.agg #[.int .i64 3, .int .i64 (D : Int), .int .i64 wd, .int .i64 hi, .slice ca cn cc, .slice pa pn pc]] (w.alloc (.cells #[.int .i64 3, .int .i64 (D : Int), .int .i64 wd, .int .i64 hi, .slice ca cn cc, .slice pa pn pc] 25)) fun e w' => e = .returned (.bool true) ∧ Below (w.alloc (.cells #[.int .i64 3, .int .i64 (D : Int), .int .i64 wd, .int .i64 hi, .slice ca cn cc, .slice pa pn pc] 25)).heap.size (w.alloc (.cells #[.int .i64 3, .int .i64 (D : Int), .int .i64 wd, .int .i64 hi, .slice ca cn cc, .slice pa pn pc] 25)) w') := hO
  have HIN : Hid (∀ w' : World, Calls Try.prog 45 #[.iface 62 (.agg #[.int .i64 3, .int .i64 (D : Int), .int .i64 wd, .int .i64 hi, .slice ca cn cc, .slice pa pn pc]), .int .i64 x, .int .i64 y] w' fun e w'' => e = .returned (.bool true) ∧ Below w'.heap.size w' w'') := by
    intro w'; have := inView_any 3 (D : Int) wd hi x y ca cn cc pa pn pc w'; rw [hin] at this; exact this
  have HAT : Hid (∀ w', Below w.heap.size w w' → Calls Try.prog 90 #[.agg #[.int .i64 3, .int .i64 (D : Int), .int .i64 wd, .int .i64 hi, .slice ca cn cc, .slice pa pn pc], .int .i64 x, .int .i64 y] w' fun e w'' => e = .returned (.int .i64 (p : Int)) ∧ Below w'.heap.size w' w'') := hat
  have HIC : Hid (∀ w', Below w.heap.size w w' → Ints w' ca cs) := fun w' b => hc.kept b
  have HCN : Hid (cs.length = cn) := hcn
  have HCOL : Hid (colOf 3 D cs (p : Int) = (p : Int)) := hcol
  clear hO hin hat hc hcn hcol
  generalize hcv : colOf 3 D cs (p : Int) = c at *
  have HCV : Hid (colOf 3 D cs (p : Int) = c) := hcv
  clear hcv
  go_enter Try.func14, Try.ntmps14
  go_wp2_with fail
  refine HO.out.mono ?_
  rintro e w1 ⟨rfl, b1⟩
  obtain ⟨k0, k1, k2, k3, k4, k5⟩ := box_kept (box_new w _ _ _ _ _ _ 25) b1 (by simp)
  have bel1 := hB0.trans (b1.mono (by simp))
  have hlt1 : w.heap.size < w1.heap.size := Nat.lt_of_lt_of_le (by simp) b1.size
  clear b1 HO hB0
  go_wp2_with fail
  refine (HIN.out _).mono ?_
  rintro e w2 ⟨rfl, b2⟩
  obtain ⟨j0, j1, j2, j3, j4, j5⟩ := box_kept ⟨k0, k1, k2, k3, k4, k5⟩ b2 hlt1
  have bel2 := bel1.trans (b2.mono bel1.size)
  clear b2 bel1 k0 k1 k2 k3 k4 k5 hlt1
  go_wp2_with fail
  refine (colored_rgba (D : Int) wd hi ca cn cc pa pn pc w2).mono ?_
  rintro e w3 ⟨rfl, b3⟩
  have bel3 := bel2.trans (b3.mono bel2.size)
  have hcol := HCOL.out
  have HCH : Hid (Calls Try.prog 89 #[.agg #[.iface 62 (.agg #[.int .i64 3, .int .i64 (D : Int), .int .i64 wd, .int .i64 hi, .slice ca cn cc, .slice pa pn pc]), .func (.func 72) #[] #[]], .int .i64 x, .int .i64 y] w3 fun e w' => e = .returned (.int .i64 c) ∧ Below w3.heap.size w3 w') :=
    changed_rgba 3 (D : Int) wd hi x y (p : Int) c ca cn cc pa pn pc w3 (fun w' b' => HAT.out w' (bel3.trans (b'.mono bel3.size))) (fun w' b' => (same_any (p : Int) w').mono (fun e w'' h => ⟨by rw [h.1, hcol], by rw [h.2]; exact Below.refl _ _⟩))
  have m3 : ∀ w, (method 200 54 (.agg #[.iface 62 (.agg #[.int .i64 3, .int .i64 (D : Int), .int .i64 wd, .int .i64 hi, .slice ca cn cc, .slice pa pn pc]), .func (.func 72) #[] #[]]) "loop.example/intarsia/impl.at").run Try.prog w = .ok (89, .agg #[.iface 62 (.agg #[.int .i64 3, .int .i64 (D : Int), .int .i64 wd, .int .i64 hi, .slice ca cn cc, .slice pa pn pc]), .func (.func 72) #[] #[]]) w := fun w => by kernel_rfl
  have m4 : ∀ w, (nilAhead 200 54 (.agg #[.iface 62 (.agg #[.int .i64 3, .int .i64 (D : Int), .int .i64 wd, .int .i64 hi, .slice ca cn cc, .slice pa pn pc]), .func (.func 72) #[] #[]]) "loop.example/intarsia/impl.at").run Try.prog w = .ok (some false) w := fun w => by kernel_rfl
  clear b3 bel2 j0 j1 j2 j3 j4 j5 hcol
  go_wp2_with fail
  refine HCH.out.mono ?_
  rintro e w4 ⟨rfl, b4⟩
  have bel4 := bel3.trans (b4.mono bel3.size)
  clear b4 bel3 HCH m3 m4
  go_wp2_with fail
  go_ret2
  exact ⟨rfl, bel4⟩

theorem impl_color_yes (k d wd hi x y : Int) (ca : Option Addr) (cn cc : Nat) (pa : Option Addr) (pn pc : Nat) (w : World) (cs ps : List Int) (hc : Ints w ca cs) (hcn : cs.length = cn) (hp : Ints w pa ps) (hpn : ps.length = pn) (hok : Im.okB k d wd hi cs ps = true) (hin : 0 ≤ x ∧ x < wd ∧ 0 ≤ y ∧ y < hi)
    (hO : Calls Try.prog 12 #[.agg #[.int .i64 k, .int .i64 d, .int .i64 wd, .int .i64 hi, .slice ca cn cc, .slice pa pn pc]] (w.alloc (.cells #[.int .i64 k, .int .i64 d, .int .i64 wd, .int .i64 hi, .slice ca cn cc, .slice pa pn pc] 25)) fun e w' => e = .returned (.bool true) ∧ Below (w.alloc (.cells #[.int .i64 k, .int .i64 d, .int .i64 wd, .int .i64 hi, .slice ca cn cc, .slice pa pn pc] 25)).heap.size (w.alloc (.cells #[.int .i64 k, .int .i64 d, .int .i64 wd, .int .i64 hi, .slice ca cn cc, .slice pa pn pc] 25)) w') :
    Calls Try.prog 14 #[.agg #[.int .i64 k, .int .i64 d, .int .i64 wd, .int .i64 hi, .slice ca cn cc, .slice pa pn pc], .int .i64 x, .int .i64 y] w fun e w' => e = .returned (.tuple #[.int .i64 (Im.coV k d wd hi x y cs ps), .bool (Im.coB k d wd hi x y cs ps)]) ∧ Below w.heap.size w w' := by
  have hOk := Im.ok_of' hok
  obtain ⟨I, X, Y, Wd, hsp⟩ := spot_of (pn := pn) hOk.2.1 hOk.2.2.1 (by rw [← hpn]; exact hOk.2.2.2.2.1) hin
  have hco : Im.coB k d wd hi x y cs ps = true := by unfold Im.coB; rw [hok, inB_yes hin]; rfl
  obtain ⟨D, rfl, hD, _⟩ := Im.dep_all hOk.1
  obtain ⟨p, hpv, hpt⟩ := Im.pt_ok hOk I (by have := hsp.lt; omega)
  have hv := Im.co_yes hco hsp
  rw [hpv] at hv
  rw [hv, hco]
  have hat : ∀ w', Below w.heap.size w w' → Calls Try.prog 90 #[.agg #[.int .i64 k, .int .i64 (D : Int), .int .i64 wd, .int .i64 hi, .slice ca cn cc, .slice pa pn pc], .int .i64 x, .int .i64 y] w' fun e w'' => e = .returned (.int .i64 (p : Int)) ∧ Below w'.heap.size w' w'' := by
    intro w' b'
    rw [← hpv]
    exact at_any k (D : Int) wd hi x y ca cn cc pa pn pc ps w' I X Y Wd hsp (hp.kept b') hpn
  rcases hpt with ⟨rfl, hDD, hp2⟩ | ⟨rfl, hp2⟩ | rfl | ⟨rfl, hp2, hW⟩
  · exact impl_color_gray D p wd hi x y ca cn cc pa pn pc w cs hc hcn hDD hp2 hat hO (inB_yes hin)
  · exact impl_color_rgb D p wd hi x y ca cn cc pa pn pc w cs hc hcn hp2 hat hO (inB_yes hin)
  · exact impl_color_rgba D p wd hi x y ca cn cc pa pn pc w cs hc hcn hat hO (inB_yes hin)
  · exact impl_color_pal D p wd hi x y ca cn cc pa pn pc w cs hc hcn (by omega) hW hat hO (inB_yes hin)

set_option maxHeartbeats 1000000 in
set_option maxRecDepth 20000 in
theorem impl_imageColor (k d wd hi x y : Int) (ca : Option Addr) (cn cc : Nat) (pa : Option Addr) (pn pc : Nat) (w : World) (cs ps : List Int) (hc : Ints w ca cs) (hcn : cs.length = cn) (hcl : cn ≤ 1048576) (hp : Ints w pa ps) (hpn : ps.length = pn) (hpl : pn ≤ 1048576) :
    Calls Try.prog 14 #[.agg #[.int .i64 k, .int .i64 d, .int .i64 wd, .int .i64 hi, .slice ca cn cc, .slice pa pn pc], .int .i64 x, .int .i64 y] w fun e w' => e = .returned (.tuple #[.int .i64 (Im.coV k d wd hi x y cs ps), .bool (Im.coB k d wd hi x y cs ps)]) ∧ Below w.heap.size w w' := by
  have hB0 : Below w.heap.size w (w.alloc (.cells #[.int .i64 k, .int .i64 d, .int .i64 wd, .int .i64 hi, .slice ca cn cc, .slice pa pn pc] 25)) := (Below.refl _ _).alloc (Nat.le_refl _) _
  have HOK := impl_imageOk k d wd hi ca cn cc pa pn pc _ cs ps (hc.kept hB0) hcn hcl (hp.kept hB0) hpn hpl
  have HIN : Hid (∀ w' : World, Calls Try.prog 45 #[.iface 62 (.agg #[.int .i64 k, .int .i64 d, .int .i64 wd, .int .i64 hi, .slice ca cn cc, .slice pa pn pc]), .int .i64 x, .int .i64 y] w' fun e w'' => e = .returned (.bool (inB x y wd hi)) ∧ Below w'.heap.size w' w'') := fun w' => inView_any k d wd hi x y ca cn cc pa pn pc w'
  cases hok : Im.okB k d wd hi cs ps
  · rw [hok] at HOK
    have HO : Hid (Calls Try.prog 12 #[.agg #[.int .i64 k, .int .i64 d, .int .i64 wd, .int .i64 hi, .slice ca cn cc, .slice pa pn pc]] (w.alloc (.cells #[.int .i64 k, .int .i64 d, .int .i64 wd, .int .i64 hi, .slice ca cn cc, .slice pa pn pc] 25)) fun e w' => e = .returned (.bool false) ∧ Below (w.alloc (.cells #[.int .i64 k, .int .i64 d, .int .i64 wd, .int .i64 hi, .slice ca cn cc, .slice pa pn pc] 25)).heap.size (w.alloc (.cells #[.int .i64 k, .int .i64 d, .int .i64 wd, .int .i64 hi, .slice ca cn cc, .slice pa pn pc] 25)) w') := HOK
    have hat : Im.coB k d wd hi x y cs ps = false := by unfold Im.coB; rw [hok]; rfl
    have HA : Hid (Im.coB k d wd hi x y cs ps = false ∧ Im.coV k d wd hi x y cs ps = 0) := ⟨hat, Im.co_no hat⟩
    clear HOK hat hok hc hp hcn hpn
    go_enter Try.func14, Try.ntmps14
    go_wp2_with fail
    refine HO.out.mono ?_
    rintro e w1 ⟨rfl, b1⟩
    have bel1 := hB0.trans (b1.mono (by simp))
    clear b1 HO hB0
    go_wp2_with fail
    go_ret2
    rw [HA.out.1, HA.out.2]
    exact ⟨rfl, bel1⟩
  · rw [hok] at HOK
    have HO : Hid (Calls Try.prog 12 #[.agg #[.int .i64 k, .int .i64 d, .int .i64 wd, .int .i64 hi, .slice ca cn cc, .slice pa pn pc]] (w.alloc (.cells #[.int .i64 k, .int .i64 d, .int .i64 wd, .int .i64 hi, .slice ca cn cc, .slice pa pn pc] 25)) fun e w' => e = .returned (.bool true) ∧ Below (w.alloc (.cells #[.int .i64 k, .int .i64 d, .int .i64 wd, .int .i64 hi, .slice ca cn cc, .slice pa pn pc] 25)).heap.size (w.alloc (.cells #[.int .i64 k, .int .i64 d, .int .i64 wd, .int .i64 hi, .slice ca cn cc, .slice pa pn pc] 25)) w') := HOK
    have hOk := Im.ok_of' hok
    have HIP : Hid (∀ w', Below w.heap.size w w' → Ints w' pa ps) := fun w' b => hp.kept b
    by_cases hin : 0 ≤ x ∧ x < wd ∧ 0 ≤ y ∧ y < hi
    · exact impl_color_yes k d wd hi x y ca cn cc pa pn pc w cs ps hc hcn hp hpn hok hin HO.out
    · have hat : Im.coB k d wd hi x y cs ps = false := by unfold Im.coB; rw [inB_no hin]; simp
      have HA : Hid (Im.coB k d wd hi x y cs ps = false ∧ Im.coV k d wd hi x y cs ps = 0) := ⟨hat, Im.co_no hat⟩
      rw [inB_no hin] at HIN
      clear HOK hat hok hc hp hcn hpn hOk hin HIP
      go_enter Try.func14, Try.ntmps14
      go_wp2_with fail
      refine HO.out.mono ?_
      rintro e w1 ⟨rfl, b1⟩
      obtain ⟨k0, k1, k2, k3, k4, k5⟩ := box_kept (box_new w _ _ _ _ _ _ 25) b1 (by simp)
      have bel1 := hB0.trans (b1.mono (by simp))
      clear b1 HO hB0
      go_wp2_with fail
      refine (HIN.out _).mono ?_
      rintro e w2 ⟨rfl, b2⟩
      have bel2 := bel1.trans (b2.mono bel1.size)
      clear b2 bel1 k0 k1 k2 k3 k4 k5
      go_wp2_with fail
      go_ret2
      rw [HA.out.1, HA.out.2]
      exact ⟨rfl, bel2⟩

end Go.Proofs.Ytchaepkdpbiffaa

/- The law on pictures made of red, green and blue, walked. -/
namespace Go.Proofs.Ytchaepkdpbiffaa
open Go.RowKit

theorem pair_ints {w : World} {lo : Nat} {x y : Option Addr} {cs ps : List Int} (h : Pair2 w lo x cs y ps) : Ints w x cs ∧ Ints w y ps := by
  obtain ⟨m, _, h2, _, h4⟩ := h
  exact ⟨h2.ints, h4.ints⟩
theorem dense_snoc (l : List Int) (c : Int) : denseB (l ++ [c]) = (denseB l && (c % 256 == 255)) := by unfold denseB; rw [List.all_append]; simp
theorem dense_take {l : List Int} (h : denseB l = true) (j : Nat) : denseB (l.take j) = true := by
  unfold denseB at *
  rw [List.all_eq_true] at *
  exact fun x hx => h x (List.mem_of_mem_take hx)
theorem cols_bares {l : List Int} (h0 : ∀ c ∈ l, 0 ≤ c) (h : denseB l = true) : cols 2 24 [] (bares l) = l := by
  unfold denseB at h
  rw [List.all_eq_true] at h
  unfold cols bares
  rw [List.map_map]
  conv => rhs; rw [← List.map_id l]
  refine List.map_congr_left (fun c hc => ?_)
  have h1 := h c hc
  have h2 := h0 c hc
  simp at h1
  have e : colOf 2 24 [] (c / 256) = c / 256 * 256 + 255 := by unfold colOf; rw [if_neg (by decide), if_pos rfl]
  show colOf 2 24 [] (c / 256) = c
  rw [e]
  omega
theorem col_pos {k wd hi : Int} {D : Nat} {cs ps : List Int} (hok : Im.Ok k (D : Int) wd hi cs ps) {c : Int} (hc : c ∈ cols k D cs ps) : 0 ≤ c := by
  unfold cols at hc
  obtain ⟨p, hp, rfl⟩ := List.mem_map.1 hc
  exact (col_bounds hok hp).1
theorem rgb_okX {k : Int} {D Wd Hi : Nat} {cs ps : List Int} (hok : Im.Ok k (D : Int) (Wd : Int) (Hi : Int) cs ps) : Im.okB 2 24 Wd Hi [] (bares (cols k D cs ps)) = true := by
  refine Im.okB_yes ⟨by simp [depL], hok.2.1, hok.2.2.1, ⟨fun _ => rfl, fun h => absurd h (by decide)⟩, ?_, ?_⟩
  · rw [bares_len, cols_len]; exact hok.2.2.2.2.1
  · intro z hz
    unfold bares cols at hz
    rw [List.map_map] at hz
    obtain ⟨p, hp, rfl⟩ := List.mem_map.1 hz
    have hb := col_bounds hok hp
    show 0 ≤ colOf k D cs p / 256 ∧ colOf k D cs p / 256 ≤ Im.most 2 24 []
    unfold Im.most
    rw [if_neg (by decide)]
    refine ⟨by omega, ?_⟩
    have : ((2 ^ (24 : Int).toNat : Nat) : Int) = 16777216 := by decide
    omega
theorem split_at' {Wd Hi j : Nat} (h : j < Wd * Hi) : ∃ u v, u < Wd ∧ v < Hi ∧ j = v * Wd + u := by
  have hW : 0 < Wd := by rcases Nat.eq_zero_or_pos Wd with h0 | h0; · rw [h0, Nat.zero_mul] at h; omega
                         · exact h0
  refine ⟨j % Wd, j / Wd, Nat.mod_lt _ hW, ?_, ?_⟩
  · exact (Nat.div_lt_iff_lt_mul hW).2 (by rw [Nat.mul_comm]; exact h)
  · rw [Nat.mul_comm]; exact (Nat.div_add_mod j Wd).symm

set_option maxHeartbeats 8000000 in
set_option maxRecDepth 20000 in
theorem lawImageRgb (ra : Option Addr) (len cap : Nat) (w : World) (h : Code8 w ra len cap) :
    Calls Try.prog 3 #[.slice ra len cap] w fun e w' => e = .returned (.bool true) ∧ Below w.heap.size w w' := by
  by_cases hbig : 1048576 < len
  · have hc := h.2.1
    have hc1 := h.1
    unfold maxLen at hc
    clear h
    go_enter Try.func3, Try.ntmps3
    go_wp2_with fail
    go_ret
    exact ⟨rfl, Below.refl _ _⟩
  · go_enter Try.func3, Try.ntmps3
    go_wp2_with fail
    refine (drawImageRgb_any ra len cap w h).mono ?_
    rintro e w1 ⟨⟨k, d, wd, hi, a, n, c, cs, b, m, cc, ps, rfl, i4, l4, l4', k4, i5, l5, l5', k5, bd⟩, b1⟩
    clear h
    rcases hok : Im.okB k d wd hi cs ps with _ | _
    · obtain ⟨rB, rL, rK⟩ := rg_no (k := k) (d := d) (wd := wd) (hi := hi) (cs := cs) (ps := ps) (.inl hok)
      have HIR : Hid (∀ w1 : World, Ints w1 a cs → Ints w1 b ps → Calls Try.prog 9 #[.agg #[.int .i64 k, .int .i64 d, .int .i64 wd, .int .i64 hi, .slice a n c, .slice b m cc]] w1 fun e w' => (∃ x cx y cy, e = .returned (.tuple #[.agg #[.int .i64 0, .int .i64 0, .int .i64 0, .int .i64 0, .slice x 0 cx, .slice y 0 cy], .bool false]) ∧ Ints w' x [] ∧ Ints w' y []) ∧ Below w1.heap.size w1 w') := fun w1 g1 g2 => by
        refine (impl_rgb k d wd hi a n c b m cc cs ps w1 g1 l4 (by omega) g2 l5 (by omega)).mono ?_
        rintro e w' ⟨⟨x, cx, y, cy, rfl, hP⟩, b⟩
        rw [rL] at hP
        exact ⟨⟨x, cx, y, cy, by rw [rB, rK, rK, rK, rK, rL]; rfl, pair_ints hP⟩, b⟩
      have HSR : Hid (∀ w1 : World, Ints w1 a cs → Ints w1 b ps → Calls Try.prog 10 #[.agg #[.int .i64 k, .int .i64 d, .int .i64 wd, .int .i64 hi, .slice a n c, .slice b m cc]] w1 fun e w' => (∃ x cx y cy, e = .returned (.tuple #[.agg #[.int .i64 0, .int .i64 0, .int .i64 0, .int .i64 0, .slice x 0 cx, .slice y 0 cy], .bool false]) ∧ Ints w' x [] ∧ Ints w' y []) ∧ Below w1.heap.size w1 w') := fun w1 g1 g2 => by
        refine (spec_rgb k d wd hi a n c b m cc cs ps w1 g1 l4 (by omega) g2 l5 (by omega)).mono ?_
        rintro e w' ⟨⟨x, cx, y, cy, rfl, h1, h2⟩, b⟩
        rw [rL] at h2
        exact ⟨⟨x, cx, y, cy, by rw [rB, rK, rK, rK, rK, rL]; rfl, h1, h2⟩, b⟩
      have HWI : Hid (∀ (x : Option Addr) (cx : Nat) (y : Option Addr) (cy : Nat) (x2 : Option Addr) (cx2 : Nat) (y2 : Option Addr) (cy2 : Nat) (w1 : World), Ints w1 x [] → Ints w1 y [] → Ints w1 x2 [] → Ints w1 y2 [] → Calls Try.prog 11 #[.agg #[.int .i64 0, .int .i64 0, .int .i64 0, .int .i64 0, .slice x 0 cx, .slice y 0 cy], .agg #[.int .i64 0, .int .i64 0, .int .i64 0, .int .i64 0, .slice x2 0 cx2, .slice y2 0 cy2]] w1 fun e w' => e = .returned (.bool true) ∧ Below w1.heap.size w1 w') := fun x cx y cy x2 cx2 y2 cy2 w1 => wiImage_same 0 0 0 0 0 0 [] [] rfl rfl (by omega) (by omega) x cx y cy x2 cx2 y2 cy2 w1
      have HOI : Hid (∀ w1 : World, Ints w1 a cs → Ints w1 b ps → Calls Try.prog 12 #[.agg #[.int .i64 k, .int .i64 d, .int .i64 wd, .int .i64 hi, .slice a n c, .slice b m cc]] w1 fun e w' => e = .returned (.bool false) ∧ Below w1.heap.size w1 w') := fun w1 g1 g2 => by
        have := impl_imageOk k d wd hi a n c b m cc w1 cs ps g1 l4 (by omega) g2 l5 (by omega)
        rw [hok] at this; exact this
      have HOS : Hid (∀ w1 : World, Ints w1 a cs → Ints w1 b ps → Calls Try.prog 13 #[.agg #[.int .i64 k, .int .i64 d, .int .i64 wd, .int .i64 hi, .slice a n c, .slice b m cc]] w1 fun e w' => e = .returned (.bool false) ∧ Below w1.heap.size w1 w') := fun w1 g1 g2 => by
        have := spec_imageOk k d wd hi a n c b m cc w1 cs ps g1 l4 (by omega) g2 l5
        rw [hok] at this; exact this
      clear rB rL rK
      have M1 : Hid (PB (w1.alloc (.cells #[.int .i64 k, .int .i64 d, .int .i64 wd, .int .i64 hi, .slice a n c, .slice b m cc] 25)) w1.heap.size k d wd hi a n c cs b m cc ps) := pb_new i4.ints i5.ints
      have B1 : Hid (Below w.heap.size w (w1.alloc (.cells #[.int .i64 k, .int .i64 d, .int .i64 wd, .int .i64 hi, .slice a n c, .slice b m cc] 25))) := b1.alloc b1.size _
      clear i4 i5 l4 l5 l4' l5' k4 k5 bd b1 hok
      go_wp2_with fail
      refine (HIR.out _ M1.out.i4 M1.out.i5).mono ?_
      rintro e w2 ⟨⟨x, cx, y, cy, rfl, gx, gy⟩, b2⟩
      generalize w1.heap.size = MB at *
      have M2 : Hid (PB (w2.alloc (.cells #[.int .i64 0, .int .i64 0, .int .i64 0, .int .i64 0, .slice x 0 cx, .slice y 0 cy] 25)) MB k d wd hi a n c cs b m cc ps) := (M1.out.kept b2).kept ((Below.refl _ _).alloc (Nat.le_refl _) _)
      have X2 : Hid (PB (w2.alloc (.cells #[.int .i64 0, .int .i64 0, .int .i64 0, .int .i64 0, .slice x 0 cx, .slice y 0 cy] 25)) w2.heap.size 0 0 0 0 x 0 cx [] y 0 cy []) := pb_new gx gy
      have B2 : Hid (Below w.heap.size w (w2.alloc (.cells #[.int .i64 0, .int .i64 0, .int .i64 0, .int .i64 0, .slice x 0 cx, .slice y 0 cy] 25))) := (B1.out.trans (b2.mono B1.out.size)).alloc (Nat.le_trans B1.out.size b2.size) _
      clear b2 M1 B1 HIR gx gy
      go_upto_region 5 with fail
      generalize hW3 : w2.alloc (.cells #[.int .i64 0, .int .i64 0, .int .i64 0, .int .i64 0, .slice x 0 cx, .slice y 0 cy] 25) = W3 at *
      clear hW3
      generalize w2.heap.size = XB at *
      obtain ⟨m20, m21, m22, m23, m24, m25⟩ := M2.out.box
      go_wp2_with fail
      refine (HSR.out _ M2.out.i4 M2.out.i5).mono ?_
      rintro e w3 ⟨⟨x2, cx2, y2, cy2, rfl, gx, gy⟩, b3⟩
      have M3 : Hid (PB (w3.alloc (.cells #[.int .i64 0, .int .i64 0, .int .i64 0, .int .i64 0, .slice x2 0 cx2, .slice y2 0 cy2] 25)) MB k d wd hi a n c cs b m cc ps) := (M2.out.kept b3).kept ((Below.refl _ _).alloc (Nat.le_refl _) _)
      have X3 : Hid (PB (w3.alloc (.cells #[.int .i64 0, .int .i64 0, .int .i64 0, .int .i64 0, .slice x2 0 cx2, .slice y2 0 cy2] 25)) XB 0 0 0 0 x 0 cx [] y 0 cy []) := (X2.out.kept b3).kept ((Below.refl _ _).alloc (Nat.le_refl _) _)
      have Y3 : Hid (PB (w3.alloc (.cells #[.int .i64 0, .int .i64 0, .int .i64 0, .int .i64 0, .slice x2 0 cx2, .slice y2 0 cy2] 25)) w3.heap.size 0 0 0 0 x2 0 cx2 [] y2 0 cy2 []) := pb_new gx gy
      have B3 : Hid (Below w.heap.size w (w3.alloc (.cells #[.int .i64 0, .int .i64 0, .int .i64 0, .int .i64 0, .slice x2 0 cx2, .slice y2 0 cy2] 25))) := (B2.out.trans (b3.mono B2.out.size)).alloc (Nat.le_trans B2.out.size b3.size) _
      clear b3 M2 X2 B2 HSR gx gy m20 m21 m22 m23 m24 m25
      go_upto_region 6 with fail
      generalize hW4 : w3.alloc (.cells #[.int .i64 0, .int .i64 0, .int .i64 0, .int .i64 0, .slice x2 0 cx2, .slice y2 0 cy2] 25) = W4 at *
      clear hW4
      generalize w3.heap.size = YB at *
      have M5 : Hid (PB W4.drew MB k d wd hi a n c cs b m cc ps) := M3.out.kept (Below.refl _ _).drew
      have X5 : Hid (PB W4.drew XB 0 0 0 0 x 0 cx [] y 0 cy []) := X3.out.kept (Below.refl _ _).drew
      have Y5 : Hid (PB W4.drew YB 0 0 0 0 x2 0 cx2 [] y2 0 cy2 []) := Y3.out.kept (Below.refl _ _).drew
      have B5 : Hid (Below w.heap.size w W4.drew) := B3.out.drew
      obtain ⟨m30, m31, m32, m33, m34, m35⟩ := M3.out.box
      obtain ⟨x30, x31, x32, x33, x34, x35⟩ := X3.out.box
      obtain ⟨y30, y31, y32, y33, y34, y35⟩ := Y3.out.box
      go_region_held3 (fun w' => w'.cell? ⟨MB, 0, none⟩ = some (.int .i64 k) ∧ w'.cell? ⟨MB, 1, none⟩ = some (.int .i64 d) ∧ w'.cell? ⟨MB, 2, none⟩ = some (.int .i64 wd) ∧ w'.cell? ⟨MB, 3, none⟩ = some (.int .i64 hi) ∧ w'.cell? ⟨MB, 4, none⟩ = some (.slice a n c) ∧ w'.cell? ⟨MB, 5, none⟩ = some (.slice b m cc) ∧ w'.cell? ⟨XB, 0, none⟩ = some (.int .i64 0) ∧ w'.cell? ⟨XB, 1, none⟩ = some (.int .i64 0) ∧ w'.cell? ⟨XB, 2, none⟩ = some (.int .i64 0) ∧ w'.cell? ⟨XB, 3, none⟩ = some (.int .i64 0) ∧ w'.cell? ⟨XB, 4, none⟩ = some (.slice x 0 cx) ∧ w'.cell? ⟨XB, 5, none⟩ = some (.slice y 0 cy) ∧ w'.cell? ⟨YB, 0, none⟩ = some (.int .i64 0) ∧ w'.cell? ⟨YB, 1, none⟩ = some (.int .i64 0) ∧ w'.cell? ⟨YB, 2, none⟩ = some (.int .i64 0) ∧ w'.cell? ⟨YB, 3, none⟩ = some (.int .i64 0) ∧ w'.cell? ⟨YB, 4, none⟩ = some (.slice x2 0 cx2) ∧ w'.cell? ⟨YB, 5, none⟩ = some (.slice y2 0 cy2)) (go_keep) (first | (go_at_call 13; refine (HOS.out _ M7.out.i4 M7.out.i5).mono ?_; rintro e w8 ⟨rfl, b8⟩; have M8 : Hid (PB w8 MB k d wd hi a n c cs b m cc ps) := M7.out.kept b8; have X8 : Hid (PB w8 XB 0 0 0 0 x 0 cx [] y 0 cy []) := X7.out.kept b8; have Y8 : Hid (PB w8 YB 0 0 0 0 x2 0 cx2 [] y2 0 cy2 []) := Y7.out.kept b8; have B8 : Hid (Below w.heap.size w w8) := B7.out.trans (b8.mono B7.out.size); obtain ⟨m80, m81, m82, m83, m84, m85⟩ := M8.out.box; obtain ⟨x80, x81, x82, x83, x84, x85⟩ := X8.out.box; obtain ⟨y80, y81, y82, y83, y84, y85⟩ := Y8.out.box; clear b8) | (go_at_call 12; refine (HOI.out _ M6.out.i4 M6.out.i5).mono ?_; rintro e w7 ⟨rfl, b7⟩; have M7 : Hid (PB w7 MB k d wd hi a n c cs b m cc ps) := M6.out.kept b7; have X7 : Hid (PB w7 XB 0 0 0 0 x 0 cx [] y 0 cy []) := X6.out.kept b7; have Y7 : Hid (PB w7 YB 0 0 0 0 x2 0 cx2 [] y2 0 cy2 []) := Y6.out.kept b7; have B7 : Hid (Below w.heap.size w w7) := B6.out.trans (b7.mono B6.out.size); obtain ⟨m70, m71, m72, m73, m74, m75⟩ := M7.out.box; obtain ⟨x70, x71, x72, x73, x74, x75⟩ := X7.out.box; obtain ⟨y70, y71, y72, y73, y74, y75⟩ := Y7.out.box; clear b7) | (go_at_call 11; refine (HWI.out x cx y cy x2 cx2 y2 cy2 _ X5.out.i4 X5.out.i5 Y5.out.i4 Y5.out.i5).mono ?_; rintro e w6 ⟨rfl, b6⟩; have M6 : Hid (PB w6 MB k d wd hi a n c cs b m cc ps) := M5.out.kept b6; have X6 : Hid (PB w6 XB 0 0 0 0 x 0 cx [] y 0 cy []) := X5.out.kept b6; have Y6 : Hid (PB w6 YB 0 0 0 0 x2 0 cx2 [] y2 0 cy2 []) := Y5.out.kept b6; have B6 : Hid (Below w.heap.size w w6) := B5.out.trans (b6.mono B5.out.size); obtain ⟨m60, m61, m62, m63, m64, m65⟩ := M6.out.box; obtain ⟨x60, x61, x62, x63, x64, x65⟩ := X6.out.box; obtain ⟨y60, y61, y62, y63, y64, y65⟩ := Y6.out.box; clear b6))
      clear M3 X3 Y3 B3 M5 X5 Y5 B5 M6 X6 Y6 B6 M7 X7 Y7 B7 Y8 m30 m31 m32 m33 m34 m35 x30 x31 x32 x33 x34 x35 y30 y31 y32 y33 y34 y35 m60 m61 m62 m63 m64 m65 x60 x61 x62 x63 x64 x65 y60 y61 y62 y63 y64 y65 m70 m71 m72 m73 m74 m75 x70 x71 x72 x73 x74 x75 y70 y71 y72 y73 y74 y75 y80 y81 y82 y83 y84 y85 HOI HWI
      go_wp2_with fail
      refine (HOS.out _ M8.out.i4 M8.out.i5).mono ?_
      rintro e w9 ⟨rfl, b9⟩
      have M9 : Hid (PB w9 MB k d wd hi a n c cs b m cc ps) := M8.out.kept b9
      have X9 : Hid (PB w9 XB 0 0 0 0 x 0 cx [] y 0 cy []) := X8.out.kept b9
      have B9 : Hid (Below w.heap.size w w9) := B8.out.trans (b9.mono B8.out.size)
      clear b9 M8 X8 B8 HOS m80 m81 m82 m83 m84 m85 x80 x81 x82 x83 x84 x85
      go_wp2_with fail
      go_loopw [8, 9] (fun q i wr => q = .bool false ∧ i = .int .i64 0 ∧ PB wr MB k d wd hi a n c cs b m cc ps ∧ PB wr XB 0 0 0 0 x 0 cx [] y 0 cy [] ∧ Below w.heap.size w wr) (fun _ _ _ => 0)
      case atStart => exact ⟨rfl, rfl, M9.out, X9.out, B9.out⟩
      case round =>
        obtain ⟨rfl, rfl, hM, hX, hB⟩ := hrel
        clear M9 X9 B9
        have M1 : Hid (PB wr MB k d wd hi a n c cs b m cc ps) := hM
        have X1 : Hid (PB wr XB 0 0 0 0 x 0 cx [] y 0 cy []) := hX
        have B1 : Hid (Below w.heap.size w wr) := hB
        clear hM hX hB
        obtain ⟨m10, m11, m12, m13, m14, m15⟩ := M1.out.box
        by_cases hlt : 0 < m
        · have hji : (0 : Int) < (m : Int) := by omega
          obtain ⟨x10, x11, x12, x13, x14, x15⟩ := X1.out.box
          go_wp2_with fail
          go_ret
          exact ⟨rfl, B1.out⟩
        · have hji : ¬ (0 : Int) < (m : Int) := by omega
          obtain ⟨x10, x11, x12, x13, x14, x15⟩ := X1.out.box
          go_wp2_with fail
          go_ret
          exact ⟨rfl, B1.out⟩
    · rcases hdn : denseB (cols k d.toNat cs ps) with _ | _
      · have hOk := Im.okB_open hok
        obtain ⟨hdep, hw, hh, _, hmm, _⟩ := Im.okB_open hok
        obtain ⟨Wd, rfl⟩ := Int.eq_ofNat_of_zero_le (show 0 ≤ wd by omega)
        obtain ⟨Hi, rfl⟩ := Int.eq_ofNat_of_zero_le (show 0 ≤ hi by omega)
        obtain ⟨D, rfl, _, _⟩ := Im.dep_all hdep
        rw [Int.toNat_natCast] at hdn
        have hWH : ((Wd * Hi : Nat) : Int) = (Wd : Int) * (Hi : Int) := by simp
        have hm : m = Wd * Hi := by omega
        obtain ⟨C, hC⟩ : ∃ C, C = cols k D cs ps := ⟨_, rfl⟩
        have hCl : C.length = m := by rw [hC, cols_len, l5]
        rw [← hC] at hdn
        obtain ⟨rB, rL, rK⟩ := rg_no (k := k) (d := (D : Int)) (wd := (Wd : Int)) (hi := (Hi : Int)) (cs := cs) (ps := ps) (.inr (by rw [Int.toNat_natCast, ← hC]; exact hdn))
        have HIR : Hid (∀ w1 : World, Ints w1 a cs → Ints w1 b ps → Calls Try.prog 9 #[.agg #[.int .i64 k, .int .i64 (D : Int), .int .i64 (Wd : Int), .int .i64 (Hi : Int), .slice a n c, .slice b m cc]] w1 fun e w' => (∃ x cx y cy, e = .returned (.tuple #[.agg #[.int .i64 0, .int .i64 0, .int .i64 0, .int .i64 0, .slice x 0 cx, .slice y 0 cy], .bool false]) ∧ Ints w' x [] ∧ Ints w' y []) ∧ Below w1.heap.size w1 w') := fun w1 g1 g2 => by
          refine (impl_rgb k D Wd Hi a n c b m cc cs ps w1 g1 l4 (by omega) g2 l5 (by omega)).mono ?_
          rintro e w' ⟨⟨x, cx, y, cy, rfl, hP⟩, b⟩
          rw [rL] at hP
          exact ⟨⟨x, cx, y, cy, by rw [rB, rK, rK, rK, rK, rL]; rfl, pair_ints hP⟩, b⟩
        have HSR : Hid (∀ w1 : World, Ints w1 a cs → Ints w1 b ps → Calls Try.prog 10 #[.agg #[.int .i64 k, .int .i64 (D : Int), .int .i64 (Wd : Int), .int .i64 (Hi : Int), .slice a n c, .slice b m cc]] w1 fun e w' => (∃ x cx y cy, e = .returned (.tuple #[.agg #[.int .i64 0, .int .i64 0, .int .i64 0, .int .i64 0, .slice x 0 cx, .slice y 0 cy], .bool false]) ∧ Ints w' x [] ∧ Ints w' y []) ∧ Below w1.heap.size w1 w') := fun w1 g1 g2 => by
          refine (spec_rgb k D Wd Hi a n c b m cc cs ps w1 g1 l4 (by omega) g2 l5 (by omega)).mono ?_
          rintro e w' ⟨⟨x, cx, y, cy, rfl, h1, h2⟩, b⟩
          rw [rL] at h2
          exact ⟨⟨x, cx, y, cy, by rw [rB, rK, rK, rK, rK, rL]; rfl, h1, h2⟩, b⟩
        have HWI : Hid (∀ (x : Option Addr) (cx : Nat) (y : Option Addr) (cy : Nat) (x2 : Option Addr) (cx2 : Nat) (y2 : Option Addr) (cy2 : Nat) (w1 : World), Ints w1 x [] → Ints w1 y [] → Ints w1 x2 [] → Ints w1 y2 [] → Calls Try.prog 11 #[.agg #[.int .i64 0, .int .i64 0, .int .i64 0, .int .i64 0, .slice x 0 cx, .slice y 0 cy], .agg #[.int .i64 0, .int .i64 0, .int .i64 0, .int .i64 0, .slice x2 0 cx2, .slice y2 0 cy2]] w1 fun e w' => e = .returned (.bool true) ∧ Below w1.heap.size w1 w') := fun x cx y cy x2 cx2 y2 cy2 w1 => wiImage_same 0 0 0 0 0 0 [] [] rfl rfl (by omega) (by omega) x cx y cy x2 cx2 y2 cy2 w1
        have HOI : Hid (∀ w1 : World, Ints w1 a cs → Ints w1 b ps → Calls Try.prog 12 #[.agg #[.int .i64 k, .int .i64 (D : Int), .int .i64 (Wd : Int), .int .i64 (Hi : Int), .slice a n c, .slice b m cc]] w1 fun e w' => e = .returned (.bool true) ∧ Below w1.heap.size w1 w') := fun w1 g1 g2 => by
          have := impl_imageOk k D Wd Hi a n c b m cc w1 cs ps g1 l4 (by omega) g2 l5 (by omega)
          rw [hok] at this; exact this
        have HOS : Hid (∀ w1 : World, Ints w1 a cs → Ints w1 b ps → Calls Try.prog 13 #[.agg #[.int .i64 k, .int .i64 (D : Int), .int .i64 (Wd : Int), .int .i64 (Hi : Int), .slice a n c, .slice b m cc]] w1 fun e w' => e = .returned (.bool true) ∧ Below w1.heap.size w1 w') := fun w1 g1 g2 => by
          have := spec_imageOk k D Wd Hi a n c b m cc w1 cs ps g1 l4 (by omega) g2 l5
          rw [hok] at this; exact this
        have HAT : Hid (∀ j : Nat, j < m → ∃ (u v z : Nat), (u : Int) = (j : Int) % (Wd : Int) ∧ (v : Int) = (j : Int) / (Wd : Int) ∧ u ≤ 20 ∧ v ≤ 20 ∧ z ≤ 4294967295 ∧ C.take (j + 1) = C.take j ++ [(z : Int)] ∧
            (∀ w1 : World, Ints w1 a cs → Ints w1 b ps → Calls Try.prog 14 #[.agg #[.int .i64 k, .int .i64 (D : Int), .int .i64 (Wd : Int), .int .i64 (Hi : Int), .slice a n c, .slice b m cc], .int .i64 (u : Int), .int .i64 (v : Int)] w1 fun e w' => e = .returned (.tuple #[.int .i64 (z : Int), .bool true]) ∧ Below w1.heap.size w1 w')) := fun j hj => by
          obtain ⟨u, v, hu, hv, rfl⟩ := split_at' (show j < Wd * Hi by omega)
          have hjl : v * Wd + u < ps.length := by omega
          have hmem : ps.getD (v * Wd + u) 0 ∈ ps := by rw [List.getD_eq_getElem?_getD, List.getElem?_eq_getElem hjl]; exact List.getElem_mem hjl
          obtain ⟨b0, b1, _⟩ := col_bounds hOk hmem
          obtain ⟨z, hz⟩ := Int.eq_ofNat_of_zero_le b0
          refine ⟨u, v, z, ?_, ?_, by omega, by omega, by omega, ?_, fun w1 g1 g2 => ?_⟩
          · have : (v * Wd + u) % Wd = u := by rw [Nat.mul_comm, Nat.mul_add_mod, Nat.mod_eq_of_lt hu]
            rw [← Int.natCast_emod, this]
          · have : (v * Wd + u) / Wd = v := by rw [Nat.mul_comm, Nat.mul_add_div (by omega), Nat.div_eq_of_lt hu, Nat.add_zero]
            rw [← Int.natCast_ediv, this]
          · have hCj : C[v * Wd + u]? = some (colOf k D cs (ps.getD (v * Wd + u) 0)) := by
              rw [hC]; unfold cols
              rw [List.getElem?_map, List.getElem?_eq_getElem hjl, List.getD_eq_getElem?_getD, List.getElem?_eq_getElem hjl]; rfl
            rw [List.take_add_one, hCj, hz]; rfl
          · have := impl_imageColor k D Wd Hi u v a n c b m cc w1 cs ps g1 l4 (by omega) g2 l5 (by omega)
            have hB : Im.coB k D Wd Hi u v cs ps = true := by unfold Im.coB; rw [hok, inB_yes (by omega)]; rfl
            rw [Im.co_yes hB (spot_in hu hv (by omega) (by omega) hm), hB, hz] at this; exact this
        have hWp : 1 ≤ Wd := by omega
        have HDN : Hid (denseB C = false ∧ C.length = m) := ⟨hdn, hCl⟩
        have hml : m ≤ 1000 := by omega
        clear hOk hdep hw hh hmm hWH hm hC hCl hdn rB rL rK
        have M1 : Hid (PB (w1.alloc (.cells #[.int .i64 k, .int .i64 (D : Int), .int .i64 (Wd : Int), .int .i64 (Hi : Int), .slice a n c, .slice b m cc] 25)) w1.heap.size k (D : Int) (Wd : Int) (Hi : Int) a n c cs b m cc ps) := pb_new i4.ints i5.ints
        have B1 : Hid (Below w.heap.size w (w1.alloc (.cells #[.int .i64 k, .int .i64 (D : Int), .int .i64 (Wd : Int), .int .i64 (Hi : Int), .slice a n c, .slice b m cc] 25))) := b1.alloc b1.size _
        clear i4 i5 l4 l5 l4' l5' k4 k5 bd b1 hok
        go_wp2_with fail
        refine (HIR.out _ M1.out.i4 M1.out.i5).mono ?_
        rintro e w2 ⟨⟨x, cx, y, cy, rfl, gx, gy⟩, b2⟩
        generalize w1.heap.size = MB at *
        have M2 : Hid (PB (w2.alloc (.cells #[.int .i64 0, .int .i64 0, .int .i64 0, .int .i64 0, .slice x 0 cx, .slice y 0 cy] 25)) MB k (D : Int) (Wd : Int) (Hi : Int) a n c cs b m cc ps) := (M1.out.kept b2).kept ((Below.refl _ _).alloc (Nat.le_refl _) _)
        have X2 : Hid (PB (w2.alloc (.cells #[.int .i64 0, .int .i64 0, .int .i64 0, .int .i64 0, .slice x 0 cx, .slice y 0 cy] 25)) w2.heap.size 0 0 0 0 x 0 cx [] y 0 cy []) := pb_new gx gy
        have B2 : Hid (Below w.heap.size w (w2.alloc (.cells #[.int .i64 0, .int .i64 0, .int .i64 0, .int .i64 0, .slice x 0 cx, .slice y 0 cy] 25))) := (B1.out.trans (b2.mono B1.out.size)).alloc (Nat.le_trans B1.out.size b2.size) _
        clear b2 M1 B1 HIR gx gy
        go_upto_region 5 with fail
        generalize hW3 : w2.alloc (.cells #[.int .i64 0, .int .i64 0, .int .i64 0, .int .i64 0, .slice x 0 cx, .slice y 0 cy] 25) = W3 at *
        clear hW3
        generalize w2.heap.size = XB at *
        obtain ⟨m20, m21, m22, m23, m24, m25⟩ := M2.out.box
        go_wp2_with fail
        refine (HSR.out _ M2.out.i4 M2.out.i5).mono ?_
        rintro e w3 ⟨⟨x2, cx2, y2, cy2, rfl, gx, gy⟩, b3⟩
        have M3 : Hid (PB (w3.alloc (.cells #[.int .i64 0, .int .i64 0, .int .i64 0, .int .i64 0, .slice x2 0 cx2, .slice y2 0 cy2] 25)) MB k (D : Int) (Wd : Int) (Hi : Int) a n c cs b m cc ps) := (M2.out.kept b3).kept ((Below.refl _ _).alloc (Nat.le_refl _) _)
        have X3 : Hid (PB (w3.alloc (.cells #[.int .i64 0, .int .i64 0, .int .i64 0, .int .i64 0, .slice x2 0 cx2, .slice y2 0 cy2] 25)) XB 0 0 0 0 x 0 cx [] y 0 cy []) := (X2.out.kept b3).kept ((Below.refl _ _).alloc (Nat.le_refl _) _)
        have Y3 : Hid (PB (w3.alloc (.cells #[.int .i64 0, .int .i64 0, .int .i64 0, .int .i64 0, .slice x2 0 cx2, .slice y2 0 cy2] 25)) w3.heap.size 0 0 0 0 x2 0 cx2 [] y2 0 cy2 []) := pb_new gx gy
        have B3 : Hid (Below w.heap.size w (w3.alloc (.cells #[.int .i64 0, .int .i64 0, .int .i64 0, .int .i64 0, .slice x2 0 cx2, .slice y2 0 cy2] 25))) := (B2.out.trans (b3.mono B2.out.size)).alloc (Nat.le_trans B2.out.size b3.size) _
        clear b3 M2 X2 B2 HSR gx gy m20 m21 m22 m23 m24 m25
        go_upto_region 6 with fail
        generalize hW4 : w3.alloc (.cells #[.int .i64 0, .int .i64 0, .int .i64 0, .int .i64 0, .slice x2 0 cx2, .slice y2 0 cy2] 25) = W4 at *
        clear hW4
        generalize w3.heap.size = YB at *
        have M5 : Hid (PB W4.drew MB k (D : Int) (Wd : Int) (Hi : Int) a n c cs b m cc ps) := M3.out.kept (Below.refl _ _).drew
        have X5 : Hid (PB W4.drew XB 0 0 0 0 x 0 cx [] y 0 cy []) := X3.out.kept (Below.refl _ _).drew
        have Y5 : Hid (PB W4.drew YB 0 0 0 0 x2 0 cx2 [] y2 0 cy2 []) := Y3.out.kept (Below.refl _ _).drew
        have B5 : Hid (Below w.heap.size w W4.drew) := B3.out.drew
        obtain ⟨m30, m31, m32, m33, m34, m35⟩ := M3.out.box
        obtain ⟨x30, x31, x32, x33, x34, x35⟩ := X3.out.box
        obtain ⟨y30, y31, y32, y33, y34, y35⟩ := Y3.out.box
        go_region_held3 (fun w' => w'.cell? ⟨MB, 0, none⟩ = some (.int .i64 k) ∧ w'.cell? ⟨MB, 1, none⟩ = some (.int .i64 (D : Int)) ∧ w'.cell? ⟨MB, 2, none⟩ = some (.int .i64 (Wd : Int)) ∧ w'.cell? ⟨MB, 3, none⟩ = some (.int .i64 (Hi : Int)) ∧ w'.cell? ⟨MB, 4, none⟩ = some (.slice a n c) ∧ w'.cell? ⟨MB, 5, none⟩ = some (.slice b m cc) ∧ w'.cell? ⟨XB, 0, none⟩ = some (.int .i64 0) ∧ w'.cell? ⟨XB, 1, none⟩ = some (.int .i64 0) ∧ w'.cell? ⟨XB, 2, none⟩ = some (.int .i64 0) ∧ w'.cell? ⟨XB, 3, none⟩ = some (.int .i64 0) ∧ w'.cell? ⟨XB, 4, none⟩ = some (.slice x 0 cx) ∧ w'.cell? ⟨XB, 5, none⟩ = some (.slice y 0 cy) ∧ w'.cell? ⟨YB, 0, none⟩ = some (.int .i64 0) ∧ w'.cell? ⟨YB, 1, none⟩ = some (.int .i64 0) ∧ w'.cell? ⟨YB, 2, none⟩ = some (.int .i64 0) ∧ w'.cell? ⟨YB, 3, none⟩ = some (.int .i64 0) ∧ w'.cell? ⟨YB, 4, none⟩ = some (.slice x2 0 cx2) ∧ w'.cell? ⟨YB, 5, none⟩ = some (.slice y2 0 cy2)) (go_keep) (first | (go_at_call 13; refine (HOS.out _ M7.out.i4 M7.out.i5).mono ?_; rintro e w8 ⟨rfl, b8⟩; have M8 : Hid (PB w8 MB k (D : Int) (Wd : Int) (Hi : Int) a n c cs b m cc ps) := M7.out.kept b8; have X8 : Hid (PB w8 XB 0 0 0 0 x 0 cx [] y 0 cy []) := X7.out.kept b8; have Y8 : Hid (PB w8 YB 0 0 0 0 x2 0 cx2 [] y2 0 cy2 []) := Y7.out.kept b8; have B8 : Hid (Below w.heap.size w w8) := B7.out.trans (b8.mono B7.out.size); obtain ⟨m80, m81, m82, m83, m84, m85⟩ := M8.out.box; obtain ⟨x80, x81, x82, x83, x84, x85⟩ := X8.out.box; obtain ⟨y80, y81, y82, y83, y84, y85⟩ := Y8.out.box; clear b8) | (go_at_call 12; refine (HOI.out _ M6.out.i4 M6.out.i5).mono ?_; rintro e w7 ⟨rfl, b7⟩; have M7 : Hid (PB w7 MB k (D : Int) (Wd : Int) (Hi : Int) a n c cs b m cc ps) := M6.out.kept b7; have X7 : Hid (PB w7 XB 0 0 0 0 x 0 cx [] y 0 cy []) := X6.out.kept b7; have Y7 : Hid (PB w7 YB 0 0 0 0 x2 0 cx2 [] y2 0 cy2 []) := Y6.out.kept b7; have B7 : Hid (Below w.heap.size w w7) := B6.out.trans (b7.mono B6.out.size); obtain ⟨m70, m71, m72, m73, m74, m75⟩ := M7.out.box; obtain ⟨x70, x71, x72, x73, x74, x75⟩ := X7.out.box; obtain ⟨y70, y71, y72, y73, y74, y75⟩ := Y7.out.box; clear b7) | (go_at_call 11; refine (HWI.out x cx y cy x2 cx2 y2 cy2 _ X5.out.i4 X5.out.i5 Y5.out.i4 Y5.out.i5).mono ?_; rintro e w6 ⟨rfl, b6⟩; have M6 : Hid (PB w6 MB k (D : Int) (Wd : Int) (Hi : Int) a n c cs b m cc ps) := M5.out.kept b6; have X6 : Hid (PB w6 XB 0 0 0 0 x 0 cx [] y 0 cy []) := X5.out.kept b6; have Y6 : Hid (PB w6 YB 0 0 0 0 x2 0 cx2 [] y2 0 cy2 []) := Y5.out.kept b6; have B6 : Hid (Below w.heap.size w w6) := B5.out.trans (b6.mono B5.out.size); obtain ⟨m60, m61, m62, m63, m64, m65⟩ := M6.out.box; obtain ⟨x60, x61, x62, x63, x64, x65⟩ := X6.out.box; obtain ⟨y60, y61, y62, y63, y64, y65⟩ := Y6.out.box; clear b6))
        clear M3 X3 Y3 B3 M5 X5 Y5 B5 M6 X6 Y6 B6 M7 X7 Y7 B7 Y8 m30 m31 m32 m33 m34 m35 x30 x31 x32 x33 x34 x35 y30 y31 y32 y33 y34 y35 m60 m61 m62 m63 m64 m65 x60 x61 x62 x63 x64 x65 y60 y61 y62 y63 y64 y65 m70 m71 m72 m73 m74 m75 x70 x71 x72 x73 x74 x75 y70 y71 y72 y73 y74 y75 y80 y81 y82 y83 y84 y85 HOI HWI
        go_wp2_with fail
        refine (HOS.out _ M8.out.i4 M8.out.i5).mono ?_
        rintro e w9 ⟨rfl, b9⟩
        have M9 : Hid (PB w9 MB k (D : Int) (Wd : Int) (Hi : Int) a n c cs b m cc ps) := M8.out.kept b9
        have X9 : Hid (PB w9 XB 0 0 0 0 x 0 cx [] y 0 cy []) := X8.out.kept b9
        have B9 : Hid (Below w.heap.size w w9) := B8.out.trans (b9.mono B8.out.size)
        clear b9 M8 X8 B8 HOS m80 m81 m82 m83 m84 m85 x80 x81 x82 x83 x84 x85
        go_wp2_with fail
        go_loopw [8, 9] (fun q i wr => ∃ (j : Nat) (qb : Bool), j ≤ m ∧ i = .int .i64 (j : Int) ∧ q = .bool qb ∧ qb = denseB (C.take j) ∧ PB wr MB k (D : Int) (Wd : Int) (Hi : Int) a n c cs b m cc ps ∧ PB wr XB 0 0 0 0 x 0 cx [] y 0 cy [] ∧ Below w.heap.size w wr) (fun _ i _ => m - (intOf i).toNat)
        case atStart => exact ⟨0, true, Nat.zero_le _, rfl, rfl, rfl, M9.out, X9.out, B9.out⟩
        case round =>
          obtain ⟨j, qb, hj, rfl, rfl, hq, hM, hX, hB⟩ := hrel
          clear M9 X9 B9
          have HQ : Hid (qb = denseB (C.take j)) := hq
          clear hq
          have M1 : Hid (PB wr MB k (D : Int) (Wd : Int) (Hi : Int) a n c cs b m cc ps) := hM
          have X1 : Hid (PB wr XB 0 0 0 0 x 0 cx [] y 0 cy []) := hX
          have B1 : Hid (Below w.heap.size w wr) := hB
          clear hM hX hB
          obtain ⟨m10, m11, m12, m13, m14, m15⟩ := M1.out.box
          cases qb with
          | false =>
            by_cases hlt : j < m
            · have hji : (j : Int) < (m : Int) := by omega
              obtain ⟨x10, x11, x12, x13, x14, x15⟩ := X1.out.box
              go_wp2_with fail
              go_ret
              exact ⟨rfl, B1.out⟩
            · have hji : ¬ (j : Int) < (m : Int) := by omega
              obtain ⟨x10, x11, x12, x13, x14, x15⟩ := X1.out.box
              go_wp2_with fail
              go_ret
              exact ⟨rfl, B1.out⟩
          | true =>
            by_cases hlt : j < m
            · have hji : (j : Int) < (m : Int) := by omega
              obtain ⟨u, v, z, e1, e2, hub, hvb, hzb, hT, hA⟩ := HAT.out j hlt
              have e1' := e1.symm
              have e2' := e2.symm
              have t1 : (j : Int).tmod (Wd : Int) = (u : Int) := by rw [Int.tmod_eq_emod_of_nonneg (by omega)]; exact e1'
              have t2 : (j : Int).tdiv (Wd : Int) = (v : Int) := by rw [Int.tdiv_eq_ediv_of_nonneg (by omega)]; exact e2'
              have hW0 : ¬ (Wd : Int) = 0 := by omega
              have hW1 : ¬ Wd = 0 := by omega
              have f1 := wrap_i64_nat u (by omega)
              have f2 := wrap_i64_nat v (by omega)
              have HA : Hid (∀ (w1 : World), Ints w1 a cs → Ints w1 b ps → _) := hA
              have HQ2 : Hid (decide ((z : Int) % 256 = 255) = denseB (C.take (j + 1))) := by
                show _ = _
                rw [hT, dense_snoc, ← HQ.out, Bool.true_and]
                rw [Bool.eq_iff_iff]; simp
              clear hA e1 e2 hT HQ
              have M2 : Hid (PB wr.drew MB k (D : Int) (Wd : Int) (Hi : Int) a n c cs b m cc ps) := M1.out.kept (Below.refl _ _).drew
              have X2 : Hid (PB wr.drew XB 0 0 0 0 x 0 cx [] y 0 cy []) := X1.out.kept (Below.refl _ _).drew
              have B2 : Hid (Below w.heap.size w wr.drew) := B1.out.drew
              obtain ⟨x10, x11, x12, x13, x14, x15⟩ := X1.out.box
              clear M1 X1 B1
              go_wp2_with fail
              go_region_held3 (fun w' => w'.cell? ⟨MB, 0, none⟩ = some (.int .i64 k) ∧ w'.cell? ⟨MB, 1, none⟩ = some (.int .i64 (D : Int)) ∧ w'.cell? ⟨MB, 2, none⟩ = some (.int .i64 (Wd : Int)) ∧ w'.cell? ⟨MB, 3, none⟩ = some (.int .i64 (Hi : Int)) ∧ w'.cell? ⟨MB, 4, none⟩ = some (.slice a n c) ∧ w'.cell? ⟨MB, 5, none⟩ = some (.slice b m cc) ∧ w'.cell? ⟨XB, 0, none⟩ = some (.int .i64 0) ∧ w'.cell? ⟨XB, 1, none⟩ = some (.int .i64 0) ∧ w'.cell? ⟨XB, 2, none⟩ = some (.int .i64 0) ∧ w'.cell? ⟨XB, 3, none⟩ = some (.int .i64 0) ∧ w'.cell? ⟨XB, 4, none⟩ = some (.slice x 0 cx) ∧ w'.cell? ⟨XB, 5, none⟩ = some (.slice y 0 cy)) (go_keep) (first | (go_at_call 14; refine (HA.out _ M2.out.i4 M2.out.i5).mono ?_; rintro e w3 ⟨rfl, b3⟩; have M3 : Hid (PB w3 MB k (D : Int) (Wd : Int) (Hi : Int) a n c cs b m cc ps) := M2.out.kept b3; have X3 : Hid (PB w3 XB 0 0 0 0 x 0 cx [] y 0 cy []) := X2.out.kept b3; have B3 : Hid (Below w.heap.size w w3) := B2.out.trans (b3.mono B2.out.size); obtain ⟨m30, m31, m32, m33, m34, m35⟩ := M3.out.box; obtain ⟨x30, x31, x32, x33, x34, x35⟩ := X3.out.box; clear b3))
              have HF : Hid (PB w3 MB k (D : Int) (Wd : Int) (Hi : Int) a n c cs b m cc ps ∧ PB w3 XB 0 0 0 0 x 0 cx [] y 0 cy [] ∧ Below w.heap.size w w3) := ⟨M3.out, X3.out, B3.out⟩
              clear M2 X2 B2 M3 X3 B3 m10 m11 m12 m13 m14 m15 x10 x11 x12 x13 x14 x15 m30 m31 m32 m33 m34 m35 x30 x31 x32 x33 x34 x35 HA e1' e2' t1 t2 f1 f2
              go_wp2_with fail
              go_roundw
              case rel => exact ⟨j + 1, _, by omega, by go_num, rfl, (by first | exact HQ2.out | (rw [← HQ2.out]; first | rfl | (rw [Bool.eq_iff_iff]; simp))), HF.out⟩
              case measure => simp [intOf]; omega
            · have hji : ¬ (j : Int) < (m : Int) := by omega
              have hjm : j = m := by omega
              refine absurd HQ.out ?_
              rw [hjm, List.take_of_length_le (by rw [HDN.out.2]; exact Nat.le_refl _), HDN.out.1]
              decide
      · have hOk := Im.okB_open hok
        obtain ⟨hdep, hw, hh, _, hmm, _⟩ := Im.okB_open hok
        obtain ⟨Wd, rfl⟩ := Int.eq_ofNat_of_zero_le (show 0 ≤ wd by omega)
        obtain ⟨Hi, rfl⟩ := Int.eq_ofNat_of_zero_le (show 0 ≤ hi by omega)
        obtain ⟨D, rfl, _, _⟩ := Im.dep_all hdep
        rw [Int.toNat_natCast] at hdn
        have hWH : ((Wd * Hi : Nat) : Int) = (Wd : Int) * (Hi : Int) := by simp
        have hm : m = Wd * Hi := by omega
        obtain ⟨C, hC⟩ : ∃ C, C = cols k D cs ps := ⟨_, rfl⟩
        have hCl : C.length = m := by rw [hC, cols_len, l5]
        rw [← hC] at hdn
        obtain ⟨L, hL⟩ : ∃ L, L = bares C := ⟨_, rfl⟩
        have hLl : L.length = m := by rw [hL, bares_len, hCl]
        obtain ⟨rB, rL, rK⟩ := rg_yes hok (by rw [← hC]; exact hdn)
        rw [← hC, ← hL] at rL
        have hokX : Im.okB 2 24 Wd Hi [] L = true := by rw [hL, hC]; exact rgb_okX hOk
        have hcolX : cols 2 24 [] L = C := by rw [hL]; exact cols_bares (fun c hc => by rw [hC] at hc; exact col_pos hOk hc) hdn
        have hdnX : denseB (cols 2 24 [] L) = true := by rw [hcolX]; exact hdn
        obtain ⟨qB, qL, qK⟩ := rg_yes (D := 24) hokX hdnX
        rw [hcolX, ← hL] at qL
        have hlike : likeB 2 24 Wd Hi [] L k D Wd Hi cs ps = true := by
          have := like_yes (D := 24) hokX hok
          rw [hcolX, ← hC] at this
          simpa using this
        have qB' : rgB 2 24 Wd Hi [] L = true := qB
        have qL' : rgL 2 24 Wd Hi [] L = L := qL
        have qK' : ∀ v, rgK 2 24 Wd Hi [] L v = v := qK
        have HIR : Hid (∀ w1 : World, Ints w1 a cs → Ints w1 b ps → Calls Try.prog 9 #[.agg #[.int .i64 k, .int .i64 (D : Int), .int .i64 (Wd : Int), .int .i64 (Hi : Int), .slice a n c, .slice b m cc]] w1 fun e w' => (∃ x cx y cy, e = .returned (.tuple #[.agg #[.int .i64 2, .int .i64 24, .int .i64 (Wd : Int), .int .i64 (Hi : Int), .slice x 0 cx, .slice y m cy], .bool true]) ∧ Ints w' x [] ∧ Ints w' y L) ∧ Below w1.heap.size w1 w') := fun w1 g1 g2 => by
          refine (impl_rgb k D Wd Hi a n c b m cc cs ps w1 g1 l4 (by omega) g2 l5 (by omega)).mono ?_
          rintro e w' ⟨⟨x, cx, y, cy, rfl, hP⟩, b⟩
          rw [rL] at hP
          exact ⟨⟨x, cx, y, cy, by rw [rB, rK, rK, rK, rK, rL, hLl], pair_ints hP⟩, b⟩
        have HSR : Hid (∀ w1 : World, Ints w1 a cs → Ints w1 b ps → Calls Try.prog 10 #[.agg #[.int .i64 k, .int .i64 (D : Int), .int .i64 (Wd : Int), .int .i64 (Hi : Int), .slice a n c, .slice b m cc]] w1 fun e w' => (∃ x cx y cy, e = .returned (.tuple #[.agg #[.int .i64 2, .int .i64 24, .int .i64 (Wd : Int), .int .i64 (Hi : Int), .slice x 0 cx, .slice y m cy], .bool true]) ∧ Ints w' x [] ∧ Ints w' y L) ∧ Below w1.heap.size w1 w') := fun w1 g1 g2 => by
          refine (spec_rgb k D Wd Hi a n c b m cc cs ps w1 g1 l4 (by omega) g2 l5 (by omega)).mono ?_
          rintro e w' ⟨⟨x, cx, y, cy, rfl, h1, h2⟩, b⟩
          rw [rL] at h2
          exact ⟨⟨x, cx, y, cy, by rw [rB, rK, rK, rK, rK, rL, hLl], h1, h2⟩, b⟩
        have HWI : Hid (∀ (x : Option Addr) (cx : Nat) (y : Option Addr) (cy : Nat) (x2 : Option Addr) (cx2 : Nat) (y2 : Option Addr) (cy2 : Nat) (w1 : World), Ints w1 x [] → Ints w1 y L → Ints w1 x2 [] → Ints w1 y2 L → Calls Try.prog 11 #[.agg #[.int .i64 2, .int .i64 24, .int .i64 (Wd : Int), .int .i64 (Hi : Int), .slice x 0 cx, .slice y m cy], .agg #[.int .i64 2, .int .i64 24, .int .i64 (Wd : Int), .int .i64 (Hi : Int), .slice x2 0 cx2, .slice y2 m cy2]] w1 fun e w' => e = .returned (.bool true) ∧ Below w1.heap.size w1 w') := fun x cx y cy x2 cx2 y2 cy2 w1 => wiImage_same 2 24 (Wd : Int) (Hi : Int) 0 m [] L rfl hLl (by omega) (by omega) x cx y cy x2 cx2 y2 cy2 w1
        have HOI : Hid (∀ w1 : World, Ints w1 a cs → Ints w1 b ps → Calls Try.prog 12 #[.agg #[.int .i64 k, .int .i64 (D : Int), .int .i64 (Wd : Int), .int .i64 (Hi : Int), .slice a n c, .slice b m cc]] w1 fun e w' => e = .returned (.bool true) ∧ Below w1.heap.size w1 w') := fun w1 g1 g2 => by
          have := impl_imageOk k D Wd Hi a n c b m cc w1 cs ps g1 l4 (by omega) g2 l5 (by omega)
          rw [hok] at this; exact this
        have HOS : Hid (∀ w1 : World, Ints w1 a cs → Ints w1 b ps → Calls Try.prog 13 #[.agg #[.int .i64 k, .int .i64 (D : Int), .int .i64 (Wd : Int), .int .i64 (Hi : Int), .slice a n c, .slice b m cc]] w1 fun e w' => e = .returned (.bool true) ∧ Below w1.heap.size w1 w') := fun w1 g1 g2 => by
          have := spec_imageOk k D Wd Hi a n c b m cc w1 cs ps g1 l4 (by omega) g2 l5
          rw [hok] at this; exact this
        have HIA : Hid (∀ (x : Option Addr) (cx : Nat) (y : Option Addr) (cy : Nat) (w1 : World), Ints w1 x [] → Ints w1 y L → Calls Try.prog 9 #[.agg #[.int .i64 2, .int .i64 24, .int .i64 (Wd : Int), .int .i64 (Hi : Int), .slice x 0 cx, .slice y m cy]] w1 fun e w' => (∃ x cx y cy, e = .returned (.tuple #[.agg #[.int .i64 2, .int .i64 24, .int .i64 (Wd : Int), .int .i64 (Hi : Int), .slice x 0 cx, .slice y m cy], .bool true]) ∧ Ints w' x [] ∧ Ints w' y L) ∧ Below w1.heap.size w1 w') := fun x cx y cy w1 g1 g2 => by
          refine (impl_rgb 2 24 Wd Hi x 0 cx y m cy [] L w1 g1 rfl (by omega) g2 hLl (by omega)).mono ?_
          rintro e w' ⟨⟨x, cx, y, cy, rfl, hP⟩, b⟩
          rw [qL'] at hP
          exact ⟨⟨x, cx, y, cy, by rw [qB', qK', qK', qK', qK', qL', hLl], pair_ints hP⟩, b⟩
        have HOX : Hid (∀ (x : Option Addr) (cx : Nat) (y : Option Addr) (cy : Nat) (w1 : World), Ints w1 x [] → Ints w1 y L → Calls Try.prog 12 #[.agg #[.int .i64 2, .int .i64 24, .int .i64 (Wd : Int), .int .i64 (Hi : Int), .slice x 0 cx, .slice y m cy]] w1 fun e w' => e = .returned (.bool true) ∧ Below w1.heap.size w1 w') := fun x cx y cy w1 g1 g2 => by
          have := impl_imageOk 2 24 Wd Hi x 0 cx y m cy w1 [] L g1 rfl (by omega) g2 hLl (by omega)
          rw [hokX] at this; exact this
        have HLK : Hid (∀ (x : Option Addr) (cx : Nat) (y : Option Addr) (cy : Nat) (w1 : World), Ints w1 x [] → Ints w1 y L → Ints w1 a cs → Ints w1 b ps → Calls Try.prog 15 #[.agg #[.int .i64 2, .int .i64 24, .int .i64 (Wd : Int), .int .i64 (Hi : Int), .slice x 0 cx, .slice y m cy], .agg #[.int .i64 k, .int .i64 (D : Int), .int .i64 (Wd : Int), .int .i64 (Hi : Int), .slice a n c, .slice b m cc]] w1 fun e w' => e = .returned (.bool true) ∧ Below w1.heap.size w1 w') := fun x cx y cy w1 g1 g2 g3 g4 => by
          have := impl_like 2 24 Wd Hi x 0 cx y m cy k D Wd Hi a n c b m cc [] L cs ps w1 g1 rfl (by omega) g2 hLl (by omega) g3 l4 (by omega) g4 l5 (by omega)
          rw [hlike] at this; exact this
        have HAT : Hid (∀ j : Nat, j < m → ∃ (u v z : Nat), (u : Int) = (j : Int) % (Wd : Int) ∧ (v : Int) = (j : Int) / (Wd : Int) ∧ u ≤ 20 ∧ v ≤ 20 ∧ z ≤ 4294967295 ∧ C.take (j + 1) = C.take j ++ [(z : Int)] ∧
            (∀ w1 : World, Ints w1 a cs → Ints w1 b ps → Calls Try.prog 14 #[.agg #[.int .i64 k, .int .i64 (D : Int), .int .i64 (Wd : Int), .int .i64 (Hi : Int), .slice a n c, .slice b m cc], .int .i64 (u : Int), .int .i64 (v : Int)] w1 fun e w' => e = .returned (.tuple #[.int .i64 (z : Int), .bool true]) ∧ Below w1.heap.size w1 w')) := fun j hj => by
          obtain ⟨u, v, hu, hv, rfl⟩ := split_at' (show j < Wd * Hi by omega)
          have hjl : v * Wd + u < ps.length := by omega
          have hmem : ps.getD (v * Wd + u) 0 ∈ ps := by rw [List.getD_eq_getElem?_getD, List.getElem?_eq_getElem hjl]; exact List.getElem_mem hjl
          obtain ⟨b0, b1, _⟩ := col_bounds hOk hmem
          obtain ⟨z, hz⟩ := Int.eq_ofNat_of_zero_le b0
          refine ⟨u, v, z, ?_, ?_, by omega, by omega, by omega, ?_, fun w1 g1 g2 => ?_⟩
          · have : (v * Wd + u) % Wd = u := by rw [Nat.mul_comm, Nat.mul_add_mod, Nat.mod_eq_of_lt hu]
            rw [← Int.natCast_emod, this]
          · have : (v * Wd + u) / Wd = v := by rw [Nat.mul_comm, Nat.mul_add_div (by omega), Nat.div_eq_of_lt hu, Nat.add_zero]
            rw [← Int.natCast_ediv, this]
          · have hCj : C[v * Wd + u]? = some (colOf k D cs (ps.getD (v * Wd + u) 0)) := by
              rw [hC]; unfold cols
              rw [List.getElem?_map, List.getElem?_eq_getElem hjl, List.getD_eq_getElem?_getD, List.getElem?_eq_getElem hjl]; rfl
            rw [List.take_add_one, hCj, hz]; rfl
          · have := impl_imageColor k D Wd Hi u v a n c b m cc w1 cs ps g1 l4 (by omega) g2 l5 (by omega)
            have hB : Im.coB k D Wd Hi u v cs ps = true := by unfold Im.coB; rw [hok, inB_yes (by omega)]; rfl
            rw [Im.co_yes hB (spot_in hu hv (by omega) (by omega) hm), hB, hz] at this; exact this
        have hWp : 1 ≤ Wd := by omega
        have HDN : Hid (denseB C = true ∧ C.length = m) := ⟨hdn, hCl⟩
        have hml : m ≤ 1000 := by omega
        clear hOk hdep hw hh hmm hWH hm hC hCl hdn hL hLl rB rL rK hokX hcolX hdnX qB qL qK hlike qB' qL' qK'
        have M1 : Hid (PB (w1.alloc (.cells #[.int .i64 k, .int .i64 (D : Int), .int .i64 (Wd : Int), .int .i64 (Hi : Int), .slice a n c, .slice b m cc] 25)) w1.heap.size k (D : Int) (Wd : Int) (Hi : Int) a n c cs b m cc ps) := pb_new i4.ints i5.ints
        have B1 : Hid (Below w.heap.size w (w1.alloc (.cells #[.int .i64 k, .int .i64 (D : Int), .int .i64 (Wd : Int), .int .i64 (Hi : Int), .slice a n c, .slice b m cc] 25))) := b1.alloc b1.size _
        clear i4 i5 l4 l5 l4' l5' k4 k5 bd b1 hok
        go_wp2_with fail
        refine (HIR.out _ M1.out.i4 M1.out.i5).mono ?_
        rintro e w2 ⟨⟨x, cx, y, cy, rfl, gx, gy⟩, b2⟩
        generalize w1.heap.size = MB at *
        have M2 : Hid (PB (w2.alloc (.cells #[.int .i64 2, .int .i64 24, .int .i64 (Wd : Int), .int .i64 (Hi : Int), .slice x 0 cx, .slice y m cy] 25)) MB k (D : Int) (Wd : Int) (Hi : Int) a n c cs b m cc ps) := (M1.out.kept b2).kept ((Below.refl _ _).alloc (Nat.le_refl _) _)
        have X2 : Hid (PB (w2.alloc (.cells #[.int .i64 2, .int .i64 24, .int .i64 (Wd : Int), .int .i64 (Hi : Int), .slice x 0 cx, .slice y m cy] 25)) w2.heap.size 2 24 (Wd : Int) (Hi : Int) x 0 cx [] y m cy L) := pb_new gx gy
        have B2 : Hid (Below w.heap.size w (w2.alloc (.cells #[.int .i64 2, .int .i64 24, .int .i64 (Wd : Int), .int .i64 (Hi : Int), .slice x 0 cx, .slice y m cy] 25))) := (B1.out.trans (b2.mono B1.out.size)).alloc (Nat.le_trans B1.out.size b2.size) _
        clear b2 M1 B1 HIR gx gy
        go_upto_region 5 with fail
        generalize hW3 : w2.alloc (.cells #[.int .i64 2, .int .i64 24, .int .i64 (Wd : Int), .int .i64 (Hi : Int), .slice x 0 cx, .slice y m cy] 25) = W3 at *
        clear hW3
        generalize w2.heap.size = XB at *
        obtain ⟨m20, m21, m22, m23, m24, m25⟩ := M2.out.box
        go_wp2_with fail
        refine (HSR.out _ M2.out.i4 M2.out.i5).mono ?_
        rintro e w3 ⟨⟨x2, cx2, y2, cy2, rfl, gx, gy⟩, b3⟩
        have M3 : Hid (PB (w3.alloc (.cells #[.int .i64 2, .int .i64 24, .int .i64 (Wd : Int), .int .i64 (Hi : Int), .slice x2 0 cx2, .slice y2 m cy2] 25)) MB k (D : Int) (Wd : Int) (Hi : Int) a n c cs b m cc ps) := (M2.out.kept b3).kept ((Below.refl _ _).alloc (Nat.le_refl _) _)
        have X3 : Hid (PB (w3.alloc (.cells #[.int .i64 2, .int .i64 24, .int .i64 (Wd : Int), .int .i64 (Hi : Int), .slice x2 0 cx2, .slice y2 m cy2] 25)) XB 2 24 (Wd : Int) (Hi : Int) x 0 cx [] y m cy L) := (X2.out.kept b3).kept ((Below.refl _ _).alloc (Nat.le_refl _) _)
        have Y3 : Hid (PB (w3.alloc (.cells #[.int .i64 2, .int .i64 24, .int .i64 (Wd : Int), .int .i64 (Hi : Int), .slice x2 0 cx2, .slice y2 m cy2] 25)) w3.heap.size 2 24 (Wd : Int) (Hi : Int) x2 0 cx2 [] y2 m cy2 L) := pb_new gx gy
        have B3 : Hid (Below w.heap.size w (w3.alloc (.cells #[.int .i64 2, .int .i64 24, .int .i64 (Wd : Int), .int .i64 (Hi : Int), .slice x2 0 cx2, .slice y2 m cy2] 25))) := (B2.out.trans (b3.mono B2.out.size)).alloc (Nat.le_trans B2.out.size b3.size) _
        clear b3 M2 X2 B2 HSR gx gy m20 m21 m22 m23 m24 m25
        go_upto_region 6 with fail
        generalize hW4 : w3.alloc (.cells #[.int .i64 2, .int .i64 24, .int .i64 (Wd : Int), .int .i64 (Hi : Int), .slice x2 0 cx2, .slice y2 m cy2] 25) = W4 at *
        clear hW4
        generalize w3.heap.size = YB at *
        have M5 : Hid (PB W4.drew MB k (D : Int) (Wd : Int) (Hi : Int) a n c cs b m cc ps) := M3.out.kept (Below.refl _ _).drew
        have X5 : Hid (PB W4.drew XB 2 24 (Wd : Int) (Hi : Int) x 0 cx [] y m cy L) := X3.out.kept (Below.refl _ _).drew
        have Y5 : Hid (PB W4.drew YB 2 24 (Wd : Int) (Hi : Int) x2 0 cx2 [] y2 m cy2 L) := Y3.out.kept (Below.refl _ _).drew
        have B5 : Hid (Below w.heap.size w W4.drew) := B3.out.drew
        obtain ⟨m30, m31, m32, m33, m34, m35⟩ := M3.out.box
        obtain ⟨x30, x31, x32, x33, x34, x35⟩ := X3.out.box
        obtain ⟨y30, y31, y32, y33, y34, y35⟩ := Y3.out.box
        go_region_held3 (fun w' => w'.cell? ⟨MB, 0, none⟩ = some (.int .i64 k) ∧ w'.cell? ⟨MB, 1, none⟩ = some (.int .i64 (D : Int)) ∧ w'.cell? ⟨MB, 2, none⟩ = some (.int .i64 (Wd : Int)) ∧ w'.cell? ⟨MB, 3, none⟩ = some (.int .i64 (Hi : Int)) ∧ w'.cell? ⟨MB, 4, none⟩ = some (.slice a n c) ∧ w'.cell? ⟨MB, 5, none⟩ = some (.slice b m cc) ∧ w'.cell? ⟨XB, 0, none⟩ = some (.int .i64 2) ∧ w'.cell? ⟨XB, 1, none⟩ = some (.int .i64 24) ∧ w'.cell? ⟨XB, 2, none⟩ = some (.int .i64 (Wd : Int)) ∧ w'.cell? ⟨XB, 3, none⟩ = some (.int .i64 (Hi : Int)) ∧ w'.cell? ⟨XB, 4, none⟩ = some (.slice x 0 cx) ∧ w'.cell? ⟨XB, 5, none⟩ = some (.slice y m cy) ∧ w'.cell? ⟨YB, 0, none⟩ = some (.int .i64 2) ∧ w'.cell? ⟨YB, 1, none⟩ = some (.int .i64 24) ∧ w'.cell? ⟨YB, 2, none⟩ = some (.int .i64 (Wd : Int)) ∧ w'.cell? ⟨YB, 3, none⟩ = some (.int .i64 (Hi : Int)) ∧ w'.cell? ⟨YB, 4, none⟩ = some (.slice x2 0 cx2) ∧ w'.cell? ⟨YB, 5, none⟩ = some (.slice y2 m cy2)) (go_keep) (first | (go_at_call 13; refine (HOS.out _ M7.out.i4 M7.out.i5).mono ?_; rintro e w8 ⟨rfl, b8⟩; have M8 : Hid (PB w8 MB k (D : Int) (Wd : Int) (Hi : Int) a n c cs b m cc ps) := M7.out.kept b8; have X8 : Hid (PB w8 XB 2 24 (Wd : Int) (Hi : Int) x 0 cx [] y m cy L) := X7.out.kept b8; have Y8 : Hid (PB w8 YB 2 24 (Wd : Int) (Hi : Int) x2 0 cx2 [] y2 m cy2 L) := Y7.out.kept b8; have B8 : Hid (Below w.heap.size w w8) := B7.out.trans (b8.mono B7.out.size); obtain ⟨m80, m81, m82, m83, m84, m85⟩ := M8.out.box; obtain ⟨x80, x81, x82, x83, x84, x85⟩ := X8.out.box; obtain ⟨y80, y81, y82, y83, y84, y85⟩ := Y8.out.box; clear b8) | (go_at_call 12; refine (HOI.out _ M6.out.i4 M6.out.i5).mono ?_; rintro e w7 ⟨rfl, b7⟩; have M7 : Hid (PB w7 MB k (D : Int) (Wd : Int) (Hi : Int) a n c cs b m cc ps) := M6.out.kept b7; have X7 : Hid (PB w7 XB 2 24 (Wd : Int) (Hi : Int) x 0 cx [] y m cy L) := X6.out.kept b7; have Y7 : Hid (PB w7 YB 2 24 (Wd : Int) (Hi : Int) x2 0 cx2 [] y2 m cy2 L) := Y6.out.kept b7; have B7 : Hid (Below w.heap.size w w7) := B6.out.trans (b7.mono B6.out.size); obtain ⟨m70, m71, m72, m73, m74, m75⟩ := M7.out.box; obtain ⟨x70, x71, x72, x73, x74, x75⟩ := X7.out.box; obtain ⟨y70, y71, y72, y73, y74, y75⟩ := Y7.out.box; clear b7) | (go_at_call 11; refine (HWI.out x cx y cy x2 cx2 y2 cy2 _ X5.out.i4 X5.out.i5 Y5.out.i4 Y5.out.i5).mono ?_; rintro e w6 ⟨rfl, b6⟩; have M6 : Hid (PB w6 MB k (D : Int) (Wd : Int) (Hi : Int) a n c cs b m cc ps) := M5.out.kept b6; have X6 : Hid (PB w6 XB 2 24 (Wd : Int) (Hi : Int) x 0 cx [] y m cy L) := X5.out.kept b6; have Y6 : Hid (PB w6 YB 2 24 (Wd : Int) (Hi : Int) x2 0 cx2 [] y2 m cy2 L) := Y5.out.kept b6; have B6 : Hid (Below w.heap.size w w6) := B5.out.trans (b6.mono B5.out.size); obtain ⟨m60, m61, m62, m63, m64, m65⟩ := M6.out.box; obtain ⟨x60, x61, x62, x63, x64, x65⟩ := X6.out.box; obtain ⟨y60, y61, y62, y63, y64, y65⟩ := Y6.out.box; clear b6))
        clear M3 X3 Y3 B3 M5 X5 Y5 B5 M6 X6 Y6 B6 M7 X7 Y7 B7 Y8 m30 m31 m32 m33 m34 m35 x30 x31 x32 x33 x34 x35 y30 y31 y32 y33 y34 y35 m60 m61 m62 m63 m64 m65 x60 x61 x62 x63 x64 x65 y60 y61 y62 y63 y64 y65 m70 m71 m72 m73 m74 m75 x70 x71 x72 x73 x74 x75 y70 y71 y72 y73 y74 y75 y80 y81 y82 y83 y84 y85 HOI
        go_wp2_with fail
        refine (HOS.out _ M8.out.i4 M8.out.i5).mono ?_
        rintro e w9 ⟨rfl, b9⟩
        have M9 : Hid (PB w9 MB k (D : Int) (Wd : Int) (Hi : Int) a n c cs b m cc ps) := M8.out.kept b9
        have X9 : Hid (PB w9 XB 2 24 (Wd : Int) (Hi : Int) x 0 cx [] y m cy L) := X8.out.kept b9
        have B9 : Hid (Below w.heap.size w w9) := B8.out.trans (b9.mono B8.out.size)
        clear b9 M8 X8 B8 HOS m80 m81 m82 m83 m84 m85 x80 x81 x82 x83 x84 x85
        go_wp2_with fail
        go_loopw [8, 9] (fun q i wr => ∃ (j : Nat) (qb : Bool), j ≤ m ∧ i = .int .i64 (j : Int) ∧ q = .bool qb ∧ qb = denseB (C.take j) ∧ PB wr MB k (D : Int) (Wd : Int) (Hi : Int) a n c cs b m cc ps ∧ PB wr XB 2 24 (Wd : Int) (Hi : Int) x 0 cx [] y m cy L ∧ Below w.heap.size w wr) (fun _ i _ => m - (intOf i).toNat)
        case atStart => exact ⟨0, true, Nat.zero_le _, rfl, rfl, rfl, M9.out, X9.out, B9.out⟩
        case round =>
          obtain ⟨j, qb, hj, rfl, rfl, hq, hM, hX, hB⟩ := hrel
          clear M9 X9 B9
          have HQ : Hid (qb = denseB (C.take j)) := hq
          clear hq
          have M1 : Hid (PB wr MB k (D : Int) (Wd : Int) (Hi : Int) a n c cs b m cc ps) := hM
          have X1 : Hid (PB wr XB 2 24 (Wd : Int) (Hi : Int) x 0 cx [] y m cy L) := hX
          have B1 : Hid (Below w.heap.size w wr) := hB
          clear hM hX hB
          obtain ⟨m10, m11, m12, m13, m14, m15⟩ := M1.out.box
          cases qb with
          | false =>
            by_cases hlt : j < m
            · exact absurd (HQ.out.trans (dense_take HDN.out.1 j)) (by decide)
            · exact absurd (HQ.out.trans (dense_take HDN.out.1 j)) (by decide)
          | true =>
            by_cases hlt : j < m
            · have hji : (j : Int) < (m : Int) := by omega
              obtain ⟨u, v, z, e1, e2, hub, hvb, hzb, hT, hA⟩ := HAT.out j hlt
              have e1' := e1.symm
              have e2' := e2.symm
              have t1 : (j : Int).tmod (Wd : Int) = (u : Int) := by rw [Int.tmod_eq_emod_of_nonneg (by omega)]; exact e1'
              have t2 : (j : Int).tdiv (Wd : Int) = (v : Int) := by rw [Int.tdiv_eq_ediv_of_nonneg (by omega)]; exact e2'
              have hW0 : ¬ (Wd : Int) = 0 := by omega
              have hW1 : ¬ Wd = 0 := by omega
              have f1 := wrap_i64_nat u (by omega)
              have f2 := wrap_i64_nat v (by omega)
              have HA : Hid (∀ (w1 : World), Ints w1 a cs → Ints w1 b ps → _) := hA
              have HQ2 : Hid (decide ((z : Int) % 256 = 255) = denseB (C.take (j + 1))) := by
                show _ = _
                rw [hT, dense_snoc, ← HQ.out, Bool.true_and]
                rw [Bool.eq_iff_iff]; simp
              clear hA e1 e2 hT HQ
              have M2 : Hid (PB wr.drew MB k (D : Int) (Wd : Int) (Hi : Int) a n c cs b m cc ps) := M1.out.kept (Below.refl _ _).drew
              have X2 : Hid (PB wr.drew XB 2 24 (Wd : Int) (Hi : Int) x 0 cx [] y m cy L) := X1.out.kept (Below.refl _ _).drew
              have B2 : Hid (Below w.heap.size w wr.drew) := B1.out.drew
              obtain ⟨x10, x11, x12, x13, x14, x15⟩ := X1.out.box
              clear M1 X1 B1
              go_wp2_with fail
              go_region_held3 (fun w' => w'.cell? ⟨MB, 0, none⟩ = some (.int .i64 k) ∧ w'.cell? ⟨MB, 1, none⟩ = some (.int .i64 (D : Int)) ∧ w'.cell? ⟨MB, 2, none⟩ = some (.int .i64 (Wd : Int)) ∧ w'.cell? ⟨MB, 3, none⟩ = some (.int .i64 (Hi : Int)) ∧ w'.cell? ⟨MB, 4, none⟩ = some (.slice a n c) ∧ w'.cell? ⟨MB, 5, none⟩ = some (.slice b m cc) ∧ w'.cell? ⟨XB, 0, none⟩ = some (.int .i64 2) ∧ w'.cell? ⟨XB, 1, none⟩ = some (.int .i64 24) ∧ w'.cell? ⟨XB, 2, none⟩ = some (.int .i64 (Wd : Int)) ∧ w'.cell? ⟨XB, 3, none⟩ = some (.int .i64 (Hi : Int)) ∧ w'.cell? ⟨XB, 4, none⟩ = some (.slice x 0 cx) ∧ w'.cell? ⟨XB, 5, none⟩ = some (.slice y m cy)) (go_keep) (first | (go_at_call 14; refine (HA.out _ M2.out.i4 M2.out.i5).mono ?_; rintro e w3 ⟨rfl, b3⟩; have M3 : Hid (PB w3 MB k (D : Int) (Wd : Int) (Hi : Int) a n c cs b m cc ps) := M2.out.kept b3; have X3 : Hid (PB w3 XB 2 24 (Wd : Int) (Hi : Int) x 0 cx [] y m cy L) := X2.out.kept b3; have B3 : Hid (Below w.heap.size w w3) := B2.out.trans (b3.mono B2.out.size); obtain ⟨m30, m31, m32, m33, m34, m35⟩ := M3.out.box; obtain ⟨x30, x31, x32, x33, x34, x35⟩ := X3.out.box; clear b3))
              have HF : Hid (PB w3 MB k (D : Int) (Wd : Int) (Hi : Int) a n c cs b m cc ps ∧ PB w3 XB 2 24 (Wd : Int) (Hi : Int) x 0 cx [] y m cy L ∧ Below w.heap.size w w3) := ⟨M3.out, X3.out, B3.out⟩
              clear M2 X2 B2 M3 X3 B3 m10 m11 m12 m13 m14 m15 x10 x11 x12 x13 x14 x15 m30 m31 m32 m33 m34 m35 x30 x31 x32 x33 x34 x35 HA e1' e2' t1 t2 f1 f2
              go_wp2_with fail
              go_roundw
              case rel => exact ⟨j + 1, _, by omega, by go_num, rfl, (by first | exact HQ2.out | (rw [← HQ2.out]; first | rfl | (rw [Bool.eq_iff_iff]; simp))), HF.out⟩
              case measure => simp [intOf]; omega
            · have hji : ¬ (j : Int) < (m : Int) := by omega
              obtain ⟨x10, x11, x12, x13, x14, x15⟩ := X1.out.box
              go_wp2_with fail
              clear m10 m11 m12 m13 m14 m15
              refine (HIA.out x cx y cy _ X1.out.i4 X1.out.i5).mono ?_
              rintro e w2 ⟨⟨x2, cx2, y2, cy2, rfl, gx, gy⟩, b2⟩
              have M2 : Hid (PB (w2.alloc (.cells #[.int .i64 2, .int .i64 24, .int .i64 (Wd : Int), .int .i64 (Hi : Int), .slice x2 0 cx2, .slice y2 m cy2] 25)) MB k (D : Int) (Wd : Int) (Hi : Int) a n c cs b m cc ps) := (M1.out.kept b2).kept ((Below.refl _ _).alloc (Nat.le_refl _) _)
              have X2 : Hid (PB (w2.alloc (.cells #[.int .i64 2, .int .i64 24, .int .i64 (Wd : Int), .int .i64 (Hi : Int), .slice x2 0 cx2, .slice y2 m cy2] 25)) XB 2 24 (Wd : Int) (Hi : Int) x 0 cx [] y m cy L) := (X1.out.kept b2).kept ((Below.refl _ _).alloc (Nat.le_refl _) _)
              have Y2 : Hid (PB (w2.alloc (.cells #[.int .i64 2, .int .i64 24, .int .i64 (Wd : Int), .int .i64 (Hi : Int), .slice x2 0 cx2, .slice y2 m cy2] 25)) w2.heap.size 2 24 (Wd : Int) (Hi : Int) x2 0 cx2 [] y2 m cy2 L) := pb_new gx gy
              have B2 : Hid (Below w.heap.size w (w2.alloc (.cells #[.int .i64 2, .int .i64 24, .int .i64 (Wd : Int), .int .i64 (Hi : Int), .slice x2 0 cx2, .slice y2 m cy2] 25))) := (B1.out.trans (b2.mono B1.out.size)).alloc (Nat.le_trans B1.out.size b2.size) _
              clear b2 M1 X1 B1 HIA gx gy x10 x11 x12 x13 x14 x15
              go_upto_region 17 with fail
              generalize hW4 : w2.alloc (.cells #[.int .i64 2, .int .i64 24, .int .i64 (Wd : Int), .int .i64 (Hi : Int), .slice x2 0 cx2, .slice y2 m cy2] 25) = W4 at *
              clear hW4
              generalize w2.heap.size = YB at *
              obtain ⟨x20, x21, x22, x23, x24, x25⟩ := X2.out.box
              go_wp2_with fail
              refine (HOX.out x cx y cy _ X2.out.i4 X2.out.i5).mono ?_
              rintro e w3 ⟨rfl, b3⟩
              have M3 : Hid (PB w3 MB k (D : Int) (Wd : Int) (Hi : Int) a n c cs b m cc ps) := M2.out.kept b3
              have X3 : Hid (PB w3 XB 2 24 (Wd : Int) (Hi : Int) x 0 cx [] y m cy L) := X2.out.kept b3
              have Y3 : Hid (PB w3 YB 2 24 (Wd : Int) (Hi : Int) x2 0 cx2 [] y2 m cy2 L) := Y2.out.kept b3
              have B3 : Hid (Below w.heap.size w w3) := B2.out.trans (b3.mono B2.out.size)
              clear b3 M2 X2 Y2 B2 HOX x20 x21 x22 x23 x24 x25
              obtain ⟨x30, x31, x32, x33, x34, x35⟩ := X3.out.box
              obtain ⟨m30, m31, m32, m33, m34, m35⟩ := M3.out.box
              go_wp2_with fail
              refine (HLK.out x cx y cy _ X3.out.i4 X3.out.i5 M3.out.i4 M3.out.i5).mono ?_
              rintro e w4 ⟨rfl, b4⟩
              have X4 : Hid (PB w4 XB 2 24 (Wd : Int) (Hi : Int) x 0 cx [] y m cy L) := X3.out.kept b4
              have Y4 : Hid (PB w4 YB 2 24 (Wd : Int) (Hi : Int) x2 0 cx2 [] y2 m cy2 L) := Y3.out.kept b4
              have B4 : Hid (Below w.heap.size w w4) := B3.out.trans (b4.mono B3.out.size)
              clear b4 M3 X3 Y3 B3 HLK x30 x31 x32 x33 x34 x35 m30 m31 m32 m33 m34 m35
              obtain ⟨x40, x41, x42, x43, x44, x45⟩ := X4.out.box
              obtain ⟨y40, y41, y42, y43, y44, y45⟩ := Y4.out.box
              go_wp2_with fail
              refine (HWI.out x cx y cy x2 cx2 y2 cy2 _ X4.out.i4 X4.out.i5 Y4.out.i4 Y4.out.i5).mono ?_
              rintro e w5 ⟨rfl, b5⟩
              have B5 : Hid (Below w.heap.size w w5) := B4.out.trans (b5.mono B4.out.size)
              clear b5 X4 Y4 B4 HWI x40 x41 x42 x43 x44 x45 y40 y41 y42 y43 y44 y45
              go_wp2_with fail
              go_ret
              exact ⟨rfl, B5.out⟩
end Go.Proofs.Ytchaepkdpbiffaa
