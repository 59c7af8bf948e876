/- ImageAt of both sides, for every picture and place. -/
import Derived.Test.YtgeepemhmkoknaaAtWalks
namespace Go.Proofs.Ytgeepemhmkoknaa
open Go.RowKit
namespace Im
/-- whether a point is there -/
noncomputable def atB (k d wd hi x y : Int) (cs ps : List Int) : Bool := okB k d wd hi cs ps && inB x y wd hi
/-- which it is -/
noncomputable def atV (k d wd hi x y : Int) (cs ps : List Int) : Int := if atB k d wd hi x y cs ps = true then ps.getD (y * wd + x).toNat 0 else 0
theorem at_no {k d wd hi x y : Int} {cs ps : List Int} (h : atB k d wd hi x y cs ps = false) : atV k d wd hi x y cs ps = 0 := by unfold atV; rw [h]; rfl
theorem at_yes {k d wd hi x y : Int} {cs ps : List Int} (h : atB k d wd hi x y cs ps = true) {pn I X Y Wd : Nat} (g : Spot wd hi x y pn I X Y Wd) : atV k d wd hi x y cs ps = ps.getD I 0 := by
  unfold atV; rw [if_pos h, g.x, g.y, g.wd, g.i]
  congr 1
theorem ok_of {k d wd hi : Int} {cs ps : List Int} (h : okB k d wd hi cs ps = true) : Ok k d wd hi cs ps := @of_decide_eq_true _ (Classical.propDecidable _) h
end Im

set_option maxHeartbeats 1000000 in
set_option maxRecDepth 20000 in
theorem impl_imageAt (k d wd hi x y : Int) (ca : Option Addr) (cn cc : Nat) (pa : Option Addr) (pn pc : Nat) (w : World) (cs ps : List Int) (hc : Ints w ca cs) (hcn : cs.length = cn) (hcl : cn ≤ 1048576) (hp : Ints w pa ps) (hpn : ps.length = pn) (hpl : pn ≤ 1048576) :
    Calls Try.prog 15 #[.agg #[.int .i64 k, .int .i64 d, .int .i64 wd, .int .i64 hi, .slice ca cn cc, .slice pa pn pc], .int .i64 x, .int .i64 y] w fun e w' => e = .returned (.tuple #[.int .i64 (Im.atV k d wd hi x y cs ps), .bool (Im.atB k d wd hi x y cs ps)]) ∧ Below w.heap.size w w' := by
  have hB0 : Below w.heap.size w (w.alloc (.cells #[.int .i64 k, .int .i64 d, .int .i64 wd, .int .i64 hi, .slice ca cn cc, .slice pa pn pc] 25)) := (Below.refl _ _).alloc (Nat.le_refl _) _
  have HOK := impl_imageOk k d wd hi ca cn cc pa pn pc _ cs ps (hc.kept hB0) hcn hcl (hp.kept hB0) hpn hpl
  have HIN : Hid (∀ w' : World, Calls Try.prog 50 #[.iface 52 (.agg #[.int .i64 k, .int .i64 d, .int .i64 wd, .int .i64 hi, .slice ca cn cc, .slice pa pn pc]), .int .i64 x, .int .i64 y] w' fun e w'' => e = .returned (.bool (inB x y wd hi)) ∧ Below w'.heap.size w' w'') := fun w' => inView_any k d wd hi x y ca cn cc pa pn pc w'
  cases hok : Im.okB k d wd hi cs ps
  · rw [hok] at HOK
    have HO : Hid (Calls Try.prog 13 #[.agg #[.int .i64 k, .int .i64 d, .int .i64 wd, .int .i64 hi, .slice ca cn cc, .slice pa pn pc]] (w.alloc (.cells #[.int .i64 k, .int .i64 d, .int .i64 wd, .int .i64 hi, .slice ca cn cc, .slice pa pn pc] 25)) fun e w' => e = .returned (.bool false) ∧ Below (w.alloc (.cells #[.int .i64 k, .int .i64 d, .int .i64 wd, .int .i64 hi, .slice ca cn cc, .slice pa pn pc] 25)).heap.size (w.alloc (.cells #[.int .i64 k, .int .i64 d, .int .i64 wd, .int .i64 hi, .slice ca cn cc, .slice pa pn pc] 25)) w') := HOK
    have hat : Im.atB k d wd hi x y cs ps = false := by unfold Im.atB; rw [hok]; rfl
    have HA : Hid (Im.atB k d wd hi x y cs ps = false ∧ Im.atV k d wd hi x y cs ps = 0) := ⟨hat, Im.at_no hat⟩
    clear HOK hat hok hc hp hcn hpn
    go_enter Try.func15, Try.ntmps15
    go_wp2_with fail
    refine HO.out.mono ?_
    rintro e w1 ⟨rfl, b1⟩
    have bel1 := hB0.trans (b1.mono (by simp))
    clear b1 HO hB0
    go_wp2_with fail
    go_ret2
    rw [HA.out.1, HA.out.2]
    exact ⟨rfl, bel1⟩
  · rw [hok] at HOK
    have HO : Hid (Calls Try.prog 13 #[.agg #[.int .i64 k, .int .i64 d, .int .i64 wd, .int .i64 hi, .slice ca cn cc, .slice pa pn pc]] (w.alloc (.cells #[.int .i64 k, .int .i64 d, .int .i64 wd, .int .i64 hi, .slice ca cn cc, .slice pa pn pc] 25)) fun e w' => e = .returned (.bool true) ∧ Below (w.alloc (.cells #[.int .i64 k, .int .i64 d, .int .i64 wd, .int .i64 hi, .slice ca cn cc, .slice pa pn pc] 25)).heap.size (w.alloc (.cells #[.int .i64 k, .int .i64 d, .int .i64 wd, .int .i64 hi, .slice ca cn cc, .slice pa pn pc] 25)) w') := HOK
    have hOk := Im.ok_of hok
    have HIP : Hid (∀ w', Below w.heap.size w w' → Ints w' pa ps) := fun w' b => hp.kept b
    by_cases hin : 0 ≤ x ∧ x < wd ∧ 0 ≤ y ∧ y < hi
    · obtain ⟨I, X, Y, Wd, hsp⟩ := spot_of (pn := pn) hOk.2.1 hOk.2.2.1 (by rw [← hpn]; exact hOk.2.2.2.2.1) hin
      have hat : Im.atB k d wd hi x y cs ps = true := by unfold Im.atB; rw [hok, inB_yes hin]; rfl
      have HA : Hid (Im.atB k d wd hi x y cs ps = true ∧ Im.atV k d wd hi x y cs ps = ps.getD I 0) := ⟨hat, Im.at_yes hat hsp⟩
      have HAT : Hid (∀ w', Ints w' pa ps → Calls Try.prog 51 #[.agg #[.int .i64 k, .int .i64 d, .int .i64 wd, .int .i64 hi, .slice ca cn cc, .slice pa pn pc], .int .i64 x, .int .i64 y] w' fun e w'' => e = .returned (.int .i64 (ps.getD I 0)) ∧ Below w'.heap.size w' w'') := fun w' h => at_any k d wd hi x y ca cn cc pa pn pc ps w' I X Y Wd hsp h hpn
      rw [inB_yes hin] at HIN
      clear HOK hat hok hc hp hcn hpn hOk hsp hin
      generalize ps.getD I 0 = v at *
      go_enter Try.func15, Try.ntmps15
      go_wp2_with fail
      refine HO.out.mono ?_
      rintro e w1 ⟨rfl, b1⟩
      obtain ⟨k0, k1, k2, k3, k4, k5⟩ := box_kept (box_new w _ _ _ _ _ _ 25) b1 (by simp)
      have bel1 := hB0.trans (b1.mono (by simp))
      have hlt1 : w.heap.size < w1.heap.size := Nat.lt_of_lt_of_le (by simp) b1.size
      clear b1 HO hB0
      go_wp2_with fail
      refine (HIN.out _).mono ?_
      rintro e w2 ⟨rfl, b2⟩
      obtain ⟨j0, j1, j2, j3, j4, j5⟩ := box_kept ⟨k0, k1, k2, k3, k4, k5⟩ b2 hlt1
      have bel2 := bel1.trans (b2.mono bel1.size)
      clear b2 bel1 k0 k1 k2 k3 k4 k5 hlt1
      go_wp2_with fail
      refine (HAT.out _ (HIP.out _ bel2)).mono ?_
      rintro e w3 ⟨rfl, b3⟩
      have bel3 := bel2.trans (b3.mono bel2.size)
      clear b3 bel2 j0 j1 j2 j3 j4 j5
      go_wp2_with fail
      go_ret2
      rw [HA.out.1, HA.out.2]
      exact ⟨rfl, bel3⟩
    · have hat : Im.atB k d wd hi x y cs ps = false := by unfold Im.atB; rw [inB_no hin]; simp
      have HA : Hid (Im.atB k d wd hi x y cs ps = false ∧ Im.atV k d wd hi x y cs ps = 0) := ⟨hat, Im.at_no hat⟩
      rw [inB_no hin] at HIN
      clear HOK hat hok hc hp hcn hpn hOk hin HIP
      go_enter Try.func15, Try.ntmps15
      go_wp2_with fail
      refine HO.out.mono ?_
      rintro e w1 ⟨rfl, b1⟩
      obtain ⟨k0, k1, k2, k3, k4, k5⟩ := box_kept (box_new w _ _ _ _ _ _ 25) b1 (by simp)
      have bel1 := hB0.trans (b1.mono (by simp))
      clear b1 HO hB0
      go_wp2_with fail
      refine (HIN.out _).mono ?_
      rintro e w2 ⟨rfl, b2⟩
      have bel2 := bel1.trans (b2.mono bel1.size)
      clear b2 bel1 k0 k1 k2 k3 k4 k5
      go_wp2_with fail
      go_ret2
      rw [HA.out.1, HA.out.2]
      exact ⟨rfl, bel2⟩

end Go.Proofs.Ytgeepemhmkoknaa
