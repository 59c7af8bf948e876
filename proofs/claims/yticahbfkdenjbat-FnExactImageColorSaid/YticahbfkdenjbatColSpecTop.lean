/- ImageColor of the specification, for every picture and place. -/
import Derived.Test.YticahbfkdenjbatColTop
namespace Go.Proofs.Yticahbfkdenjbat
open Go.RowKit

set_option maxHeartbeats 1000000 in
set_option maxRecDepth 20000 in
theorem spec_imageColor (k d wd hi x y : Int) (ca : Option Addr) (cn cc : Nat) (pa : Option Addr) (pn pc : Nat) (w : World) (cs ps : List Int) (hc : Ints w ca cs) (hcn : cs.length = cn) (hcl : cn ≤ 1048576) (hp : Ints w pa ps) (hpn : ps.length = pn) :
    Calls Try.prog 21 #[.agg #[.int .i64 k, .int .i64 d, .int .i64 wd, .int .i64 hi, .slice ca cn cc, .slice pa pn pc], .int .i64 x, .int .i64 y] w fun e w' => e = .returned (.tuple #[.int .i64 (Im.coV k d wd hi x y cs ps), .bool (Im.coB k d wd hi x y cs ps)]) ∧ Below w.heap.size w w' := by
  have hB0 : Below w.heap.size w (w.alloc (.cells #[.int .i64 k, .int .i64 d, .int .i64 wd, .int .i64 hi, .slice ca cn cc, .slice pa pn pc] 33)) := (Below.refl _ _).alloc (Nat.le_refl _) _
  have HOK := spec_imageOk k d wd hi ca cn cc pa pn pc _ cs ps (hc.kept hB0) hcn hcl (hp.kept hB0) hpn
  cases hok : Im.okB k d wd hi cs ps
  · rw [hok] at HOK
    have HO : Hid (Calls Try.prog 15 #[.agg #[.int .i64 k, .int .i64 d, .int .i64 wd, .int .i64 hi, .slice ca cn cc, .slice pa pn pc]] (w.alloc (.cells #[.int .i64 k, .int .i64 d, .int .i64 wd, .int .i64 hi, .slice ca cn cc, .slice pa pn pc] 33)) fun e w' => e = .returned (.bool false) ∧ Below (w.alloc (.cells #[.int .i64 k, .int .i64 d, .int .i64 wd, .int .i64 hi, .slice ca cn cc, .slice pa pn pc] 33)).heap.size (w.alloc (.cells #[.int .i64 k, .int .i64 d, .int .i64 wd, .int .i64 hi, .slice ca cn cc, .slice pa pn pc] 33)) w') := HOK
    have hat : Im.coB k d wd hi x y cs ps = false := by unfold Im.coB; rw [hok]; rfl
    have HA : Hid (Im.coB k d wd hi x y cs ps = false ∧ Im.coV k d wd hi x y cs ps = 0) := ⟨hat, Im.co_no hat⟩
    clear HOK hat hok hc hp hcn hpn
    go_enter Try.func21, Try.ntmps21
    go_wp2_with fail
    refine HO.out.mono ?_
    rintro e w1 ⟨rfl, b1⟩
    have bel1 := hB0.trans (b1.mono (by simp))
    clear b1 HO hB0
    go_wp2_with fail
    go_ret2
    rw [HA.out.1, HA.out.2]
    exact ⟨rfl, bel1⟩
  · rw [hok] at HOK
    have HO : Hid (Calls Try.prog 15 #[.agg #[.int .i64 k, .int .i64 d, .int .i64 wd, .int .i64 hi, .slice ca cn cc, .slice pa pn pc]] (w.alloc (.cells #[.int .i64 k, .int .i64 d, .int .i64 wd, .int .i64 hi, .slice ca cn cc, .slice pa pn pc] 33)) fun e w' => e = .returned (.bool true) ∧ Below (w.alloc (.cells #[.int .i64 k, .int .i64 d, .int .i64 wd, .int .i64 hi, .slice ca cn cc, .slice pa pn pc] 33)).heap.size (w.alloc (.cells #[.int .i64 k, .int .i64 d, .int .i64 wd, .int .i64 hi, .slice ca cn cc, .slice pa pn pc] 33)) w') := HOK
    have hOk := Im.ok_of' hok
    have HIN : Hid (∀ w' : World, Calls Try.prog 50 #[.agg #[.int .i64 k, .int .i64 d, .int .i64 wd, .int .i64 hi, .slice ca cn cc, .slice pa pn pc], .int .i64 x, .int .i64 y] w' fun e w'' => e = .returned (.bool (inB x y wd hi)) ∧ Below w'.heap.size w' w'') := fun w' => l8In_any k d wd hi x y ca cn cc pa pn pc w' hOk.2.1 hOk.2.2.1
    by_cases hin : 0 ≤ x ∧ x < wd ∧ 0 ≤ y ∧ y < hi
    · obtain ⟨I, X, Y, Wd, hsp⟩ := spot_of (pn := pn) hOk.2.1 hOk.2.2.1 (by rw [← hpn]; exact hOk.2.2.2.2.1) hin
      have hat : Im.coB k d wd hi x y cs ps = true := by unfold Im.coB; rw [hok, inB_yes hin]; rfl
      obtain ⟨D, rfl, hD, _⟩ := Im.dep_all hOk.1
      obtain ⟨p, hpv, hpt⟩ := Im.pt_ok hOk I (by have := hsp.lt; omega)
      have hcv := Im.co_yes hat hsp
      rw [hpv] at hcv
      have HA : Hid (Im.coB k (D : Int) wd hi x y cs ps = true ∧ Im.coV k (D : Int) wd hi x y cs ps = colOf k D cs (p : Int)) := ⟨hat, hcv⟩
      have HCL : Hid (∀ w', Below w.heap.size w w' → Calls Try.prog 53 #[.agg #[.int .i64 k, .int .i64 (D : Int), .int .i64 wd, .int .i64 hi, .slice ca cn cc, .slice pa pn pc], .int .i64 (p : Int)] w' fun e w'' => e = .returned (.int .i64 (colOf k D cs (p : Int))) ∧ Below w'.heap.size w' w'') := fun w' b' => l8Color_any k D p wd hi ca cn cc pa pn pc cs w' (hc.kept b') hcn hpt
      clear hcv
      rw [inB_yes hin] at HIN
      obtain ⟨rfl, rfl, rfl, hi', hlt, hs1, hs2, hs3, hs4, hs5⟩ := hsp
      have hIl : I < ps.length := by omega
      have HIP : Hid (∀ w', Below w.heap.size w w' → ∃ b off, pa = some ⟨b, off, none⟩ ∧ w'.cell? ⟨b, off + I, none⟩ = some (.int .i64 (p : Int)) ∧ b < w'.heap.size) := by
        intro w' bb
        rcases hp.kept bb with g | ⟨b, off, e, hbB, hcc⟩
        · rw [g] at hIl; simp at hIl
        · refine ⟨b, off, e, ?_⟩
          rw [hcc I hIl, ← hpv, List.getD_eq_getElem?_getD, List.getElem?_eq_getElem hIl]; exact ⟨rfl, hbB⟩
      obtain ⟨P, hP⟩ : ∃ P, P = Y * Wd := ⟨_, rfl⟩
      have hPi : (Y : Int) * (Wd : Int) = (P : Int) := by rw [hP]; simp
      have hIi : (P : Int) + (X : Int) = (I : Int) := by omega
      have hPb : P ≤ 400 := by omega
      have hII : (I : Int) < (pn : Int) := by omega
      clear HOK hat hok hc hp hcn hpn hOk hin hpv hpt hi' hP hs5
      generalize colOf k D cs (p : Int) = c at *
      go_enter Try.func21, Try.ntmps21
      go_wp2_with fail
      refine HO.out.mono ?_
      rintro e w1 ⟨rfl, b1⟩
      obtain ⟨k0, k1, k2, k3, k4, k5⟩ := box_kept (box_new w _ _ _ _ _ _ 33) b1 (by simp)
      have bel1 := hB0.trans (b1.mono (by simp))
      have hlt1 : w.heap.size < w1.heap.size := Nat.lt_of_lt_of_le (by simp) b1.size
      clear b1 HO hB0
      go_wp2_with fail
      refine (HIN.out _).mono ?_
      rintro e w2 ⟨rfl, b2⟩
      obtain ⟨j0, j1, j2, j3, j4, j5⟩ := box_kept ⟨k0, k1, k2, k3, k4, k5⟩ b2 hlt1
      have bel2 := bel1.trans (b2.mono bel1.size)
      obtain ⟨b, off, rfl, hck, hbl⟩ := HIP.out _ bel2
      have hlt2 : w.heap.size < w2.heap.size := Nat.lt_of_lt_of_le hlt1 b2.size
      have wPi : IntKind.i64.wrap ((Y : Int) * (Wd : Int)) = (P : Int) := by rw [hPi]; exact wrap_i64_nat P (by omega)
      have wIi : IntKind.i64.wrap ((P : Int) + (X : Int)) = (I : Int) := by rw [hIi]; exact wrap_i64_nat I (by omega)
      have wP := wrap_i64_nat P (by omega)
      have wI := wrap_i64_nat I (by omega)
      have hI0 : (0 : Int) ≤ (I : Int) := by omega
      clear b2 bel1 k0 k1 k2 k3 k4 k5 hlt1 HIP
      go_wp2_with fail
      go_region_held3 (fun w' => w'.cell? ⟨w.heap.size, 0, none⟩ = some (.int .i64 k) ∧ w'.cell? ⟨w.heap.size, 1, none⟩ = some (.int .i64 (D : Int)) ∧ w'.cell? ⟨w.heap.size, 2, none⟩ = some (.int .i64 (Wd : Int)) ∧ w'.cell? ⟨w.heap.size, 3, none⟩ = some (.int .i64 hi) ∧ w'.cell? ⟨w.heap.size, 4, none⟩ = some (.slice ca cn cc) ∧ w'.cell? ⟨w.heap.size, 5, none⟩ = some (.slice (some ⟨b, off, none⟩) pn pc) ∧ w'.cell? ⟨b, off + I, none⟩ = some (.int .i64 (p : Int))) (go_keep) ((go_at_call 53; refine (HCL.out _ bel2.drew).mono ?_; rintro e w3 ⟨rfl, b3⟩; obtain ⟨g0, g1, g2, g3, g4, g5⟩ := box_kept ⟨j0, j1, j2, j3, j4, j5⟩ (box_drew b3) hlt2; have g6 := ((box_drew b3).cell (p := ⟨b, off + I, none⟩) hbl).trans hck))
      all_goals
        have bel3 : Below w.heap.size w w3 := bel2.trans ((box_drew b3).mono bel2.size)
        clear b3
        go_wp2_with fail
        go_ret2
        rw [HA.out.1, HA.out.2]
        exact ⟨rfl, bel3⟩
    · have hat : Im.coB k d wd hi x y cs ps = false := by unfold Im.coB; rw [inB_no hin]; simp
      have HA : Hid (Im.coB k d wd hi x y cs ps = false ∧ Im.coV k d wd hi x y cs ps = 0) := ⟨hat, Im.co_no hat⟩
      rw [inB_no hin] at HIN
      clear HOK hat hok hc hp hcn hpn hOk hin
      go_enter Try.func21, Try.ntmps21
      go_wp2_with fail
      refine HO.out.mono ?_
      rintro e w1 ⟨rfl, b1⟩
      obtain ⟨k0, k1, k2, k3, k4, k5⟩ := box_kept (box_new w _ _ _ _ _ _ 33) b1 (by simp)
      have bel1 := hB0.trans (b1.mono (by simp))
      clear b1 HO hB0
      go_wp2_with fail
      refine (HIN.out _).mono ?_
      rintro e w2 ⟨rfl, b2⟩
      have bel2 := bel1.trans (b2.mono bel1.size)
      clear b2 bel1 k0 k1 k2 k3 k4 k5
      go_wp2_with fail
      go_ret2
      rw [HA.out.1, HA.out.2]
      exact ⟨rfl, bel2⟩
end Go.Proofs.Yticahbfkdenjbat
