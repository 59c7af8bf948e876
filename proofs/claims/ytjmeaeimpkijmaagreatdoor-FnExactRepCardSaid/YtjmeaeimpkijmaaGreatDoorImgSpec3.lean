/- ImageOk of the specification, for every picture. -/
import Derived.Test.YtjmeaeimpkijmaaGreatDoorImgSpec2
import Derived.Test.YtjmeaeimpkijmaaGreatDoorImgOk
namespace Go.Proofs.YtjmeaeimpkijmaaGreatDoor
open Go.RowKit

set_option maxHeartbeats 4000000 in
set_option maxRecDepth 20000 in
theorem specOk_e (k wd hi M : Int) (D P : Nat) (ca : Option Addr) (cn cc : Nat) (pa : Option Addr) (pn pc : Nat) (w : World) (cs ps : List Int) (hc : Ints w ca cs) (hcn : cs.length = cn) (hcl : cn ≤ 1048576) (hp : Ints w pa ps) (hpn : ps.length = pn)
    (hd : (D : Int) ∈ depL k) (hD : D ≤ 32) (hw : 1 ≤ wd ∧ wd ≤ 20) (hh : 1 ≤ hi ∧ hi ≤ 20) (hM : wd * hi = M) (hM2 : 0 ≤ M) (hM3 : M ≤ 400) (hpm : (pn : Int) = M) (hco : Im.ColOk k (D : Int) cs) (hP : P + 1 = 2 ^ D) :
    Calls Tryz.prog 20 #[.agg #[.int .i64 k, .int .i64 (D : Int), .int .i64 wd, .int .i64 hi, .slice ca cn cc, .slice pa pn pc]] w fun e w' => e = .returned (.bool (withinB (if k = 4 then (cn : Int) - 1 else (P : Int)) ps)) ∧ Below w.heap.size w w' := by
  have HDP : Hid (∀ w : World, Calls Tryz.prog 46 #[.int .i64 k, .int .i64 (D : Int)] w fun e w' => e = .returned (.bool true) ∧ w' = w) := by
    intro w; have := l8Depth_any k (D : Int) w; rw [depKB_yes hd] at this; exact this
  have HCO : Hid (∀ w' : World, Ints w' ca cs → Calls Tryz.prog 48 #[.agg #[.int .i64 k, .int .i64 (D : Int), .int .i64 wd, .int .i64 hi, .slice ca cn cc, .slice pa pn pc]] w' fun e w'' => e = .returned (.bool true) ∧ Below w'.heap.size w' w'') := by
    intro w' hI
    have := l8Colors_any k wd hi D ca cn cc pa pn pc cs w' hI hcn hcl hD
    rw [Im.colB_yes hco] at this; exact this
  have HPW : Hid (∀ w : World, Calls Tryz.prog 49 #[.int .i64 (D : Int)] w fun e w' => e = .returned (.int .i64 ((P : Int) + 1)) ∧ w' = w) := by
    intro w
    have := l1Pow_any D w (by omega)
    rw [← hP] at this; exact this
  have hPb : P + 1 ≤ 4294967296 := by rw [hP]; exact Nat.le_trans (Nat.pow_le_pow_right (by omega) hD) (by decide)
  obtain ⟨mo, hmo⟩ : ∃ mo : Int, mo = if k = 4 then (cn : Int) - 1 else (P : Int) := ⟨_, rfl⟩
  have HMO : Hid (mo = if k = 4 then (cn : Int) - 1 else (P : Int)) := hmo
  rw [← hmo]
  have HIC : Hid (∀ w', Below w.heap.size w w' → Ints w' ca cs) := fun w' b => hc.kept b
  have HIP : Hid (∀ w', Below w.heap.size w w' → Ints w' pa ps) := fun w' b => hp.kept b
  have HPN : Hid (ps.length = pn) := hpn
  have hzg : pn ≤ ps.length := by omega
  have hne : ((pn : Int) == M) = true := by simpa using hpm
  have HPM : Hid ((pn : Int) = M) := hpm
  clear hd hco hc hp hmo hP hcn hpn hpm
  have hB0 : Below w.heap.size w (w.alloc (.cells #[.int .i64 k, .int .i64 (D : Int), .int .i64 wd, .int .i64 hi, .slice ca cn cc, .slice pa pn pc] 31)) := (Below.refl _ _).alloc (Nat.le_refl _) _
  go_enter Tryz.func20, Tryz.ntmps20
  go_wp2_with fail
  refine (HDP.out _).mono ?_
  rintro e w1 ⟨rfl, hw1⟩
  subst hw1
  go_wp2_with fail
  refine (l1In_yes _ _ _ _ hw.1 hw.2).mono ?_
  rintro e w1 ⟨rfl, hw1⟩
  subst hw1
  go_wp2_with fail
  refine (l1In_yes _ _ _ _ hh.1 hh.2).mono ?_
  rintro e w1 ⟨rfl, hw1⟩
  subst hw1
  go_wp2_with fail
  refine (HCO.out _ (HIC.out _ hB0)).mono ?_
  rintro e w2 ⟨rfl, b2⟩
  have bel2 : Below w.heap.size w w2 := hB0.trans (b2.mono (by simp))
  obtain ⟨k0, k1, k2, k3, k4, k5⟩ := box_kept (box_new w _ _ _ _ _ _ 31) b2 (by simp)
  have HP2 : Hid (Ints w2 pa ps) := HIP.out _ bel2
  clear b2 hB0 HCO HIC HIP HDP
  go_wp2_with fail
  refine (HPW.out _).mono ?_
  rintro e w3 ⟨rfl, hw3⟩
  have hv3 := hw3.symm
  subst hv3
  by_cases hk : k = 4
  · have hmo : mo = (cn : Int) - 1 := by rw [HMO.out, if_pos hk]
    subst hk
    have HMM : Hid (mo = (cn : Int) - 1) := hmo
    clear hmo
    · go_wp2_with fail
      go_loop [4] (fun i => ∃ j : Nat, j ≤ pn ∧ i = .int .i64 j ∧ ∀ q (hq : q < ps.length), q < j → 0 ≤ ps[q] ∧ ps[q] ≤ mo) (fun i => pn - (intOf i).toNat)
      case atStart => exact ⟨0, Nat.zero_le _, rfl, fun j hj h0 => absurd h0 (by omega)⟩
      case round =>
        obtain ⟨j, hj, rfl, hall⟩ := hrel
        have HA : Hid (∀ q (hq : q < ps.length), q < j → 0 ≤ ps[q] ∧ ps[q] ≤ mo) := hall
        clear hall
        by_cases hlt : j < pn
        · have hjz : j < ps.length := by omega
          rcases HP2.out with h | ⟨b, off, rfl, hbB, hcc⟩
          · rw [h] at hjz; simp at hjz
          · have hck := hcc j hjz
            have hji : (j : Int) < (pn : Int) := by omega
            clear hcc
            obtain ⟨x, hx⟩ : ∃ x, x = ps[j] := ⟨_, rfl⟩
            rw [← hx] at hck
            have HX : Hid (x = ps[j]) := hx
            clear hx
            by_cases he : 0 ≤ x ∧ x ≤ mo
            · have HE : Hid (0 ≤ x ∧ x ≤ mo) := he
              clear he
              go_wp2_with fail
              refine (l1In_yes _ _ _ _ HE.out.1 (by have := HE.out.2; have := HMM.out; omega)).mono ?_
              rintro e w4 ⟨rfl, hw4⟩
              subst hw4
              go_wp2_with fail
              go_round
              case rel =>
                refine ⟨j + 1, by omega, by go_num, fun q hq h1 => ?_⟩
                by_cases e : q < j
                · exact HA.out q hq e
                · have : q = j := by omega
                  subst this
                  rw [← HX.out]; exact HE.out
              case measure => simp [intOf]; omega
            · have HC : Hid (withinB mo ps = false) := withinB_no (fun g => he (by have := g ps[j] (List.getElem_mem hjz); rw [← HX.out] at this; exact this))
              have HE : Hid (¬ (0 ≤ x ∧ x ≤ mo)) := he
              clear he
              go_wp2_with fail
              refine (l1In_no _ _ _ _ (by have := HE.out; have := HMM.out; omega)).mono ?_
              rintro e w4 ⟨rfl, hw4⟩
              have bel4 : Below w.heap.size w w4 := by rw [hw4]; exact bel2
              clear hw4
              go_wp2_with fail
              go_ret
              exact ⟨by rw [HC.out]; rfl, bel4⟩
        · have HC : Hid (withinB mo ps = true) := withinB_yes (fun z hz => by
            obtain ⟨q, hq, rfl⟩ := List.getElem_of_mem hz
            exact HA.out q hq (by have := HPN.out; omega))
          have hlt' : ¬ (j : Int) < (pn : Int) := by omega
          clear HA
          go_wp2_with fail
          go_ret
          exact ⟨by rw [HC.out]; rfl, bel2⟩
  · have hk' : (k == 4) = false := by simpa using hk
    have hmo : mo = (P : Int) := by rw [HMO.out, if_neg hk]
    have HMM : Hid (mo = (P : Int)) := hmo
    clear hmo
    · go_wp2_with fail
      go_loop [4] (fun i => ∃ j : Nat, j ≤ pn ∧ i = .int .i64 j ∧ ∀ q (hq : q < ps.length), q < j → 0 ≤ ps[q] ∧ ps[q] ≤ mo) (fun i => pn - (intOf i).toNat)
      case atStart => exact ⟨0, Nat.zero_le _, rfl, fun j hj h0 => absurd h0 (by omega)⟩
      case round =>
        obtain ⟨j, hj, rfl, hall⟩ := hrel
        have HA : Hid (∀ q (hq : q < ps.length), q < j → 0 ≤ ps[q] ∧ ps[q] ≤ mo) := hall
        clear hall
        by_cases hlt : j < pn
        · have hjz : j < ps.length := by omega
          rcases HP2.out with h | ⟨b, off, rfl, hbB, hcc⟩
          · rw [h] at hjz; simp at hjz
          · have hck := hcc j hjz
            have hji : (j : Int) < (pn : Int) := by omega
            clear hcc
            obtain ⟨x, hx⟩ : ∃ x, x = ps[j] := ⟨_, rfl⟩
            rw [← hx] at hck
            have HX : Hid (x = ps[j]) := hx
            clear hx
            by_cases he : 0 ≤ x ∧ x ≤ mo
            · have HE : Hid (0 ≤ x ∧ x ≤ mo) := he
              clear he
              go_wp2_with fail
              refine (l1In_yes _ _ _ _ HE.out.1 (by have := HE.out.2; have := HMM.out; omega)).mono ?_
              rintro e w4 ⟨rfl, hw4⟩
              subst hw4
              go_wp2_with fail
              go_round
              case rel =>
                refine ⟨j + 1, by omega, by go_num, fun q hq h1 => ?_⟩
                by_cases e : q < j
                · exact HA.out q hq e
                · have : q = j := by omega
                  subst this
                  rw [← HX.out]; exact HE.out
              case measure => simp [intOf]; omega
            · have HC : Hid (withinB mo ps = false) := withinB_no (fun g => he (by have := g ps[j] (List.getElem_mem hjz); rw [← HX.out] at this; exact this))
              have HE : Hid (¬ (0 ≤ x ∧ x ≤ mo)) := he
              clear he
              go_wp2_with fail
              refine (l1In_no _ _ _ _ (by have := HE.out; have := HMM.out; omega)).mono ?_
              rintro e w4 ⟨rfl, hw4⟩
              have bel4 : Below w.heap.size w w4 := by rw [hw4]; exact bel2
              clear hw4
              go_wp2_with fail
              go_ret
              exact ⟨by rw [HC.out]; rfl, bel4⟩
        · have HC : Hid (withinB mo ps = true) := withinB_yes (fun z hz => by
            obtain ⟨q, hq, rfl⟩ := List.getElem_of_mem hz
            exact HA.out q hq (by have := HPN.out; omega))
          have hlt' : ¬ (j : Int) < (pn : Int) := by omega
          clear HA
          go_wp2_with fail
          go_ret
          exact ⟨by rw [HC.out]; rfl, bel2⟩

set_option maxHeartbeats 1000000 in
theorem specOk_a (k d wd hi : Int) (ca : Option Addr) (cn cc : Nat) (pa : Option Addr) (pn pc : Nat) (w : World) (hd : d ∉ depL k) :
    Calls Tryz.prog 20 #[.agg #[.int .i64 k, .int .i64 d, .int .i64 wd, .int .i64 hi, .slice ca cn cc, .slice pa pn pc]] w fun e w' => e = .returned (.bool false) ∧ Below w.heap.size w w' := by
  have HDP : Hid (∀ w : World, Calls Tryz.prog 46 #[.int .i64 k, .int .i64 d] w fun e w' => e = .returned (.bool false) ∧ w' = w) := by
    intro w; have := l8Depth_any k d w; rw [depKB_no hd] at this; exact this
  clear hd
  go_enter Tryz.func20, Tryz.ntmps20
  go_wp2_with fail
  refine (HDP.out _).mono ?_
  rintro e w1 ⟨rfl, hw1⟩
  subst hw1
  go_wp2_with fail
  go_ret
  exact ⟨rfl, (Below.refl _ _).alloc (Nat.le_refl _) _⟩

set_option maxHeartbeats 1000000 in
theorem specOk_b (k d wd hi : Int) (ca : Option Addr) (cn cc : Nat) (pa : Option Addr) (pn pc : Nat) (w : World) (hd : d ∈ depL k) (hw : ¬ (1 ≤ wd ∧ wd ≤ 20)) :
    Calls Tryz.prog 20 #[.agg #[.int .i64 k, .int .i64 d, .int .i64 wd, .int .i64 hi, .slice ca cn cc, .slice pa pn pc]] w fun e w' => e = .returned (.bool false) ∧ Below w.heap.size w w' := by
  have HDP : Hid (∀ w : World, Calls Tryz.prog 46 #[.int .i64 k, .int .i64 d] w fun e w' => e = .returned (.bool true) ∧ w' = w) := by
    intro w; have := l8Depth_any k d w; rw [depKB_yes hd] at this; exact this
  clear hd
  go_enter Tryz.func20, Tryz.ntmps20
  go_wp2_with fail
  refine (HDP.out _).mono ?_
  rintro e w1 ⟨rfl, hw1⟩
  subst hw1
  go_wp2_with fail
  refine (l1In_no _ _ _ _ hw).mono ?_
  rintro e w1 ⟨rfl, hw1⟩
  subst hw1
  go_wp2_with fail
  go_ret
  exact ⟨rfl, (Below.refl _ _).alloc (Nat.le_refl _) _⟩

set_option maxHeartbeats 1000000 in
theorem specOk_c (k d wd hi : Int) (ca : Option Addr) (cn cc : Nat) (pa : Option Addr) (pn pc : Nat) (w : World) (hd : d ∈ depL k) (hw : 1 ≤ wd ∧ wd ≤ 20) (hh : ¬ (1 ≤ hi ∧ hi ≤ 20)) :
    Calls Tryz.prog 20 #[.agg #[.int .i64 k, .int .i64 d, .int .i64 wd, .int .i64 hi, .slice ca cn cc, .slice pa pn pc]] w fun e w' => e = .returned (.bool false) ∧ Below w.heap.size w w' := by
  have HDP : Hid (∀ w : World, Calls Tryz.prog 46 #[.int .i64 k, .int .i64 d] w fun e w' => e = .returned (.bool true) ∧ w' = w) := by
    intro w; have := l8Depth_any k d w; rw [depKB_yes hd] at this; exact this
  clear hd
  go_enter Tryz.func20, Tryz.ntmps20
  go_wp2_with fail
  refine (HDP.out _).mono ?_
  rintro e w1 ⟨rfl, hw1⟩
  subst hw1
  go_wp2_with fail
  refine (l1In_yes _ _ _ _ hw.1 hw.2).mono ?_
  rintro e w1 ⟨rfl, hw1⟩
  subst hw1
  go_wp2_with fail
  refine (l1In_no _ _ _ _ hh).mono ?_
  rintro e w1 ⟨rfl, hw1⟩
  subst hw1
  go_wp2_with fail
  go_ret
  exact ⟨rfl, (Below.refl _ _).alloc (Nat.le_refl _) _⟩

set_option maxHeartbeats 1000000 in
theorem specOk_m (k d wd hi : Int) (ca : Option Addr) (cn cc : Nat) (pa : Option Addr) (pn pc : Nat) (w : World) (M : Int) (hd : d ∈ depL k) (hw : 1 ≤ wd ∧ wd ≤ 20) (hh : 1 ≤ hi ∧ hi ≤ 20) (hM : wd * hi = M) (hM2 : 0 ≤ M) (hM3 : M ≤ 400) (hpm : ¬ (pn : Int) = M) :
    Calls Tryz.prog 20 #[.agg #[.int .i64 k, .int .i64 d, .int .i64 wd, .int .i64 hi, .slice ca cn cc, .slice pa pn pc]] w fun e w' => e = .returned (.bool false) ∧ Below w.heap.size w w' := by
  have HDP : Hid (∀ w : World, Calls Tryz.prog 46 #[.int .i64 k, .int .i64 d] w fun e w' => e = .returned (.bool true) ∧ w' = w) := by
    intro w; have := l8Depth_any k d w; rw [depKB_yes hd] at this; exact this
  clear hd
  have hne : ((pn : Int) == M) = false := by simpa using hpm
  go_enter Tryz.func20, Tryz.ntmps20
  go_wp2_with fail
  refine (HDP.out _).mono ?_
  rintro e w1 ⟨rfl, hw1⟩
  subst hw1
  go_wp2_with fail
  refine (l1In_yes _ _ _ _ hw.1 hw.2).mono ?_
  rintro e w1 ⟨rfl, hw1⟩
  subst hw1
  go_wp2_with fail
  refine (l1In_yes _ _ _ _ hh.1 hh.2).mono ?_
  rintro e w1 ⟨rfl, hw1⟩
  subst hw1
  go_wp2_with fail
  go_ret
  exact ⟨rfl, (Below.refl _ _).alloc (Nat.le_refl _) _⟩

set_option maxHeartbeats 1000000 in
theorem specOk_d (k d wd hi : Int) (ca : Option Addr) (cn cc : Nat) (pa : Option Addr) (pn pc : Nat) (w : World) (M : Int) (cs : List Int) (hc : Ints w ca cs) (hcn : cs.length = cn) (hcl : cn ≤ 1048576) (hd : d ∈ depL k) (hw : 1 ≤ wd ∧ wd ≤ 20) (hh : 1 ≤ hi ∧ hi ≤ 20) (hM : wd * hi = M) (hM2 : 0 ≤ M) (hM3 : M ≤ 400) (hpm : (pn : Int) = M) (hco : ¬ Im.ColOk k d cs) :
    Calls Tryz.prog 20 #[.agg #[.int .i64 k, .int .i64 d, .int .i64 wd, .int .i64 hi, .slice ca cn cc, .slice pa pn pc]] w fun e w' => e = .returned (.bool false) ∧ Below w.heap.size w w' := by
  have HCO : Hid (∀ w' : World, Ints w' ca cs → Calls Tryz.prog 48 #[.agg #[.int .i64 k, .int .i64 d, .int .i64 wd, .int .i64 hi, .slice ca cn cc, .slice pa pn pc]] w' fun e w'' => e = .returned (.bool false) ∧ Below w'.heap.size w' w'') := by
    intro w' hI
    obtain ⟨D, rfl, hD, _⟩ := Im.dep_all hd
    have := l8Colors_any k wd hi D ca cn cc pa pn pc cs w' hI hcn hcl hD
    rw [Im.colB_no hco] at this; exact this
  have HDP : Hid (∀ w : World, Calls Tryz.prog 46 #[.int .i64 k, .int .i64 d] w fun e w' => e = .returned (.bool true) ∧ w' = w) := by
    intro w; have := l8Depth_any k d w; rw [depKB_yes hd] at this; exact this
  clear hd
  have HIC : Hid (∀ w', Below w.heap.size w w' → Ints w' ca cs) := fun w' b => hc.kept b
  have hne : ((pn : Int) == M) = true := by simpa using hpm
  have hB0 : Below w.heap.size w (w.alloc (.cells #[.int .i64 k, .int .i64 d, .int .i64 wd, .int .i64 hi, .slice ca cn cc, .slice pa pn pc] 31)) := (Below.refl _ _).alloc (Nat.le_refl _) _
  clear hc hcn hco
  go_enter Tryz.func20, Tryz.ntmps20
  go_wp2_with fail
  refine (HDP.out _).mono ?_
  rintro e w1 ⟨rfl, hw1⟩
  subst hw1
  go_wp2_with fail
  refine (l1In_yes _ _ _ _ hw.1 hw.2).mono ?_
  rintro e w1 ⟨rfl, hw1⟩
  subst hw1
  go_wp2_with fail
  refine (l1In_yes _ _ _ _ hh.1 hh.2).mono ?_
  rintro e w1 ⟨rfl, hw1⟩
  subst hw1
  go_wp2_with fail
  refine (HCO.out _ (HIC.out _ hB0)).mono ?_
  rintro e w2 ⟨rfl, b2⟩
  have bel2 : Below w.heap.size w w2 := hB0.trans (b2.mono (by simp))
  clear b2 hB0
  go_wp2_with fail
  go_ret
  exact ⟨rfl, bel2⟩

theorem spec_imageOk (k d wd hi : Int) (ca : Option Addr) (cn cc : Nat) (pa : Option Addr) (pn pc : Nat) (w : World) (cs ps : List Int) (hc : Ints w ca cs) (hcn : cs.length = cn) (hcl : cn ≤ 1048576) (hp : Ints w pa ps) (hpn : ps.length = pn) :
    Calls Tryz.prog 20 #[.agg #[.int .i64 k, .int .i64 d, .int .i64 wd, .int .i64 hi, .slice ca cn cc, .slice pa pn pc]] w fun e w' => e = .returned (.bool (Im.okB k d wd hi cs ps)) ∧ Below w.heap.size w w' := by
  by_cases hd : d ∈ depL k
  · by_cases hw : 1 ≤ wd ∧ wd ≤ 20
    · by_cases hh : 1 ≤ hi ∧ hi ≤ 20
      · obtain ⟨M, hM⟩ : ∃ M, wd * hi = M := ⟨_, rfl⟩
        have hM1 : 0 ≤ M ∧ M ≤ 400 := by
          obtain ⟨x, hx⟩ := Int.eq_ofNat_of_zero_le (show 0 ≤ wd by omega)
          obtain ⟨y, hy⟩ := Int.eq_ofNat_of_zero_le (show 0 ≤ hi by omega)
          have h1 : x * y ≤ 20 * 20 := Nat.mul_le_mul (by omega) (by omega)
          have h2 : (x : Int) * (y : Int) = ((x * y : Nat) : Int) := by simp
          rw [← hM, hx, hy, h2]
          omega
        by_cases hpm : (pn : Int) = M
        · by_cases hco : Im.ColOk k d cs
          · obtain ⟨D, rfl, hD, _⟩ := Im.dep_all hd
            obtain ⟨P, hP⟩ : ∃ P : Nat, P + 1 = 2 ^ D := ⟨2 ^ D - 1, by have : 0 < 2 ^ D := Nat.pow_pos (by omega); omega⟩
            have hm : Im.most k (D : Int) cs = if k = 4 then (cn : Int) - 1 else (P : Int) := by
              unfold Im.most; rw [Int.toNat_natCast, hcn, ← hP]; split <;> simp
            have he : Im.okB k (D : Int) wd hi cs ps = withinB (if k = 4 then (cn : Int) - 1 else (P : Int)) ps := by
              by_cases g : Within (if k = 4 then (cn : Int) - 1 else (P : Int)) ps
              · rw [withinB_yes g]; exact Im.okB_yes ⟨hd, hw, hh, hco, by rw [hpn, hM]; exact hpm, by rw [hm]; exact g⟩
              · rw [withinB_no g]; exact Im.okB_no (fun q => g (by have := q.2.2.2.2.2; rw [hm] at this; exact this))
            rw [he]
            exact specOk_e k wd hi M D P ca cn cc pa pn pc w cs ps hc hcn hcl hp hpn hd hD hw hh hM hM1.1 hM1.2 hpm hco hP
          · rw [Im.okB_no (fun g => hco g.2.2.2.1)]
            exact specOk_d k d wd hi ca cn cc pa pn pc w M cs hc hcn hcl hd hw hh hM hM1.1 hM1.2 hpm hco
        · rw [Im.okB_no (fun g => hpm (by have := g.2.2.2.2.1; rw [hpn, hM] at this; exact this))]
          exact specOk_m k d wd hi ca cn cc pa pn pc w M hd hw hh hM hM1.1 hM1.2 hpm
      · rw [Im.okB_no (fun g => hh g.2.2.1)]
        exact specOk_c k d wd hi ca cn cc pa pn pc w hd hw hh
    · rw [Im.okB_no (fun g => hw g.2.1)]
      exact specOk_b k d wd hi ca cn cc pa pn pc w hd hw
  · rw [Im.okB_no (fun g => hd g.1)]
    exact specOk_a k d wd hi ca cn cc pa pn pc w hd
end Go.Proofs.YtjmeaeimpkijmaaGreatDoor
