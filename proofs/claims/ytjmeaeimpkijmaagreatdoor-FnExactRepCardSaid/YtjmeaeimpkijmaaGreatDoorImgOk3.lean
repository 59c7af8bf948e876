/- ImageOk of the program: the points are looked at. -/
import Derived.Test.YtjmeaeimpkijmaaGreatDoorImgOk2
namespace Go.Proofs.YtjmeaeimpkijmaaGreatDoor
open Go.RowKit

/-- what one shift more than a power is -/
theorem pow_pred (D : Nat) : ∃ P : Nat, P + 1 = 2 ^ D := ⟨2 ^ D - 1, by have : 0 < 2 ^ D := Nat.pow_pos (by omega); omega⟩

set_option maxHeartbeats 4000000 in
set_option maxRecDepth 20000 in
theorem imageOk_e (k wd hi : Int) (D : Nat) (ca : Option Addr) (cn cc : Nat) (pa : Option Addr) (pn pc : Nat) (w : World) (cs ps : List Int) (hc : Ints w ca cs) (hcn : cs.length = cn) (hcl : cn ≤ 1048576) (hp : Ints w pa ps) (hpn : ps.length = pn) (hpl : pn ≤ 1048576)
    (hd : (D : Int) ∈ depL k) (hD : D ≤ 32) (hw : 1 ≤ wd ∧ wd ≤ 20) (hh : 1 ≤ hi ∧ hi ≤ 20) (hco : Im.ColOk k (D : Int) cs) :
    Calls Tryz.prog 28 #[.agg #[.int .i64 k, .int .i64 (D : Int), .int .i64 wd, .int .i64 hi, .slice ca cn cc, .slice pa pn pc]] w fun e w' => e = .returned (.bool (Im.okB k (D : Int) wd hi cs ps)) ∧ Below w.heap.size w w' := by
  have HDS : Hid (∀ w : World, Calls Tryz.prog 55 #[.int .i64 k] w fun e w' => (∃ ao c, e = .returned (.slice ao (depL k).length c) ∧ Ints w' ao (depL k)) ∧ Below w.heap.size w w') := fun w => depthsOf_any k w
  have HCT : Hid (∀ (ao : Option Addr) (c : Nat) (w : World), Ints w ao (depL k) → Calls Tryz.prog 54 #[.slice ao (depL k).length c, .int .i64 (D : Int)] w fun e w' => e = .returned (.bool true) ∧ w' = w) := by
    intro ao c w hI
    have := contains_any ao _ c (depL k) (D : Int) w hI rfl (by have := depL_len k; omega)
    rw [decide_eq_true hd] at this; exact this
  have HSW : Hid (∀ w : World, Calls Tryz.prog 56 #[.int .i64 wd] w fun e w' => e = .returned (.bool true) ∧ w' = w) := by
    intro w
    have := sizeOk_any wd w
    rw [beyB_no (by omega)] at this; exact this
  have HSH : Hid (∀ w : World, Calls Tryz.prog 56 #[.int .i64 hi] w fun e w' => e = .returned (.bool true) ∧ w' = w) := by
    intro w
    have := sizeOk_any hi w
    rw [beyB_no (by omega)] at this; exact this
  have HCO : Hid (∀ w' : World, Ints w' ca cs → Calls Tryz.prog 57 #[.agg #[.int .i64 k, .int .i64 (D : Int), .int .i64 wd, .int .i64 hi, .slice ca cn cc, .slice pa pn pc]] w' fun e w'' => e = .returned (.bool true) ∧ Below w'.heap.size w' w'') := by
    intro w' hI
    have := colorsOk_any k (D : Int) wd hi ca cn cc pa pn pc cs w' hI hcn hcl hd
    rw [Im.colB_yes hco] at this; exact this
  have HIC : Hid (∀ w', Below w.heap.size w w' → Ints w' ca cs) := fun w' b => hc.kept b
  have HIP : Hid (∀ w', Below w.heap.size w w' → Ints w' pa ps) := fun w' b => hp.kept b
  have HAW : Hid (∀ (m : Int) (w' : World), Ints w' pa ps → Calls Tryz.prog 58 #[.slice pa pn pc, .int .i64 m] w' fun e w'' => e = .returned (.bool (withinB m ps)) ∧ Below w'.heap.size w' w'') := fun m w' hI => allWithin_any pa pn pc ps m w' hI hpn (by omega)
  obtain ⟨P, hP⟩ := pow_pred D
  have hPb : P + 1 ≤ 4294967296 := by rw [hP]; exact Nat.le_trans (Nat.pow_le_pow_right (by omega) hD) (by decide)
  have HPP : Hid (P + 1 = 2 ^ D) := hP
  have HOK : Hid (Im.okB k (D : Int) wd hi cs ps = (decide ((pn : Int) = wd * hi) && withinB (if k = 4 then (cn : Int) - 1 else (P : Int)) ps)) := by
    show _ = _
    have hm : Im.most k (D : Int) cs = if k = 4 then (cn : Int) - 1 else (P : Int) := by
      unfold Im.most; rw [Int.toNat_natCast, hcn, ← hP]; split <;> simp
    by_cases g : (pn : Int) = wd * hi ∧ Within (if k = 4 then (cn : Int) - 1 else (P : Int)) ps
    · rw [decide_eq_true g.1, withinB_yes g.2]
      exact Im.okB_yes ⟨hd, hw, hh, hco, by rw [hpn]; exact g.1, by rw [hm]; exact g.2⟩
    · have hno : Im.okB k (D : Int) wd hi cs ps = false := Im.okB_no (fun q => g ⟨by have := q.2.2.2.2.1; rw [hpn] at this; exact this, by have := q.2.2.2.2.2; rw [hm] at this; exact this⟩)
      rw [hno]
      by_cases g1 : (pn : Int) = wd * hi
      · rw [withinB_no (fun q => g ⟨g1, q⟩)]; simp
      · rw [decide_eq_false g1]; rfl
  obtain ⟨M, hM⟩ : ∃ M, wd * hi = M := ⟨_, rfl⟩
  have hM1 : 0 ≤ M ∧ M ≤ 400 := by
    obtain ⟨x, hx⟩ := Int.eq_ofNat_of_zero_le (show 0 ≤ wd by omega)
    obtain ⟨y, hy⟩ := Int.eq_ofNat_of_zero_le (show 0 ≤ hi by omega)
    have h1 : x * y ≤ 20 * 20 := Nat.mul_le_mul (by omega) (by omega)
    have h2 : (x : Int) * (y : Int) = ((x * y : Nat) : Int) := by simp
    rw [← hM, hx, hy, h2]
    omega
  obtain ⟨hM2, hM3⟩ := hM1
  rw [hM] at HOK
  have hpow : (2 : Int) ^ D = (P : Int) + 1 := by
    have : ((2 ^ D : Nat) : Int) = (P : Int) + 1 := by rw [← hP]; simp
    rw [← this]; simp
  clear hd hco hc hcn hp hpn hP
  generalize (depL k).length = L at *
  go_enter Tryz.func28, Tryz.ntmps28
  go_wp2_with fail
  go_region_held3 (fun w' => w'.cell? ⟨w.heap.size, 0, none⟩ = some (.int .i64 k) ∧ w'.cell? ⟨w.heap.size, 1, none⟩ = some (.int .i64 (D : Int)) ∧ w'.cell? ⟨w.heap.size, 2, none⟩ = some (.int .i64 wd) ∧ w'.cell? ⟨w.heap.size, 3, none⟩ = some (.int .i64 hi) ∧ w'.cell? ⟨w.heap.size, 4, none⟩ = some (.slice ca cn cc) ∧ w'.cell? ⟨w.heap.size, 5, none⟩ = some (.slice pa pn pc)) (go_keep) (first | (go_at_call 55; refine (HDS.out _).mono ?_; rintro e w2 ⟨⟨ao, c, rfl, hI⟩, b2⟩; have HI : Hid (Ints w2 ao (depL k)) := hI; clear hI; obtain ⟨k0, k1, k2, k3, k4, k5⟩ := box_kept (box_new w _ _ _ _ _ _ 31) (box_drew b2) (by simp); have bw2 : Below w.heap.size w w2 := ((Below.refl w.heap.size w).alloc (Nat.le_refl _) _).trans ((box_drew b2).mono (by simp))) | (go_at_call 54; refine (HCT.out _ _ _ HI.out).mono ?_; rintro e w3 ⟨rfl, hw3⟩; have hv3 := hw3.symm; subst hv3) | (go_at_call_of 56 (Value.int IntKind.i64 wd); refine (HSW.out _).mono ?_; rintro e w4 ⟨rfl, hw4⟩; have hv4 := hw4.symm; subst hv4) | (go_at_call_of 56 (Value.int IntKind.i64 hi); refine (HSH.out _).mono ?_; rintro e w5 ⟨rfl, hw5⟩; have hv5 := hw5.symm; subst hv5) | (go_at_call 57; refine (HCO.out _ (HIC.out _ bw2)).mono ?_; rintro e w6 ⟨rfl, b6⟩; obtain ⟨q0, q1, q2, q3, q4, q5⟩ := box_kept ⟨k0, k1, k2, k3, k4, k5⟩ b6 (Nat.lt_of_lt_of_le (by simp) b2.size)))
  all_goals
    have bel : Below w.heap.size w w6 := bw2.trans (b6.mono bw2.size)
    clear b6 bw2 b2 k0 k1 k2 k3 k4 k5 HI HDS HCT HSW HSH HCO HIC
    have HP6 : Hid (Ints w6 pa ps) := HIP.out _ bel
    clear HIP
    by_cases hk : k = 4
    · subst hk
      by_cases hg : (pn : Int) = M
      · rw [if_pos rfl, decide_eq_true hg] at HOK
        have hg' : ((pn : Int) == M) = true := by simpa using hg
        have HA : Hid (Calls Tryz.prog 58 #[.slice pa pn pc, .int .i64 ((cn : Int) - 1)] w6 fun e w'' => e = .returned (.bool (withinB ((cn : Int) - 1) ps)) ∧ Below w6.heap.size w6 w'') := HAW.out _ w6 HP6.out
        clear hg
        go_wp2_with fail
        refine HA.out.mono ?_
        rintro e w7 ⟨rfl, b7⟩
        go_wp2_with fail
        go_ret
        exact ⟨by rw [HOK.out]; first | rfl | simp, bel.trans (b7.mono bel.size)⟩
      · rw [decide_eq_false hg] at HOK
        have hg' : ((pn : Int) == M) = false := by simpa using hg
        go_wp2_with fail
        go_ret
        exact ⟨by rw [HOK.out]; rfl, bel⟩
    · have hk' : (k == 4) = false := by simpa using hk
      by_cases hg : (pn : Int) = M
      · rw [if_neg hk, decide_eq_true hg] at HOK
        have hg' : ((pn : Int) == M) = true := by simpa using hg
        have HA : Hid (Calls Tryz.prog 58 #[.slice pa pn pc, .int .i64 (P : Int)] w6 fun e w'' => e = .returned (.bool (withinB (P : Int) ps)) ∧ Below w6.heap.size w6 w'') := HAW.out _ w6 HP6.out
        clear hg
        go_wp2_with fail
        refine HA.out.mono ?_
        rintro e w7 ⟨rfl, b7⟩
        go_wp2_with fail
        go_ret
        exact ⟨by rw [HOK.out]; first | rfl | simp, bel.trans (b7.mono bel.size)⟩
      · rw [decide_eq_false hg] at HOK
        have hg' : ((pn : Int) == M) = false := by simpa using hg
        go_wp2_with fail
        go_ret
        exact ⟨by rw [HOK.out]; rfl, bel⟩

theorem impl_imageOk (k d wd hi : Int) (ca : Option Addr) (cn cc : Nat) (pa : Option Addr) (pn pc : Nat) (w : World) (cs ps : List Int) (hc : Ints w ca cs) (hcn : cs.length = cn) (hcl : cn ≤ 1048576) (hp : Ints w pa ps) (hpn : ps.length = pn) (hpl : pn ≤ 1048576) :
    Calls Tryz.prog 28 #[.agg #[.int .i64 k, .int .i64 d, .int .i64 wd, .int .i64 hi, .slice ca cn cc, .slice pa pn pc]] w fun e w' => e = .returned (.bool (Im.okB k d wd hi cs ps)) ∧ Below w.heap.size w w' := by
  by_cases hd : d ∈ depL k
  · by_cases hw : 1 ≤ wd ∧ wd ≤ 20
    · by_cases hh : 1 ≤ hi ∧ hi ≤ 20
      · by_cases hco : Im.ColOk k d cs
        · obtain ⟨D, rfl, hD, _⟩ := Im.dep_all hd
          exact imageOk_e k wd hi D ca cn cc pa pn pc w cs ps hc hcn hcl hp hpn hpl hd hD hw hh hco
        · rw [Im.okB_no (fun g => hco g.2.2.2.1)]
          exact imageOk_d k d wd hi ca cn cc pa pn pc w cs hc hcn hcl hd hw hh hco
      · rw [Im.okB_no (fun g => hh g.2.2.1)]
        exact imageOk_c k d wd hi ca cn cc pa pn pc w hd hw hh
    · rw [Im.okB_no (fun g => hw g.2.1)]
      exact imageOk_b k d wd hi ca cn cc pa pn pc w hd hw
  · rw [Im.okB_no (fun g => hd g.1)]
    exact imageOk_a k d wd hi ca cn cc pa pn pc w hd
end Go.Proofs.YtjmeaeimpkijmaaGreatDoor
