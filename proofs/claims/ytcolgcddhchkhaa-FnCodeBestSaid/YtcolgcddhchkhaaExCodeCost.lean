/- The exact law of CodeCost, walked. -/
import Derived.Test.YtcolgcddhchkhaaCodeWalks
import Derived.Test.YtcolgcddhchkhaaRow64
namespace Go.Proofs.Ytcolgcddhchkhaa
open Go.RowKit

/-- whether a number of how often a symbol comes is within its bounds -/
def oneB (z : Int) : Bool := decide (0 ≤ z) && decide (z ≤ 9000)
def oftenB (os : List Int) : Bool := os.all oneB
def costN : List Int → List Int → Int
  | o :: os, z :: zs => o * z + costN os zs
  | _, _ => 0

theorem oftenB_get {os : List Int} (h : oftenB os = true) (k : Nat) (hk : k < os.length) : 0 ≤ os[k] ∧ os[k] ≤ 9000 := by
  have := List.all_eq_true.1 h os[k] (List.getElem_mem hk)
  simp only [oneB, Bool.and_eq_true, decide_eq_true_eq] at this
  exact this
theorem oftenB_no {os : List Int} (k : Nat) (hk : k < os.length) (h : ¬ (0 ≤ os[k] ∧ os[k] ≤ 9000)) : oftenB os = false := by
  cases e : oftenB os
  · rfl
  · exact absurd (oftenB_get e k hk) h
theorem oftenB_all {os : List Int} (h : ∀ k (hk : k < os.length), 0 ≤ os[k] ∧ os[k] ≤ 9000) : oftenB os = true := by
  unfold oftenB
  rw [List.all_eq_true]
  intro x hx
  obtain ⟨k, hk, rfl⟩ := List.getElem_of_mem hx
  have := h k hk
  simp only [oneB, Bool.and_eq_true, decide_eq_true_eq]; exact this

theorem cost_snoc : ∀ (os zs : List Int) (k : Nat) (h1 : k < os.length) (h2 : k < zs.length), costN (os.take (k + 1)) (zs.take (k + 1)) = costN (os.take k) (zs.take k) + os[k] * zs[k] := by
  intro os
  induction os with
  | nil => intro zs k h1; simp at h1
  | cons o os ih =>
    intro zs k h1 h2
    cases zs with
    | nil => simp at h2
    | cons z zs =>
      cases k with
      | zero => simp [costN]
      | succ k =>
        simp only [List.take_succ_cons, costN, List.getElem_cons_succ]
        rw [ih zs k (by simpa using h1) (by simpa using h2)]
        omega

/-- what 'CodeCost' answers -/
def cost (os zs : List Int) : Int := if (Cd.okB zs && (decide (os.length = zs.length) && oftenB os)) = true then costN os zs else 0
theorem cost_no {os zs : List Int} (h : (Cd.okB zs && (decide (os.length = zs.length) && oftenB os)) = false) : cost os zs = 0 := by unfold cost; rw [h]; rfl
theorem cost_yes {os zs : List Int} (h : (Cd.okB zs && (decide (os.length = zs.length) && oftenB os)) = true) : cost os zs = costN os zs := by unfold cost; rw [if_pos h]

theorem okB_get {zs : List Int} (h : Cd.okB zs = true) (k : Nat) (hk : k < zs.length) : 0 ≤ zs[k] ∧ zs[k] ≤ 15 := by
  unfold Cd.okB Cd.valid at h
  simp only [Bool.and_eq_true] at h
  have := List.all_eq_true.1 h.2.1 zs[k] (List.getElem_mem hk)
  simp only [Cd.okLen, Bool.and_eq_true, decide_eq_true_eq] at this
  exact this
theorem okB_len {zs : List Int} (h : Cd.okB zs = true) : zs.length ≤ 300 := by
  unfold Cd.okB at h
  simp only [Bool.and_eq_true, decide_eq_true_eq] at h
  exact h.1

theorem mul_bound {o z : Int} (h1 : 0 ≤ o ∧ o ≤ 9000) (h2 : 0 ≤ z ∧ z ≤ 15) : 0 ≤ o * z ∧ o * z ≤ 135000 := by
  refine ⟨Int.mul_nonneg h1.1 h2.1, ?_⟩
  have h := Int.mul_le_mul h1.2 h2.2 h2.1 (by omega)
  omega

set_option maxHeartbeats 1000000 in
theorem spec_codeCost (a : Option Addr) (cap n : Nat) (os : List Int) (b : Option Addr) (cap' n' : Nat) (zs : List Int) (w : World) (h : Ints w a os) (hn : os.length = n) (g : Ints w b zs) (gn : zs.length = n') (hl : n ≤ 1048576) (gl : n' ≤ 1048576) :
    Calls Try.prog 18 #[.slice a n cap, .slice b n' cap'] w fun e w' => e = .returned (.int .i64 (cost os zs)) ∧ ∃ m, w' = w.drewN m := by
  have HC : Hid (Calls Try.prog 49 #[.slice b n' cap'] w fun e w' => e = .returned (.bool (Cd.okB zs)) ∧ w' = w) := spec_codeOk b cap' n' zs w g gn gl
  cases hy : Cd.okB zs
  · have HE : Hid (cost os zs = 0) := cost_no (by rw [hy]; rfl)
    rw [hy] at HC
    clear h hn g gn hy
    go_enter Try.func18, Try.ntmps18
    go_wp2_with fail
    refine HC.out.mono ?_
    rintro e w1 ⟨rfl, hw1⟩
    subst hw1
    go_wp2_with fail
    go_ret
    exact ⟨ret_int HE.out.symm, 0, rfl⟩
  · by_cases hnn : n = n'
    · subst hnn
      have HI : Hid (Ints w a os) := h
      have HG : Hid (Ints w b zs) := g
      have hog : n ≤ os.length := by omega
      have hzg : n ≤ zs.length := by omega
      have hlen : os.length = zs.length := by omega
      have HB : Hid (∀ k (hk : k < zs.length), 0 ≤ zs[k] ∧ zs[k] ≤ 15) := okB_get hy
      have hn3 : n ≤ 300 := by have := okB_len hy; omega
      have HY : Hid (oftenB os = true → cost os zs = costN os zs) := fun ho => cost_yes (by rw [hy, ho, hlen]; simp)
      have HZ : Hid (oftenB os = false → cost os zs = 0) := fun ho => cost_no (by rw [ho]; simp)
      have HO : Hid (os.length = n) := hn
      have HL : Hid (os.length = zs.length) := hlen
      rw [hy] at HC
      clear h g hn gn hy hlen
      go_enter Try.func18, Try.ntmps18
      go_wp2_with fail
      refine HC.out.mono ?_
      rintro e w1 ⟨rfl, hw1⟩
      subst hw1
      clear HC
      go_wp2_with fail
      go_loopw [5, 6] (fun x i wr => ∃ (k m : Nat) (C : Int), k ≤ n ∧ i = .int .i64 k ∧ C = costN (os.take k) (zs.take k) ∧ (∀ j (hj : j < os.length), j < k → 0 ≤ os[j] ∧ os[j] ≤ 9000) ∧ 0 ≤ C ∧ C ≤ 135000 * k ∧ x = .int .i64 C ∧ wr = w1.drewN m) (fun _ i _ => n - (intOf i).toNat)
      case atStart => exact ⟨0, 0, 0, Nat.zero_le _, rfl, rfl, fun j _ h => by omega, by omega, by omega, rfl, rfl⟩
      case round =>
        obtain ⟨k, m, C, hk, rfl, hC, hall, hC0, hC1, rfl, rfl⟩ := hrel
        by_cases hlt : k < n
        · have hko : k < os.length := by omega
          have hkz : k < zs.length := by omega
          rcases HI.out with h | ⟨b1, off1, rfl, hb1, hc1⟩
          · rw [h] at hko; simp at hko
          · rcases HG.out with h | ⟨b2, off2, rfl, hb2, hc2⟩
            · rw [h] at hkz; simp at hkz
            · have e1 := hc1 k hko
              have e2 := hc2 k hkz
              have hki : (k : Int) < (n : Int) := by omega
              have hzb := HB.out k hkz
              have hsn := cost_snoc os zs k hko hkz
              have hno := oftenB_no k hko
              have hall' : Hid ((0 ≤ os[k] ∧ os[k] ≤ 9000) → ∀ j (hj : j < os.length), j < k + 1 → 0 ≤ os[j] ∧ os[j] ≤ 9000) := by
                intro hz j hj hjk
                by_cases e : j = k
                · subst e; exact hz
                · exact hall j hj (by omega)
              rw [← hC] at hsn
              clear hc1 hc2 hall hC
              generalize zs[k] = z at *
              generalize os[k] = o at *
              by_cases hz : 0 ≤ o ∧ o ≤ 9000
              · have hmb := mul_bound hz hzb
                obtain ⟨P, hP⟩ : ∃ P, P = o * z := ⟨_, rfl⟩
                rw [← hP] at hsn hmb
                have hw1 : IntKind.i64.wrap (o * z) = P := by rw [IntKind.wrap_i64, ← hP]; omega
                have hw3 : wrap64 (o * z) = P := by unfold wrap64; rw [← hP]; omega
                have HS : Hid (C + P = costN (os.take (k + 1)) (zs.take (k + 1))) := hsn.symm
                have HA := hall'.out hz
                have HAA : Hid (∀ j (hj : j < os.length), j < k + 1 → 0 ≤ os[j] ∧ os[j] ≤ 9000) := HA
                clear hsn hno hall' HA
                go_wp2_with fail
                refine (l1In_yes _ _ _ _ hz.1 hz.2).mono ?_
                rintro e w2 ⟨rfl, hw2⟩
                subst hw2
                go_wp2_with fail
                go_region
                all_goals go_wp2_with fail
                all_goals
                  go_roundw
                  case rel => exact ⟨k + 1, m + 1, C + P, by omega, by go_num, HS.out, HAA.out, by omega, by omega, by rw [hP], rfl⟩
                  case measure => simp [intOf]; omega
              · have HE : Hid (cost os zs = 0) := HZ.out (hno hz)
                clear hsn hno hall'
                go_wp2_with fail
                refine (l1In_no _ _ _ _ hz).mono ?_
                rintro e w2 ⟨rfl, hw2⟩
                subst hw2
                go_wp2_with fail
                go_ret
                exact ⟨ret_int HE.out.symm, m, rfl⟩
        · have hk' : k = n := by omega
          subst hk'
          have ho : oftenB os = true := oftenB_all (fun j hj => hall j hj (by have := HO.out; omega))
          have hto : os.take k = os := List.take_of_length_le (by have := HO.out; omega)
          have htz : zs.take k = zs := List.take_of_length_le (by have := HO.out; have := HL.out; omega)
          rw [hto, htz] at hC
          have HE : Hid (cost os zs = C) := by show _ = _; rw [HY.out ho, hC]
          clear ho hto htz hC hall
          go_wp2_with fail
          go_ret
          exact ⟨ret_int HE.out.symm, m, rfl⟩
    · have HE : Hid (cost os zs = 0) := cost_no (by rw [hn, gn]; simp [hnn])
      have hnb : ((n : Int) != (n' : Int)) = true := by rw [bne_iff_ne]; omega
      rw [hy] at HC
      clear h hn g gn hy
      go_enter Try.func18, Try.ntmps18
      go_wp2_with fail
      refine HC.out.mono ?_
      rintro e w1 ⟨rfl, hw1⟩
      subst hw1
      go_wp2_with fail
      go_ret
      exact ⟨ret_int HE.out.symm, 0, rfl⟩

set_option maxHeartbeats 1000000 in
theorem oftenOk_any (a : Option Addr) (cap n : Nat) (os : List Int) (w : World) (h : Ints w a os) (hn : os.length = n) (hl : n ≤ 1048576) :
    Calls Try.prog 48 #[.slice a n cap] w fun e w' => e = .returned (.bool (oftenB os)) ∧ w' = w := by
  have HI : Hid (Ints w a os) := h
  have HO : Hid (os.length = n) := hn
  have hog : n ≤ os.length := by omega
  clear h hn
  go_enter Try.func48, Try.ntmps48
  go_wp2_with fail
  go_loop [7] (fun i => ∃ k : Nat, k ≤ n ∧ i = .int .i64 k ∧ (∀ j (hj : j < os.length), j < k → 0 ≤ os[j] ∧ os[j] ≤ 9000)) (fun i => n - (intOf i).toNat)
  case atStart => exact ⟨0, Nat.zero_le _, rfl, fun j _ h => by omega⟩
  case round =>
    obtain ⟨k, hk, rfl, hall⟩ := hrel
    by_cases hlt : k < n
    · have hko : k < os.length := by omega
      rcases HI.out with h | ⟨b1, off1, rfl, hb1, hc1⟩
      · rw [h] at hko; simp at hko
      · have e1 := hc1 k hko
        have hki : (k : Int) < (n : Int) := by omega
        have hno := oftenB_no k hko
        have hall' : Hid ((0 ≤ os[k] ∧ os[k] ≤ 9000) → ∀ j (hj : j < os.length), j < k + 1 → 0 ≤ os[j] ∧ os[j] ≤ 9000) := by
          intro hz j hj hjk
          by_cases e : j = k
          · subst e; exact hz
          · exact hall j hj (by omega)
        clear hc1 hall
        generalize os[k] = o at *
        by_cases hz : 0 ≤ o ∧ o ≤ 9000
        · have HAA : Hid (∀ j (hj : j < os.length), j < k + 1 → 0 ≤ os[j] ∧ os[j] ≤ 9000) := hall'.out hz
          have hd1 : decide (o < 0) = false := by simp; omega
          have hd2 : decide (9000 < o) = false := by simp; omega
          clear hno hall'
          go_wp2_with fail
          go_round
          case rel => exact ⟨k + 1, by omega, by go_num, HAA.out⟩
          case measure => simp [intOf]; omega
        · have HE : Hid (oftenB os = false) := hno hz
          clear hno hall'
          by_cases hneg : o < 0
          · clear hz
            go_wp2_with fail
            go_ret
            exact ⟨ret_bool HE.out.symm, rfl⟩
          · have hd1 : decide (o < 0) = false := by simpa using hneg
            have hbig : 9000 < o := by omega
            clear hz hneg
            go_wp2_with fail
            go_ret
            exact ⟨ret_bool HE.out.symm, rfl⟩
    · have ho : oftenB os = true := oftenB_all (fun j hj => hall j hj (by have := HO.out; omega))
      have HE : Hid (oftenB os = true) := ho
      clear ho hall
      go_wp2_with fail
      go_ret
      exact ⟨ret_bool HE.out.symm, rfl⟩

set_option maxHeartbeats 1000000 in
theorem impl_codeCost (a : Option Addr) (cap n : Nat) (os : List Int) (b : Option Addr) (cap' n' : Nat) (zs : List Int) (w : World) (h : Ints w a os) (hn : os.length = n) (g : Ints w b zs) (gn : zs.length = n') (hl : n ≤ 1048576) (gl : n' ≤ 1048576) :
    Calls Try.prog 17 #[.slice a n cap, .slice b n' cap'] w fun e w' => e = .returned (.int .i64 (cost os zs)) ∧ w' = w := by
  have HC : Hid (Calls Try.prog 13 #[.slice b n' cap'] w fun e w' => e = .returned (.bool (Cd.okB zs)) ∧ w' = w) := impl_codeOk b cap' n' zs w g gn gl
  have HF : Hid (Calls Try.prog 48 #[.slice a n cap] w fun e w' => e = .returned (.bool (oftenB os)) ∧ w' = w) := oftenOk_any a cap n os w h hn hl
  cases hy : Cd.okB zs
  · have HE : Hid (cost os zs = 0) := cost_no (by rw [hy]; rfl)
    rw [hy] at HC
    clear h hn g gn hy HF
    go_enter Try.func17, Try.ntmps17
    go_wp2_with fail
    refine HC.out.mono ?_
    rintro e w1 ⟨rfl, hw1⟩
    subst hw1
    go_wp2_with fail
    go_ret
    exact ⟨ret_int HE.out.symm, rfl⟩
  · by_cases hnn : n = n'
    · subst hnn
      cases ho : oftenB os
      · have HE : Hid (cost os zs = 0) := cost_no (by rw [ho]; simp)
        rw [hy] at HC
        rw [ho] at HF
        clear h hn g gn hy ho
        go_enter Try.func17, Try.ntmps17
        go_wp2_with fail
        refine HC.out.mono ?_
        rintro e w1 ⟨rfl, hw1⟩
        subst hw1
        go_wp2_with fail
        refine HF.out.mono ?_
        rintro e w2 ⟨rfl, hw2⟩
        subst hw2
        go_wp2_with fail
        go_ret
        exact ⟨ret_int HE.out.symm, rfl⟩
      · have HI : Hid (Ints w a os) := h
        have HG : Hid (Ints w b zs) := g
        have hog : n ≤ os.length := by omega
        have hzg : n ≤ zs.length := by omega
        have hlen : os.length = zs.length := by omega
        have HB : Hid (∀ k (hk : k < zs.length), 0 ≤ zs[k] ∧ zs[k] ≤ 15) := okB_get hy
        have HA : Hid (∀ k (hk : k < os.length), 0 ≤ os[k] ∧ os[k] ≤ 9000) := oftenB_get ho
        have hn3 : n ≤ 300 := by have := okB_len hy; omega
        have HY : Hid (cost os zs = costN os zs) := cost_yes (by rw [hy, ho, hlen]; simp)
        have HO : Hid (os.length = n) := hn
        have HL : Hid (os.length = zs.length) := hlen
        rw [hy] at HC
        rw [ho] at HF
        clear h g hn gn hy hlen ho
        go_enter Try.func17, Try.ntmps17
        go_wp2_with fail
        refine HC.out.mono ?_
        rintro e w1 ⟨rfl, hw1⟩
        subst hw1
        clear HC
        go_wp2_with fail
        refine HF.out.mono ?_
        rintro e w2 ⟨rfl, hw2⟩
        subst hw2
        clear HF
        go_wp2_with fail
        go_loop [5, 25] (fun x i => ∃ (k : Nat) (C : Int), k ≤ n ∧ i = .int .i64 k ∧ C = costN (os.take k) (zs.take k) ∧ 0 ≤ C ∧ C ≤ 135000 * k ∧ x = .int .i64 C) (fun _ i => n - (intOf i).toNat)
        case atStart => exact ⟨0, 0, Nat.zero_le _, rfl, rfl, by omega, by omega, rfl⟩
        case round =>
          obtain ⟨k, C, hk, rfl, hC, hC0, hC1, rfl⟩ := hrel
          by_cases hlt : k < n
          · have hko : k < os.length := by omega
            have hkz : k < zs.length := by omega
            rcases HI.out with h | ⟨b1, off1, rfl, hb1, hc1⟩
            · rw [h] at hko; simp at hko
            · rcases HG.out with h | ⟨b2, off2, rfl, hb2, hc2⟩
              · rw [h] at hkz; simp at hkz
              · have e1 := hc1 k hko
                have e2 := hc2 k hkz
                have hki : (k : Int) < (n : Int) := by omega
                have hzb := HB.out k hkz
                have hz := HA.out k hko
                have hsn := cost_snoc os zs k hko hkz
                rw [← hC] at hsn
                clear hc1 hc2 hC
                generalize zs[k] = z at *
                generalize os[k] = o at *
                have hmb := mul_bound hz hzb
                obtain ⟨P, hP⟩ : ∃ P, P = o * z := ⟨_, rfl⟩
                rw [← hP] at hsn hmb
                have hw3 : wrap64 (o * z) = P := by unfold wrap64; rw [← hP]; omega
                have HS : Hid (C + P = costN (os.take (k + 1)) (zs.take (k + 1))) := hsn.symm
                clear hsn
                go_wp2_with fail
                go_round
                case rel => exact ⟨k + 1, C + P, by omega, by go_num, HS.out, by omega, by omega, by rw [hP]⟩
                case measure => simp [intOf]; omega
          · have hk' : k = n := by omega
            subst hk'
            have hto : os.take k = os := List.take_of_length_le (by have := HO.out; omega)
            have htz : zs.take k = zs := List.take_of_length_le (by have := HO.out; have := HL.out; omega)
            rw [hto, htz] at hC
            have HE : Hid (cost os zs = C) := by show _ = _; rw [HY.out, hC]
            clear hto htz hC
            go_wp2_with fail
            go_ret
            exact ⟨ret_int HE.out.symm, rfl⟩
    · have HE : Hid (cost os zs = 0) := cost_no (by rw [hn, gn]; simp [hnn])
      have hnb : ((n : Int) != (n' : Int)) = true := by rw [bne_iff_ne]; omega
      rw [hy] at HC
      clear h hn g gn hy HF
      go_enter Try.func17, Try.ntmps17
      go_wp2_with fail
      refine HC.out.mono ?_
      rintro e w1 ⟨rfl, hw1⟩
      subst hw1
      go_wp2_with fail
      go_ret
      exact ⟨ret_int HE.out.symm, rfl⟩
end Go.Proofs.Ytcolgcddhchkhaa
