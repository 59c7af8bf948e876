/- Whether lengths are those of a code. -/
import Derived.Test.YtcolgcddhchkhaaInWalks
import Derived.Test.YtcolgcddhchkhaaPowWalks
import Derived.Test.YtcolgcddhchkhaaIntsWalks
import Derived.Test.YtcolgcddhchkhaaCodeMath
namespace Go.Proofs.Ytcolgcddhchkhaa
open Go.RowKit

theorem ret_bool {a b : Bool} (h : a = b) : Ending.returned (.bool a) = .returned (.bool b) := by rw [h]

/-- what 'codeTaken' answers -/
def tkB (n : Nat) (zs : List Int) : Bool := decide (n ≤ 300) && Cd.valid zs
def tkN (n : Nat) (zs : List Int) : Int := if tkB n zs = true then (Cd.taken zs : Int) else 0
theorem tkN_no {n : Nat} {zs : List Int} (h : tkB n zs = false) : tkN n zs = 0 := by unfold tkN; rw [h]; rfl
theorem tkN_yes {n : Nat} {zs : List Int} (h : tkB n zs = true) : tkN n zs = (Cd.taken zs : Int) := by unfold tkN; rw [if_pos h]

theorem part_pos (Z : Nat) (h : 0 < Z) : Cd.part (Z : Int) = 2 ^ (15 - Z) := by
  unfold Cd.part; rw [if_pos (by omega), Int.toNat_natCast]
theorem part_zero : Cd.part 0 = 0 := by decide

set_option maxHeartbeats 1000000 in
theorem l3Left_any (a : Option Addr) (cap n : Nat) (zs : List Int) (w : World) (h : Ints w a zs) (hn : zs.length = n) (hl : n ≤ 300) :
    Calls Try.prog 73 #[.slice a n cap] w fun e w' => e = .returned (.int .i64 (Cd.left zs)) ∧ w' = w := by
  have HI : Hid (Ints w a zs) := h
  have HN : Hid (zs.length = n) := hn
  clear h
  have hzg : n ≤ zs.length := by omega
  clear hn
  have HP : Hid (Calls Try.prog 68 #[.int .i64 15] w fun e w' => e = .returned (.int .i64 32768) ∧ w' = w) := l1Pow_any 15 w (by omega)
  go_enter Try.func73, Try.ntmps73
  go_wp2_with fail
  refine HP.out.mono ?_
  rintro e w1 ⟨rfl, hw1⟩
  subst hw1
  clear HP
  go_wp2_with fail
  go_loop [3, 4] (fun x i => ∃ k T : Nat, k ≤ n ∧ i = .int .i64 k ∧ T = Cd.taken (zs.take k) ∧ Cd.valid (zs.take k) = true ∧ T ≤ 32768 ∧ x = .int .i64 (32768 - (T : Int))) (fun _ i => n - (intOf i).toNat)
  case atStart => exact ⟨0, 0, Nat.zero_le _, rfl, rfl, rfl, by omega, rfl⟩
  case round =>
    obtain ⟨k, T, hk, rfl, hT, hV, hT2, rfl⟩ := hrel
    by_cases hlt : k < n
    · have hkz : k < zs.length := by omega
      rcases HI.out with h | ⟨b, off, rfl, hb, hc⟩
      · rw [h] at hkz; simp at hkz
      · have hck := hc k hkz
        have hki : (k : Int) < (n : Int) := by omega
        have hbad := Cd.left_bad zs k hkz
        have hts := Cd.taken_snoc zs k hkz
        have hvs := Cd.valid_snoc zs k hkz
        have hov := Cd.left_over zs (k + 1)
        rw [hV, Bool.true_and] at hvs
        rw [← hT] at hts
        clear hc hT hV
        generalize zs[k] = z at *
        by_cases hz : 0 ≤ z ∧ z ≤ 15
        · obtain ⟨Z, rfl⟩ := Int.eq_ofNat_of_zero_le hz.1
          have hok : Cd.okLen (Z : Int) = true := by simp [Cd.okLen]; omega
          have HV : Hid (Cd.valid (zs.take (k + 1)) = true) := by show _ = _; rw [hvs, hok]
          by_cases hz0 : 0 < Z
          · rw [part_pos Z hz0] at hts
            obtain ⟨q, hq⟩ : ∃ q, q = 2 ^ (15 - Z) := ⟨_, rfl⟩
            have hpw : Hid (∀ (x : Int) (w : World), x = 15 - (Z : Int) → Calls Try.prog 68 #[.int .i64 x] w fun e w' => e = .returned (.int .i64 (q : Int)) ∧ w' = w) := by
              intro x w hx
              have := l1Pow_any (15 - Z) w (by omega)
              rw [← hq, show ((15 - Z : Nat) : Int) = x from by omega] at this
              exact this
            have hqb : q ≤ 32768 := by
              rw [hq]; exact Nat.le_trans (Nat.pow_le_pow_right (by omega) (show 15 - Z ≤ 15 by omega)) (by decide)
            rw [← hq] at hts
            have HTS : Hid (T + q = Cd.taken (zs.take (k + 1))) := hts.symm
            have hz15 : Z ≤ 15 := by omega
            by_cases hlow : 32768 < T + q
            · have HL : Hid (Cd.left zs = -1) := hov (by rw [hts]; exact hlow)
              clear hbad hts hvs hov hq hok hz
              go_wp2_with fail
              refine (l1In_yes _ _ _ _ (by omega) (by omega)).mono ?_
              rintro e w2 ⟨rfl, rfl⟩
              go_wp2_with fail
              refine (hpw.out _ _ rfl).mono ?_
              rintro e w3 ⟨rfl, rfl⟩
              go_wp2_with fail
              go_ret
              exact ⟨ret_int HL.out.symm, rfl⟩
            · have hd : decide (32768 - (T : Int) - (q : Int) < 0) = false := by simp; omega
              clear hbad hts hvs hov hq hok hz
              go_wp2_with fail
              refine (l1In_yes _ _ _ _ (by omega) (by omega)).mono ?_
              rintro e w2 ⟨rfl, rfl⟩
              go_wp2_with fail
              refine (hpw.out _ _ rfl).mono ?_
              rintro e w3 ⟨rfl, rfl⟩
              go_wp2_with fail
              go_round
              case rel => exact ⟨k + 1, T + q, by omega, by go_num, HTS.out, HV.out, by omega, by go_num⟩
              case measure => simp [intOf]; omega
          · have hZ : Z = 0 := by omega
            subst hZ
            have HTS : Hid (T = Cd.taken (zs.take (k + 1))) := by show _ = _; rw [hts]; rfl
            have hd : decide (32768 - (T : Int) < 0) = false := by simp; omega
            clear hbad hts hvs hov hok hz
            go_wp2_with fail
            refine (l1In_yes _ _ _ _ (by omega) (by omega)).mono ?_
            rintro e w2 ⟨rfl, rfl⟩
            go_wp2_with fail
            go_round
            case rel => exact ⟨k + 1, T, by omega, by go_num, HTS.out, HV.out, by omega, rfl⟩
            case measure => simp [intOf]; omega
        · have HL : Hid (Cd.left zs = -1) := hbad (by simp only [Cd.okLen, Bool.and_eq_false_iff, decide_eq_false_iff_not]; omega)
          clear hbad hts hvs hov
          go_wp2_with fail
          refine (l1In_no _ _ _ _ hz).mono ?_
          rintro e w2 ⟨rfl, rfl⟩
          go_wp2_with fail
          go_ret
          exact ⟨ret_int HL.out.symm, rfl⟩
    · have hk' : zs.take k = zs := List.take_of_length_le (by have := HN.out; omega)
      rw [hk'] at hT hV
      have HL : Hid (Cd.left zs = 32768 - (T : Int)) := by show _ = _; unfold Cd.left; rw [← hT, if_pos ⟨hV, hT2⟩]
      clear hk' hT hV
      go_wp2_with fail
      go_ret
      exact ⟨ret_int HL.out.symm, rfl⟩

set_option maxHeartbeats 400000 in
theorem spec_codeOk (a : Option Addr) (cap n : Nat) (zs : List Int) (w : World) (h : Ints w a zs) (hn : zs.length = n) (hl : n ≤ 1048576) :
    Calls Try.prog 49 #[.slice a n cap] w fun e w' => e = .returned (.bool (Cd.okB zs)) ∧ w' = w := by
  by_cases h3 : n ≤ 300
  · have hc := l3Left_any a cap n zs w h hn h3
    have HE : Hid (Cd.okB zs = decide (0 ≤ Cd.left zs)) := by
      show _ = _; unfold Cd.okB; rw [Cd.left_ok, hn]; simp [h3]
    have HC : Hid (Calls Try.prog 73 #[.slice a n cap] w fun e w' => e = .returned (.int .i64 (Cd.left zs)) ∧ w' = w) := hc
    clear hc h hn
    have hd : decide ((n : Int) ≤ 300) = true := by simp; omega
    generalize Cd.left zs = L at *
    go_enter Try.func49, Try.ntmps49
    go_wp2_with fail
    refine HC.out.mono ?_
    rintro e w1 ⟨rfl, hw1⟩
    subst hw1
    go_wp2_with fail
    go_ret
    exact ⟨ret_bool HE.out.symm, rfl⟩
  · have hd : decide ((n : Int) ≤ 300) = false := by simp; omega
    have HE : Hid (Cd.okB zs = false) := by show _ = _; unfold Cd.okB; rw [hn]; simp [h3]
    clear h hn
    go_enter Try.func49, Try.ntmps49
    go_wp2_with fail
    go_ret
    exact ⟨ret_bool HE.out.symm, rfl⟩

theorem shr_part (Z : Nat) (h : Z ≤ 15) : (32768 : Int) / 2 ^ Z = ((2 ^ (15 - Z) : Nat) : Int) := by
  have e : (32768 : Int) / 2 ^ Z = ((32768 / 2 ^ Z : Nat) : Int) := by simp
  rw [e, show (32768 : Nat) = 2 ^ 15 from rfl, Nat.pow_div h (by omega)]

set_option maxHeartbeats 1000000 in
theorem codeTaken_any (a : Option Addr) (cap n : Nat) (zs : List Int) (w : World) (h : Ints w a zs) (hn : zs.length = n) (hl : n ≤ 1048576) :
    Calls Try.prog 46 #[.slice a n cap] w fun e w' => e = .returned (.tuple #[.int .i64 (tkN n zs), .bool (tkB n zs)]) ∧ w' = w := by
  by_cases h3 : n ≤ 300
  · have HI : Hid (Ints w a zs) := h
    have HN : Hid (zs.length = n) := hn
    have hzg : n ≤ zs.length := by omega
    have hd : decide ((300 : Int) < (n : Int)) = false := by simp; omega
    clear h hn
    go_enter Try.func46, Try.ntmps46
    go_wp2_with fail
    go_loop [4, 12] (fun x i => ∃ k T : Nat, k ≤ n ∧ i = .int .i64 k ∧ T = Cd.taken (zs.take k) ∧ Cd.valid (zs.take k) = true ∧ T ≤ 32768 * k ∧ x = .int .i64 (T : Int)) (fun _ i => n - (intOf i).toNat)
    case atStart => exact ⟨0, 0, Nat.zero_le _, rfl, rfl, rfl, by omega, rfl⟩
    case round =>
      obtain ⟨k, T, hk, rfl, hT, hV, hT2, rfl⟩ := hrel
      by_cases hlt : k < n
      · have hkz : k < zs.length := by omega
        rcases HI.out with h | ⟨b, off, rfl, hb, hc⟩
        · rw [h] at hkz; simp at hkz
        · have hck := hc k hkz
          have hki : (k : Int) < (n : Int) := by omega
          have hbad := Cd.not_valid zs k hkz
          have hts := Cd.taken_snoc zs k hkz
          have hvs := Cd.valid_snoc zs k hkz
          rw [hV, Bool.true_and] at hvs
          rw [← hT] at hts
          clear hc hT hV
          generalize zs[k] = z at *
          by_cases hz : 0 ≤ z ∧ z ≤ 15
          · obtain ⟨Z, rfl⟩ := Int.eq_ofNat_of_zero_le hz.1
            have hok : Cd.okLen (Z : Int) = true := by simp [Cd.okLen]; omega
            have HV : Hid (Cd.valid (zs.take (k + 1)) = true) := by show _ = _; rw [hvs, hok]
            have hd1 : decide ((Z : Int) < 0) = false := by simp
            have hd2 : decide ((15 : Int) < (Z : Int)) = false := by simp; omega
            by_cases hz0 : 0 < Z
            · rw [part_pos Z hz0] at hts
              have hsh := shr_part Z (by omega)
              obtain ⟨q, hq⟩ : ∃ q, q = 2 ^ (15 - Z) := ⟨_, rfl⟩
              have hqb : q ≤ 32768 := by
                rw [hq]; exact Nat.le_trans (Nat.pow_le_pow_right (by omega) (show 15 - Z ≤ 15 by omega)) (by decide)
              rw [← hq] at hts hsh
              have HTS : Hid (T + q = Cd.taken (zs.take (k + 1))) := hts.symm
              have hz15 : Z ≤ 15 := by omega
              clear hbad hts hvs hq hok hz
              go_wp2_with fail
              go_round
              case rel => exact ⟨k + 1, T + q, by omega, by go_num, HTS.out, HV.out, by omega, by go_num⟩
              case measure => simp [intOf]; omega
            · have hZ : Z = 0 := by omega
              subst hZ
              have HTS : Hid (T = Cd.taken (zs.take (k + 1))) := by show _ = _; rw [hts]; rfl
              clear hbad hts hvs hok hz
              go_wp2_with fail
              go_round
              case rel => exact ⟨k + 1, T, by omega, by go_num, HTS.out, HV.out, by omega, rfl⟩
              case measure => simp [intOf]; omega
          · have HL : Hid (tkB n zs = false) := by
              show _ = _; unfold tkB; rw [hbad (by simp only [Cd.okLen, Bool.and_eq_false_iff, decide_eq_false_iff_not]; omega), Bool.and_false]
            clear hbad hts hvs
            by_cases hneg : z < 0
            · go_wp2_with fail
              go_ret2
              exact ⟨ret_pair (tkN_no HL.out).symm HL.out.symm, rfl⟩
            · have hd1 : decide (z < 0) = false := by simpa using hneg
              have hbig : 15 < z := by omega
              clear hz hneg
              go_wp2_with fail
              go_ret2
              exact ⟨ret_pair (tkN_no HL.out).symm HL.out.symm, rfl⟩
      · have hk' : zs.take k = zs := List.take_of_length_le (by have := HN.out; omega)
        rw [hk'] at hT hV
        have HL : Hid (tkB n zs = true) := by show _ = _; unfold tkB; rw [hV]; simp [h3]
        have HT : Hid (T = Cd.taken zs) := hT
        clear hk' hT hV
        go_wp2_with fail
        go_ret2
        exact ⟨ret_pair (by rw [tkN_yes HL.out, ← HT.out]) HL.out.symm, rfl⟩
  · have hd : (300 : Int) < (n : Int) := by omega
    have HL : Hid (tkB n zs = false) := by show _ = _; unfold tkB; simp [h3]
    clear h hn
    go_enter Try.func46, Try.ntmps46
    go_wp2_with fail
    go_ret2
    exact ⟨ret_pair (tkN_no HL.out).symm HL.out.symm, rfl⟩

set_option maxHeartbeats 400000 in
theorem impl_codeOk (a : Option Addr) (cap n : Nat) (zs : List Int) (w : World) (h : Ints w a zs) (hn : zs.length = n) (hl : n ≤ 1048576) :
    Calls Try.prog 13 #[.slice a n cap] w fun e w' => e = .returned (.bool (Cd.okB zs)) ∧ w' = w := by
  have hc := codeTaken_any a cap n zs w h hn hl
  have HC : Hid (Calls Try.prog 46 #[.slice a n cap] w fun e w' => e = .returned (.tuple #[.int .i64 (tkN n zs), .bool (tkB n zs)]) ∧ w' = w) := hc
  cases hy : tkB n zs
  · have HE : Hid (Cd.okB zs = false) := by
      show _ = _; unfold Cd.okB; rw [hn, ← Bool.and_assoc]
      have : (decide (n ≤ 300) && Cd.valid zs) = false := hy
      rw [this]; rfl
    rw [hy] at HC
    clear hc h hn hy
    generalize tkN n zs = T at *
    go_enter Try.func13, Try.ntmps13
    go_wp2_with fail
    refine HC.out.mono ?_
    rintro e w1 ⟨rfl, hw1⟩
    subst hw1
    go_wp2_with fail
    go_ret
    exact ⟨ret_bool HE.out.symm, rfl⟩
  · have HE : Hid (Cd.okB zs = decide ((Cd.taken zs : Int) ≤ 32768)) := by
      show _ = _; unfold Cd.okB; rw [hn, ← Bool.and_assoc]
      have : (decide (n ≤ 300) && Cd.valid zs) = true := hy
      rw [this, Bool.true_and]
      congr 1
      exact propext ⟨fun h => by omega, fun h => by omega⟩
    rw [tkN_yes hy, hy] at HC
    clear hc h hn hy
    generalize Cd.taken zs = T at *
    go_enter Try.func13, Try.ntmps13
    go_wp2_with fail
    refine HC.out.mono ?_
    rintro e w1 ⟨rfl, hw1⟩
    subst hw1
    go_wp2_with fail
    go_ret
    exact ⟨ret_bool HE.out.symm, rfl⟩
end Go.Proofs.Ytcolgcddhchkhaa
