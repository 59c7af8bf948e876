/- The name of a piece: four letters. -/
import Derived.Test.YtgbcjkpmiceddaaProg
import Derived.Test.YtgbcjkpmiceddaaBase
import Derived.Test.YtgbcjkpmiceddaaStrWalks
namespace Go.Proofs.Ytgbcjkpmiceddaa
open Go.RowKit
namespace Ch

def letter (b : Nat) : Bool := (decide (97 ≤ b) && decide (b ≤ 122)) || (decide (65 ≤ b) && decide (b ≤ 90))
def name (s : ByteArray) : Bool := decide (∀ j, j < s.size → letter (byteAt s j) = true) && decide (s.size = 4)
theorem name_no {s : ByteArray} {k : Nat} (hk : k < s.size) (h : letter (byteAt s k) = false) : name s = false := by
  unfold name
  rw [decide_eq_false, Bool.false_and]
  intro hh
  rw [hh k hk] at h
  cases h
theorem name_end {s : ByteArray} (h : ∀ j, j < s.size → letter (byteAt s j) = true) : name s = decide (s.size = 4) := by
  unfold name
  rw [decide_eq_true h, Bool.true_and]
theorem name_size {s : ByteArray} (h : name s = true) : s.size = 4 := by
  unfold name at h
  simp at h
  exact h.2
theorem or32 : ∀ b : Fin 256, letter b.val = (decide (97 ≤ b.val ||| 32) && decide (b.val ||| 32 ≤ 122)) := by decide +kernel
theorem or32_nat {b : Nat} (h : b < 256) : letter b = (decide (97 ≤ b ||| 32) && decide (b ||| 32 ≤ 122)) := or32 ⟨b, h⟩
theorem or32_bits : ∀ b : Fin 256, bits .or .u8 (b.val : Int) 32 = ((b.val ||| 32 : Nat) : Int) := by decide +kernel
theorem or32_bitsN {b : Nat} (h : b < 256) : bits .or .u8 (b : Int) 32 = ((b ||| 32 : Nat) : Int) := or32_bits ⟨b, h⟩
theorem or32_lt {b : Nat} (h : b < 256) : b ||| 32 < 256 := Nat.or_lt_two_pow (n := 8) h (by decide)
end Ch

set_option maxHeartbeats 1000000 in
theorem l9Name_any (s : ByteArray) (w : World) (hs : s.size ≤ 1048576) :
    Calls Try.prog 28 #[.string s] w fun e w' => e = .returned (.bool (Ch.name s)) ∧ w' = w := by
  go_enter Try.func28, Try.ntmps28
  go_wp2_with fail
  go_loop [3] (fun i => ∃ k : Nat, k ≤ s.size ∧ i = .int .i64 (k : Int) ∧ Hid (∀ j, j < k → Ch.letter (byteAt s j) = true)) (fun i => s.size - (intOf i).toNat)
  case atStart => exact ⟨0, Nat.zero_le _, rfl, fun j hj => absurd hj (Nat.not_lt_zero _)⟩
  case round =>
    obtain ⟨k, hk, rfl, HL⟩ := hrel
    by_cases hlt : k < s.size
    · have hki : (k : Int) < (s.size : Int) := by omega
      have hby := byteAt_eq s k hlt
      have hb256 := byteAt_lt s k
      have HNO : Hid (Ch.letter (byteAt s k) = false → Ch.name s = false) := Ch.name_no hlt
      have HYES : Hid (Ch.letter (byteAt s k) = true → ∀ j, j < k + 1 → Ch.letter (byteAt s j) = true) := fun h j hj => by
        by_cases e : j = k
        · rw [e]; exact h
        · exact HL.out j (by omega)
      generalize byteAt s k = b at *
      clear HL
      by_cases c1 : 97 ≤ b ∧ b ≤ 122
      · have c1a : 97 ≤ b := c1.1
        have c1b : b ≤ 122 := c1.2
        have q0 : decide ((97 : Int) ≤ (b : Int)) = true := by simp; omega
        have q1 : decide ((b : Int) ≤ (122 : Int)) = true := by simp; omega
        have HF := HYES.out (by unfold Ch.letter; simp; omega)
        clear HNO HYES c1
        go_wp2_with fail
        go_round
        case rel => exact ⟨k + 1, by omega, by go_num, HF⟩
        case measure => simp [intOf]; omega
      · by_cases c2 : 65 ≤ b ∧ b ≤ 90
        · have c2a : 65 ≤ b := c2.1
          have c2b : b ≤ 90 := c2.2
          have c2c : ¬ 97 ≤ b := by omega
          have q0 : decide ((97 : Int) ≤ (b : Int)) = false := by simp; omega
          have q1 : decide ((65 : Int) ≤ (b : Int)) = true := by simp; omega
          have q2 : decide ((b : Int) ≤ (90 : Int)) = true := by simp; omega
          have HF := HYES.out (by unfold Ch.letter; simp; omega)
          clear HNO HYES c1 c2
          go_wp2_with fail
          go_round
          case rel => exact ⟨k + 1, by omega, by go_num, HF⟩
          case measure => simp [intOf]; omega
        · have HF : Hid (Ch.name s = false) := HNO.out (by unfold Ch.letter; simp; omega)
          clear HNO HYES
          by_cases c3 : 97 ≤ b
          · have c3b : ¬ b ≤ 122 := by omega
            have c3c : 65 ≤ b := by omega
            have c3d : ¬ b ≤ 90 := by omega
            have q0 : decide ((97 : Int) ≤ (b : Int)) = true := by simp; omega
            have q1 : decide ((b : Int) ≤ (122 : Int)) = false := by simp; omega
            have q2 : decide ((65 : Int) ≤ (b : Int)) = true := by simp; omega
            have q3 : decide ((b : Int) ≤ (90 : Int)) = false := by simp; omega
            clear c1 c2
            go_wp2_with fail
            go_ret
            exact ⟨by rw [HF.out]; rfl, rfl⟩
          · by_cases c4 : 65 ≤ b
            · have c4b : ¬ b ≤ 90 := by omega
              have q0 : decide ((97 : Int) ≤ (b : Int)) = false := by simp; omega
              have q1 : decide ((65 : Int) ≤ (b : Int)) = true := by simp; omega
              have q2 : decide ((b : Int) ≤ (90 : Int)) = false := by simp; omega
              clear c1 c2
              go_wp2_with fail
              go_ret
              exact ⟨by rw [HF.out]; rfl, rfl⟩
            · have q0 : decide ((97 : Int) ≤ (b : Int)) = false := by simp; omega
              have q1 : decide ((65 : Int) ≤ (b : Int)) = false := by simp; omega
              clear c1 c2
              go_wp2_with fail
              go_ret
              exact ⟨by rw [HF.out]; rfl, rfl⟩
    · obtain rfl : k = s.size := by omega
      have HF : Hid (Ch.name s = decide (s.size = 4)) := Ch.name_end HL.out
      clear HL
      by_cases h4 : s.size = 4
      · have hb : ((s.size : Int) == 4) = true := by simp; omega
        have HF2 : Hid (Ch.name s = true) := by show _ = _; rw [HF.out]; exact decide_eq_true h4
        clear h4 HF
        go_wp2_with fail
        go_ret
        exact ⟨by rw [HF2.out]; rfl, rfl⟩
      · have hb : ((s.size : Int) == 4) = false := by rw [beq_eq_false_iff_ne]; omega
        have HF2 : Hid (Ch.name s = false) := by show _ = _; rw [HF.out]; exact decide_eq_false h4
        clear h4 HF
        go_wp2_with fail
        go_ret
        exact ⟨by rw [HF2.out]; rfl, rfl⟩

set_option maxHeartbeats 1000000 in
theorem nameOk_any (s : ByteArray) (w : World) (hs : s.size ≤ 1048576) :
    Calls Try.prog 24 #[.string s] w fun e w' => e = .returned (.bool (Ch.name s)) ∧ w' = w := by
  go_enter Try.func24, Try.ntmps24
  go_wp2_with fail
  go_loop [7] (fun i => ∃ k : Nat, k ≤ s.size ∧ i = .int .i64 (k : Int) ∧ Hid (∀ j, j < k → Ch.letter (byteAt s j) = true)) (fun i => s.size - (intOf i).toNat)
  case atStart => exact ⟨0, Nat.zero_le _, rfl, fun j hj => absurd hj (Nat.not_lt_zero _)⟩
  case round =>
    obtain ⟨k, hk, rfl, HL⟩ := hrel
    by_cases hlt : k < s.size
    · have hki : (k : Int) < (s.size : Int) := by omega
      have hby := byteAt_eq s k hlt
      have hb256 := byteAt_lt s k
      have hor := Ch.or32_nat hb256
      have horl := Ch.or32_lt hb256
      have HNO : Hid (Ch.letter (byteAt s k) = false → Ch.name s = false) := Ch.name_no hlt
      have HYES : Hid (Ch.letter (byteAt s k) = true → ∀ j, j < k + 1 → Ch.letter (byteAt s j) = true) := fun h j hj => by
        by_cases e : j = k
        · rw [e]; exact h
        · exact HL.out j (by omega)
      rw [hor] at HNO HYES
      obtain ⟨c, hc⟩ : ∃ c, c = byteAt s k ||| 32 := ⟨_, rfl⟩
      rw [← hc] at HNO HYES horl
      have hcv : bits .or .u8 ((s[k]'hlt).toNat : Int) 32 = (c : Int) := by rw [hby, Ch.or32_bitsN hb256, hc]
      clear HL hor hc hby hb256
      by_cases c1 : 97 ≤ c
      · by_cases c2 : c ≤ 122
        · have HF := HYES.out (by simp; omega)
          have q0 : decide ((c : Int) < 97) = false := by simp; omega
          have q1 : decide ((122 : Int) < (c : Int)) = false := by simp; omega
          clear HNO HYES
          go_wp2_with fail
          go_round
          case rel => exact ⟨k + 1, by omega, by go_num, HF⟩
          case measure => simp [intOf]; omega
        · have HF : Hid (Ch.name s = false) := HNO.out (by simp; omega)
          have q0 : decide ((c : Int) < 97) = false := by simp; omega
          have q1 : decide ((122 : Int) < (c : Int)) = true := by simp; omega
          clear HNO HYES
          go_wp2_with fail
          go_ret
          exact ⟨by rw [HF.out]; rfl, rfl⟩
      · have HF : Hid (Ch.name s = false) := HNO.out (by simp; omega)
        have q0 : decide ((c : Int) < 97) = true := by simp; omega
        clear HNO HYES
        go_wp2_with fail
        go_ret
        exact ⟨by rw [HF.out]; rfl, rfl⟩
    · obtain rfl : k = s.size := by omega
      have HF : Hid (Ch.name s = decide (s.size = 4)) := Ch.name_end HL.out
      clear HL
      by_cases h4 : s.size = 4
      · have hb : ((s.size : Int) == 4) = true := by simp; omega
        have HF2 : Hid (Ch.name s = true) := by show _ = _; rw [HF.out]; exact decide_eq_true h4
        clear h4 HF
        go_wp2_with fail
        go_ret
        exact ⟨by rw [HF2.out]; rfl, rfl⟩
      · have hb : ((s.size : Int) == 4) = false := by rw [beq_eq_false_iff_ne]; omega
        have HF2 : Hid (Ch.name s = false) := by show _ = _; rw [HF.out]; exact decide_eq_false h4
        clear h4 HF
        go_wp2_with fail
        go_ret
        exact ⟨by rw [HF2.out]; rfl, rfl⟩
end Go.Proofs.Ytgbcjkpmiceddaa
