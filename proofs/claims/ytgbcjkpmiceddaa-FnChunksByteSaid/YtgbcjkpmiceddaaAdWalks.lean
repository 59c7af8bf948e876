/- What the functions of the Adler sum return, for every sum and every text. -/
import Derived.Test.YtgbcjkpmiceddaaProg
import Derived.Test.YtgbcjkpmiceddaaAdMath
import Derived.Test.YtgbcjkpmiceddaaBase
namespace Go.Proofs.Ytgbcjkpmiceddaa
open Go.RowKit

/-- 'b << 16 ' joined with a low part -/
theorem or_join (a b : Int) (h1 : 0 ≤ a) (h2 : a ≤ 65535) (h3 : 0 ≤ b) (h4 : b ≤ 65535) : bits .or .i64 (b * 65536) a = b * 65536 + a := by
  obtain ⟨A, rfl⟩ := Int.eq_ofNat_of_zero_le h1
  obtain ⟨B, rfl⟩ := Int.eq_ofNat_of_zero_le h3
  have e : ((B : Int) * 65536) = ((B * 65536 : Nat) : Int) := by omega
  rw [e, i64_or_nat _ _ (by omega) (by omega), nat_join 16 (B * 65536) A (by omega) (by omega)]
  omega

theorem and_low (a : Int) (h1 : 0 ≤ a) (h2 : a ≤ 4294967295) : bits .and .i64 a 65535 = a % 65536 := by
  obtain ⟨A, rfl⟩ := Int.eq_ofNat_of_zero_le h1
  have := i64_and_nat A 65535 (by omega) (by omega)
  rw [show ((65535 : Nat) : Int) = 65535 from rfl] at this
  rw [this, Nat.and_two_pow_sub_one_eq_mod A 16]
  omega

set_option maxHeartbeats 400000 in
theorem sumOk_yes (sum : Int) (s : ByteArray) (w : World) (h0 : 0 ≤ sum) (h1 : sum ≤ 4294967295) (h2 : s.size ≤ 9000) :
    Calls Try.prog 46 #[.int .i64 sum, .string s] w fun e w' => e = .returned (.bool true) ∧ w' = w := by
  have hd : decide ((s.size : Int) ≤ 9000) = true := by simp; omega
  go_enter Try.func46, Try.ntmps46
  go_wp2
  go_ret
  exact ⟨rfl, rfl⟩

set_option maxHeartbeats 400000 in
theorem sumOk_no (sum : Int) (s : ByteArray) (w : World) (hs : s.size ≤ maxLen) (h : sum < 0 ∨ 4294967295 < sum ∨ 9000 < s.size) :
    Calls Try.prog 46 #[.int .i64 sum, .string s] w fun e w' => e = .returned (.bool false) ∧ w' = w := by
  unfold maxLen at hs
  by_cases h0 : sum < 0
  · have hd : decide (0 ≤ sum) = false := by simp; omega
    clear h
    go_enter Try.func46, Try.ntmps46
    go_wp2
    go_ret
    exact ⟨rfl, rfl⟩
  · have h0' : 0 ≤ sum := by omega
    clear h0
    by_cases h1 : 4294967295 < sum
    · have hd : decide (sum ≤ 4294967295) = false := by simp; omega
      clear h
      go_enter Try.func46, Try.ntmps46
      go_wp2
      go_ret
      exact ⟨rfl, rfl⟩
    · have h1' : sum ≤ 4294967295 := by omega
      have hd : decide ((s.size : Int) ≤ 9000) = false := by simp; omega
      clear h h1
      go_enter Try.func46, Try.ntmps46
      go_wp2
      go_ret
      exact ⟨rfl, rfl⟩

end Go.Proofs.Ytgbcjkpmiceddaa
