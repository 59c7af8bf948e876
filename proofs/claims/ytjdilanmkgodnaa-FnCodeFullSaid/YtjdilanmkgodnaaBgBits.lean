/- Bits of a text as the specification reads them. -/
import Derived.Test.YtjdilanmkgodnaaInWalks
import Derived.Test.YtjdilanmkgodnaaPowWalks
import Derived.Test.YtjdilanmkgodnaaBgMath
namespace Go.Proofs.Ytjdilanmkgodnaa
open Go.RowKit

/-- a bit of a text -/
def bitAt (s : ByteArray) (hi : Bool) (i : Nat) : Nat := byteAt s (i / 8) / 2 ^ Bg.spot hi i % 2
theorem bitAt_lt (s : ByteArray) (hi : Bool) (i : Nat) : bitAt s hi i < 2 := Nat.mod_lt _ (by omega)

set_option maxHeartbeats 400000 in
theorem l1Bit_low (s : ByteArray) (i : Nat) (w : World) (h : i / 8 < s.size) (hs : s.size ≤ 9000) :
    Calls Try.prog 58 #[.string s, .int .i64 i, .bool false] w fun e w' => e = .returned (.int .i64 (bitAt s false i : Nat)) ∧ ∃ m, w' = w.drewN m := by
  obtain ⟨j, hj⟩ : ∃ j, j = i / 8 := ⟨_, rfl⟩
  obtain ⟨p, hp⟩ : ∃ p, p = i % 8 := ⟨_, rfl⟩
  have hjs : j < s.size := by omega
  have hbe := byteAt_eq s j hjs
  have hbl := byteAt_lt s j
  obtain ⟨Q, hQ⟩ : ∃ Q, Q = 2 ^ p := ⟨_, rfl⟩
  have hQ1 : 0 < Q := by rw [hQ]; exact Nat.pow_pos (by omega)
  have hQ2 : Q ≤ 128 := by rw [hQ]; exact Nat.le_trans (Nat.pow_le_pow_right (by omega) (show p ≤ 7 by omega)) (by decide)
  have HP : Hid (∀ w : World, Calls Try.prog 50 #[.int .i64 (p : Int)] w fun e w' => e = .returned (.int .i64 (Q : Int)) ∧ w' = w) := by
    intro w
    have := l1Pow_any p w (by omega)
    rw [← hQ] at this
    exact this
  have HB : Hid (bitAt s false i = byteAt s j / Q % 2) := by show _ = _; unfold bitAt Bg.spot; rw [hQ, hp, hj]; rfl
  have hi8 : i ≤ 80000 := by omega
  have e1 : (i : Int) / 8 = (j : Int) := by omega
  have e2 : (i : Int) % 8 = (p : Int) := by omega
  have e3 : (i : Int).tdiv 8 = (j : Int) := by rw [Int.tdiv_eq_ediv_of_nonneg (by omega)]; exact e1
  have hji : (j : Int) < (s.size : Int) := by omega
  obtain ⟨D, hD⟩ : ∃ D, D = byteAt s j / Q := ⟨_, rfl⟩
  have hDl : D < 256 := by rw [hD]; exact Nat.lt_of_le_of_lt (Nat.div_le_self _ _) hbl
  have e4 : ((byteAt s j : Nat) : Int).tdiv (Q : Int) = (D : Int) := by rw [Int.tdiv_eq_ediv_of_nonneg (by omega), hD]; rfl
  have e5 := wrap_i64_nat j (by omega)
  have e6 := wrap_i64_nat (byteAt s j) (by omega)
  have e7 := wrap_i64_nat D (by omega)
  have e8 : (D : Int).tmod 2 = ((D % 2 : Nat) : Int) := by rw [Int.tmod_eq_emod_of_nonneg (by omega)]; rfl
  have hne : ((Q : Int) == 0) = false := by rw [beq_eq_false_iff_ne]; omega
  have hne' : ¬ Q = 0 := by omega
  rw [← hD] at HB
  clear hQ hp hj h hD
  go_enter Try.func58, Try.ntmps58
  go_wp2_with fail
  rw [e2]
  go_quiet ((go_at_call 50; exact Calls.quiet_of_same (HP.out _)))
  go_wp2_with fail
  go_ret
  exact ⟨ret_int (by rw [HB.out]; omega), nq, rfl⟩
set_option maxHeartbeats 400000 in
theorem l1Bit_high (s : ByteArray) (i : Nat) (w : World) (h : i / 8 < s.size) (hs : s.size ≤ 9000) :
    Calls Try.prog 58 #[.string s, .int .i64 i, .bool true] w fun e w' => e = .returned (.int .i64 (bitAt s true i : Nat)) ∧ ∃ m, w' = w.drewN m := by
  obtain ⟨j, hj⟩ : ∃ j, j = i / 8 := ⟨_, rfl⟩
  obtain ⟨p, hp⟩ : ∃ p, p = 7 - i % 8 := ⟨_, rfl⟩
  have hjs : j < s.size := by omega
  have hbe := byteAt_eq s j hjs
  have hbl := byteAt_lt s j
  obtain ⟨Q, hQ⟩ : ∃ Q, Q = 2 ^ p := ⟨_, rfl⟩
  have hQ1 : 0 < Q := by rw [hQ]; exact Nat.pow_pos (by omega)
  have hQ2 : Q ≤ 128 := by rw [hQ]; exact Nat.le_trans (Nat.pow_le_pow_right (by omega) (show p ≤ 7 by omega)) (by decide)
  have HP : Hid (∀ w : World, Calls Try.prog 50 #[.int .i64 (p : Int)] w fun e w' => e = .returned (.int .i64 (Q : Int)) ∧ w' = w) := by
    intro w
    have := l1Pow_any p w (by omega)
    rw [← hQ] at this
    exact this
  have HB : Hid (bitAt s true i = byteAt s j / Q % 2) := by show _ = _; unfold bitAt Bg.spot; rw [hQ, hp, hj]; rfl
  have hi8 : i ≤ 80000 := by omega
  have e1 : (i : Int) / 8 = (j : Int) := by omega
  have e2 : (7 : Int) - (i : Int) % 8 = (p : Int) := by omega
  have e3 : (i : Int).tdiv 8 = (j : Int) := by rw [Int.tdiv_eq_ediv_of_nonneg (by omega)]; exact e1
  have hji : (j : Int) < (s.size : Int) := by omega
  obtain ⟨D, hD⟩ : ∃ D, D = byteAt s j / Q := ⟨_, rfl⟩
  have hDl : D < 256 := by rw [hD]; exact Nat.lt_of_le_of_lt (Nat.div_le_self _ _) hbl
  have e4 : ((byteAt s j : Nat) : Int).tdiv (Q : Int) = (D : Int) := by rw [Int.tdiv_eq_ediv_of_nonneg (by omega), hD]; rfl
  have e5 := wrap_i64_nat j (by omega)
  have e6 := wrap_i64_nat (byteAt s j) (by omega)
  have e7 := wrap_i64_nat D (by omega)
  have e8 : (D : Int).tmod 2 = ((D % 2 : Nat) : Int) := by rw [Int.tmod_eq_emod_of_nonneg (by omega)]; rfl
  have hne : ((Q : Int) == 0) = false := by rw [beq_eq_false_iff_ne]; omega
  have hne' : ¬ Q = 0 := by omega
  rw [← hD] at HB
  clear hQ hp hj h hD
  go_enter Try.func58, Try.ntmps58
  go_wp2_with fail
  go_quiet ((go_at_call 50; exact Calls.quiet_of_same (HP.out _)))
  go_wp2_with fail
  go_ret
  exact ⟨ret_int (by rw [HB.out]; omega), nq, rfl⟩

theorem l1Bit_any (s : ByteArray) (i : Nat) (hi : Bool) (w : World) (h : i / 8 < s.size) (hs : s.size ≤ 9000) :
    Calls Try.prog 58 #[.string s, .int .i64 i, .bool hi] w fun e w' => e = .returned (.int .i64 (bitAt s hi i : Nat)) ∧ ∃ m, w' = w.drewN m := by
  cases hi
  · exact l1Bit_low s i w h hs
  · exact l1Bit_high s i w h hs

end Go.Proofs.Ytjdilanmkgodnaa
