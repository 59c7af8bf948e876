/- What the functions that read a number of some bytes return. -/
import Derived.Test.YtgbcjkpmiceddaaInWalks
import Derived.Test.YtgbcjkpmiceddaaOrdWalks
import Derived.Test.YtgbcjkpmiceddaaNmMath
namespace Go.Proofs.Ytgbcjkpmiceddaa
open Go.RowKit

set_option maxHeartbeats 400000 in
theorem l1Field_big (s : ByteArray) (at_ size : Nat) (w : World) (h : at_ + size ≤ s.size) (hs : s.size ≤ 9000) (h4 : size ≤ 4) :
    Calls Try.prog 35 #[.string s, .int .i64 at_, .int .i64 size, .bool true] w fun e w' => e = .returned (.int .i64 (Nm.big (fun i => byteAt s (at_ + i)) size : Nat)) ∧ w' = w := by
  have hd : decide ((s.size : Int) < (at_ : Int) + (size : Int)) = false := by simp; omega
  go_enter Try.func35, Try.ntmps35
  go_wp2_with fail
  go_loop [9, 10] (fun n i => ∃ k : Nat, k ≤ size ∧ i = .int .i64 k ∧ n = .int .i64 (Nm.big (fun i => byteAt s (at_ + i)) k : Nat)) (fun _ i => size - (intOf i).toNat)
  case atStart => exact ⟨0, Nat.zero_le _, rfl, rfl⟩
  case round =>
    obtain ⟨k, hk, rfl, rfl⟩ := hrel
    have hb := Nm.big_lt (fun i => byteAt s (at_ + i)) (fun i => byteAt_lt _ _) k
    have hp : 256 ^ k ≤ 256 ^ 4 := Nat.pow_le_pow_right (by omega) (by omega)
    by_cases hlt : k < size
    · have hbe := byteAt_eq s (at_ + k) (by omega)
      have hbl := byteAt_lt s (at_ + k)
      have HN : Hid (Nm.big (fun i => byteAt s (at_ + i)) (k + 1) = 256 * Nm.big (fun i => byteAt s (at_ + i)) k + byteAt s (at_ + k)) := rfl
      generalize Nm.big (fun i => byteAt s (at_ + i)) k = x at *
      generalize 256 ^ k = p at *
      go_wp2_with fail
      go_round
      case rel => exact ⟨k + 1, by omega, by go_num, by rw [HN.out]; go_num⟩
      case measure => simp [intOf]; omega
    · have hk' : k = size := by omega
      subst hk'
      go_wp2_with fail
      go_ret
      exact ⟨rfl, rfl⟩

set_option maxHeartbeats 400000 in
theorem l1Field_low (s : ByteArray) (at_ size : Nat) (w : World) (h : at_ + size ≤ s.size) (hs : s.size ≤ 9000) (h4 : size ≤ 4) :
    Calls Try.prog 35 #[.string s, .int .i64 at_, .int .i64 size, .bool false] w fun e w' => e = .returned (.int .i64 (Nm.low (fun i => byteAt s (at_ + i)) size : Nat)) ∧ w' = w := by
  have hd : decide ((s.size : Int) < (at_ : Int) + (size : Int)) = false := by simp; omega
  go_enter Try.func35, Try.ntmps35
  go_wp2_with fail
  go_loop [9, 10] (fun n i => ∃ k : Nat, k ≤ size ∧ i = .int .i64 k ∧ n = .int .i64 (Nm.back (fun i => byteAt s (at_ + i)) size k : Nat)) (fun _ i => size - (intOf i).toNat)
  case atStart => exact ⟨0, Nat.zero_le _, rfl, rfl⟩
  case round =>
    obtain ⟨k, hk, rfl, rfl⟩ := hrel
    have hb := Nm.back_lt (fun i => byteAt s (at_ + i)) size (fun i => byteAt_lt _ _) k
    have hp : 256 ^ k ≤ 256 ^ 4 := Nat.pow_le_pow_right (by omega) (by omega)
    by_cases hlt : k < size
    · have hbe := byteAt_eq s (at_ + size - 1 - k) (by omega)
      have hbl := byteAt_lt s (at_ + size - 1 - k)
      have HN : Hid (Nm.back (fun i => byteAt s (at_ + i)) size (k + 1) = 256 * Nm.back (fun i => byteAt s (at_ + i)) size k + byteAt s (at_ + size - 1 - k)) := by
        show _ = _; rw [show at_ + size - 1 - k = at_ + (size - 1 - k) from by omega]; rfl
      generalize Nm.back (fun i => byteAt s (at_ + i)) size k = x at *
      generalize 256 ^ k = p at *
      go_wp2_with fail
      go_round
      case rel => exact ⟨k + 1, by omega, by go_num, by rw [HN.out]; go_num⟩
      case measure => simp [intOf]; omega
    · have hk' : k = size := by omega
      subst hk'
      rw [Nm.back_all] at hb ⊢
      go_wp2_with fail
      go_ret
      exact ⟨rfl, rfl⟩

/-- whether a number of so many bytes is there -/
def NumThere (n : Nat) (at_ size : Int) : Prop := 1 ≤ size ∧ size ≤ 4 ∧ n ≤ 9000 ∧ 0 ≤ at_ ∧ at_ ≤ (n : Int) - size

theorem run_shl8 (b k z : Nat) (hb : b < 256) (hk : k < 4) (hz : z = b * 256 ^ k) (w : World) :
    Sem.run Try.prog (Op.shift BinOp.shl IntKind.i64 (IntKind.i64.wrap (b : Int)) IntKind.i64 (IntKind.i64.wrap (8 * (k : Int)))) w = .ok (.int .i64 (z : Int)) w := by
  have hw : IntKind.i64.wrap (8 * (k : Int)) = ((8 * k : Nat) : Int) := by
    rw [← wrap_i64_nat (8 * k) (by omega)]; congr 1
  rw [hw, wrap_i64_nat b (by omega), shift_shl_any _ _ _ _ (by omega)]
  subst hz
  have e : ((b : Int) * 2 ^ min ((8 * k : Nat) : Int).toNat IntKind.i64.bits) = ((b * 256 ^ k : Nat) : Int) := by
    have h4 : k = 0 ∨ k = 1 ∨ k = 2 ∨ k = 3 := by omega
    rcases h4 with rfl | rfl | rfl | rfl <;> simp [IntKind.bits]
  rw [e, wrap_i64_nat _ ?_]
  · rfl
  · have h1 : b * 256 ^ k ≤ 255 * 256 ^ 3 := Nat.mul_le_mul (by omega) (Nat.pow_le_pow_right (by omega) (by omega))
    omega

theorem or_low (x b k z y : Nat) (hx : x < 256 ^ k) (hb : b < 256) (hk : k < 4) (hz : z = b * 256 ^ k) (hy : y = x + b * 256 ^ k) :
    bits .or .i64 (x : Int) (z : Int) = (y : Int) := by
  have h3 : 256 ^ k ≤ 256 ^ 3 := Nat.pow_le_pow_right (by omega) (by omega)
  have h1 : b * 256 ^ k ≤ 255 * 256 ^ 3 := Nat.mul_le_mul (by omega) h3
  rw [i64_or_nat _ _ (by omega) (by omega)]
  have e : (256 : Nat) ^ k = 2 ^ (8 * k) := by rw [Nat.pow_mul]
  have := nat_join (8 * k) z x (by rw [hz, e, Nat.mul_mod_left]) (by rw [← e]; exact hx)
  rw [Nat.or_comm, this]
  omega

set_option maxHeartbeats 400000 in
theorem impl_numGet_low (s : ByteArray) (A S : Nat) (w : World) (h1 : 1 ≤ S) (h2 : S ≤ 4) (h3 : s.size ≤ 9000) (h4 : A + S ≤ s.size) :
    Calls Try.prog 41 #[.string s, .int .i64 A, .int .i64 S, .bool false] w fun e w' => e = .returned (.tuple #[.int .i64 (Nm.low (fun i => byteAt s (A + i)) S : Nat), .bool true]) ∧ Below w.heap.size w w' := by
  have hh : decide ((9000 : Int) < (s.size : Int)) = false := by simp; omega
  have hd : decide ((s.size : Int) - (S : Int) < (A : Int)) = false := by simp; omega
  have hd4 : decide ((4 : Int) < (S : Int)) = false := by simp; omega
  have hd1 : decide ((S : Int) < 1) = false := by simp; omega
  have hd0 : decide ((A : Int) < 0) = false := by simp
  go_enter Try.func41, Try.ntmps41
  go_wp2_with fail
  refine (orderOf_low _).mono ?_
  rintro e w1 ⟨rfl, rfl⟩
  go_wp2_with fail
  go_loopw [11, 39] (fun n i wr => ∃ k m : Nat, k ≤ S ∧ i = .int .i64 k ∧ n = .int .i64 (Nm.low (fun i => byteAt s (A + i)) k : Nat) ∧ wr = w1.drewN m) (fun _ i _ => S - (intOf i).toNat)
  case atStart => exact ⟨0, 0, Nat.zero_le _, rfl, rfl, rfl⟩
  case round =>
    obtain ⟨k, m, hk, rfl, rfl, rfl⟩ := hrel
    have hb := Nm.low_lt (fun i => byteAt s (A + i)) (fun i => byteAt_lt _ _) k
    by_cases hlt : k < S
    · obtain ⟨j, hj⟩ : ∃ j : Nat, j = A + k := ⟨_, rfl⟩
      have hjs : j < s.size := by omega
      have hbe := byteAt_eq s j hjs
      have hbl := byteAt_lt s j
      have HN : Hid (Nm.low (fun i => byteAt s (A + i)) (k + 1) = Nm.low (fun i => byteAt s (A + i)) k + byteAt s j * 256 ^ k) := by rw [hj]; rfl
      generalize Nm.low (fun i => byteAt s (A + i)) k = x at *
      have hix : (j : Int) < (s.size : Int) := by omega
      have hwr : IntKind.i64.wrap ((A : Int) + (k : Int)) = (j : Int) := by
        rw [← wrap_i64_nat j (by omega), hj]; congr 1
      obtain ⟨z, hz⟩ : ∃ z, z = byteAt s j * 256 ^ k := ⟨_, rfl⟩
      obtain ⟨y, hy⟩ : ∃ y, y = x + byteAt s j * 256 ^ k := ⟨_, rfl⟩
      have hsh := run_shl8 (byteAt s j) k z hbl (by omega) hz
      have hor := or_low x (byteAt s j) k z y hb hbl (by omega) hz hy
      rw [← hy] at HN
      clear hj hz hy
      go_wp2_with fail
      go_region_with (go_at_call 45; refine (order_low _ _ _).mono ?_; rintro e w' ⟨rfl, rfl⟩)
      all_goals go_wp2_with fail
      all_goals
        go_roundw
        case rel => exact ⟨k + 1, m + 1, by omega, by go_num, by rw [HN.out], rfl⟩
        case measure => simp [intOf]; omega
    · have hk' : k = S := by omega
      subst hk'
      go_wp2_with fail
      go_ret2
      exact ⟨rfl, below_drewN (Below.refl _ _) _⟩

theorem run_shl8h (b k S z : Nat) (hb : b < 256) (hk : k < S) (hS : S ≤ 4) (hz : z = b * 256 ^ (S - 1 - k)) (w : World) :
    Sem.run Try.prog (Op.shift BinOp.shl IntKind.i64 (IntKind.i64.wrap (b : Int)) IntKind.i64 (IntKind.i64.wrap (8 * ((S : Int) - 1 - (k : Int))))) w = .ok (.int .i64 (z : Int)) w := by
  have e : (S : Int) - 1 - (k : Int) = ((S - 1 - k : Nat) : Int) := by omega
  rw [e]
  exact run_shl8 b (S - 1 - k) z hb (by omega) hz w

theorem or_high (x b k S z y : Nat) (hx : x < 256 ^ k) (hb : b < 256) (hk : k < S) (hS : S ≤ 4) (hz : z = b * 256 ^ (S - 1 - k)) (hy : y = (256 * x + b) * 256 ^ (S - (k + 1))) :
    bits .or .i64 ((x * 256 ^ (S - k) : Nat) : Int) (z : Int) = (y : Int) := by
  have h3 : 256 ^ (S - 1 - k) ≤ 256 ^ 3 := Nat.pow_le_pow_right (by omega) (by omega)
  have h1 : b * 256 ^ (S - 1 - k) ≤ 255 * 256 ^ 3 := Nat.mul_le_mul (by omega) h3
  have h4 : x * 256 ^ (S - k) < 256 ^ k * 256 ^ (S - k) := Nat.mul_lt_mul_of_pos_right hx (Nat.pow_pos (by omega))
  have h5 : 256 ^ k * 256 ^ (S - k) = 256 ^ S := by rw [← Nat.pow_add]; congr 1; omega
  have h6 : 256 ^ S ≤ 256 ^ 4 := Nat.pow_le_pow_right (by omega) hS
  have h7 : z < 256 ^ (S - k) := by
    have e : S - k = (S - 1 - k) + 1 := by omega
    rw [hz, e, Nat.pow_succ]
    have := Nat.mul_le_mul_right (256 ^ (S - 1 - k)) (show b ≤ 255 by omega)
    have hp : 0 < 256 ^ (S - 1 - k) := Nat.pow_pos (by omega)
    omega
  rw [i64_or_nat _ _ (by omega) (by omega)]
  have e : (256 : Nat) ^ (S - k) = 2 ^ (8 * (S - k)) := by rw [Nat.pow_mul]
  have := nat_join (8 * (S - k)) (x * 256 ^ (S - k)) z (by rw [e, Nat.mul_mod_left]) (by rw [← e]; exact h7)
  rw [this, hy, hz]
  have e2 : S - k = (S - (k + 1)) + 1 := by omega
  have e3 : S - 1 - k = S - (k + 1) := by omega
  rw [e2, e3, Nat.pow_succ, Nat.add_mul]
  congr 2
  generalize 256 ^ (S - (k + 1)) = p
  rw [← Nat.mul_assoc, Nat.mul_right_comm, Nat.mul_comm 256 x]

set_option maxHeartbeats 400000 in
theorem impl_numGet_high (s : ByteArray) (A S : Nat) (w : World) (h1 : 1 ≤ S) (h2 : S ≤ 4) (h3 : s.size ≤ 9000) (h4 : A + S ≤ s.size) :
    Calls Try.prog 41 #[.string s, .int .i64 A, .int .i64 S, .bool true] w fun e w' => e = .returned (.tuple #[.int .i64 (Nm.big (fun i => byteAt s (A + i)) S : Nat), .bool true]) ∧ Below w.heap.size w w' := by
  have hh : decide ((9000 : Int) < (s.size : Int)) = false := by simp; omega
  have hd : decide ((s.size : Int) - (S : Int) < (A : Int)) = false := by simp; omega
  have hd4 : decide ((4 : Int) < (S : Int)) = false := by simp; omega
  have hd1 : decide ((S : Int) < 1) = false := by simp; omega
  have hd0 : decide ((A : Int) < 0) = false := by simp
  go_enter Try.func41, Try.ntmps41
  go_wp2_with fail
  refine (orderOf_high _).mono ?_
  rintro e w1 ⟨rfl, rfl⟩
  go_wp2_with fail
  go_loopw [11, 39] (fun n i wr => ∃ k m x : Nat, k ≤ S ∧ i = .int .i64 k ∧ x = Nm.big (fun i => byteAt s (A + i)) k * 256 ^ (S - k) ∧ n = .int .i64 x ∧ wr = w1.drewN m) (fun _ i _ => S - (intOf i).toNat)
  case atStart => exact ⟨0, 0, 0, Nat.zero_le _, rfl, by simp [Nm.big], rfl, rfl⟩
  case round =>
    obtain ⟨k, m, x, hk, rfl, hx, rfl, rfl⟩ := hrel
    have hb := Nm.big_lt (fun i => byteAt s (A + i)) (fun i => byteAt_lt _ _) k
    by_cases hlt : k < S
    · obtain ⟨j, hj⟩ : ∃ j : Nat, j = A + k := ⟨_, rfl⟩
      have hjs : j < s.size := by omega
      have hbe := byteAt_eq s j hjs
      have hbl := byteAt_lt s j
      have HN : Hid (Nm.big (fun i => byteAt s (A + i)) (k + 1) * 256 ^ (S - (k + 1)) = (256 * Nm.big (fun i => byteAt s (A + i)) k + byteAt s j) * 256 ^ (S - (k + 1))) := by rw [hj]; rfl
      generalize Nm.big (fun i => byteAt s (A + i)) k = q at *
      have hix : (j : Int) < (s.size : Int) := by omega
      have hwr : IntKind.i64.wrap ((A : Int) + (k : Int)) = (j : Int) := by
        rw [← wrap_i64_nat j (by omega), hj]; congr 1
      obtain ⟨z, hz⟩ : ∃ z, z = byteAt s j * 256 ^ (S - 1 - k) := ⟨_, rfl⟩
      obtain ⟨y, hy⟩ : ∃ y, y = (256 * q + byteAt s j) * 256 ^ (S - (k + 1)) := ⟨_, rfl⟩
      have hsh := run_shl8h (byteAt s j) k S z hbl hlt h2 hz
      have hor := or_high q (byteAt s j) k S z y hb hbl hlt h2 hz hy
      rw [← hx] at hor
      rw [← hy] at HN
      clear hj hz hy hx hb
      go_wp2_with fail
      go_region_with (go_at_call 44; refine (order_high _ _ _ (by omega) (by omega) (by omega)).mono ?_; rintro e w' ⟨rfl, rfl⟩)
      all_goals go_wp2_with fail
      all_goals
        go_roundw
        case rel => exact ⟨k + 1, m + 1, y, by omega, by go_num, HN.out.symm, rfl, rfl⟩
        case measure => simp [intOf]; omega
    · have hk' : k = S := by omega
      subst hk'
      rw [Nat.sub_self, Nat.pow_zero, Nat.mul_one] at hx
      have HX : Hid (x = _) := hx
      clear hx hb
      go_wp2_with fail
      go_ret2
      exact ⟨by rw [HX.out]; rfl, below_drewN (Below.refl _ _) _⟩

theorem impl_numGet_yes (s : ByteArray) (at_ size : Int) (hi : Bool) (w : World) (h : NumThere s.size at_ size) :
    Calls Try.prog 41 #[.string s, .int .i64 at_, .int .i64 size, .bool hi] w fun e w' => e = .returned (.tuple #[.int .i64 (Nm.num (fun i => byteAt s (at_.toNat + i)) size.toNat hi : Nat), .bool true]) ∧ Below w.heap.size w w' := by
  obtain ⟨h1, h2, h3, h4, h5⟩ := h
  obtain ⟨A, rfl⟩ := Int.eq_ofNat_of_zero_le h4
  obtain ⟨S, rfl⟩ := Int.eq_ofNat_of_zero_le (show 0 ≤ size by omega)
  rw [Int.toNat_natCast, Int.toNat_natCast]
  cases hi
  · exact impl_numGet_low s A S w (by omega) (by omega) h3 (by omega)
  · exact impl_numGet_high s A S w (by omega) (by omega) h3 (by omega)

set_option maxHeartbeats 400000 in
theorem impl_numGet_no (s : ByteArray) (at_ size : Int) (hi : Bool) (w : World) (hs : s.size ≤ 1048576) (h : ¬ NumThere s.size at_ size) :
    Calls Try.prog 41 #[.string s, .int .i64 at_, .int .i64 size, .bool hi] w fun e w' => e = .returned (.tuple #[.int .i64 0, .bool false]) ∧ w' = w := by
  unfold NumThere at h
  by_cases a1 : size < 1
  · clear h
    go_enter Try.func41, Try.ntmps41
    go_wp2_with fail
    go_ret2
    exact ⟨rfl, rfl⟩
  · have hd1 : decide (size < 1) = false := by simpa using a1
    by_cases a2 : 4 < size
    · clear h
      go_enter Try.func41, Try.ntmps41
      go_wp2_with fail
      go_ret2
      exact ⟨rfl, rfl⟩
    · have hd2 : decide (4 < size) = false := by simpa using a2
      by_cases a3 : 9000 < s.size
      · clear h
        go_enter Try.func41, Try.ntmps41
        go_wp2_with fail
        go_ret2
        exact ⟨rfl, rfl⟩
      · have hd3 : decide ((9000 : Int) < (s.size : Int)) = false := by simp; omega
        by_cases a4 : at_ < 0
        · clear h
          go_enter Try.func41, Try.ntmps41
          go_wp2_with fail
          go_ret2
          exact ⟨rfl, rfl⟩
        · have hd4 : decide (at_ < 0) = false := by simpa using a4
          have a5 : (s.size : Int) - size < at_ := by omega
          clear h
          go_enter Try.func41, Try.ntmps41
          go_wp2_with fail
          go_ret2
          exact ⟨rfl, rfl⟩

end Go.Proofs.Ytgbcjkpmiceddaa
