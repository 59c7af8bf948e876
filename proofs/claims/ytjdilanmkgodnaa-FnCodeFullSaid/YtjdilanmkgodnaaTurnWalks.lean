/- A number of so many bits the other way round: the specification's way, and the program's. -/
import Derived.Test.YtjdilanmkgodnaaProg
import Derived.Test.YtjdilanmkgodnaaBase
import Derived.Test.YtjdilanmkgodnaaBgMath
namespace Go.Proofs.Ytjdilanmkgodnaa
open Go.RowKit

/-- a number's bits the other way round -/
def turned (n size : Nat) : Nat := Bg.big (fun i => n / 2 ^ i % 2) size
theorem turned_lt (n size : Nat) : turned n size < 2 ^ size := Bg.big_lt _ (fun _ => Nat.mod_lt _ (by omega)) size

set_option maxHeartbeats 400000 in
theorem l3Turn_any (n size : Nat) (w : World) (hn : n ≤ 16777216) (hs : size ≤ 15) :
    Calls Try.prog 60 #[.int .i64 n, .int .i64 size] w fun e w' => e = .returned (.int .i64 (turned n size : Nat)) ∧ w' = w := by
  go_enter Try.func60, Try.ntmps60
  go_wp2_with fail
  go_loop [0, 5, 6] (fun m x i => ∃ k y z : Nat, k ≤ size ∧ i = .int .i64 k ∧ y = turned n k ∧ x = .int .i64 y ∧ z = n / 2 ^ k ∧ m = .int .i64 z) (fun _ _ i => size - (intOf i).toNat)
  case atStart => exact ⟨0, 0, n, Nat.zero_le _, rfl, rfl, rfl, by simp, rfl⟩
  case round =>
    obtain ⟨k, y, z, hk, rfl, hy, rfl, hz, rfl⟩ := hrel
    have hyl := turned_lt n k
    have hp : 2 ^ k ≤ 2 ^ 15 := Nat.pow_le_pow_right (by omega) (by omega)
    have hzl : z ≤ n := by rw [hz]; exact Nat.div_le_self _ _
    rw [← hy] at hyl
    have hyb : y ≤ 32768 := by omega
    have HY : Hid (2 * y + z % 2 = turned n (k + 1)) := by show _ = _; rw [hy, hz]; rfl
    have HZ : Hid (z / 2 = n / 2 ^ (k + 1)) := by show _ = _; rw [hz, Nat.div_div_eq_div_mul, Nat.pow_succ]
    have HX : Hid (y = turned n k) := hy
    clear hy hz hyl hp
    by_cases hlt : k < size
    · go_wp2_with fail
      go_round
      case rel => exact ⟨k + 1, 2 * y + z % 2, z / 2, by omega, by go_num, HY.out, by go_num, HZ.out, by go_num⟩
      case measure => simp [intOf]; omega
    · have hk' : k = size := by omega
      subst hk'
      go_wp2_with fail
      go_ret
      exact ⟨ret_int (by rw [HX.out]), rfl⟩

theorem or_turn (y z v : Nat) (hy : y ≤ 32768) (hz : z ≤ 16777216) (hv : v = 2 * y + z % 2) : bits .or .i64 ((y : Int) * 2) (bits .and .i64 (z : Int) 1) = (v : Int) := by
  have h1 := i64_and_nat z 1 (by omega) (by omega)
  rw [show ((1 : Nat) : Int) = 1 from rfl, Nat.and_one_is_mod] at h1
  rw [h1, show (y : Int) * 2 = ((2 * y : Nat) : Int) by omega, i64_or_nat _ _ (by omega) (by omega), hv]
  congr 1
  have h2 : z % 2 < 2 ^ 1 := by omega
  have := Nat.two_pow_add_eq_or_of_lt h2 y
  rw [Nat.pow_one] at this
  omega

set_option maxHeartbeats 400000 in
theorem turnRound_any (n size : Nat) (w : World) (hn : n ≤ 16777216) (hs : size ≤ 15) :
    Calls Try.prog 59 #[.int .i64 n, .int .i64 size] w fun e w' => e = .returned (.int .i64 (turned n size : Nat)) ∧ w' = w := by
  go_enter Try.func59, Try.ntmps59
  go_wp2_with fail
  go_loop [0, 5, 7] (fun m x i => ∃ k y z : Nat, k ≤ size ∧ i = .int .i64 k ∧ y = turned n k ∧ x = .int .i64 y ∧ z = n / 2 ^ k ∧ m = .int .i64 z) (fun _ _ i => size - (intOf i).toNat)
  case atStart => exact ⟨0, 0, n, Nat.zero_le _, rfl, rfl, rfl, by simp, rfl⟩
  case round =>
    obtain ⟨k, y, z, hk, rfl, hy, rfl, hz, rfl⟩ := hrel
    have hyl := turned_lt n k
    have hp : 2 ^ k ≤ 2 ^ 15 := Nat.pow_le_pow_right (by omega) (by omega)
    have hzl : z ≤ n := by rw [hz]; exact Nat.div_le_self _ _
    rw [← hy] at hyl
    have hyb : y ≤ 32768 := by omega
    have hzb : z ≤ 16777216 := by omega
    obtain ⟨v, hv⟩ : ∃ v, v = 2 * y + z % 2 := ⟨_, rfl⟩
    have hor := or_turn y z v hyb hzb hv
    have HY : Hid (v = turned n (k + 1)) := by show _ = _; rw [hv, hy, hz]; rfl
    have HZ : Hid (z / 2 = n / 2 ^ (k + 1)) := by show _ = _; rw [hz, Nat.div_div_eq_div_mul, Nat.pow_succ]
    have HX : Hid (y = turned n k) := hy
    clear hy hz hyl hp hv
    by_cases hlt : k < size
    · go_wp2_with fail
      go_round
      case rel => exact ⟨k + 1, v, z / 2, by omega, by go_num, HY.out, by first | rfl | go_num, HZ.out, by go_num⟩
      case measure => simp [intOf]; omega
    · have hk' : k = size := by omega
      subst hk'
      go_wp2_with fail
      go_ret
      exact ⟨ret_int (by rw [HX.out]), rfl⟩
end Go.Proofs.Ytjdilanmkgodnaa
