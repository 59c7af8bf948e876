/- What the functions that write a number in bytes return. -/
import Derived.Test.YtbfeonhokagdjaaDoorKEPnmPutx0
namespace Go.Proofs.YtbfeonhokagdjaaDoor
open Go.RowKit

theorem str_cons (c : UInt8) (l : List UInt8) : (ByteArray.mk #[c] ++ ByteArray.mk l.toArray) = ByteArray.mk (c :: l).toArray := ByteArray.mk_append_mk [c] l

set_option maxHeartbeats 400000 in
theorem l1Num_big (n size : Nat) (w : World) (hn : n ≤ 4294967295) (hs : size ≤ 4) :
    Calls Tryd.prog 55 #[.int .i64 n, .int .i64 size, .bool true] w fun e w' => e = .returned (.string ⟨((Pt.low n size).reverse).toArray⟩) ∧ Below w.heap.size w w' := by
  go_enter Tryd.func55, Tryd.ntmps55
  go_wp2_with fail
  go_loopw [0, 7, 8] (fun x o i wr => ∃ (k y : Nat) (l : List UInt8), k ≤ size ∧ i = .int .i64 k ∧ y = n / 256 ^ k ∧ x = .int .i64 y ∧ l = (Pt.low n k).reverse ∧ o = .string ⟨l.toArray⟩ ∧ Below w.heap.size w wr) (fun _ _ i _ => size - (intOf i).toNat)
  case atStart => exact ⟨0, n, [], Nat.zero_le _, rfl, by simp, rfl, rfl, rfl, Below.refl _ _⟩
  case round =>
    obtain ⟨k, y, l, hk, rfl, hy, rfl, hl, rfl, hbel⟩ := hrel
    have hyb : y ≤ n := by rw [hy]; exact Nat.div_le_self _ _
    have hll : l.length = k := by rw [hl]; simp [Pt.low_len]
    by_cases hlt : k < size
    · have HN : Hid (UInt8.ofNat (y % 256) :: l = (Pt.low n (k + 1)).reverse) := by rw [hy, hl]; show _ = _; rw [Pt.low_snoc]; simp
      have HY : Hid (y / 256 = n / 256 ^ (k + 1)) := by rw [hy]; show _ = _; rw [Nat.div_div_eq_div_mul, Nat.pow_succ]
      clear hy hl
      obtain ⟨c, hc⟩ : ∃ c : Nat, c = y % 256 := ⟨_, rfl⟩
      have hci : (y : Int) % 256 = (c : Int) := by omega
      rw [← hc] at HN
      have hcb : c < 256 := by omega
      clear hc
      have htx := run_text1 wr c wr.heap.size rfl
      go_wp2_with fail
      go_roundw
      case rel => exact ⟨k + 1, y / 256, _, by omega, by go_num, HY.out, by go_num, HN.out, by rw [str_cons], hbel.alloc hbel.size _⟩
      case measure => simp [intOf]; omega
    · have hk' : k = size := by omega
      subst hk'
      have HL : Hid (l = (Pt.low n k).reverse) := hl
      clear hy hl
      go_wp2_with fail
      go_ret
      exact ⟨by rw [← HL.out]; rfl, hbel⟩

end Go.Proofs.YtbfeonhokagdjaaDoor
