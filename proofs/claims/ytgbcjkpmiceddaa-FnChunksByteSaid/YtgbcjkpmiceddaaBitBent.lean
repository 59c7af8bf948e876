/- A bit of a byte turned. -/
import Derived.Test.YtgbcjkpmiceddaaProg
import Derived.Test.YtgbcjkpmiceddaaBase
import Derived.Below
namespace Go.Proofs.Ytgbcjkpmiceddaa
open Go.RowKit

set_option maxHeartbeats 400000 in
theorem wiPow_any (n : Nat) (w : World) (hn : n ≤ 50) :
    Calls Try.prog 12 #[.int .i64 n] w fun e w' => e = .returned (.int .i64 ((2 ^ n : Nat) : Int)) ∧ w' = w := by
  go_enter Try.func12, Try.ntmps12
  go_wp2_with fail
  go_loop [3, 4] (fun x i => ∃ k y : Nat, k ≤ n ∧ i = .int .i64 k ∧ y = 2 ^ k ∧ x = .int .i64 y) (fun _ i => n - (intOf i).toNat)
  case atStart => exact ⟨0, 1, Nat.zero_le _, rfl, rfl, rfl⟩
  case round =>
    obtain ⟨k, y, hk, rfl, hy, rfl⟩ := hrel
    have hp : 2 ^ k ≤ 2 ^ 60 := Nat.pow_le_pow_right (by omega) (by omega)
    have hyb : y ≤ 1152921504606846976 := by omega
    have HY : Hid (y = 2 ^ k) := hy
    clear hy hp
    by_cases hlt : k < n
    · have hd : decide ((k : Int) < 60) = true := by simp; omega
      go_wp2_with fail
      go_round
      case rel => exact ⟨k + 1, y * 2, by omega, by go_num, by rw [HY.out, Nat.pow_succ], by go_num⟩
      case measure => simp [intOf]; omega
    · have hk' : k = n := by omega
      subst hk'
      have hd : decide ((k : Int) < (k : Int)) = false := by simp
      go_wp2_with fail
      go_ret
      exact ⟨ret_int (by rw [HY.out]; simp), rfl⟩

theorem turned (x E : Nat) (hx : x < 256) (hE : E < 8) : x ^^^ 2 ^ E < 256 ∧ x ^^^ 2 ^ E ≠ x := by
  have h2 : 2 ^ E ≤ 2 ^ 7 := Nat.pow_le_pow_right (by omega) (by omega)
  have h1 : 0 < 2 ^ E := Nat.pow_pos (by omega)
  refine ⟨Nat.xor_lt_two_pow (n := 8) (by omega) (by omega), fun h => ?_⟩
  have := congrArg (fun t => t ^^^ x) h
  rw [Nat.xor_comm x] at this
  simp [Nat.xor_assoc, Nat.xor_self, Nat.xor_zero] at this

theorem split_at (l : List UInt8) (k : Nat) (h : k < l.length) (d : UInt8) : l = l.take k ++ l[k] :: l.drop (k + 1) ∧ l.set k d = l.take k ++ d :: l.drop (k + 1) := by
  refine ⟨?_, List.set_eq_take_append_cons_drop.trans (if_pos h)⟩
  rw [List.getElem_cons_drop, List.take_append_drop]

theorem bent (s : ByteArray) (w2 : World) (L K v : Nat) (hK : K < s.size) (hv : v < 256)
    (hcl : ∀ i (h : i < s.size), w2.cell? ⟨L, i, none⟩ = some (.int .u8 ((s[i]).toNat : Int)) ∧ w2.frozen? ⟨L, i, none⟩ = false) :
    ∀ j (hj : j < (s.data.toList.set K (UInt8.ofNat v)).length), (w2.setCell ⟨L, K, none⟩ (.int .u8 (v : Int))).drew.cell? ⟨L, j, none⟩ = some (.int .u8 (((s.data.toList.set K (UInt8.ofNat v))[j]).toNat : Int)) := by
  intro j hj
  have hj' : j < s.size := by simpa using hj
  rw [World.cell?_drew, List.getElem_set]
  by_cases e : K = j
  · subst e
    rw [if_pos rfl, World.cell?_setCell_same _ _ _ (hcl K hK).1, UInt8.toNat_ofNat_of_lt' (by simpa using hv)]
  · rw [if_neg e, World.cell?_setCell_other _ _ _ _ (fun h => e (congrArg Addr.off h)), (hcl j hj').1]
    rfl

end Go.Proofs.Ytgbcjkpmiceddaa
