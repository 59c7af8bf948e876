/- Bits of a text as the specification reads them. -/
import Derived.Test.YtjfihmpnbblomaaInWalks
import Derived.Test.YtjfihmpnbblomaaPowWalks
import Derived.Test.YtjfihmpnbblomaaBgMath
namespace Go.Proofs.Ytjfihmpnbblomaa
open Go.RowKit

/-- a bit of a text -/
def bitAt (s : ByteArray) (hi : Bool) (i : Nat) : Nat := byteAt s (i / 8) / 2 ^ Bg.spot hi i % 2
theorem bitAt_lt (s : ByteArray) (hi : Bool) (i : Nat) : bitAt s hi i < 2 := Nat.mod_lt _ (by omega)

set_option maxHeartbeats 400000 in
theorem l1Bit_low (s : ByteArray) (i : Nat) (w : World) (h : i / 8 < s.size) (hs : s.size ≤ 9000) :
    Calls Try.prog 80 #[.string s, .int .i64 i, .bool false] w fun e w' => e = .returned (.int .i64 (bitAt s false i : Nat)) ∧ ∃ m, w' = w.drewN m := by
  obtain ⟨j, hj⟩ : ∃ j, j = i / 8 := ⟨_, rfl⟩
  obtain ⟨p, hp⟩ : ∃ p, p = i % 8 := ⟨_, rfl⟩
  have hjs : j < s.size := by omega
  have hbe := byteAt_eq s j hjs
  have hbl := byteAt_lt s j
  obtain ⟨Q, hQ⟩ : ∃ Q, Q = 2 ^ p := ⟨_, rfl⟩
  have hQ1 : 0 < Q := by rw [hQ]; exact Nat.pow_pos (by omega)
  have hQ2 : Q ≤ 128 := by rw [hQ]; exact Nat.le_trans (Nat.pow_le_pow_right (by omega) (show p ≤ 7 by omega)) (by decide)
  have HP : Hid (∀ w : World, Calls Try.prog 35 #[.int .i64 (p : Int)] w fun e w' => e = .returned (.int .i64 (Q : Int)) ∧ w' = w) := by
    intro w
    have := l1Pow_any p w (by omega)
    rw [← hQ] at this
    exact this
  have HB : Hid (bitAt s false i = byteAt s j / Q % 2) := by show _ = _; unfold bitAt Bg.spot; rw [hQ, hp, hj]; rfl
  have hi8 : i ≤ 80000 := by omega
  have e1 : (i : Int) / 8 = (j : Int) := by omega
  have e2 : (i : Int) % 8 = (p : Int) := by omega
  have e3 : (i : Int).tdiv 8 = (j : Int) := by rw [Int.tdiv_eq_ediv_of_nonneg (by omega)]; exact e1
  have hji : (j : Int) < (s.size : Int) := by omega
  obtain ⟨D, hD⟩ : ∃ D, D = byteAt s j / Q := ⟨_, rfl⟩
  have hDl : D < 256 := by rw [hD]; exact Nat.lt_of_le_of_lt (Nat.div_le_self _ _) hbl
  have e4 : ((byteAt s j : Nat) : Int).tdiv (Q : Int) = (D : Int) := by rw [Int.tdiv_eq_ediv_of_nonneg (by omega), hD]; rfl
  have e5 := wrap_i64_nat j (by omega)
  have e6 := wrap_i64_nat (byteAt s j) (by omega)
  have e7 := wrap_i64_nat D (by omega)
  have e8 : (D : Int).tmod 2 = ((D % 2 : Nat) : Int) := by rw [Int.tmod_eq_emod_of_nonneg (by omega)]; rfl
  have hne : ((Q : Int) == 0) = false := by rw [beq_eq_false_iff_ne]; omega
  have hne' : ¬ Q = 0 := by omega
  rw [← hD] at HB
  clear hQ hp hj h hD
  go_enter Try.func80, Try.ntmps80
  go_wp2_with fail
  rw [e2]
  go_quiet ((go_at_call 35; exact Calls.quiet_of_same (HP.out _)))
  go_wp2_with fail
  go_ret
  exact ⟨ret_int (by rw [HB.out]; omega), nq, rfl⟩
set_option maxHeartbeats 400000 in
theorem l1Bit_high (s : ByteArray) (i : Nat) (w : World) (h : i / 8 < s.size) (hs : s.size ≤ 9000) :
    Calls Try.prog 80 #[.string s, .int .i64 i, .bool true] w fun e w' => e = .returned (.int .i64 (bitAt s true i : Nat)) ∧ ∃ m, w' = w.drewN m := by
  obtain ⟨j, hj⟩ : ∃ j, j = i / 8 := ⟨_, rfl⟩
  obtain ⟨p, hp⟩ : ∃ p, p = 7 - i % 8 := ⟨_, rfl⟩
  have hjs : j < s.size := by omega
  have hbe := byteAt_eq s j hjs
  have hbl := byteAt_lt s j
  obtain ⟨Q, hQ⟩ : ∃ Q, Q = 2 ^ p := ⟨_, rfl⟩
  have hQ1 : 0 < Q := by rw [hQ]; exact Nat.pow_pos (by omega)
  have hQ2 : Q ≤ 128 := by rw [hQ]; exact Nat.le_trans (Nat.pow_le_pow_right (by omega) (show p ≤ 7 by omega)) (by decide)
  have HP : Hid (∀ w : World, Calls Try.prog 35 #[.int .i64 (p : Int)] w fun e w' => e = .returned (.int .i64 (Q : Int)) ∧ w' = w) := by
    intro w
    have := l1Pow_any p w (by omega)
    rw [← hQ] at this
    exact this
  have HB : Hid (bitAt s true i = byteAt s j / Q % 2) := by show _ = _; unfold bitAt Bg.spot; rw [hQ, hp, hj]; rfl
  have hi8 : i ≤ 80000 := by omega
  have e1 : (i : Int) / 8 = (j : Int) := by omega
  have e2 : (7 : Int) - (i : Int) % 8 = (p : Int) := by omega
  have e3 : (i : Int).tdiv 8 = (j : Int) := by rw [Int.tdiv_eq_ediv_of_nonneg (by omega)]; exact e1
  have hji : (j : Int) < (s.size : Int) := by omega
  obtain ⟨D, hD⟩ : ∃ D, D = byteAt s j / Q := ⟨_, rfl⟩
  have hDl : D < 256 := by rw [hD]; exact Nat.lt_of_le_of_lt (Nat.div_le_self _ _) hbl
  have e4 : ((byteAt s j : Nat) : Int).tdiv (Q : Int) = (D : Int) := by rw [Int.tdiv_eq_ediv_of_nonneg (by omega), hD]; rfl
  have e5 := wrap_i64_nat j (by omega)
  have e6 := wrap_i64_nat (byteAt s j) (by omega)
  have e7 := wrap_i64_nat D (by omega)
  have e8 : (D : Int).tmod 2 = ((D % 2 : Nat) : Int) := by rw [Int.tmod_eq_emod_of_nonneg (by omega)]; rfl
  have hne : ((Q : Int) == 0) = false := by rw [beq_eq_false_iff_ne]; omega
  have hne' : ¬ Q = 0 := by omega
  rw [← hD] at HB
  clear hQ hp hj h hD
  go_enter Try.func80, Try.ntmps80
  go_wp2_with fail
  go_quiet ((go_at_call 35; exact Calls.quiet_of_same (HP.out _)))
  go_wp2_with fail
  go_ret
  exact ⟨ret_int (by rw [HB.out]; omega), nq, rfl⟩

theorem l1Bit_any (s : ByteArray) (i : Nat) (hi : Bool) (w : World) (h : i / 8 < s.size) (hs : s.size ≤ 9000) :
    Calls Try.prog 80 #[.string s, .int .i64 i, .bool hi] w fun e w' => e = .returned (.int .i64 (bitAt s hi i : Nat)) ∧ ∃ m, w' = w.drewN m := by
  cases hi
  · exact l1Bit_low s i w h hs
  · exact l1Bit_high s i w h hs

set_option maxHeartbeats 400000 in
theorem l1Get_low (s : ByteArray) (A S : Nat) (w : World) (h : A + S ≤ 8 * s.size) (hs : s.size ≤ 9000) (h24 : S ≤ 24) :
    Calls Try.prog 75 #[.string s, .int .i64 A, .int .i64 S, .bool false] w fun e w' => e = .returned (.int .i64 (Bg.low (fun i => bitAt s false (A + i)) S : Nat)) ∧ ∃ m, w' = w.drewN m := by
  go_enter Try.func75, Try.ntmps75
  go_wp2_with fail
  go_loopw [9, 10] (fun n i wr => ∃ k m x : Nat, k ≤ S ∧ i = .int .i64 k ∧ x = Bg.low (fun i => bitAt s false (A + i)) k ∧ n = .int .i64 x ∧ wr = w.drewN m) (fun _ i _ => S - (intOf i).toNat)
  case atStart => exact ⟨0, 0, 0, Nat.zero_le _, rfl, rfl, rfl, rfl⟩
  case round =>
    obtain ⟨k, m, x, hk, rfl, hx, rfl, rfl⟩ := hrel
    have hb := Bg.low_lt (fun i => bitAt s false (A + i)) (fun i => bitAt_lt _ _ _) k
    rw [← hx] at hb
    have hp : 2 ^ k ≤ 2 ^ 24 := Nat.pow_le_pow_right (by omega) (by omega)
    by_cases hlt : k < S
    · have hbl := bitAt_lt s false (A + k)
      obtain ⟨j, hj⟩ : ∃ j, j = A + k := ⟨_, rfl⟩
      obtain ⟨Q, hQ⟩ : ∃ Q, Q = 2 ^ k := ⟨_, rfl⟩
      have HN : Hid (x + bitAt s false j * Q = Bg.low (fun i => bitAt s false (A + i)) (k + 1)) := by rw [hj, hQ, hx]; rfl
      have hL := fun w => l1Bit_any s j false w (by omega) hs
      have HL : Hid (∀ (y : Int) (w : World), y = (j : Int) → Calls Try.prog 80 #[.string s, .int .i64 y, .bool false] w fun e w' => e = .returned (.int .i64 (bitAt s false j : Nat)) ∧ ∃ m, w' = w.drewN m) := by
        intro y w hy; rw [hy]; exact hL w
      have HP : Hid (∀ w : World, Calls Try.prog 35 #[.int .i64 (k : Int)] w fun e w' => e = .returned (.int .i64 (Q : Int)) ∧ w' = w) := by
        intro w; rw [hQ]; exact l1Pow_any k w (by omega)
      rw [← hj] at hbl
      rw [← hQ] at hp hb
      have hJ : Hid ((A : Int) + (k : Int) = (j : Int)) := by show _ = _; omega
      have hA : A ≤ 80000 := by omega
      clear hL hj hQ hx
      generalize bitAt s false j = b at *
      go_wp2_with fail
      refine (HL.out _ _ hJ.out).mono ?_
      rintro e w2 ⟨rfl, m2, rfl⟩
      go_wp2_with fail
      refine (HP.out _).mono ?_
      rintro e w3 ⟨rfl, hw3⟩
      subst hw3
      have hbq : (b : Int) * (Q : Int) = ((b * Q : Nat) : Int) := by simp
      obtain ⟨R, hR⟩ : ∃ R, R = b * Q := ⟨_, rfl⟩
      have hRb : R ≤ 16777216 := by
        rw [hR]; exact Nat.le_trans (Nat.mul_le_mul (show b ≤ 1 by omega) hp) (by decide)
      rw [← hR] at hbq HN
      have hwr : wrap64 ((b : Int) * (Q : Int)) = (R : Int) := by rw [hbq]; unfold wrap64; omega
      clear hR
      go_wp2_with fail
      go_roundw
      case rel => exact ⟨k + 1, m + m2, x + R, by omega, by go_num, HN.out, by first | go_num | (rw [hbq]; go_num), by first | rfl | rw [World.drewN_drewN]⟩
      case measure => simp [intOf]; omega
    · have hk' : k = S := by omega
      subst hk'
      have HX : Hid (x = _) := hx
      clear hx hb hp
      go_wp2_with fail
      go_ret
      exact ⟨ret_int (by rw [HX.out]), m, rfl⟩

set_option maxHeartbeats 400000 in
theorem l1Get_high (s : ByteArray) (A S : Nat) (w : World) (h : A + S ≤ 8 * s.size) (hs : s.size ≤ 9000) (h24 : S ≤ 24) :
    Calls Try.prog 75 #[.string s, .int .i64 A, .int .i64 S, .bool true] w fun e w' => e = .returned (.int .i64 (Bg.big (fun i => bitAt s true (A + i)) S : Nat)) ∧ ∃ m, w' = w.drewN m := by
  go_enter Try.func75, Try.ntmps75
  go_wp2_with fail
  go_loopw [9, 10] (fun n i wr => ∃ k m x : Nat, k ≤ S ∧ i = .int .i64 k ∧ x = Bg.big (fun i => bitAt s true (A + i)) k ∧ n = .int .i64 x ∧ wr = w.drewN m) (fun _ i _ => S - (intOf i).toNat)
  case atStart => exact ⟨0, 0, 0, Nat.zero_le _, rfl, rfl, rfl, rfl⟩
  case round =>
    obtain ⟨k, m, x, hk, rfl, hx, rfl, rfl⟩ := hrel
    have hb := Bg.big_lt (fun i => bitAt s true (A + i)) (fun i => bitAt_lt _ _ _) k
    rw [← hx] at hb
    have hp : 2 ^ k ≤ 2 ^ 24 := Nat.pow_le_pow_right (by omega) (by omega)
    by_cases hlt : k < S
    · have hbl := bitAt_lt s true (A + k)
      obtain ⟨j, hj⟩ : ∃ j, j = A + k := ⟨_, rfl⟩
      have HN : Hid (2 * x + bitAt s true j = Bg.big (fun i => bitAt s true (A + i)) (k + 1)) := by rw [hj, hx]; rfl
      have hL := fun w => l1Bit_any s j true w (by omega) hs
      have HL : Hid (∀ (y : Int) (w : World), y = (j : Int) → Calls Try.prog 80 #[.string s, .int .i64 y, .bool true] w fun e w' => e = .returned (.int .i64 (bitAt s true j : Nat)) ∧ ∃ m, w' = w.drewN m) := by
        intro y w hy; rw [hy]; exact hL w
      rw [← hj] at hbl
      have hxb : x ≤ 16777216 := by omega
      have hJ : Hid ((A : Int) + (k : Int) = (j : Int)) := by show _ = _; omega
      have hA : A ≤ 80000 := by omega
      clear hL hj hx hb hp
      generalize bitAt s true j = b at *
      go_wp2_with fail
      refine (HL.out _ _ hJ.out).mono ?_
      rintro e w2 ⟨rfl, m2, rfl⟩
      go_wp2_with fail
      go_roundw
      case rel => exact ⟨k + 1, m + m2, 2 * x + b, by omega, by go_num, HN.out, by go_num, by first | rfl | rw [World.drewN_drewN]⟩
      case measure => simp [intOf]; omega
    · have hk' : k = S := by omega
      subst hk'
      have HX : Hid (x = _) := hx
      clear hx hb hp
      go_wp2_with fail
      go_ret
      exact ⟨ret_int (by rw [HX.out]), m, rfl⟩
end Go.Proofs.Ytjfihmpnbblomaa
