/- What the functions of the Adler sum return, for every sum and every text. -/
import Derived.Test.YtoocijfkckjbfaaProg
import Derived.Test.YtoocijfkckjbfaaAdMath
import Derived.Test.YtoocijfkckjbfaaBase
namespace Go.Proofs.Ytoocijfkckjbfaa
open Go.RowKit

set_option maxHeartbeats 400000 in
theorem spec_adler_no (sum : Int) (s : ByteArray) (w : World) (hs : s.size ≤ maxLen) (hl : -9223372036854775807 ≤ sum + 1) (hh : sum ≤ 9223372036854775807)
    (h : Ad.okB sum s.size = false) :
    Calls Try.prog 33 #[.int .i64 sum, .string s] w fun e w' => e = .returned (.int .i64 0) ∧ w' = w := by
  unfold maxLen at hs
  have h' : ¬ (0 ≤ sum ∧ sum ≤ 4294967295 ∧ sum % 65536 ≤ 65520 ∧ sum / 65536 ≤ 65520 ∧ s.size ≤ 9000) := by
    intro g; rw [(Ad.okB_iff _ _).2 g] at h; cases h
  clear h
  by_cases h0 : sum < 0
  · have hd : decide (0 ≤ sum) = false := by simpa using h0
    go_enter Try.func33, Try.ntmps33
    go_wp2
    go_ret
    exact ⟨rfl, rfl⟩
  · have h0' : 0 ≤ sum := by omega
    by_cases h1 : 4294967295 < sum
    · have hd : decide (sum ≤ 4294967295) = false := by simpa using h1
      clear h'
      go_enter Try.func33, Try.ntmps33
      go_wp2
      go_ret
      exact ⟨rfl, rfl⟩
    · have h1' : sum ≤ 4294967295 := by omega
      by_cases h2 : 65520 < sum % 65536
      · clear h'
        go_enter Try.func33, Try.ntmps33
        go_wp2
        go_ret
        exact ⟨rfl, rfl⟩
      · have h2' : sum % 65536 ≤ 65520 := by omega
        have hd2 : decide (65520 < sum % 65536) = false := by simpa using h2'
        by_cases h3 : 65520 < sum / 65536
        · clear h'
          go_enter Try.func33, Try.ntmps33
          go_wp2
          go_ret
          exact ⟨rfl, rfl⟩
        · have h3' : sum / 65536 ≤ 65520 := by omega
          have hd3 : decide (65520 < sum / 65536) = false := by simpa using h3'
          have h4 : 9000 < s.size := by omega
          clear h' h0 h1 h2 h3
          go_enter Try.func33, Try.ntmps33
          go_wp2
          go_ret
          exact ⟨rfl, rfl⟩

set_option maxHeartbeats 400000 in
theorem spec_adler_yes (sum : Int) (s : ByteArray) (w : World) (h : Ad.okB sum s.size = true) :
    Calls Try.prog 33 #[.int .i64 sum, .string s] w fun e w' => e = .returned (.int .i64 (Ad.more sum s.data.toList)) ∧ w' = w := by
  have hm := Ad.more_yes (sum := sum) (l := s.data.toList) (by simpa using h)
  rw [hm]; clear hm
  obtain ⟨h0, h1, h2, h3, h4⟩ := (Ad.okB_iff _ _).1 h
  clear h
  have hd2 : decide (65520 < sum % 65536) = false := by simpa using h2
  have hd3 : decide (65520 < sum / 65536) = false := by simpa using h3
  go_enter Try.func33, Try.ntmps33
  go_wp2
  go_loop [5, 6, 7] (fun a b i => ∃ k : Nat, k ≤ s.size ∧ i = .int .i64 k ∧ a = .int .i64 (Ad.fin (sum % 65536, sum / 65536) (s.data.toList.take k)).1 ∧ b = .int .i64 (Ad.fin (sum % 65536, sum / 65536) (s.data.toList.take k)).2) (fun _ _ i => s.size - (intOf i).toNat)
  case atStart => exact ⟨0, Nat.zero_le _, rfl, rfl, rfl⟩
  case round =>
    obtain ⟨k, hk, rfl, rfl, rfl⟩ := hrel
    have hb := Ad.fin_bounds (s.data.toList.take k) (sum % 65536, sum / 65536) (by omega) (by omega) (by omega) (by omega)
    obtain ⟨⟨b1, b2⟩, b3, b4⟩ := hb
    by_cases hlt : k < s.size
    · have hsn := Ad.fin_snoc (sum % 65536, sum / 65536) (s.data.toList.take k) s[k]
      have hts := take_snoc s k hlt
      rw [← hts] at hsn
      have HS : Hid (Ad.fin (sum % 65536, sum / 65536) (s.data.toList.take (k + 1)) = _) := hsn
      clear hsn hts
      have hc : ((s[k]).toNat : Int) ≤ 255 := by have := UInt8.toNat_lt s[k]; omega
      go_wp2
      go_round
      case rel => exact ⟨k + 1, by omega, by go_num, by rw [HS.out]; rfl, by rw [HS.out]; rfl⟩
      case measure => simp [intOf]; omega
    · go_wp2
      go_ret
      exact ⟨ret_int (by rw [List.take_of_length_le (by simp; omega)]), rfl⟩

theorem spec_adler (sum : Int) (s : ByteArray) (w : World) (hs : s.size ≤ maxLen) (hl : -9223372036854775807 ≤ sum + 1) (hh : sum ≤ 9223372036854775807) :
    Calls Try.prog 33 #[.int .i64 sum, .string s] w fun e w' => e = .returned (.int .i64 (Ad.more sum s.data.toList)) ∧ w' = w := by
  cases h : Ad.okB sum s.size
  · rw [Ad.more_no (by rw [bytes_len]; exact h)]; exact spec_adler_no sum s w hs hl hh h
  · exact spec_adler_yes sum s w h

/-- 'b << 16 ' joined with a low part -/
theorem or_join (a b : Int) (h1 : 0 ≤ a) (h2 : a ≤ 65535) (h3 : 0 ≤ b) (h4 : b ≤ 65535) : bits .or .i64 (b * 65536) a = b * 65536 + a := by
  obtain ⟨A, rfl⟩ := Int.eq_ofNat_of_zero_le h1
  obtain ⟨B, rfl⟩ := Int.eq_ofNat_of_zero_le h3
  have e : ((B : Int) * 65536) = ((B * 65536 : Nat) : Int) := by omega
  rw [e, i64_or_nat _ _ (by omega) (by omega), nat_join 16 (B * 65536) A (by omega) (by omega)]
  omega

theorem and_low (a : Int) (h1 : 0 ≤ a) (h2 : a ≤ 4294967295) : bits .and .i64 a 65535 = a % 65536 := by
  obtain ⟨A, rfl⟩ := Int.eq_ofNat_of_zero_le h1
  have := i64_and_nat A 65535 (by omega) (by omega)
  rw [show ((65535 : Nat) : Int) = 65535 from rfl] at this
  rw [this, Nat.and_two_pow_sub_one_eq_mod A 16]
  omega

set_option maxHeartbeats 400000 in
theorem adNumber (a b : Int) (w : World) (h1 : 0 ≤ a) (h2 : a ≤ 65520) (h3 : 0 ≤ b) (h4 : b ≤ 65520) :
    Calls Try.prog 53 #[.agg #[.int .i64 a, .int .i64 b]] w fun e w' => e = .returned (.int .i64 (b * 65536 + a)) ∧ Below w.heap.size w w' := by
  go_enter Try.func53, Try.ntmps53
  go_wp2
  go_ret
  refine ⟨ret_int ?_, (Below.refl _ _).alloc (Nat.le_refl _) _⟩
  exact or_join a b h1 (by omega) h3 (by omega)

set_option maxHeartbeats 400000 in
theorem adOk (a b : Int) (w : World) (h1 : a ≤ 65520) (h2 : b ≤ 65520) :
    Calls Try.prog 51 #[.agg #[.int .i64 a, .int .i64 b]] w fun e w' => e = .returned (.bool true) ∧ Below w.heap.size w w' := by
  have hd : decide (b < 65521) = true := by simp; omega
  go_enter Try.func51, Try.ntmps51
  go_wp2
  go_ret
  exact ⟨rfl, (Below.refl _ _).alloc (Nat.le_refl _) _⟩

set_option maxHeartbeats 400000 in
theorem adOk_no (a b : Int) (w : World) (h1 : 65520 < a ∨ 65520 < b) :
    Calls Try.prog 51 #[.agg #[.int .i64 a, .int .i64 b]] w fun e w' => e = .returned (.bool false) ∧ Below w.heap.size w w' := by
  by_cases ha : 65520 < a
  · have hd : decide (a < 65521) = false := by simp; omega
    clear h1
    go_enter Try.func51, Try.ntmps51
    go_wp2
    go_ret
    exact ⟨rfl, (Below.refl _ _).alloc (Nat.le_refl _) _⟩
  · have hd : decide (b < 65521) = false := by simp; omega
    have ha' : a < 65521 := by omega
    clear h1 ha
    go_enter Try.func51, Try.ntmps51
    go_wp2
    go_ret
    exact ⟨rfl, (Below.refl _ _).alloc (Nat.le_refl _) _⟩

set_option maxHeartbeats 400000 in
theorem adMore (a b : Int) (s : ByteArray) (w : World) (hs : s.size ≤ maxLen) (h1 : 0 ≤ a) (h2 : a ≤ 65520) (h3 : 0 ≤ b) (h4 : b ≤ 65520) :
    Calls Try.prog 52 #[.agg #[.int .i64 a, .int .i64 b], .string s] w fun e w' => e = .returned (.agg #[.int .i64 (Ad.fin (a, b) s.data.toList).1, .int .i64 (Ad.fin (a, b) s.data.toList).2]) ∧ Below w.heap.size w w' := by
  unfold maxLen at hs
  go_enter Try.func52, Try.ntmps52
  go_wp2
  go_loopw [8] (fun i wr => ∃ k n : Nat, k ≤ s.size ∧ i = .int .i64 k ∧ wr = ((w.alloc (.cells #[.int .i64 (Ad.fin (a, b) (s.data.toList.take k)).1, .int .i64 (Ad.fin (a, b) (s.data.toList.take k)).2] 67)).alloc (.cells #[.int .i64 0, .int .i64 0] 67)).drewN n) (fun i _ => s.size - (intOf i).toNat)
  case atStart => exact ⟨0, 0, Nat.zero_le _, rfl, rfl⟩
  case round =>
    obtain ⟨k, n, hk, rfl, rfl⟩ := hrel
    have hb := Ad.fin_bounds (s.data.toList.take k) (a, b) (by omega) (by omega) (by omega) (by omega)
    obtain ⟨⟨b1, b2⟩, b3, b4⟩ := hb
    by_cases hlt : k < s.size
    · have hsn := Ad.fin_snoc (a, b) (s.data.toList.take k) s[k]
      have hts := take_snoc s k hlt
      rw [← hts] at hsn
      have HS : Hid (Ad.fin (a, b) (s.data.toList.take (k + 1)) = _) := hsn
      clear hsn hts
      have hc : ((s[k]).toNat : Int) ≤ 255 := by have := UInt8.toNat_lt s[k]; omega
      generalize Ad.fin (a, b) (List.take k s.data.toList) = q at *
      go_wp2
      go_region
      all_goals go_wp2
      go_roundw
      case rel => exact ⟨k + 1, n + 1, by omega, by go_num, by rw [two_store, HS.out]; simp [Ad.stepA, Ad.stepB]⟩
      case measure => simp [intOf]; omega
    · have hall : s.data.toList.take k = s.data.toList := List.take_of_length_le (by simp; omega)
      rw [hall]; clear hall
      go_wp2
      exact bodyPost_ret (v := .agg #[.int .i64 (Ad.fin (a, b) s.data.toList).1, .int .i64 (Ad.fin (a, b) s.data.toList).2]) (by simp [results, Try.results52, go_sem]) rfl ⟨rfl, ((below_drewN (((Below.refl _ _).alloc (Nat.le_refl _) _).alloc (by simp) _) _).setCell (by simp) _).setCell (by simp) _⟩

set_option maxHeartbeats 400000 in
theorem sumOk_yes (sum : Int) (s : ByteArray) (w : World) (h0 : 0 ≤ sum) (h1 : sum ≤ 4294967295) (h2 : s.size ≤ 9000) :
    Calls Try.prog 47 #[.int .i64 sum, .string s] w fun e w' => e = .returned (.bool true) ∧ w' = w := by
  have hd : decide ((s.size : Int) ≤ 9000) = true := by simp; omega
  go_enter Try.func47, Try.ntmps47
  go_wp2
  go_ret
  exact ⟨rfl, rfl⟩

set_option maxHeartbeats 400000 in
theorem sumOk_no (sum : Int) (s : ByteArray) (w : World) (hs : s.size ≤ maxLen) (h : sum < 0 ∨ 4294967295 < sum ∨ 9000 < s.size) :
    Calls Try.prog 47 #[.int .i64 sum, .string s] w fun e w' => e = .returned (.bool false) ∧ w' = w := by
  unfold maxLen at hs
  by_cases h0 : sum < 0
  · have hd : decide (0 ≤ sum) = false := by simp; omega
    clear h
    go_enter Try.func47, Try.ntmps47
    go_wp2
    go_ret
    exact ⟨rfl, rfl⟩
  · have h0' : 0 ≤ sum := by omega
    clear h0
    by_cases h1 : 4294967295 < sum
    · have hd : decide (sum ≤ 4294967295) = false := by simp; omega
      clear h
      go_enter Try.func47, Try.ntmps47
      go_wp2
      go_ret
      exact ⟨rfl, rfl⟩
    · have h1' : sum ≤ 4294967295 := by omega
      have hd : decide ((s.size : Int) ≤ 9000) = false := by simp; omega
      clear h h1
      go_enter Try.func47, Try.ntmps47
      go_wp2
      go_ret
      exact ⟨rfl, rfl⟩

set_option maxHeartbeats 400000 in
theorem impl_adler_yes (sum : Int) (s : ByteArray) (w : World) (h : Ad.okB sum s.size = true) :
    Calls Try.prog 32 #[.int .i64 sum, .string s] w fun e w' => e = .returned (.int .i64 (Ad.more sum s.data.toList)) ∧ Below w.heap.size w w' := by
  have hm := Ad.more_yes (sum := sum) (l := s.data.toList) (by simpa using h)
  rw [hm]; clear hm
  obtain ⟨h0, h1, h2, h3, h4⟩ := (Ad.okB_iff _ _).1 h
  clear h
  have hb := Ad.fin_bounds s.data.toList (sum % 65536, sum / 65536) (by omega) (by omega) (by omega) (by omega)
  obtain ⟨⟨b1, b2⟩, b3, b4⟩ := hb
  have hand := and_low sum h0 h1
  go_enter Try.func32, Try.ntmps32
  go_wp2_with fail
  refine (sumOk_yes sum s _ h0 h1 h4).mono ?_
  rintro e w1 ⟨rfl, rfl⟩
  go_wp2_with fail
  refine (adOk _ _ _ h2 h3).mono ?_
  rintro e w1 ⟨rfl, bel1⟩
  have c0 : w1.cell? ⟨w.heap.size, 0, none⟩ = some (.int .i64 (sum % 65536)) := (bel1.cell (by simp)).trans (by simp)
  have c1 : w1.cell? ⟨w.heap.size, 1, none⟩ = some (.int .i64 (sum / 65536)) := (bel1.cell (by simp)).trans (by simp)
  have bel : Below w.heap.size w w1 := ((Below.refl _ _).alloc (Nat.le_refl _) _).trans (bel1.mono (by simp))
  clear bel1
  go_wp2_with fail
  refine (adMore _ _ s _ (by unfold maxLen; omega) (by omega) h2 (by omega) h3).mono ?_
  rintro e w2 ⟨rfl, bel2⟩
  go_wp2_with fail
  refine (adNumber _ _ _ b1 b2 b3 b4).mono ?_
  rintro e w3 ⟨rfl, bel3⟩
  go_wp2_with fail
  go_ret
  exact ⟨rfl, bel.trans ((bel2.mono bel.size).trans (bel3.mono (Nat.le_trans bel.size bel2.size)))⟩

set_option maxHeartbeats 400000 in
theorem impl_adler_no (sum : Int) (s : ByteArray) (w : World) (hs : s.size ≤ maxLen) (hl : -9223372036854775807 ≤ sum + 1) (hh : sum ≤ 9223372036854775807)
    (h : Ad.okB sum s.size = false) :
    Calls Try.prog 32 #[.int .i64 sum, .string s] w fun e w' => e = .returned (.int .i64 0) ∧ Below w.heap.size w w' := by
  have h' : ¬ (0 ≤ sum ∧ sum ≤ 4294967295 ∧ sum % 65536 ≤ 65520 ∧ sum / 65536 ≤ 65520 ∧ s.size ≤ 9000) := by
    intro g; rw [(Ad.okB_iff _ _).2 g] at h; cases h
  clear h
  by_cases hn : sum < 0 ∨ 4294967295 < sum ∨ 9000 < s.size
  · go_enter Try.func32, Try.ntmps32
    go_wp2_with fail
    refine (sumOk_no sum s _ hs hn).mono ?_
    rintro e w1 ⟨rfl, rfl⟩
    go_wp2_with fail
    go_ret
    exact ⟨rfl, (Below.refl _ _).alloc (Nat.le_refl _) _⟩
  · have h0 : 0 ≤ sum := by omega
    have h1 : sum ≤ 4294967295 := by omega
    have hno : 65520 < sum % 65536 ∨ 65520 < sum / 65536 := by omega
    have h4 : s.size ≤ 9000 := by omega
    have hand := and_low sum h0 h1
    clear hn h'
    go_enter Try.func32, Try.ntmps32
    go_wp2_with fail
    refine (sumOk_yes sum s _ h0 h1 h4).mono ?_
    rintro e w1 ⟨rfl, rfl⟩
    go_wp2_with fail
    refine (adOk_no _ _ _ hno).mono ?_
    rintro e w1 ⟨rfl, bel1⟩
    go_wp2_with fail
    go_ret
    exact ⟨rfl, ((Below.refl _ _).alloc (Nat.le_refl _) _).trans (bel1.mono (by simp))⟩

theorem impl_adler (sum : Int) (s : ByteArray) (w : World) (hs : s.size ≤ maxLen) (hl : -9223372036854775807 ≤ sum + 1) (hh : sum ≤ 9223372036854775807) :
    Calls Try.prog 32 #[.int .i64 sum, .string s] w fun e w' => e = .returned (.int .i64 (Ad.more sum s.data.toList)) ∧ Below w.heap.size w w' := by
  cases h : Ad.okB sum s.size
  · rw [Ad.more_no (by rw [bytes_len]; exact h)]; exact impl_adler_no sum s w hs hl hh h
  · exact impl_adler_yes sum s w h

set_option maxHeartbeats 400000 in
theorem impl_adler32 (s : ByteArray) (w : World) (hs : s.size ≤ maxLen) :
    Calls Try.prog 30 #[.string s] w fun e w' => e = .returned (.int .i64 (Ad.more 1 s.data.toList)) ∧ Below w.heap.size w w' := by
  go_enter Try.func30, Try.ntmps30
  go_wp2_with fail
  refine (impl_adler 1 s _ hs (by omega) (by omega)).mono ?_
  rintro e w1 ⟨rfl, bel1⟩
  go_wp2_with fail
  go_ret
  exact ⟨rfl, bel1⟩

set_option maxHeartbeats 400000 in
theorem spec_adler32 (s : ByteArray) (w : World) (hs : s.size ≤ maxLen) :
    Calls Try.prog 31 #[.string s] w fun e w' => e = .returned (.int .i64 (Ad.more 1 s.data.toList)) ∧ w' = w := by
  go_enter Try.func31, Try.ntmps31
  go_wp2_with fail
  refine (spec_adler 1 s _ hs (by omega) (by omega)).mono ?_
  rintro e w1 ⟨rfl, rfl⟩
  go_wp2_with fail
  go_ret
  exact ⟨rfl, rfl⟩

end Go.Proofs.Ytoocijfkckjbfaa
