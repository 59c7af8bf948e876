/- BlocksPut of the specification. -/
import Derived.Test.YtoeekanmhnbgfaaBkMath
import Derived.Test.YtoeekanmhnbgfaaStrWalks
namespace Go.Proofs.Ytoeekanmhnbgfaa
open Go.RowKit

theorem str_mid (q p : List UInt8) (c : UInt8) : (ByteArray.mk q.toArray ++ ByteArray.mk #[c] ++ ByteArray.mk p.toArray) = ByteArray.mk (q ++ c :: p).toArray := by
  rw [show (ByteArray.mk #[c]) = ByteArray.mk [c].toArray from rfl, ByteArray.mk_append_mk, ByteArray.mk_append_mk]
  simp
theorem str_end (q : List UInt8) (c : UInt8) : (ByteArray.mk q.toArray ++ ByteArray.mk #[c]) = ByteArray.mk (q ++ [c]).toArray := by
  rw [show (ByteArray.mk #[c]) = ByteArray.mk [c].toArray from rfl, ByteArray.mk_append_mk]

set_option maxHeartbeats 400000 in
theorem l5Least_any (a b : Int) (w : World) :
    Calls Try.prog 28 #[.int .i64 a, .int .i64 b] w fun e w' => e = .returned (.int .i64 (min a b)) ∧ w' = w := by
  by_cases h : a < b
  · rw [Int.min_eq_left (by omega)]
    go_enter Try.func28, Try.ntmps28
    go_wp2_with fail
    go_ret
    exact ⟨rfl, rfl⟩
  · rw [Int.min_eq_right (by omega)]
    go_enter Try.func28, Try.ntmps28
    go_wp2_with fail
    go_ret
    exact ⟨rfl, rfl⟩

set_option maxHeartbeats 2000000 in
set_option maxRecDepth 20000 in
theorem l10Blocks_any (s : ByteArray) (w : World) (hs : s.size ≤ 5000) :
    Calls Try.prog 24 #[.string s] w fun e w' => e = .returned (.string ⟨(Bk.all s.data.toList).toArray⟩) ∧ Below w.heap.size w w' := by
  obtain ⟨l, hl⟩ : ∃ l, l = s.data.toList := ⟨_, rfl⟩
  have hln : l.length = s.size := by rw [hl]; exact bytes_len s
  have HX : Hid (∀ i j, s.extract i j = ⟨((l.drop i).take (j - i)).toArray⟩) := fun i j => by rw [hl]; exact Bk.extract_part s i j
  obtain ⟨n, hn⟩ : ∃ n, n = s.size := ⟨_, rfl⟩
  have HA : Hid (Bk.all s.data.toList = Bk.acc l (Bk.num n) ++ [0]) := by show _ = _; rw [hn, ← hln, hl]; rfl
  have HJ : Hid (∀ j, j < Bk.num n ↔ 255 * j < n) := fun j => Bk.num_iff
  have HN : Hid (l.length = n ∧ s.size = n) := ⟨by rw [hln, hn], hn.symm⟩
  have hJ20 : Bk.num n ≤ 20 := Bk.num_le (by omega)
  have HL5 : Hid (∀ (a b : Int) (w : World), Calls Try.prog 28 #[.int .i64 a, .int .i64 b] w fun e w' => e = .returned (.int .i64 (min a b)) ∧ w' = w) := l5Least_any
  rw [HA.out]
  generalize Bk.num n = J at *
  have hn5 : n ≤ 5000 := by omega
  have hsn : (s.size : Int) = (n : Int) := by rw [hn]
  have hsn' : s.size = n := hn.symm
  clear hl hln HA hs hn
  go_enter Try.func24, Try.ntmps24
  go_wp2_with fail
  go_loopw [3, 4] (fun o i wr => ∃ (j A : Nat) (q : List UInt8), j ≤ J ∧ A = 255 * j ∧ i = .int .i64 A ∧ q = Bk.acc l j ∧ o = .string ⟨q.toArray⟩ ∧ Below w.heap.size w wr) (fun _ i _ => n - (intOf i).toNat)
  case atStart => exact ⟨0, 0, [], Nat.zero_le _, rfl, rfl, rfl, rfl, Below.refl _ _⟩
  case round =>
    obtain ⟨j, A, q, hj, hA, rfl, hq, rfl, hbel⟩ := hrel
    have hql : q.length ≤ 5120 := by rw [hq]; have := Bk.acc_len l j; omega
    have hAb : A ≤ 5100 := by omega
    by_cases hlt : A < n
    · have hjJ : j < J := (HJ.out j).2 (by omega)
      obtain ⟨T, hT⟩ : ∃ T : Nat, T = min (A + 255) n := ⟨_, rfl⟩
      obtain ⟨c, hc⟩ : ∃ c : Nat, c = T - A := ⟨_, rfl⟩
      obtain ⟨p, hp⟩ : ∃ p, p = Bk.part l j := ⟨_, rfl⟩
      have hpl : p.length = c := by rw [hp, Bk.part_len, HN.out.1, hc, hT, hA]; omega
      have hcb : c < 256 := by omega
      have HQ : Hid (q ++ (UInt8.ofNat c :: p) = Bk.acc l (j + 1)) := by
        show _ = _; rw [Bk.acc_succ, ← hp, hpl, hq]
      have hex : s.extract A T = ⟨p.toArray⟩ := by
        rw [HX.out, hp]
        unfold Bk.part
        rw [← hA]
        congr 2
        rw [List.take_eq_take_iff, List.length_drop, HN.out.1]
        omega
      have hTn : T ≤ n := by omega
      have hAT : A ≤ T := by omega
      have hcT : (T : Int) - (A : Int) = (c : Int) := by omega
      have HM : Hid (∀ w : World, Calls Try.prog 28 #[.int .i64 ((A : Int) + 255), .int .i64 (n : Int)] w fun e w' => e = .returned (.int .i64 (T : Int)) ∧ w' = w) := fun w => by
        have := HL5.out ((A : Int) + 255) (n : Int) w
        rw [show min ((A : Int) + 255) (n : Int) = (T : Int) by rw [hT]; omega] at this
        exact this
      have HAA : Hid (A = 255 * j) := hA
      clear hq hA hT hc hp HX HL5 HJ
      have htx : Sem.run Try.prog (convert 27 9 (.slice (some ⟨wr.heap.size, 0, none⟩) 1 1)) (wr.alloc (.cells #[.int .u8 (c : Int)] 5)).drew = .ok (.string ⟨#[UInt8.ofNat c]⟩) (wr.alloc (.cells #[.int .u8 (c : Int)] 5)).drew := run_text1 wr.drew c wr.heap.size rfl
      have hbs := hbel.size
      have hplb : p.length ≤ 255 := by omega
      clear hpl
      go_wp2_with fail
      refine (HM.out _).mono ?_
      rintro e w1 ⟨rfl, hw⟩
      replace hw := hw.symm
      subst hw
      clear HM
      go_wp2_with fail
      go_region
      all_goals go_wp2_with fail
      all_goals
        go_roundw
        case rel => exact ⟨j + 1, A + 255, _, by omega, by have := HAA.out; omega, by go_num, rfl, by rw [← HQ.out]; exact congrArg Value.string (str_mid _ _ _), hbel.drew.alloc hbs _⟩
        case measure => simp [intOf]; omega
    · have hjJ : j = J := by
        rcases Nat.lt_or_ge j J with h | h
        · have := (HJ.out j).1 h; omega
        · omega
      subst hjJ
      have HQ : Hid (q = Bk.acc l j) := hq
      have htx : Sem.run Try.prog (convert 27 9 (.slice (some ⟨wr.heap.size, 0, none⟩) 1 1)) (wr.alloc (.cells #[.int .u8 0] 5)) = .ok (.string ⟨#[0]⟩) (wr.alloc (.cells #[.int .u8 0] 5)) := run_text1 wr 0 wr.heap.size rfl
      have hbs := hbel.size
      clear hq HX HL5 HJ
      go_wp2_with fail
      go_ret
      exact ⟨by rw [← HQ.out, ← str_end]; rfl, hbel.alloc hbs _⟩

set_option maxHeartbeats 400000 in
theorem spec_blocksPut (s : ByteArray) (w : World) (hs : s.size ≤ 1048576) :
    Calls Try.prog 15 #[.string s] w fun e w' => e = .returned (.string ⟨(if s.size ≤ 5000 then Bk.all s.data.toList else []).toArray⟩) ∧ Below w.heap.size w w' := by
  by_cases h : s.size ≤ 5000
  · rw [if_pos h]
    have HB : Hid (∀ w : World, Calls Try.prog 24 #[.string s] w fun e w' => e = .returned (.string ⟨(Bk.all s.data.toList).toArray⟩) ∧ Below w.heap.size w w') := fun w => l10Blocks_any s w h
    go_enter Try.func15, Try.ntmps15
    go_wp2_with fail
    refine (HB.out _).mono ?_
    rintro e w1 ⟨rfl, b⟩
    go_wp2_with fail
    go_ret
    exact ⟨rfl, b⟩
  · rw [if_neg h]
    go_enter Try.func15, Try.ntmps15
    go_wp2_with fail
    go_ret
    exact ⟨rfl, Below.refl _ _⟩
end Go.Proofs.Ytoeekanmhnbgfaa
