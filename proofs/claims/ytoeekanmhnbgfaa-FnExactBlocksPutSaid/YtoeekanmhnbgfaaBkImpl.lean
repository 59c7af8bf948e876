/- BlocksPut of the program. -/
import Derived.Test.YtoeekanmhnbgfaaBkMath
import Derived.Test.YtoeekanmhnbgfaaOwnText
namespace Go.Proofs.Ytoeekanmhnbgfaa
open Go.RowKit

set_option maxHeartbeats 4000000 in
set_option maxRecDepth 20000 in
theorem impl_blocksPut_yes (s : ByteArray) (w : World) (hs : s.size ≤ 5000) :
    Calls Try.prog 16 #[.string s] w fun e w' => e = .returned (.string ⟨(Bk.all s.data.toList).toArray⟩) ∧ Below w.heap.size w w' := by
  obtain ⟨l, hl⟩ : ∃ l, l = s.data.toList := ⟨_, rfl⟩
  have hse : s = ⟨l.toArray⟩ := by rw [hl]
  have hln : l.length = s.size := by rw [hl]; exact bytes_len s
  rw [← hl]
  clear hl
  subst hse
  rw [← hln] at hs
  obtain ⟨n, hn⟩ : ∃ n, n = l.length := ⟨_, rfl⟩
  have HA : Hid (Bk.all l = Bk.acc l (Bk.num n) ++ [0]) := by show _ = _; rw [hn]; rfl
  have HJ : Hid (∀ j, j < Bk.num n ↔ 255 * j < n) := fun j => Bk.num_iff
  have HN : Hid (l.length = n) := hn.symm
  have hJ20 : Bk.num n ≤ 20 := Bk.num_le (by omega)
  rw [HA.out]
  generalize Bk.num n = J at *
  have hn5 : n ≤ 5000 := by omega
  have hd : decide ((n : Int) > 5000) = false := by simp; omega
  have hsz : (ByteArray.mk l.toArray).size = n := by rw [← hln, hn]
  clear hln HA hs hn
  go_enter Try.func16, Try.ntmps16
  go_wp2_with fail
  clear hsz
  go_loopw [0, 3] (fun t v wr => ∃ (j m : Nat) (k q : List UInt8), j ≤ J ∧ k = l.drop (255 * j) ∧ t = .string ⟨k.toArray⟩ ∧ q = Bk.acc l j ∧ m ≤ 256 * j ∧ OwnT wr w.heap.size v m q ∧ Below w.heap.size w wr) (fun t _ _ => sizeOfStr t)
  case atStart => exact ⟨0, 0, l, [], Nat.zero_le _, rfl, rfl, rfl, Nat.zero_le _, ownT_nil _ _, Below.refl _ _⟩
  case round =>
    obtain ⟨j, m, k, q, hj, hk, rfl, hq, hm, hown, hbel⟩ := hrel
    have hkl : k.length = n - 255 * j := by rw [hk, List.length_drop, HN.out]
    have hbs := hbel.size
    obtain ⟨N, hN⟩ : ∃ N, N = k.length := ⟨_, rfl⟩
    have hNb : N ≤ 5000 := by omega
    have hsz : (ByteArray.mk k.toArray).size = N := by rw [hN]; simp [ByteArray.size]
    by_cases hlt : 0 < N
    · have hjJ : j < J := (HJ.out j).2 (by omega)
      obtain ⟨c, hc⟩ : ∃ c : Nat, c = min N 255 := ⟨_, rfl⟩
      have hpl : (Bk.part l j).length = c := by rw [Bk.part_len, HN.out, hc]; omega
      have hmin : min (N : Int) 255 = (c : Int) := by omega
      have hcb : c < 256 := by omega
      have hcN : c ≤ N := by omega
      have hex1 : (ByteArray.mk k.toArray).extract 0 c = ⟨(Bk.part l j).toArray⟩ := by
        rw [Bk.extract_part]
        show ByteArray.mk (((k.drop 0).take (c - 0)).toArray) = _
        unfold Bk.part
        rw [← hk, List.drop_zero, Nat.sub_zero]
        congr 2
        rw [List.take_eq_take_iff]
        omega
      have hex2 : (ByteArray.mk k.toArray).extract c N = ⟨(l.drop (255 * (j + 1))).toArray⟩ := by
        rw [Bk.extract_part]
        show ByteArray.mk (((k.drop c).take (N - c)).toArray) = _
        rw [List.take_of_length_le (by rw [List.length_drop]; omega)]
        congr 2
        rw [hk, List.drop_drop]
        by_cases h255 : N ≤ 255
        · rw [List.drop_eq_nil_of_le (by rw [HN.out]; omega), List.drop_eq_nil_of_le (by rw [HN.out]; omega)]
        · congr 1; omega
      have HQ : Hid (q ++ [UInt8.ofNat c] ++ Bk.part l j = Bk.acc l (j + 1)) := by
        show _ = _; rw [Bk.acc_succ, hpl, hq, List.append_assoc]; rfl
      obtain ⟨u, hu⟩ : ∃ u, u = UInt8.ofNat c := ⟨_, rfl⟩
      have HU : Hid ((u.toNat : Int) = (c : Int)) := by show _ = _; rw [hu]; simp; omega
      rw [← hu] at HQ
      have HM : Hid (m + 1 + (Bk.part l j).length ≤ 256 * (j + 1)) := by show _ ≤ _; rw [hpl]; omega
      have hmb : m ≤ 6000 := by omega
      have HC : Hid ((l.drop (255 * (j + 1))).length < k.length) := by show _ < _; rw [List.length_drop, HN.out]; omega
      have hcase : (c = N ∧ N ≤ 255) ∨ (c = 255 ∧ 255 < N) := by omega
      have HZ : Hid (N ≤ 255 → l.drop (255 * (j + 1)) = []) := fun h => List.drop_eq_nil_of_le (by rw [HN.out]; omega)
      have hpb : (Bk.part l j).length ≤ 255 := by omega
      clear hq hk hkl hN hc HN HJ hu hpl hmin
      generalize Bk.part l j = p at *
      generalize hk2 : l.drop (255 * (j + 1)) = k2 at *
      have HK2 : Hid (k2 = l.drop (255 * (j + 1))) := hk2.symm
      clear hk2
      obtain ⟨q2, hq2⟩ : ∃ q2, q2 = q ++ [u] := ⟨_, rfl⟩
      rw [← hq2] at HQ
      have HQ2 : Hid (q2 = q ++ [u]) := hq2
      clear hq2
      rcases hcase with ⟨rfl, h255⟩ | ⟨rfl, h255⟩
      all_goals
        go_wp2_with (at_builtin; refine wpList_appT1 wr (by rfl) _ _ (by rfl) w.heap.size _ m q _ u HU.out.symm (by rfl) hown (by rfl) (by omega) hbs ?_)
        intro g cap w4 hown4 hgrow
        have hb4 := hgrow.below hbel (Nat.le_refl _) hbs
        have hbs4 := hb4.size
        rw [← HQ2.out] at hown4
        have hmp : m + 1 + p.length ≤ 2000000 := by omega
        clear hown hbel hgrow hbs
        go_wp2_with (at_builtin; refine wpList_appTs w4 (by rfl) _ _ (by rfl) w.heap.size _ (m + 1) q2 p (by rfl) hown4 (by rfl) hmp hbs4 ?_)
        intro v5 w5 hown5 hstep
        have HO : Hid (OwnT w5 w.heap.size v5 (m + 1 + p.length) (q2 ++ p) ∧ Below w.heap.size w w5) := ⟨hown5, hstep _ _ hb4 (Nat.le_refl _) hbs4⟩
        clear hown4 hown5 hstep hb4 hbs4
        go_wp2_with fail
        go_roundw
        case rel => exact ⟨j + 1, m + 1 + p.length, k2, _, by omega, HK2.out, by first | rfl | (rw [HZ.out h255]; rfl), rfl, HM.out, by rw [← HQ.out]; exact HO.out.1, HO.out.2⟩
        case measure => first | exact (show sizeOfStr (.string ⟨k2.toArray⟩) < sizeOfStr (.string ⟨k.toArray⟩) by rw [sizeOfStr_mk, sizeOfStr_mk]; exact HC.out) | exact (show 0 < sizeOfStr (.string ⟨k.toArray⟩) by rw [sizeOfStr_mk]; exact Nat.lt_of_le_of_lt (Nat.zero_le _) HC.out)
    · have hjJ : j = J := by
        rcases Nat.lt_or_ge j J with h | h
        · have := (HJ.out j).1 h; omega
        · omega
      subst hjJ
      have hN0 : N = 0 := by omega
      subst hN0
      have HQ : Hid (q = Bk.acc l j) := hq
      have hmb : m ≤ 6000 := by omega
      clear hq hk hkl hN HN HJ
      go_wp2_with (at_builtin; refine wpList_appT1 wr (by rfl) _ _ (by rfl) w.heap.size _ m q _ 0 (by rfl) (by rfl) hown (by rfl) (by omega) hbs ?_)
      intro g cap w4 hown4 hgrow
      have hb4 := hgrow.below hbel (Nat.le_refl _) hbs
      have htx := hown4.text
      clear hown hbel hgrow hbs hown4
      go_wp2_with fail
      go_ret
      exact ⟨by rw [← HQ.out]; rfl, hb4⟩

set_option maxHeartbeats 400000 in
theorem impl_blocksPut (s : ByteArray) (w : World) (hs : s.size ≤ 1048576) :
    Calls Try.prog 16 #[.string s] w fun e w' => e = .returned (.string ⟨(if s.size ≤ 5000 then Bk.all s.data.toList else []).toArray⟩) ∧ Below w.heap.size w w' := by
  by_cases h : s.size ≤ 5000
  · rw [if_pos h]; exact impl_blocksPut_yes s w h
  · rw [if_neg h]
    go_enter Try.func16, Try.ntmps16
    go_wp2_with fail
    go_ret
    exact ⟨rfl, Below.refl _ _⟩
end Go.Proofs.Ytoeekanmhnbgfaa
