/- ChunksPut of the specification. -/
import Derived.Test.YtgbcjkpmiceddaaChRow
import Derived.Test.YtgbcjkpmiceddaaChMath
import Derived.Test.YtgbcjkpmiceddaaCrWalks
import Derived.Test.YtgbcjkpmiceddaaPutWalks
namespace Go.Proofs.Ytgbcjkpmiceddaa
open Go.RowKit

theorem ch_str (Q a b c : List UInt8) : (ByteArray.mk Q.toArray ++ ByteArray.mk a.toArray ++ ByteArray.mk b.toArray ++ ByteArray.mk c.toArray) = ByteArray.mk (Q ++ (a ++ b ++ c)).toArray := by
  apply ByteArray.ext
  simp
theorem ch_size (l : List UInt8) : (ByteArray.mk l.toArray).size = l.length := by simp [ByteArray.size]
theorem ch_bytes (s : ByteArray) : s = ByteArray.mk s.data.toList.toArray := by
  apply ByteArray.ext
  simp

set_option maxHeartbeats 1000000 in
theorem l9Sign_any (w : World) : Calls Try.prog 34 #[] w fun e w' => e = .returned (.string ⟨Ch.sign.toArray⟩) ∧ Below w.heap.size w w' := by
  have htx : Sem.run Try.prog (convert 22 9 (.slice (some ⟨w.heap.size, 0, none⟩) 8 8)) (w.alloc (.cells #[.int .u8 137, .int .u8 80, .int .u8 78, .int .u8 71, .int .u8 13, .int .u8 10, .int .u8 26, .int .u8 10] 5)) = .ok (.string ⟨Ch.sign.toArray⟩) (w.alloc (.cells #[.int .u8 137, .int .u8 80, .int .u8 78, .int .u8 71, .int .u8 13, .int .u8 10, .int .u8 26, .int .u8 10] 5)) := by
    have := run_text (w.alloc (.cells #[.int .u8 137, .int .u8 80, .int .u8 78, .int .u8 71, .int .u8 13, .int .u8 10, .int .u8 26, .int .u8 10] 5)) ⟨w.heap.size, 0, none⟩ 8 [137, 80, 78, 71, 13, 10, 26, 10] (by
      intro j v hj
      simp only [Addr.add]
      rw [show (⟨w.heap.size, 0 + j, none⟩ : Addr) = ⟨w.heap.size, j, none⟩ by simp, show (if j = 0 then (⟨w.heap.size, 0, none⟩ : Addr) else ⟨w.heap.size, j, none⟩) = ⟨w.heap.size, j, none⟩ by split <;> simp_all, World.cell?_alloc_at _ _ _ _ rfl]
      rw [← hj]
      have : j < 8 := by
        rcases Nat.lt_or_ge j 8 with h | h
        · exact h
        · rw [List.getElem?_eq_none (by simpa using h)] at hj; cases hj
      have h : j = 0 ∨ j = 1 ∨ j = 2 ∨ j = 3 ∨ j = 4 ∨ j = 5 ∨ j = 6 ∨ j = 7 := by omega
      rcases h with rfl | rfl | rfl | rfl | rfl | rfl | rfl | rfl <;> rfl)
    exact this
  go_enter Try.func34, Try.ntmps34
  go_wp2_with fail
  go_ret
  exact ⟨rfl, (Below.refl _ _).alloc (Nat.le_refl _) _⟩

set_option maxHeartbeats 4000000 in
set_option maxRecDepth 20000 in
theorem l9Chunks_any (a : Option Addr) (n cap : Nat) (l : List (ByteArray × ByteArray)) (w : World) (h : Chs2 w a l) (hn : l.length = n) (hl : n ≤ 1048576) (hok : Ch.ok 8 l = true) :
    Calls Try.prog 29 #[.slice a n cap] w fun e w' => e = .returned (.string ⟨(Ch.out l).toArray⟩) ∧ Below w.heap.size w w' := by
  have HI : Hid (Chs2 w a l) := h
  have HN : Hid (l.length = n) := hn
  have HOK : Hid (Ch.ok 8 l = true) := hok
  have HSG : Hid (Calls Try.prog 34 #[] w fun e w' => e = .returned (.string ⟨Ch.sign.toArray⟩) ∧ Below w.heap.size w w') := l9Sign_any w
  have hzg : n ≤ l.length := by omega
  clear h hn hok
  go_enter Try.func29, Try.ntmps29
  go_wp2_with fail
  refine HSG.out.mono ?_
  rintro e w1 ⟨rfl, b1⟩
  obtain ⟨S0, hS0⟩ : ∃ S0 : ByteArray, S0 = ⟨Ch.sign.toArray⟩ := ⟨_, rfl⟩
  have HS0 : Hid (S0 = ⟨Ch.sign.toArray⟩) := hS0
  rw [← hS0]
  clear hS0
  have HB1 : Hid (Below w.heap.size w w1) := b1
  clear b1 HSG
  go_wp2_with fail
  go_loopw [3, 4] (fun o i wr => ∃ (k : Nat) (q : ByteArray), k ≤ n ∧ i = .int .i64 (k : Int) ∧ o = .string q ∧ q.size ≤ 9000 ∧ Hid (q = ⟨(Ch.out (l.take k)).toArray⟩ ∧ Ch.ok q.size (l.drop k) = true) ∧ Below w.heap.size w wr) (fun _ i _ => n - (intOf i).toNat)
  case atStart => exact ⟨0, S0, Nat.zero_le _, rfl, rfl, by rw [HS0.out]; decide, ⟨by rw [HS0.out]; simp [Ch.out], by rw [HS0.out]; exact HOK.out⟩, HB1.out⟩
  case round =>
    obtain ⟨k, q, hk, rfl, rfl, hq, HQ, hbel⟩ := hrel
    clear HB1
    by_cases hlt : k < n
    · have hkl : k < l.length := by omega
      obtain ⟨b, off, rfl, hbB, hc1, hc2⟩ := HI.out.at hkl
      have e1 := (hbel.cell (p := ⟨b, off + k * 2, none⟩) hbB).trans hc1
      have e2 := (hbel.cell (p := ⟨b, off + k * 2 + 1, none⟩) hbB).trans hc2
      have hki : (k : Int) < (n : Int) := by omega
      have hok := HQ.out.2
      rw [Ch.ok_drop hkl, Bool.and_eq_true, Bool.and_eq_true, decide_eq_true_eq] at hok
      obtain ⟨ok1, ok2, ok3⟩ := hok
      have hn4 := Ch.name_size ok1
      have HP : Hid (Ch.out (l.take (k + 1)) = Ch.out (l.take k) ++ Ch.piece l[k] ∧ (Ch.piece l[k]).length = 12 + (l[k]).2.size ∧ Ch.ok (q.size + 12 + (l[k]).2.size) (l.drop (k + 1)) = true) := ⟨Ch.out_snoc l k hkl, Ch.piece_len hn4, ok3⟩
      have hpd : Ch.piece l[k] = (Pt.low (l[k]).2.size 4).reverse ++ (l[k]).1.data.toList ++ (l[k]).2.data.toList ++ (Pt.low (Ch.crc l[k]) 4).reverse := rfl
      have HPD : Hid (Ch.piece l[k] = (Pt.low (l[k]).2.size 4).reverse ++ (l[k]).1.data.toList ++ (l[k]).2.data.toList ++ (Pt.low (Ch.crc l[k]) 4).reverse) := hpd
      have hcl := Ch.crc_lt l[k]
      have hca := fun (h : ((l[k]).1 ++ (l[k]).2).size ≤ 9000) => Ch.crc_ans (p := l[k]) h
      clear hc1 hc2 ok1 ok3 hpd
      generalize Ch.crc l[k] = C at *
      generalize Ch.piece l[k] = PC at *
      generalize (l[k]).1 = v at *
      generalize (l[k]).2 = s at *
      obtain ⟨u, hu⟩ : ∃ u, u = v ++ s := ⟨_, rfl⟩
      have hus : u.size = v.size + s.size := by rw [hu, ByteArray.size_append]
      have HN1 : Hid (∀ w : World, Calls Try.prog 39 #[.int .i64 (s.size : Int), .int .i64 4, .bool true] w fun e w' => e = .returned (.string ⟨((Pt.low s.size 4).reverse).toArray⟩) ∧ Below w.heap.size w w') := fun w => l1Num_big s.size 4 w (by omega) (by omega)
      have HCR : Hid (∀ w : World, Calls Try.prog 36 #[.string u] w fun e w' => e = .returned (.int .i64 (C : Int)) ∧ w' = w) := fun w => by
        rw [← hca (by rw [← hu]; omega), ← hu]
        exact spec_crc32 u w (by unfold maxLen; omega)
      have HN2 : Hid (∀ w : World, Calls Try.prog 39 #[.int .i64 (C : Int), .int .i64 4, .bool true] w fun e w' => e = .returned (.string ⟨((Pt.low C 4).reverse).toArray⟩) ∧ Below w.heap.size w w') := fun w => l1Num_big C 4 w (by omega) (by omega)
      obtain ⟨t1, ht1⟩ : ∃ t1 : ByteArray, t1 = ⟨((Pt.low s.size 4).reverse).toArray⟩ := ⟨_, rfl⟩
      obtain ⟨t2, ht2⟩ : ∃ t2 : ByteArray, t2 = ⟨((Pt.low C 4).reverse).toArray⟩ := ⟨_, rfl⟩
      have hz1 : t1.size = 4 := by rw [ht1, ch_size, List.length_reverse, Pt.low_len]
      have hz2 : t2.size = 4 := by rw [ht2, ch_size, List.length_reverse, Pt.low_len]
      rw [← ht1] at HN1
      rw [← ht2] at HN2
      have HR : Hid (q ++ t1 ++ u ++ t2 = ⟨(Ch.out (l.take (k + 1))).toArray⟩) := by
        show _ = _
        rw [HP.out.1, HPD.out, ht1, ht2, hu, HQ.out.1]
        apply ByteArray.ext
        simp
      have HZ : Hid ((q ++ t1 ++ u ++ t2).size = q.size + 12 + s.size) := by
        show _ = _
        rw [ByteArray.size_append, ByteArray.size_append, ByteArray.size_append, hz1, hz2, hus, hn4]; omega
      have hvs : v.size ≤ 9000 := by omega
      have hss : s.size ≤ 9000 := by omega
      have huu : u.size ≤ 9000 := by omega
      have hz1' : t1.size ≤ 4 := by omega
      have hz2' : t2.size ≤ 4 := by omega
      have hu' : v ++ s = u := hu.symm
      clear hu hus hn4 hz1 hz2 ht1 ht2 hca hcl HPD
      go_wp2_with fail
      go_quiet (fail)
      have e1' : (wr.drewN nq).cell? ⟨b, off + k * 2, none⟩ = some (.string v) := e1
      have e2' : (wr.drewN nq).cell? ⟨b, off + k * 2 + 1, none⟩ = some (.string s) := e2
      have hbel' : Below w.heap.size w (wr.drewN nq) := ⟨hbel.os, hbel.tape, hbel.output, hbel.size, hbel.block⟩
      clear e1 e2 hbel
      generalize wr.drewN nq = w2 at *
      go_wp2_with fail
      refine (HN1.out _).mono ?_
      rintro e w3 ⟨rfl, b3⟩
      have HB3 : Hid (Below w.heap.size w w3) := hbel'.trans (b3.mono hbel'.size)
      clear b3 hbel' e1' e2' HN1
      go_wp2_with fail
      refine (HCR.out _).mono ?_
      rintro e w4 ⟨rfl, hw4⟩
      replace hw4 := hw4.symm
      subst hw4
      go_wp2_with fail
      refine (HN2.out _).mono ?_
      rintro e w5 ⟨rfl, b5⟩
      have HB5 : Hid (Below w.heap.size w w5) := HB3.out.trans (b5.mono HB3.out.size)
      clear b5 HB3 HN2 HCR
      go_wp2_with fail
      go_roundw
      case rel => exact ⟨k + 1, q ++ t1 ++ u ++ t2, by omega, by go_num, rfl, by rw [HZ.out]; omega, ⟨HR.out, by rw [HZ.out]; exact HP.out.2.2⟩, HB5.out⟩
      case measure => simp [intOf]; omega
    · have hF : q = ⟨(Ch.out l).toArray⟩ := by
        have := HQ.out.1
        rw [List.take_of_length_le (by have := HN.out; omega)] at this
        exact this
      have HF : Hid (q = ⟨(Ch.out l).toArray⟩) := hF
      clear hF HQ
      go_wp2_with fail
      go_ret
      exact ⟨by rw [← HF.out]; rfl, hbel⟩

set_option maxHeartbeats 4000000 in
set_option maxRecDepth 20000 in
theorem spec_chunksPut (a : Option Addr) (n cap : Nat) (l : List (ByteArray × ByteArray)) (w : World) (h : Chs2 w a l) (hn : l.length = n) (hl : n ≤ 1048576) (hz : ∀ p ∈ l, p.1.size ≤ 1048576 ∧ p.2.size ≤ 1048576) :
    Calls Try.prog 11 #[.slice a n cap] w fun e w' => e = .returned (.string ⟨(Ch.ans l).toArray⟩) ∧ Below w.heap.size w w' := by
  have HI : Hid (Chs2 w a l) := h
  have HN : Hid (l.length = n) := hn
  have HZ : Hid (∀ p ∈ l, p.1.size ≤ 1048576 ∧ p.2.size ≤ 1048576) := hz
  have hzg : n ≤ l.length := by omega
  clear h hn hz
  go_enter Try.func11, Try.ntmps11
  go_wp2_with fail
  go_loopw [3, 4] (fun o i wr => ∃ (k N : Nat), k ≤ n ∧ i = .int .i64 (k : Int) ∧ o = .int .i64 (N : Int) ∧ N ≤ 9000 ∧ Hid (Ch.ok 8 l = Ch.ok N (l.drop k)) ∧ Below w.heap.size w wr) (fun _ i _ => n - (intOf i).toNat)
  case atStart => exact ⟨0, 8, Nat.zero_le _, rfl, rfl, by omega, rfl, Below.refl _ _⟩
  case round =>
    obtain ⟨k, N, hk, rfl, rfl, hN, HQ, hbel⟩ := hrel
    by_cases hlt : k < n
    · have hkl : k < l.length := by omega
      obtain ⟨b, off, rfl, hbB, hc1, hc2⟩ := HI.out.at hkl
      have e1 := (hbel.cell (p := ⟨b, off + k * 2, none⟩) hbB).trans hc1
      have e2 := (hbel.cell (p := ⟨b, off + k * 2 + 1, none⟩) hbB).trans hc2
      have hki : (k : Int) < (n : Int) := by omega
      have hzz := HZ.out _ (List.getElem_mem hkl)
      have HOK : Hid (Ch.ok 8 l = (Ch.name (l[k]).1 && (decide (N + 12 + (l[k]).2.size ≤ 9000) && Ch.ok (N + 12 + (l[k]).2.size) (l.drop (k + 1))))) := by
        show _ = _
        rw [HQ.out, Ch.ok_drop hkl]
      have HNM : Hid (∀ w : World, Calls Try.prog 28 #[.string (l[k]).1] w fun e w' => e = .returned (.bool (Ch.name (l[k]).1)) ∧ w' = w) := fun w => l9Name_any (l[k]).1 w hzz.1
      clear hc1 hc2 HQ
      generalize (l[k]).1 = v at *
      generalize (l[k]).2 = s at *
      obtain ⟨M, hM⟩ : ∃ M, M = N + 12 + s.size := ⟨_, rfl⟩
      have eM : (N : Int) + 12 + (s.size : Int) = (M : Int) := by omega
      have hvb : v.size ≤ 1048576 := hzz.1
      have hsb : s.size ≤ 1048576 := hzz.2
      have hMb : M ≤ 2000000 := by omega
      rw [← hM] at HOK
      clear hM hzz
      cases hnm : Ch.name v
      · have HF : Hid (Ch.ans l = []) := by
          show _ = _
          unfold Ch.ans
          rw [HOK.out, hnm]; rfl
        rw [hnm] at HNM
        clear HOK hnm
        go_wp2_with fail
        refine (HNM.out _).mono ?_
        rintro e w2 ⟨rfl, hw2⟩
        replace hw2 := hw2.symm
        subst hw2
        clear HNM
        go_wp2_with fail
        go_ret
        exact ⟨by rw [HF.out]; rfl, hbel⟩
      · by_cases hfit : M ≤ 9000
        · have hfi : ¬ (9000 : Int) < (M : Int) := by omega
          have HF : Hid (Ch.ok 8 l = Ch.ok M (l.drop (k + 1))) := by
            show _ = _
            rw [HOK.out, hnm, decide_eq_true hfit, Bool.true_and, Bool.true_and]
          rw [hnm] at HNM
          clear HOK hnm
          go_wp2_with fail
          refine (HNM.out _).mono ?_
          rintro e w2 ⟨rfl, hw2⟩
          replace hw2 := hw2.symm
          subst hw2
          clear HNM
          go_wp2_with fail
          go_roundw
          case rel => exact ⟨k + 1, M, by omega, by go_num, rfl, hfit, HF, hbel⟩
          case measure => simp [intOf]; omega
        · have hfi : (9000 : Int) < (M : Int) := by omega
          have HF : Hid (Ch.ans l = []) := by
            show _ = _
            unfold Ch.ans
            rw [HOK.out, hnm, decide_eq_false hfit]; rfl
          rw [hnm] at HNM
          clear HOK hnm
          go_wp2_with fail
          refine (HNM.out _).mono ?_
          rintro e w2 ⟨rfl, hw2⟩
          replace hw2 := hw2.symm
          subst hw2
          clear HNM
          go_wp2_with fail
          go_ret
          exact ⟨by rw [HF.out]; rfl, hbel⟩
    · have hok : Ch.ok 8 l = true := by rw [HQ.out, Ch.ok_end (by have := HN.out; omega)]
      have HF : Hid (Ch.ans l = Ch.out l) := by show _ = _; unfold Ch.ans; rw [if_pos hok]
      have HC : Hid (Calls Try.prog 29 #[.slice a n cap] wr fun e w' => e = .returned (.string ⟨(Ch.out l).toArray⟩) ∧ Below wr.heap.size wr w') := l9Chunks_any a n cap l wr (HI.out.kept hbel) HN.out hl hok
      rw [← HF.out] at HC
      clear hok HQ HF
      go_wp2_with fail
      refine HC.out.mono ?_
      rintro e w2 ⟨rfl, b2⟩
      have HB2 : Hid (Below w.heap.size w w2) := hbel.trans (b2.mono hbel.size)
      clear b2 hbel HC
      obtain ⟨T, hT⟩ : ∃ T : ByteArray, T = ⟨(Ch.ans l).toArray⟩ := ⟨_, rfl⟩
      have HT : Hid (T = ⟨(Ch.ans l).toArray⟩) := hT
      rw [← hT]
      clear hT
      go_wp2_with fail
      go_ret
      exact ⟨by rw [← HT.out]; rfl, HB2.out⟩
end Go.Proofs.Ytgbcjkpmiceddaa
