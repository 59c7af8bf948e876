/- A packet of PackBits, read and put out. -/
import Derived.Test.YtmcjdilmmabiaaaOtWalks
import Derived.Test.YtmcjdilmmabiaaaPgMath
import Derived.Test.YtmcjdilmmabiaaaBkSpec
namespace Go.Proofs.Ytmcjdilmmabiaaa
open Go.RowKit

/-- the bytes that are put out so far, behind a world -/
def Pst (w5 : World) (O base lim : Nat) (x : List UInt8) (wr : World) : Prop := ∃ v, Ot wr O v lim ∧ OwnT wr base v x.length x ∧ Off O O base w5 wr ∧ base ≤ wr.heap.size
/-- how a packet ends -/
def PtEnd (w : World) (B O base lim : Nat) (s : ByteArray) (A : Nat) (l : List UInt8) (e : Ending) (w' : World) : Prop :=
  Off B O base w w' ∧
  ((A + 1 + Pg.nd (byteAt s A) ≤ s.size ∧ (l ++ Pg.outp (byteAt s A) (s.data.toList.drop (A + 1))).length ≤ lim ∧ e = .returned (.tuple #[]) ∧ Br w' B s (A + 1 + Pg.nd (byteAt s A)) ∧ base ≤ w'.heap.size ∧ ∃ v, Ot w' O v lim ∧ OwnT w' base v (l ++ Pg.outp (byteAt s A) (s.data.toList.drop (A + 1))).length (l ++ Pg.outp (byteAt s A) (s.data.toList.drop (A + 1)))) ∨
   (¬ A + 1 + Pg.nd (byteAt s A) ≤ s.size ∧ e = fault 2) ∨
   (A + 1 + Pg.nd (byteAt s A) ≤ s.size ∧ lim < (l ++ Pg.outp (byteAt s A) (s.data.toList.drop (A + 1))).length ∧ e = fault 3))

theorem ext_list (s : ByteArray) (a n : Nat) : (s.extract a (a + n)).data.toList = (s.data.toList.drop a).take n := by
  rw [Bk.extract_part]
  show ((s.data.toList.drop a).take (a + n - a)) = _
  rw [Nat.add_sub_cancel_left]

set_option maxHeartbeats 4000000 in
set_option maxRecDepth 20000 in
theorem outPacket_any (B O base lim A : Nat) (s : ByteArray) (v : Value) (l : List UInt8) (w : World) (h : Br w B s A) (hs : s.size ≤ 9000) (hA : A < s.size) (ho : Ot w O v lim) (hv : OwnT w base v l.length l) (hll : l.length ≤ lim) (hl5 : lim ≤ 5000) (hO : O < base) (hB : B < base) (hBO : B ≠ O) (hb : base ≤ w.heap.size) :
    Calls Try.prog 31 #[.pointer (some ⟨O, 0, none⟩), .pointer (some ⟨B, 0, none⟩)] w (PtEnd w B O base lim s A l) := by
  have HX0 : Hid (Calls Try.prog 48 #[.pointer (some ⟨B, 0, none⟩)] w fun e w' => e = .returned (.int .i64 (byteAt s A : Int)) ∧ Br w' B s (A + 1) ∧ Only B w w' ∧ w'.heap.size = w.heap.size) := nextByte_yes B A s w h (by omega) hA
  have hH256 := byteAt_lt s A
  have HST : Hid (∀ w' : World, Only B w w' → Off B O base w w' ∧ Pst w' O base lim l w') := fun w' oo => ⟨oo.off O base hb, v, ho.other oo (Ne.symm hBO), hv.through oo hB, Off.refl _ _ _ _, Nat.le_trans hb oo.below.size⟩
  clear h ho hv
  obtain ⟨H, hH⟩ : ∃ H, H = byteAt s A := ⟨_, rfl⟩
  rw [← hH] at HX0 hH256
  have HH : Hid (H = byteAt s A) := hH
  have hHi : (H : Int) < 256 := by omega
  clear hH
  go_enter Try.func31, Try.ntmps31
  go_wp2_with fail
  refine HX0.out.mono ?_
  rintro e w1 ⟨rfl, h1, h2, h3⟩
  have H1 : Hid (Br w1 B s (A + 1) ∧ Only B w w1) := ⟨h1, h2⟩
  clear h1 h2 h3 HX0
  by_cases hlo : H < 128
  · have hloi : (H : Int) < 128 := by omega
    have HND : Hid (Pg.nd (byteAt s A) = H + 1) := by show _ = _; rw [← HH.out]; unfold Pg.nd; rw [if_pos hlo]
    obtain ⟨N, hN⟩ : ∃ N, N = H + 1 := ⟨_, rfl⟩
    have e1 : (H : Int) + 1 = (N : Int) := by omega
    have g1 := wrap_i64_nat N (by omega)
    have HND2 : Hid (Pg.nd (byteAt s A) = N) := by show _ = _; rw [HND.out, hN]
    have HOUT : Hid (∀ R : List UInt8, Pg.outp (byteAt s A) R = R.take N) := fun R => by rw [← HH.out]; unfold Pg.outp; rw [if_pos hlo, hN]
    clear HND hN
    by_cases hin0 : A + 1 + N ≤ s.size
    · have hin : A + 1 + Pg.nd (byteAt s A) ≤ s.size := by rw [HND2.out]; exact hin0
      have HPC : Hid (Calls Try.prog 49 #[.pointer (some ⟨B, 0, none⟩), .int .i64 (N : Int)] w1 fun e w' => e = .returned (.string (s.extract (A + 1) (A + 1 + N))) ∧ Br w' B s (A + 1 + N) ∧ Only B w1 w' ∧ w'.heap.size = w1.heap.size) := piece_yes B (A + 1) N s w1 H1.out.1 (by omega) hin0
      obtain ⟨t, ht⟩ : ∃ t, t = s.extract (A + 1) (A + 1 + N) := ⟨_, rfl⟩
      have HRP : Hid (l ++ Pg.rep 1 t.data.toList = l ++ Pg.outp (byteAt s A) (s.data.toList.drop (A + 1))) := by show _ = _; rw [Pg.rep_one, HOUT.out, ht, ext_list]
      have hts : t.size ≤ 128 := by rw [ht, extract_size s (A + 1) N hin0]; omega
      rw [← ht] at HPC
      clear ht
      go_wp2_with fail
      refine HPC.out.mono ?_
      rintro e w5 ⟨rfl, h1, h2, h3⟩
      have H5 : Hid (Off B O base w w5 ∧ Br w5 B s (A + 1 + Pg.nd (byteAt s A)) ∧ Pst w5 O base lim l w5) := ⟨(HST.out w5 (H1.out.2.trans h2)).1, by rw [HND2.out]; exact h1, (HST.out w5 (H1.out.2.trans h2)).2⟩
      clear h1 h2 h3 HPC HST H1 HOUT HND2
      go_wp2_with fail
      go_loopw [25] (fun i wr => ∃ (k : Nat) (x : List UInt8), k ≤ 1 ∧ i = .int .i64 (k : Int) ∧ Hid (x = l ++ Pg.rep k t.data.toList) ∧ x.length ≤ lim ∧ Pst w5 O base lim x wr) (fun i _ => 1 - (intOf i).toNat)
      case atStart => exact ⟨0, l, Nat.zero_le _, rfl, (by show _ = _; simp [Pg.rep]), hll, H5.out.2.2⟩
      case round =>
        obtain ⟨k, x, hk, rfl, HX, hxl, hP⟩ := hrel
        have HP : Hid (Pst w5 O base lim x wr) := hP
        clear hP
        by_cases hlt : k < 1
        · have hki : (k : Int) < 1 := by omega
          go_wp2_with fail
          go_loopw [29] (fun j wq => ∃ (m : Nat) (y : List UInt8), m ≤ t.size ∧ j = .int .i64 (m : Int) ∧ Hid (y = x ++ t.data.toList.take m) ∧ y.length ≤ lim ∧ Pst w5 O base lim y wq) (fun j _ => t.size - (intOf j).toNat)
          case atStart => exact ⟨0, x, Nat.zero_le _, rfl, (by show _ = _; simp), hxl, HP.out⟩
          case round =>
            obtain ⟨m, y, hm, rfl, HY, hyl, hP2⟩ := hrel
            have HP2 : Hid (Pst w5 O base lim y wr) := hP2
            clear hP2
            by_cases hmt : m < t.size
            · have hmi : (m : Int) < (t.size : Int) := by omega
              obtain ⟨v, hv1, hv2, hv3, hv4⟩ := HP2.out
              obtain ⟨c, hc⟩ : ∃ c, c = t[m]'hmt := ⟨_, rfl⟩
              have HC : Hid (t.data.toList.take (m + 1) = t.data.toList.take m ++ [c]) := by
                show _ = _
                rw [List.take_add_one, hc, show t.data.toList[m]? = some (t[m]'hmt) by simp [ByteArray.getElem_eq_getElem_data]]; rfl
              have HPUT : Hid (if y.length < lim then Calls Try.prog 50 #[.pointer (some ⟨O, 0, none⟩), .int .u8 ((c.toNat : Nat) : Int)] wr (fun e w' => e = .returned (.tuple #[]) ∧ Pst w5 O base lim (y ++ [c]) w') else Calls Try.prog 50 #[.pointer (some ⟨O, 0, none⟩), .int .u8 ((c.toNat : Nat) : Int)] wr (fun e w' => e = fault 3 ∧ Off O O base w5 w')) := by
                show if _ then _ else _
                split
                · refine (put_yes O base lim y.length v y c wr hv1 hv2 hO hv4 (by assumption) hl5).mono ?_
                  rintro e w' ⟨rfl, v', a1, a2, a3, a4⟩
                  exact ⟨rfl, v', a1, by rw [List.length_append]; exact a2, hv3.trans a3, a4⟩
                · refine (put_no O base lim y.length v y _ wr hv1 hv2 (by omega)).mono ?_
                  rintro e w' ⟨rfl, q, rfl⟩
                  exact ⟨rfl, hv3.drewN q⟩
              clear hv1 hv2 hv3 hv4
              by_cases hroom : y.length < lim
              · have HPY : Hid (Calls Try.prog 50 #[.pointer (some ⟨O, 0, none⟩), .int .u8 ((c.toNat : Nat) : Int)] wr (fun e w' => e = .returned (.tuple #[]) ∧ Pst w5 O base lim (y ++ [c]) w')) := by have := HPUT.out; rw [if_pos hroom] at this; exact this
                clear HPUT
                rw [hc] at HPY
                go_wp2_with fail
                refine HPY.out.mono ?_
                rintro e w6 ⟨rfl, hP6⟩
                have HP6 : Hid (Pst w5 O base lim (y ++ [c]) w6) := by rw [hc]; exact hP6
                clear hP6 HPY hc
                go_wp2_with fail
                go_roundw
                case rel => exact ⟨m + 1, y ++ [c], by omega, by go_num, (by show _ = _; rw [HY.out, HC.out, List.append_assoc]), (by rw [List.length_append]; exact hroom), HP6.out⟩
                case measure => simp [intOf]; omega
              · have HPY : Hid (Calls Try.prog 50 #[.pointer (some ⟨O, 0, none⟩), .int .u8 ((c.toNat : Nat) : Int)] wr (fun e w' => e = fault 3 ∧ Off O O base w5 w')) := by have := HPUT.out; rw [if_neg hroom] at this; exact this
                have HOV : Hid (lim < (l ++ Pg.rep 1 t.data.toList).length) := Pg.rep_over hlt (j := m) (by rw [Array.length_toList]; exact hmt) (by rw [← HX.out, ← HY.out]; omega)
                clear HPUT
                rw [hc] at HPY
                go_wp2_with fail
                refine HPY.out.mono ?_
                rintro e w6 ⟨rfl, hO6⟩
                have HFN : Hid (PtEnd w B O base lim s A l (fault 3) w6) := ⟨H5.out.1.trans (hO6.wide B), .inr (.inr ⟨hin, by rw [← HRP.out]; exact HOV.out, rfl⟩)⟩
                clear hO6 HPY hc
                unfold fault
                go_wp2_with fail
                exact ⟨rfl, HFN.out⟩
            · obtain rfl : m = t.size := by omega
              have HX2 : Hid (y = l ++ Pg.rep (k + 1) t.data.toList) := by
                show _ = _
                rw [HY.out, List.take_of_length_le (by rw [Array.length_toList]; exact Nat.le_refl _), Pg.rep_succ, HX.out, List.append_assoc]
              clear HP
              go_wp2_with fail
              go_roundw
              case rel => exact ⟨k + 1, y, by omega, by go_num, HX2, hyl, HP2.out⟩
              case measure => simp [intOf]; omega
        · have hk' : k = 1 := by omega
          have HFN : Hid (PtEnd w B O base lim s A l (.returned (.tuple #[])) wr) := by
            obtain ⟨v, a1, a2, a3, a4⟩ := HP.out
            have hx : x = l ++ Pg.outp (byteAt s A) (s.data.toList.drop (A + 1)) := by rw [HX.out, hk', HRP.out]
            exact ⟨H5.out.1.trans (a3.wide B), .inl ⟨hin, by rw [← hx]; exact hxl, rfl, H5.out.2.1.off a3 hBO hB, a4, v, a1, by rw [← hx]; exact a2⟩⟩
          have hki : ¬ (k : Int) < 1 := by omega
          clear hk' HP HX H5 HRP
          go_wp2_with fail
          go_end0
          exact HFN.out
    · have HPC : Hid (Calls Try.prog 49 #[.pointer (some ⟨B, 0, none⟩), .int .i64 (N : Int)] w1 fun e w' => e = fault 2 ∧ Br w' B s (A + 1) ∧ Only B w1 w' ∧ w'.heap.size = w1.heap.size) := piece_no B (A + 1) N s w1 H1.out.1 (by omega) (by omega) (by omega)
      go_wp2_with fail
      refine HPC.out.mono ?_
      rintro e w5 ⟨rfl, h1, h2, h3⟩
      have HFN : Hid (PtEnd w B O base lim s A l (fault 2) w5) := ⟨(HST.out w5 (H1.out.2.trans h2)).1, .inr (.inl ⟨by rw [HND2.out]; exact hin0, rfl⟩)⟩
      clear h1 h2 h3 HPC HST H1
      unfold fault
      go_wp2_with fail
      exact ⟨rfl, HFN.out⟩
  · have hloi : ¬ (H : Int) < 128 := by omega
    by_cases hhi : 128 < H
    · have hhii : (128 : Int) < (H : Int) := by omega
      have HND2 : Hid (Pg.nd (byteAt s A) = 1) := by show _ = _; rw [← HH.out]; unfold Pg.nd; rw [if_neg hlo, if_pos hhi]
      obtain ⟨T, hT⟩ : ∃ T, T = 257 - H := ⟨_, rfl⟩
      have e1 : 257 - (H : Int) = (T : Int) := by omega
      have g1 := wrap_i64_nat T (by omega)
      have HOUT : Hid (∀ R : List UInt8, Pg.outp (byteAt s A) R = List.replicate T (R.getD 0 0)) := fun R => by rw [← HH.out]; unfold Pg.outp; rw [if_neg hlo, if_pos hhi, hT]
      have hT1 : T ≤ 128 := by omega
      clear hT
      by_cases hin0 : A + 1 + 1 ≤ s.size
      · have hin : A + 1 + Pg.nd (byteAt s A) ≤ s.size := by rw [HND2.out]; exact hin0
        have HPC : Hid (Calls Try.prog 49 #[.pointer (some ⟨B, 0, none⟩), .int .i64 1] w1 fun e w' => e = .returned (.string (s.extract (A + 1) (A + 1 + 1))) ∧ Br w' B s (A + 1 + 1) ∧ Only B w1 w' ∧ w'.heap.size = w1.heap.size) := piece_yes B (A + 1) 1 s w1 H1.out.1 (by omega) hin0
        obtain ⟨t, ht⟩ : ∃ t, t = s.extract (A + 1) (A + 1 + 1) := ⟨_, rfl⟩
        have HRP : Hid (l ++ Pg.rep T t.data.toList = l ++ Pg.outp (byteAt s A) (s.data.toList.drop (A + 1))) := by
          show _ = _
          rw [HOUT.out, ht, ext_list]
          rcases hR : s.data.toList.drop (A + 1) with _ | ⟨c, R⟩
          · have := congrArg List.length hR
            rw [List.length_drop, Array.length_toList] at this
            have h0 : s.data.size = s.size := rfl
            simp at this; omega
          · rw [show (c :: R).take 1 = [c] from rfl, Pg.rep_byte]; rfl
        have hts : t.size ≤ 128 := by rw [ht, extract_size s (A + 1) 1 hin0]; omega
        rw [← ht] at HPC
        clear ht
        go_wp2_with fail
        refine HPC.out.mono ?_
        rintro e w5 ⟨rfl, h1, h2, h3⟩
        have H5 : Hid (Off B O base w w5 ∧ Br w5 B s (A + 1 + Pg.nd (byteAt s A)) ∧ Pst w5 O base lim l w5) := ⟨(HST.out w5 (H1.out.2.trans h2)).1, by rw [HND2.out]; exact h1, (HST.out w5 (H1.out.2.trans h2)).2⟩
        clear h1 h2 h3 HPC HST H1 HOUT HND2
        go_wp2_with fail
        go_loopw [25] (fun i wr => ∃ (k : Nat) (x : List UInt8), k ≤ T ∧ i = .int .i64 (k : Int) ∧ Hid (x = l ++ Pg.rep k t.data.toList) ∧ x.length ≤ lim ∧ Pst w5 O base lim x wr) (fun i _ => T - (intOf i).toNat)
        case atStart => exact ⟨0, l, Nat.zero_le _, rfl, (by show _ = _; simp [Pg.rep]), hll, H5.out.2.2⟩
        case round =>
          obtain ⟨k, x, hk, rfl, HX, hxl, hP⟩ := hrel
          have HP : Hid (Pst w5 O base lim x wr) := hP
          clear hP
          by_cases hlt : k < T
          · have hki : (k : Int) < (T : Int) := by omega
            go_wp2_with fail
            go_loopw [29] (fun j wq => ∃ (m : Nat) (y : List UInt8), m ≤ t.size ∧ j = .int .i64 (m : Int) ∧ Hid (y = x ++ t.data.toList.take m) ∧ y.length ≤ lim ∧ Pst w5 O base lim y wq) (fun j _ => t.size - (intOf j).toNat)
            case atStart => exact ⟨0, x, Nat.zero_le _, rfl, (by show _ = _; simp), hxl, HP.out⟩
            case round =>
              obtain ⟨m, y, hm, rfl, HY, hyl, hP2⟩ := hrel
              have HP2 : Hid (Pst w5 O base lim y wr) := hP2
              clear hP2
              by_cases hmt : m < t.size
              · have hmi : (m : Int) < (t.size : Int) := by omega
                obtain ⟨v, hv1, hv2, hv3, hv4⟩ := HP2.out
                obtain ⟨c, hc⟩ : ∃ c, c = t[m]'hmt := ⟨_, rfl⟩
                have HC : Hid (t.data.toList.take (m + 1) = t.data.toList.take m ++ [c]) := by
                  show _ = _
                  rw [List.take_add_one, hc, show t.data.toList[m]? = some (t[m]'hmt) by simp [ByteArray.getElem_eq_getElem_data]]; rfl
                have HPUT : Hid (if y.length < lim then Calls Try.prog 50 #[.pointer (some ⟨O, 0, none⟩), .int .u8 ((c.toNat : Nat) : Int)] wr (fun e w' => e = .returned (.tuple #[]) ∧ Pst w5 O base lim (y ++ [c]) w') else Calls Try.prog 50 #[.pointer (some ⟨O, 0, none⟩), .int .u8 ((c.toNat : Nat) : Int)] wr (fun e w' => e = fault 3 ∧ Off O O base w5 w')) := by
                  show if _ then _ else _
                  split
                  · refine (put_yes O base lim y.length v y c wr hv1 hv2 hO hv4 (by assumption) hl5).mono ?_
                    rintro e w' ⟨rfl, v', a1, a2, a3, a4⟩
                    exact ⟨rfl, v', a1, by rw [List.length_append]; exact a2, hv3.trans a3, a4⟩
                  · refine (put_no O base lim y.length v y _ wr hv1 hv2 (by omega)).mono ?_
                    rintro e w' ⟨rfl, q, rfl⟩
                    exact ⟨rfl, hv3.drewN q⟩
                clear hv1 hv2 hv3 hv4
                by_cases hroom : y.length < lim
                · have HPY : Hid (Calls Try.prog 50 #[.pointer (some ⟨O, 0, none⟩), .int .u8 ((c.toNat : Nat) : Int)] wr (fun e w' => e = .returned (.tuple #[]) ∧ Pst w5 O base lim (y ++ [c]) w')) := by have := HPUT.out; rw [if_pos hroom] at this; exact this
                  clear HPUT
                  rw [hc] at HPY
                  go_wp2_with fail
                  refine HPY.out.mono ?_
                  rintro e w6 ⟨rfl, hP6⟩
                  have HP6 : Hid (Pst w5 O base lim (y ++ [c]) w6) := by rw [hc]; exact hP6
                  clear hP6 HPY hc
                  go_wp2_with fail
                  go_roundw
                  case rel => exact ⟨m + 1, y ++ [c], by omega, by go_num, (by show _ = _; rw [HY.out, HC.out, List.append_assoc]), (by rw [List.length_append]; exact hroom), HP6.out⟩
                  case measure => simp [intOf]; omega
                · have HPY : Hid (Calls Try.prog 50 #[.pointer (some ⟨O, 0, none⟩), .int .u8 ((c.toNat : Nat) : Int)] wr (fun e w' => e = fault 3 ∧ Off O O base w5 w')) := by have := HPUT.out; rw [if_neg hroom] at this; exact this
                  have HOV : Hid (lim < (l ++ Pg.rep T t.data.toList).length) := Pg.rep_over hlt (j := m) (by rw [Array.length_toList]; exact hmt) (by rw [← HX.out, ← HY.out]; omega)
                  clear HPUT
                  rw [hc] at HPY
                  go_wp2_with fail
                  refine HPY.out.mono ?_
                  rintro e w6 ⟨rfl, hO6⟩
                  have HFN : Hid (PtEnd w B O base lim s A l (fault 3) w6) := ⟨H5.out.1.trans (hO6.wide B), .inr (.inr ⟨hin, by rw [← HRP.out]; exact HOV.out, rfl⟩)⟩
                  clear hO6 HPY hc
                  unfold fault
                  go_wp2_with fail
                  exact ⟨rfl, HFN.out⟩
              · obtain rfl : m = t.size := by omega
                have HX2 : Hid (y = l ++ Pg.rep (k + 1) t.data.toList) := by
                  show _ = _
                  rw [HY.out, List.take_of_length_le (by rw [Array.length_toList]; exact Nat.le_refl _), Pg.rep_succ, HX.out, List.append_assoc]
                clear HP
                go_wp2_with fail
                go_roundw
                case rel => exact ⟨k + 1, y, by omega, by go_num, HX2, hyl, HP2.out⟩
                case measure => simp [intOf]; omega
          · have hk' : k = T := by omega
            have HFN : Hid (PtEnd w B O base lim s A l (.returned (.tuple #[])) wr) := by
              obtain ⟨v, a1, a2, a3, a4⟩ := HP.out
              have hx : x = l ++ Pg.outp (byteAt s A) (s.data.toList.drop (A + 1)) := by rw [HX.out, hk', HRP.out]
              exact ⟨H5.out.1.trans (a3.wide B), .inl ⟨hin, by rw [← hx]; exact hxl, rfl, H5.out.2.1.off a3 hBO hB, a4, v, a1, by rw [← hx]; exact a2⟩⟩
            have hki : ¬ (k : Int) < (T : Int) := by omega
            clear hk' HP HX H5 HRP
            go_wp2_with fail
            go_end0
            exact HFN.out
      · have HPC : Hid (Calls Try.prog 49 #[.pointer (some ⟨B, 0, none⟩), .int .i64 1] w1 fun e w' => e = fault 2 ∧ Br w' B s (A + 1) ∧ Only B w1 w' ∧ w'.heap.size = w1.heap.size) := piece_no B (A + 1) 1 s w1 H1.out.1 (by omega) (by omega) (by omega)
        go_wp2_with fail
        refine HPC.out.mono ?_
        rintro e w5 ⟨rfl, h1, h2, h3⟩
        have HFN : Hid (PtEnd w B O base lim s A l (fault 2) w5) := ⟨(HST.out w5 (H1.out.2.trans h2)).1, .inr (.inl ⟨by rw [HND2.out]; exact hin0, rfl⟩)⟩
        clear h1 h2 h3 HPC HST H1
        unfold fault
        go_wp2_with fail
        exact ⟨rfl, HFN.out⟩
    · have hhii : ¬ (128 : Int) < (H : Int) := by omega
      have HND2 : Hid (Pg.nd (byteAt s A) = 0) := by show _ = _; rw [← HH.out]; unfold Pg.nd; rw [if_neg hlo, if_neg hhi]
      have HOUT : Hid (∀ R : List UInt8, Pg.outp (byteAt s A) R = []) := fun R => by rw [← HH.out]; unfold Pg.outp; rw [if_neg hlo, if_neg hhi]
      have hin : A + 1 + Pg.nd (byteAt s A) ≤ s.size := by rw [HND2.out]; exact hA
      have HFN : Hid (PtEnd w B O base lim s A l (.returned (.tuple #[])) w1) := by
        obtain ⟨a1, v', a2, a3, a4, a5⟩ := HST.out w1 H1.out.2
        have hx : l = l ++ Pg.outp (byteAt s A) (s.data.toList.drop (A + 1)) := by rw [HOUT.out, List.append_nil]
        exact ⟨a1, .inl ⟨hin, by rw [← hx]; exact hll, rfl, by rw [HND2.out]; exact H1.out.1, a5, v', a2, by rw [← hx]; exact a3⟩⟩
      clear HST H1 HOUT HND2
      go_wp2_with fail
      go_loopw [25] (fun i wr => ∃ k : Nat, k ≤ 1 ∧ i = .int .i64 (k : Int) ∧ wr = w1) (fun i _ => 1 - (intOf i).toNat)
      case atStart => exact ⟨0, by omega, rfl, by first | rfl | trivial⟩
      case round =>
        obtain ⟨k, hk, rfl, rfl⟩ := hrel
        by_cases hlt : k < 1
        · have hki : (k : Int) < 1 := by omega
          go_wp2_with fail
          go_loopw [29] (fun j wq => ∃ m : Nat, m ≤ 0 ∧ j = .int .i64 (m : Int) ∧ wq = wr) (fun j _ => 0)
          case atStart => exact ⟨0, by omega, rfl, by first | rfl | trivial⟩
          case round =>
            obtain ⟨m, hm, rfl, rfl⟩ := hrel
            have hm0 : ¬ (m : Int) < 0 := by omega
            go_wp2_with fail
            go_roundw
            case rel => exact ⟨k + 1, by omega, by go_num, by first | rfl | trivial⟩
            case measure => simp [intOf]; omega
        · have hki : ¬ (k : Int) < 1 := by omega
          go_wp2_with fail
          go_end0
          exact HFN.out
end Go.Proofs.Ytmcjdilmmabiaaa
