/- BitsPut of the specification, for every list of bits. -/
import Derived.Test.YtoocijfkckjbfaaBpPutH
import Derived.Test.YtoocijfkckjbfaaBpAnswer
namespace Go.Proofs.Ytoocijfkckjbfaa
open Go.RowKit

theorem l1Put_any (hi : Bool) (a : Option Addr) (n cap : Nat) (l : List (Int × Int)) (w : World) (h : Bits2 w a l) (hn : l.length = n) (hl : n ≤ 2000000) (hf : Bp.Fits l l.length) :
    Calls Try.prog 41 #[.slice a n cap, .bool hi] w fun e w' => e = .returned (.string ⟨((Bp.text hi l).map UInt8.ofNat).toArray⟩) ∧ Below w.heap.size w w' := by
  cases hi
  · exact l1Put_low a n cap l w h hn hl hf
  · exact l1Put_high a n cap l w h hn hl hf

set_option maxHeartbeats 1000000 in
theorem spec_bitsPut (hi : Bool) (a : Option Addr) (n cap : Nat) (l : List (Int × Int)) (w : World) (h : Bits2 w a l) (hn : l.length = n) (hl : n ≤ 2000000) :
    Calls Try.prog 11 #[.slice a n cap, .bool hi] w fun e w' => e = .returned (.string ⟨((Bp.answer hi l).map UInt8.ofNat).toArray⟩) ∧ Below w.heap.size w w' := by
  have HB : Hid (Bits2 w a l) := h
  have HN : Hid (l.length = n) := hn
  have hn1 : l.length ≤ n := by omega
  have hn2 : n ≤ l.length := by omega
  clear h hn
  go_enter Try.func11, Try.ntmps11
  go_wp2_with fail
  go_loopw [5, 6] (fun m i wr => ∃ k N : Nat, k ≤ n ∧ i = .int .i64 k ∧ N = Bp.tot l k ∧ N ≤ 72000 ∧ m = .int .i64 N ∧ Bp.Fits l k ∧ Below w.heap.size w wr) (fun _ i _ => n - (intOf i).toNat)
  case atStart => exact ⟨0, 0, Nat.zero_le _, rfl, rfl, by omega, rfl, Bp.fits_zero l, Below.refl _ _⟩
  case round =>
    obtain ⟨k, N, hk, rfl, hN, hN7, rfl, hfit, hbel⟩ := hrel
    have HT : Hid (N = Bp.tot l k) := hN
    have HFT : Hid (Bp.Fits l k) := hfit
    clear hN hfit
    by_cases hlt : k < n
    · have hkl : k < l.length := by omega
      obtain ⟨b, off, rfl, hbB, hc1, hc2⟩ := HB.out.at hkl
      have e1 := (hbel.cell (p := ⟨b, off + k * 2, none⟩) hbB).trans hc1
      have e2 := (hbel.cell (p := ⟨b, off + k * 2 + 1, none⟩) hbB).trans hc2
      have hki : (k : Int) < (n : Int) := by omega
      have HOK := l1Ok_any l[k]
      have HTS := Bp.tot_succ l k hkl
      rw [← HT.out] at HTS
      have HNF : Hid (¬ (Bp.Ok l[k] ∧ Bp.tot l (k + 1) ≤ 72000) → Bp.answer hi l = []) := fun g => Bp.answer_no (Bp.fits_not hkl hkl g)
      have HYF : Hid (Bp.Ok l[k] → Bp.tot l (k + 1) ≤ 72000 → Bp.Fits l (k + 1)) := fun g1 g2 => Bp.fits_succ hkl HFT.out g1 g2
      by_cases hok : Bp.Ok l[k]
      · rw [Bp.okB_true hok] at HOK
        have HO : Hid (Bp.Ok l[k]) := hok
        obtain ⟨o1, o2, _, _⟩ := hok
        obtain ⟨S, hS⟩ := Int.eq_ofNat_of_zero_le o1
        rw [hS] at HTS o2 e2
        rw [Int.toNat_natCast] at HTS
        have HTT : Hid (Bp.tot l (k + 1) = N + S) := HTS
        have HL : Hid (∀ w, Calls Try.prog 40 #[.agg #[.int .i64 (l[k]).1, .int .i64 (S : Int)]] w fun e w' => e = .returned (.bool true) ∧ Below w.heap.size w w') := by
          intro w; have := HOK w; rw [hS] at this; exact this
        clear HTS HOK hS o1 hc1 hc2
        generalize (l[k]).1 = v at *
        go_wp2_with fail
        refine (HL.out _).mono ?_
        rintro e w1 ⟨rfl, bel1⟩
        have hb1 := hbel.trans (bel1.mono hbel.size)
        have e3 := (bel1.cell (p := ⟨b, off + k * 2 + 1, none⟩) (Nat.lt_of_lt_of_le hbB hbel.size)).trans e2
        clear e1 e2 bel1 hbel HL
        by_cases h7 : 72000 < N + S
        · have h7i : (72000 : Int) < (N : Int) + (S : Int) := by omega
          have HA : Hid (Bp.answer hi l = []) := HNF.out (fun g => by have := g.2; rw [HTT.out] at this; omega)
          go_wp2_with fail
          go_ret
          exact ⟨by rw [HA.out]; rfl, hb1⟩
        · have h7i : ¬ (72000 : Int) < (N : Int) + (S : Int) := by omega
          have HF2 : Hid (Bp.Fits l (k + 1)) := HYF.out HO.out (by rw [HTT.out]; omega)
          go_wp2_with fail
          go_roundw
          case rel => exact ⟨k + 1, N + S, by omega, by go_num, HTT.out.symm, by omega, by go_num, HF2.out, hb1⟩
          case measure => simp [intOf]; omega
      · rw [Bp.okB_false hok] at HOK
        have HA : Hid (Bp.answer hi l = []) := HNF.out (fun g => hok g.1)
        have HL : Hid (∀ w, Calls Try.prog 40 #[.agg #[.int .i64 (l[k]).1, .int .i64 (l[k]).2]] w fun e w' => e = .returned (.bool false) ∧ Below w.heap.size w w') := HOK
        clear HOK HTS HNF HYF hok hc1 hc2
        generalize (l[k]).1 = v at *
        generalize (l[k]).2 = s at *
        go_wp2_with fail
        refine (HL.out _).mono ?_
        rintro e w1 ⟨rfl, bel1⟩
        have hb1 := hbel.trans (bel1.mono hbel.size)
        clear e1 e2 bel1 hbel HL
        go_wp2_with fail
        go_ret
        exact ⟨by rw [HA.out]; rfl, hb1⟩
    · have hk' : k = l.length := by omega
      have hfits : Bp.Fits l l.length := by rw [← hk']; exact HFT.out
      have HP : Hid (∀ w, Bits2 w a l → Calls Try.prog 41 #[.slice a n cap, .bool hi] w fun e w' => e = .returned (.string ⟨((Bp.answer hi l).map UInt8.ofNat).toArray⟩) ∧ Below w.heap.size w w') := by
        intro w hw; rw [Bp.answer_yes hfits]; exact l1Put_any hi a n cap l w hw HN.out hl hfits
      have HBK : Hid (Bits2 _ a l) := HB.out.kept hbel
      clear hfits hk'
      go_wp2_with fail
      refine (HP.out _ HBK.out).mono ?_
      rintro e w1 ⟨rfl, bel1⟩
      have hb1 := hbel.trans (bel1.mono hbel.size)
      go_wp2_with fail
      go_ret
      exact ⟨rfl, hb1⟩
end Go.Proofs.Ytoocijfkckjbfaa
