/- The law on packed bits, walked: each number is read again where it was put, and as few bytes hold all as can. -/
import Derived.Test.YtoocijfkckjbfaaDrawBits
import Derived.Test.YtoocijfkckjbfaaBpTop
import Derived.Test.YtoocijfkckjbfaaBpSpecTop
import Derived.Test.YtoocijfkckjbfaaBgTop
import Derived.Test.YtoocijfkckjbfaaBpBack
namespace Go.Proofs.Ytoocijfkckjbfaa
open Go.RowKit

theorem textOf_empty {hi : Bool} {l : List (Int × Int)} (h : Bp.answer hi l = []) : textOf hi l = ⟨#[]⟩ := by unfold textOf; rw [h]; rfl
theorem textOf_full {hi : Bool} {l : List (Int × Int)} (h : ¬ Bp.answer hi l = []) : (textOf hi l).toList.isEmpty = false := by
  rw [ByteArray.toList_eq]
  show (((Bp.answer hi l).map UInt8.ofNat).toArray).toList.isEmpty = false
  cases e : Bp.answer hi l with
  | nil => exact absurd e h
  | cons x t => rfl
theorem answer_fits {hi : Bool} {l : List (Int × Int)} (h : ¬ Bp.answer hi l = []) : Bp.Fits l l.length := by
  by_cases g : Bp.Fits l l.length
  · exact g
  · exact absurd (Bp.answer_no g) h

set_option maxRecDepth 20000 in
set_option maxHeartbeats 2000000 in
theorem lawBitsPut (a0 : Option Addr) (len0 cap0 : Nat) (w : World) (h0 : Code8 w a0 len0 cap0) :
    Calls Try.prog 3 #[.slice a0 len0 cap0] w fun e w' => e = .returned (.bool true) ∧ Below w.heap.size w w' := by
  have hl0 : len0 ≤ 9223372036854775807 := Nat.le_trans h0.1 h0.2.1
  by_cases b0 : 1048576 < len0
  · clear h0
    go_enter Try.func3, Try.ntmps3
    go_wp2_with fail
    go_ret
    exact ⟨rfl, Below.refl _ _⟩
  · go_enter Try.func3, Try.ntmps3
    go_wp2_with fail
    refine (drawBitsPut_any a0 len0 cap0 w h0).mono ?_
    rintro e w1 ⟨⟨ao, n, c, l, hi, rfl, hB1, hn, hn7, hfi⟩, bel1⟩
    clear h0
    have hI : I64s l := fun p hp => by have := hfi p hp; omega
    have HI : Hid (∀ w, Bits2 w ao l → Calls Try.prog 10 #[.slice ao n c, .bool hi] w fun e w' => e = .returned (.string (textOf hi l)) ∧ Below w.heap.size w w') := fun w hw => impl_bitsPut hi ao n c l w hw hn (by omega) hI
    have HS : Hid (∀ w, Bits2 w ao l → Calls Try.prog 11 #[.slice ao n c, .bool hi] w fun e w' => e = .returned (.string (textOf hi l)) ∧ Below w.heap.size w w') := fun w hw => spec_bitsPut hi ao n c l w hw hn (by omega)
    have HN : Hid (l.length = n) := hn
    have HB1 : Hid (Bits2 w1 ao l) := hB1
    clear hI hfi hn hB1
    by_cases hA : Bp.answer hi l = []
    · have hE := textOf_empty hA
      rw [hE] at HI HS
      clear hE hA
      go_wp2_with fail
      refine (HI.out _ HB1.out).mono ?_
      rintro e w2 ⟨rfl, bel2⟩
      have HB2 : Hid (Bits2 w2 ao l) := HB1.out.kept bel2
      have bb2 := bel1.trans (bel2.mono bel1.size)
      clear bel1 bel2 HB1
      go_wp2_with fail
      refine (HS.out _ HB2.out).mono ?_
      rintro e w3 ⟨rfl, bel3⟩
      have HB3 : Hid (Bits2 w3 ao l) := HB2.out.kept bel3
      have bb3 := bb2.trans (bel3.mono bb2.size)
      clear bb2 bel3 HB2
      go_wp2_with fail
      refine (HS.out _ HB3.out).mono ?_
      rintro e w4 ⟨rfl, bel4⟩
      have bb4 := bb3.trans (bel4.mono bb3.size)
      clear bb3 bel4 HB3
      go_wp2_with fail
      go_ret
      exact ⟨rfl, bb4⟩
    · have hfits := answer_fits hA
      have hemp := textOf_full hA
      have hsz := textOf_size (hi := hi) hfits
      have htot := Bp.fits_tot hfits (Nat.le_refl _) (Nat.le_refl _)
      have HF : Hid (Bp.Fits l l.length) := hfits
      have HK : Hid (∀ (k : Nat) (hk : k < l.length) (V S : Nat), (l[k]).1 = (V : Int) → (l[k]).2 = (S : Int) → Bg.num (fun q => bitAt (textOf hi l) hi (Bp.tot l k + q)) S hi = V) := fun k hk V S h1 h2 => back hfits k hk V S h1 h2
      have HZ : Hid ((textOf hi l).size = (Bp.tot l l.length + 7) / 8 ∧ Bp.tot l l.length ≤ 72000) := ⟨hsz, htot⟩
      have hs9 : (textOf hi l).size ≤ 9000 := by omega
      clear hfits hA hsz htot
      generalize textOf hi l = s at *
      go_wp2_with fail
      refine (HI.out _ HB1.out).mono ?_
      rintro e w2 ⟨rfl, bel2⟩
      have HB2 : Hid (Bits2 w2 ao l) := HB1.out.kept bel2
      have bb2 := bel1.trans (bel2.mono bel1.size)
      clear bel1 bel2 HB1 HI
      go_wp2_with fail
      refine (HS.out _ HB2.out).mono ?_
      rintro e w3 ⟨rfl, bel3⟩
      have HB3 : Hid (Bits2 w3 ao l) := HB2.out.kept bel3
      have bb3 := bb2.trans (bel3.mono bb2.size)
      clear bb2 bel3 HB2 HS
      go_wp2_with fail
      go_loopw [6, 7] (fun m i wr => ∃ k N : Nat, k ≤ n ∧ i = .int .i64 k ∧ N = Bp.tot l k ∧ m = .int .i64 N ∧ Below w3.heap.size w3 wr) (fun _ i _ => n - (intOf i).toNat)
      case atStart => exact ⟨0, 0, Nat.zero_le _, rfl, rfl, rfl, Below.refl _ _⟩
      case round =>
        obtain ⟨k, N, hk, rfl, hN, rfl, hbel⟩ := hrel
        have HT : Hid (N = Bp.tot l k) := hN
        clear hN
        by_cases hlt : k < n
        · have hkl : k < l.length := by have := HN.out; omega
          obtain ⟨b, off, rfl, hbB, hc1, hc2⟩ := HB3.out.at hkl
          have ho := (HF.out k hkl hkl).1
          have hts := Bp.tot_succ l k hkl
          have hm := tot_mono l l.length (Nat.le_refl _) (k + 1) (by omega)
          obtain ⟨o1, o2, o3, o4⟩ := ho
          obtain ⟨V, hV⟩ := Int.eq_ofNat_of_zero_le o3
          obtain ⟨S, hS⟩ := Int.eq_ofNat_of_zero_le o1
          have hbk := HK.out k hkl V S hV hS
          rw [hV] at hc1
          rw [hS] at hc2 hts o2
          rw [Int.toNat_natCast] at hts
          rw [← HT.out] at hts hbk
          have hz := HZ.out
          have HTT : Hid (N + S = Bp.tot l (k + 1)) := by show _ = _; omega
          have hth : BitsThere s.size N S := ⟨by omega, by omega, hs9, by omega, by omega⟩
          have hNS : N + S ≤ 72000 := by omega
          have hS24 : S ≤ 24 := by omega
          have HG : Hid (∀ w, Calls Try.prog 12 #[.string s, .int .i64 N, .int .i64 S, .bool hi] w fun e w' => e = .returned (.tuple #[.int .i64 (V : Int), .bool true]) ∧ Below w.heap.size w w') := by
            intro w
            have := impl_bitsGet_yes s N S hi w hth
            rw [hbk] at this
            exact this
          have e2 := (hbel.cell (p := ⟨b, off + k * 2 + 1, none⟩) hbB).trans hc2
          have hki : (k : Int) < (n : Int) := by omega
          clear hts hm hbk hz hth hV hS o1 o2 o3 o4
          go_wp2_with fail
          refine (HG.out _).mono ?_
          rintro e w5 ⟨rfl, bel5⟩
          have hb5 := hbel.trans (bel5.mono hbel.size)
          have f1 := (hb5.cell (p := ⟨b, off + k * 2, none⟩) hbB).trans hc1
          have f2 := (hb5.cell (p := ⟨b, off + k * 2 + 1, none⟩) hbB).trans hc2
          clear bel5 hbel e2 HG hc1 hc2
          go_wp2_with fail
          go_roundw
          case rel => exact ⟨k + 1, N + S, by omega, by go_num, HTT.out, by go_num, hb5⟩
          case measure => simp [intOf]; omega
        · have hk' : k = l.length := by have := HN.out; omega
          have hz := HZ.out
          have ht := HT.out
          rw [hk'] at ht
          have hfin : (s.size : Int) = ((N : Int) + 7) / 8 := by rw [← ht] at hz; omega
          have hfb : ((s.size : Int) == ((N : Int) + 7) / 8) = true := by rw [hfin]; simp
          have hN7 : N ≤ 72000 := by omega
          have bb4 := bb3.trans (hbel.mono bb3.size)
          clear hk' hz ht hfin HT HZ bb3 hbel
          go_wp2_with fail
          go_ret
          exact ⟨rfl, bb4⟩
end Go.Proofs.Ytoocijfkckjbfaa
