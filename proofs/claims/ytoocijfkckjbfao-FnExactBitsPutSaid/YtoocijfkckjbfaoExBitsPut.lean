/- The exact law on BitsPut, walked: program and specification answer alike, and the list stays as it was. -/
import Derived.Test.YtoocijfkckjbfaoPairWalks
import Derived.Test.YtoocijfkckjbfaoBpTop
import Derived.Test.YtoocijfkckjbfaoBpSpecTop
namespace Go.Proofs.Ytoocijfkckjbfao
open Go.RowKit

/-- what the walk is told of a list of bits that came in -/
def RowP (w : World) (a : Option Addr) (len cap : Nat) : Prop := len ≤ cap ∧ len ≤ maxLen ∧ ∃ l : List (Int × Int), l.length = len ∧ Bits2 w a l ∧ I64s l

set_option maxHeartbeats 1000000 in
theorem exBitsPut (a0 : Option Addr) (len0 cap0 : Nat) (hi : Bool) (w : World) (h : RowP w a0 len0 cap0) :
    Calls Try.prog 3 #[.slice a0 len0 cap0, .bool hi] w fun e w' => e = .returned (.bool true) ∧ Below w.heap.size w w' := by
  obtain ⟨_, hm, l, hn, hB, hI⟩ := h
  unfold maxLen at hm
  by_cases hb : 1048576 < len0
  · clear hB
    go_enter Try.func3, Try.ntmps3
    go_wp2_with fail
    refine (szBits_more a0 len0 cap0 _ hb hm).mono ?_
    rintro e w1 ⟨rfl, hw1⟩
    subst hw1
    go_wp2_with fail
    go_ret
    exact ⟨rfl, Below.refl _ _⟩
  · have HT : Hid (∀ w, Bits2 w a0 l → Calls Try.prog 8 #[.slice a0 len0 cap0] w fun e w' => e = .returned (.slice (some ⟨w.heap.size, 0, none⟩) len0 len0) ∧ Bits2 w' (some ⟨w.heap.size, 0, none⟩) l ∧ Below w.heap.size w w') := fun w hw => toBits_any a0 len0 cap0 l w hw hn (by omega)
    have HS : Hid (∀ (w : World) (a : Option Addr), Bits2 w a l → Calls Try.prog 7 #[.slice a len0 len0, .bool hi] w fun e w' => e = .returned (.string ⟨((Bp.answer hi l).map UInt8.ofNat).toArray⟩) ∧ Below w.heap.size w w') := fun w a hw => spec_bitsPut hi a len0 len0 l w hw hn (by omega)
    have HP : Hid (∀ (w : World) (a : Option Addr), Bits2 w a l → Calls Try.prog 9 #[.slice a len0 len0, .bool hi] w fun e w' => e = .returned (.string ⟨((Bp.answer hi l).map UInt8.ofNat).toArray⟩) ∧ Below w.heap.size w w') := fun w a hw => impl_bitsPut hi a len0 len0 l w hw hn (by omega) hI
    have HE : Hid (∀ (w : World) (a b : Option Addr), Bits2 w a l → Bits2 w b l → Calls Try.prog 10 #[.slice a len0 len0, .slice b len0 len0] w fun e w' => e = .returned (.bool true) ∧ Below w.heap.size w w') := fun w a b hw hw' => eqBits_same a len0 b len0 len0 l w hw hw' hn (by omega)
    have HB : Hid (Bits2 w a0 l) := hB
    generalize (⟨((Bp.answer hi l).map UInt8.ofNat).toArray⟩ : ByteArray) = t at *
    clear hB hI hn
    go_enter Try.func3, Try.ntmps3
    go_wp2_with fail
    refine (szBits_fits a0 len0 cap0 _ (by omega)).mono ?_
    rintro e w1 ⟨rfl, hw1⟩
    subst hw1
    go_wp2_with fail
    refine (HT.out _ HB.out).mono ?_
    rintro e w2 ⟨rfl, hB2, bel2⟩
    have HB2 : Hid (Bits2 w2 _ l) := hB2
    have HA2 : Hid (Bits2 w2 a0 l) := HB.out.kept bel2
    clear hB2 HB
    go_wp2_with fail
    refine (HS.out _ _ HB2.out).mono ?_
    rintro e w3 ⟨rfl, bel3⟩
    have bb3 := bel2.trans (bel3.mono bel2.size)
    have HA3 : Hid (Bits2 w3 a0 l) := HA2.out.kept bel3
    clear bel2 bel3 HA2 HB2
    go_wp2_with fail
    refine (HT.out _ HA3.out).mono ?_
    rintro e w4 ⟨rfl, hB4, bel4⟩
    have HB4 : Hid (Bits2 w4 _ l) := hB4
    have HA4 : Hid (Bits2 w4 a0 l) := HA3.out.kept bel4
    have bb4 := bb3.trans (bel4.mono bb3.size)
    clear hB4 HA3 bb3 bel4
    generalize w3.heap.size = H3 at *
    go_wp2_with fail
    refine (HP.out _ _ HB4.out).mono ?_
    rintro e w5 ⟨rfl, bel5⟩
    have HB5 : Hid (Bits2 w5 _ l) := HB4.out.kept bel5
    have HA5 : Hid (Bits2 w5 a0 l) := HA4.out.kept bel5
    have bb5 := bb4.trans (bel5.mono bb4.size)
    clear HB4 HA4 bb4 bel5
    go_wp2_with fail
    refine (HT.out _ HA5.out).mono ?_
    rintro e w6 ⟨rfl, hB6, bel6⟩
    have HB6 : Hid (Bits2 w6 _ l) := HB5.out.kept bel6
    have HC6 : Hid (Bits2 w6 (some ⟨w5.heap.size, 0, none⟩) l) := hB6
    have bb6 := bb5.trans (bel6.mono bb5.size)
    clear hB6 HB5 HA5 bb5 bel6
    go_wp2_with fail
    refine (HE.out _ _ _ HB6.out HC6.out).mono ?_
    rintro e w7 ⟨rfl, bel7⟩
    have bb7 := bb6.trans (bel7.mono bb6.size)
    clear bb6 bel7
    go_wp2_with fail
    go_ret
    exact ⟨rfl, bb7⟩
end Go.Proofs.Ytoocijfkckjbfao
