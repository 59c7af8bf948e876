/- The exact law of RowPut, walked. -/
import Derived.Test.YtjmmhaanndnipaaRpTop
import Derived.Test.YtjmmhaanndnipaaRow64
import Derived.Test.YtjmmhaanndnipaaMarkRow
namespace Go.Proofs.Ytjmmhaanndnipaa
open Go.RowKit

theorem i64L_of {zs : List Int} (h : ∀ z ∈ zs, (Lit.int .i64 z).wf = true) : I64L zs := fun z hz => ⟨(bounds_i64 (h z hz)).1, (bounds_i64 (h z hz)).2⟩

set_option maxHeartbeats 2000000 in
theorem exRowPut (a : Option Addr) (n cap : Nat) (d : Int) (w : World) (h : Row64 w a n cap) (_hw : (Lit.int .i64 d).wf = true) :
    Calls Try.prog 7 #[.slice a n cap, .int .i64 d] w fun e w' => e = .returned (.bool true) ∧ Below w.heap.size w w' := by
  obtain ⟨_, hm, zs, hn, hI, hwf⟩ := h
  unfold maxLen at hm
  have HN : Hid (zs.length = n) := hn
  have H64 : Hid (I64L zs) := i64L_of hwf
  clear hn hwf
  by_cases hbig : 1048576 < n
  · clear hI
    go_enter Try.func7, Try.ntmps7
    go_wp2_with fail
    go_ret
    exact ⟨rfl, Below.refl _ _⟩
  · have hsm : n ≤ 1048576 := by omega
    obtain ⟨T, hT⟩ : ∃ T, T = (⟨((Rp.put d zs).map UInt8.ofNat).toArray⟩ : ByteArray) := ⟨_, rfl⟩
    have HS : Hid (∀ (x : Option Addr) (c : Nat) (w : World), Ints w x zs → Calls Try.prog 11 #[.slice x n c, .int .i64 d] w fun e w' => e = .returned (.string T) ∧ Below w.heap.size w w') := by
      intro x c w hI; rw [hT]; exact spec_rowPut x n c d zs w hI HN.out hsm
    have HM : Hid (∀ (x : Option Addr) (c : Nat) (w : World), Ints w x zs → Calls Try.prog 10 #[.slice x n c, .int .i64 d] w fun e w' => e = .returned (.string T) ∧ Below w.heap.size w w') := by
      intro x c w hI; rw [hT]; exact impl_rowPut x n c d zs w hI HN.out hsm H64.out
    clear hT
    go_enter Try.func7, Try.ntmps7
    go_wp2_with fail
    refine (toInts_any a n cap zs w hI HN.out (by omega)).mono ?_
    rintro e w1 ⟨rfl, t1, bel1⟩
    have hI1 := hI.kept bel1
    clear hI
    go_wp2_with fail
    refine (HS.out _ _ w1 t1).mono ?_
    rintro e w2 ⟨rfl, bel2⟩
    have hI2 := hI1.kept bel2
    have bel := bel1.trans (bel2.mono bel1.size)
    clear bel1 bel2 hI1 t1
    go_wp2_with fail
    refine (toInts_any a n cap zs w2 hI2 HN.out (by omega)).mono ?_
    rintro e w3 ⟨rfl, t3, b3⟩
    have hI3 := hI2.kept b3
    have bel' := bel.trans (b3.mono bel.size)
    clear b3 hI2 bel
    go_wp2_with fail
    refine (HM.out _ _ w3 t3).mono ?_
    rintro e w4 ⟨rfl, b4⟩
    have hI4 := hI3.kept b4
    have t4 := t3.kept b4
    have bel := bel'.trans (b4.mono bel'.size)
    clear b4 hI3 t3 bel'
    go_wp2_with fail
    refine (toInts_any a n cap zs w4 hI4 HN.out (by omega)).mono ?_
    rintro e w5 ⟨rfl, t5, b5⟩
    have t6 := t4.kept b5
    have bel' := bel.trans (b5.mono bel.size)
    clear b5 hI4 t4 bel
    go_wp2_with fail
    refine (eqInts_same _ _ _ _ n zs w5 t6 t5 HN.out (by omega)).mono ?_
    rintro e w7 ⟨rfl, m7, hw7⟩
    have b7 : Below w5.heap.size w5 w7 := by rw [hw7]; exact drewN_below _ _
    have bel := bel'.trans (b7.mono bel'.size)
    clear hw7
    go_wp2_with fail
    go_ret
    exact ⟨rfl, bel⟩
end Go.Proofs.Ytjmmhaanndnipaa
