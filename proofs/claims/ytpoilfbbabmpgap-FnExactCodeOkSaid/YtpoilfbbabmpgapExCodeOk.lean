/- The exact law of CodeOk, walked. -/
import Derived.Test.YtpoilfbbabmpgapCodeWalks
import Derived.Test.YtpoilfbbabmpgapRow64
namespace Go.Proofs.Ytpoilfbbabmpgap
open Go.RowKit

set_option maxHeartbeats 1000000 in
theorem exCodeOk (a : Option Addr) (n cap : Nat) (w : World) (h : Row64 w a n cap) :
    Calls Try.prog 8 #[.slice a n cap] w fun e w' => e = .returned (.bool true) ∧ Below w.heap.size w w' := by
  obtain ⟨_, hm, zs, hn, hI, _⟩ := h
  unfold maxLen at hm
  have HN : Hid (zs.length = n) := hn
  clear hn
  by_cases hbig : 1048576 < n
  · clear hI
    go_enter Try.func8, Try.ntmps8
    go_wp2_with fail
    go_ret
    exact ⟨rfl, Below.refl _ _⟩
  · have hsm : n ≤ 1048576 := by omega
    go_enter Try.func8, Try.ntmps8
    go_wp2_with fail
    refine (toInts_any a n cap zs w hI HN.out (by omega)).mono ?_
    rintro e w1 ⟨rfl, h1, bel1⟩
    go_wp2_with fail
    refine (spec_codeOk _ _ n zs w1 h1 HN.out hsm).mono ?_
    rintro e w2 ⟨rfl, rfl⟩
    have hI2 := hI.kept bel1
    clear h1
    go_wp2_with fail
    refine (toInts_any a n cap zs _ hI2 HN.out (by omega)).mono ?_
    rintro e w3 ⟨rfl, h3, bel3⟩
    go_wp2_with fail
    refine (impl_codeOk _ _ n zs w3 h3 HN.out hsm).mono ?_
    rintro e w4 ⟨rfl, rfl⟩
    have hI4 := hI2.kept bel3
    have bel := bel1.trans (bel3.mono bel1.size)
    clear bel1 bel3 hI2
    go_wp2_with fail
    refine (toInts_any a n cap zs _ hI4 HN.out (by omega)).mono ?_
    rintro e w5 ⟨rfl, h5, bel5⟩
    have h3' := h3.kept bel5
    have bel' := bel.trans (bel5.mono bel.size)
    clear bel bel5 h3
    go_wp2_with fail
    refine (eqInts_same _ _ _ _ n zs w5 h3' h5 HN.out (by omega)).mono ?_
    rintro e w6 ⟨rfl, m, rfl⟩
    go_wp2_with fail
    go_ret
    exact ⟨rfl, below_drewN bel' _⟩
end Go.Proofs.Ytpoilfbbabmpgap
