/- The exact law of CodeCost: the law's own walk. -/
import Derived.Test.YtpoilfbbabmpgaqExCodeCost
namespace Go.Proofs.Ytpoilfbbabmpgaq
open Go.RowKit

set_option maxHeartbeats 1000000 in
theorem exCodeCost (a : Option Addr) (n cap : Nat) (b : Option Addr) (n' cap' : Nat) (w : World) (h : Row64 w a n cap) (g : Row64 w b n' cap') :
    Calls Try.prog 8 #[.slice a n cap, .slice b n' cap'] w fun e w' => e = .returned (.bool true) ∧ Below w.heap.size w w' := by
  obtain ⟨_, hm, os, hn, hI, _⟩ := h
  obtain ⟨_, gm, zs, gn, gI, _⟩ := g
  unfold maxLen at hm gm
  have HN : Hid (os.length = n) := hn
  have GN : Hid (zs.length = n') := gn
  clear hn gn
  by_cases hbig : 1048576 < n
  · clear hI gI
    go_enter Try.func8, Try.ntmps8
    go_wp2_with fail
    go_ret
    exact ⟨rfl, Below.refl _ _⟩
  · have hsm : n ≤ 1048576 := by omega
    by_cases gbig : 1048576 < n'
    · clear hI gI
      go_enter Try.func8, Try.ntmps8
      go_wp2_with fail
      go_ret
      exact ⟨rfl, Below.refl _ _⟩
    · have gsm : n' ≤ 1048576 := by omega
      go_enter Try.func8, Try.ntmps8
      go_wp2_with fail
      refine (toInts_any a n cap os w hI HN.out (by omega)).mono ?_
      rintro e w1 ⟨rfl, h1, bel1⟩
      have hI1 := hI.kept bel1
      have gI1 := gI.kept bel1
      clear hI gI
      go_wp2_with fail
      refine (toInts_any b n' cap' zs w1 gI1 GN.out (by omega)).mono ?_
      rintro e w2 ⟨rfl, g2, bel2⟩
      have h2 := h1.kept bel2
      have hI2 := hI1.kept bel2
      have gI2 := gI1.kept bel2
      have bel := bel1.trans (bel2.mono bel1.size)
      clear h1 hI1 gI1 bel1 bel2
      go_wp2_with fail
      refine (spec_codeCost _ _ n os _ _ n' zs w2 h2 HN.out g2 GN.out hsm gsm).mono ?_
      rintro e w3 ⟨rfl, m, hw3⟩
      have b3 : Below w2.heap.size w2 w3 := by rw [hw3]; exact below_drewN (Below.refl _ _) _
      have hI3 := hI2.kept b3
      have gI3 := gI2.kept b3
      have bel' := bel.trans (b3.mono bel.size)
      clear hw3 h2 g2 hI2 gI2 bel b3
      go_wp2_with fail
      refine (toInts_any a n cap os w3 hI3 HN.out (by omega)).mono ?_
      rintro e w4 ⟨rfl, x4, b4⟩
      have hI4 := hI3.kept b4
      have gI4 := gI3.kept b4
      have bel := bel'.trans (b4.mono bel'.size)
      clear hI3 gI3 bel' b4
      go_wp2_with fail
      refine (toInts_any b n' cap' zs w4 gI4 GN.out (by omega)).mono ?_
      rintro e w5 ⟨rfl, y5, b5⟩
      have x5 := x4.kept b5
      have hI5 := hI4.kept b5
      have gI5 := gI4.kept b5
      have bel' := bel.trans (b5.mono bel.size)
      clear hI4 gI4 bel b5 x4
      go_wp2_with fail
      refine (impl_codeCost _ _ n os _ _ n' zs w5 x5 HN.out y5 GN.out hsm gsm).mono ?_
      rintro e w6 ⟨rfl, hw6⟩
      subst hw6
      go_wp2_with fail
      refine (toInts_any a n cap os _ hI5 HN.out (by omega)).mono ?_
      rintro e w7 ⟨rfl, z7, b7⟩
      have x7 := x5.kept b7
      have y7 := y5.kept b7
      have gI7 := gI5.kept b7
      have bel := bel'.trans (b7.mono bel'.size)
      clear hI5 gI5 bel' b7 x5 y5
      go_wp2_with fail
      refine (eqInts_same _ _ _ _ n os w7 x7 z7 HN.out (by omega)).mono ?_
      rintro e w8 ⟨rfl, m8, hw8⟩
      have b8 : Below w7.heap.size w7 w8 := by rw [hw8]; exact below_drewN (Below.refl _ _) _
      have y8 := y7.kept b8
      have gI8 := gI7.kept b8
      have bel' := bel.trans (b8.mono bel.size)
      clear hw8 x7 z7 y7 gI7 bel b8
      go_wp2_with fail
      refine (toInts_any b n' cap' zs w8 gI8 GN.out (by omega)).mono ?_
      rintro e w9 ⟨rfl, z9, b9⟩
      have y9 := y8.kept b9
      have bel := bel'.trans (b9.mono bel'.size)
      clear y8 gI8 bel' b9
      go_wp2_with fail
      refine (eqInts_same _ _ _ _ n' zs w9 y9 z9 GN.out (by omega)).mono ?_
      rintro e w10 ⟨rfl, m10, hw10⟩
      have b10 : Below w9.heap.size w9 w10 := by rw [hw10]; exact below_drewN (Below.refl _ _) _
      clear hw10
      go_wp2_with fail
      go_ret
      exact ⟨rfl, bel.trans (b10.mono bel.size)⟩
end Go.Proofs.Ytpoilfbbabmpgaq
