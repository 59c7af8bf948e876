/- The exact law of RleGet, walked. -/
import Derived.Test.YtlpfedhehfbfeaaQsTop
import Derived.Test.YtlpfedhehfbfeaaRwsWalks
namespace Go.Proofs.Ytlpfedhehfbfeaa
open Go.RowKit

/-- the answer, told ahead -/
theorem rl_told (s : ByteArray) (wd hi : Int) : ∃ (n W : Nat) (g : Rl.Grid) (ok : Bool), n ≤ 100 ∧ W ≤ 100 ∧ ∀ (w : World) (e : Ending) (w' : World), RlAns w s wd hi e w' → ∃ ao cap, e = .returned (.tuple #[.slice ao n cap, .bool ok]) ∧ RowsAre w.heap.size w' ao n W g ∧ Below w.heap.size w w' := by
  rcases hr : Rl.res s wd hi with _ | g
  · refine ⟨0, 0, Rl.zero, false, by omega, by omega, fun w e w' h => ?_⟩
    rcases h with ⟨hb, (⟨-, ao, cap, he⟩ | ⟨g, hg, -⟩)⟩
    · exact ⟨ao, cap, he, .inl rfl, hb⟩
    · rw [hr] at hg; simp at hg
  · have hv : Rl.Valid s wd hi := by
      unfold Rl.res at hr
      split at hr
      · assumption
      · simp at hr
    unfold Rl.Valid at hv
    refine ⟨hi.toNat, wd.toNat, g, true, by omega, by omega, fun w e w' h => ?_⟩
    rcases h with ⟨hb, (⟨hn, -⟩ | ⟨g', hg, ao, cap, he, hrows⟩)⟩
    · rw [hr] at hn; simp at hn
    · rw [hr] at hg
      cases hg
      exact ⟨ao, cap, he, hrows, hb⟩

set_option maxHeartbeats 1000000 in
theorem exRleGet (s : ByteArray) (wd hi : Int) (hs : s.size ≤ maxLen) (_h1 : (Lit.int .i64 wd).wf = true) (_h2 : (Lit.int .i64 hi).wf = true) (w : World) :
    Calls Try.prog 6 #[.string s, .int .i64 wd, .int .i64 hi] w fun e w' => e = .returned (.bool true) ∧ Below w.heap.size w w' := by
  by_cases hbig : 1048576 < s.size
  · unfold maxLen at hs
    go_enter Try.func6, Try.ntmps6
    go_wp2_with fail
    go_ret
    exact ⟨rfl, Below.refl _ _⟩
  · have hsm : s.size ≤ 1048576 := by omega
    obtain ⟨n, W, g, ok, hn, hW, htold⟩ := rl_told s wd hi
    have HSP : Hid (∀ w : World, Calls Try.prog 13 #[.string s, .int .i64 wd, .int .i64 hi] w fun e w' => ∃ ao cap, e = .returned (.tuple #[.slice ao n cap, .bool ok]) ∧ RowsAre w.heap.size w' ao n W g ∧ Below w.heap.size w w') := fun w => (spec_rleGet s wd hi w hsm).mono (htold w)
    have HIM : Hid (∀ w : World, Calls Try.prog 10 #[.string s, .int .i64 wd, .int .i64 hi] w fun e w' => ∃ ao cap, e = .returned (.tuple #[.slice ao n cap, .bool ok]) ∧ RowsAre w.heap.size w' ao n W g ∧ Below w.heap.size w w') := fun w => (impl_rleGet s wd hi w (by omega)).mono (htold w)
    clear htold
    obtain ⟨M, hM⟩ : ∃ M, M = 1 + n * W := ⟨_, rfl⟩
    have hM9 : M ≤ 10001 := by have := mul_bound (Nat.le_refl n) hn hW; omega
    have HMK : Hid (∀ (base : Nat) (a : Option Addr) (cap : Nat) (w : World), RowsAre base w a n W g → Calls Try.prog 18 #[.slice a n cap, .int .i64 1] w fun e w' => e = .returned (.int .i64 (M : Int)) ∧ RowsAre base w' a n W (mkG W) ∧ Below base w w') := fun base a cap w h => by rw [hM]; exact markRows_any base a n W cap g w h hn hW
    have HHD : Hid (∀ (base : Nat) (a : Option Addr) (cap : Nat) (w : World), RowsAre base w a n W (mkG W) → Calls Try.prog 19 #[.slice a n cap, .int .i64 1] w fun e w' => e = .returned (.int .i64 (M : Int)) ∧ w' = w) := fun base a cap w h => by rw [hM]; exact heldRows_any base a n W cap w h hn hW
    have hMn : ¬ (M : Int) < 0 := by omega
    have hd2 : decide ((M : Int) < 0) = false := decide_eq_false hMn
    clear hM
    go_enter Try.func6, Try.ntmps6
    go_wp2_with fail
    refine (HSP.out _).mono ?_
    rintro e w1 ⟨y, c1, rfl, W1, b1⟩
    have W0 : Hid (RowsAre w.heap.size w1 y n W g) := W1
    have HB1 : Hid (Below w.heap.size w w1) := b1
    clear HSP W1 b1
    go_wp2_with fail
    refine (HIM.out _).mono ?_
    rintro e w2 ⟨x, c2, rfl, G2, b2⟩
    have HB2 : Hid (Below w1.heap.size w1 w2) := b2
    have HG2 : Hid (RowsAre w1.heap.size w2 x n W g) := G2
    clear b2 G2
    go_wp2_with fail
    refine (eqRows_same _ _ _ _ _ _ n W g w2 HG2.out (W0.out.kept HB2.out) hn hW).mono ?_
    rintro e w3 ⟨rfl, m3, hw3⟩
    have HB3 : Hid (Below w1.heap.size w1 w3) := by rw [hw3]; exact HB2.out.trans ⟨rfl, rfl, rfl, Nat.le_refl _, fun _ _ => rfl⟩
    have HG3 : Hid (RowsAre w1.heap.size w3 x n W g) := by rw [hw3]; exact HG2.out.kept ⟨rfl, rfl, rfl, Nat.le_refl _, fun _ _ => rfl⟩
    clear HB2 HG2 hw3
    go_wp2_with fail
    refine (HMK.out _ x c2 w3 HG3.out).mono ?_
    rintro e w4 ⟨rfl, G4, b4⟩
    have HB4 : Hid (Below w1.heap.size w1 w4) := HB3.out.trans b4
    have HG4 : Hid (RowsAre w1.heap.size w4 x n W (mkG W)) := G4
    clear HB3 HG3 b4 G4
    go_wp2_with fail
    refine (HHD.out _ x c2 w4 HG4.out).mono ?_
    rintro e w5 ⟨rfl, hw5⟩
    subst hw5
    go_wp2_with fail
    refine (HIM.out _).mono ?_
    rintro e w6 ⟨u, v, rfl, U6, b6⟩
    have HG6 : Hid (RowsAre w1.heap.size w6 x n W (mkG W)) := HG4.out.kept b6
    have HB6 : Hid (Below w1.heap.size w1 w6) := HB4.out.trans (b6.mono HB4.out.size)
    have HU6 : Hid (∃ base, RowsAre base w6 u n W g) := ⟨_, U6⟩
    clear HB4 HG4 b6 U6
    obtain ⟨bu, hu6⟩ := HU6.out
    have HU : Hid (RowsAre bu w6 u n W g) := hu6
    clear hu6 HU6
    go_wp2_with fail
    refine (eqRows_same _ _ _ _ _ _ n W g w6 HU.out (W0.out.kept HB6.out) hn hW).mono ?_
    rintro e w7 ⟨rfl, m7, hw7⟩
    have HB7 : Hid (Below w1.heap.size w1 w7) := by rw [hw7]; exact HB6.out.trans ⟨rfl, rfl, rfl, Nat.le_refl _, fun _ _ => rfl⟩
    have HG7 : Hid (RowsAre w1.heap.size w7 x n W (mkG W)) := by rw [hw7]; exact HG6.out.kept ⟨rfl, rfl, rfl, Nat.le_refl _, fun _ _ => rfl⟩
    clear HB6 HG6 hw7
    go_wp2_with fail
    refine (HHD.out _ x c2 w7 HG7.out).mono ?_
    rintro e w8 ⟨rfl, hw8⟩
    subst hw8
    go_wp2_with fail
    go_ret
    exact ⟨rfl, HB1.out.trans (HB7.out.mono HB1.out.size)⟩
end Go.Proofs.Ytlpfedhehfbfeaa
