/- The exact law of RowGet, walked. -/
import Derived.Test.YtjikjjganloobaaRwTop
namespace Go.Proofs.Ytjikjjganloobaa
open Go.RowKit

set_option maxHeartbeats 2000000 in
theorem exRowGet (s : ByteArray) (d c : Int) (hs : s.size ≤ maxLen) (_hw : (Lit.int .i64 d).wf = true) (_hw' : (Lit.int .i64 c).wf = true) (w : World) :
    Calls Try.prog 3 #[.string s, .int .i64 d, .int .i64 c] w fun e w' => e = .returned (.bool true) ∧ Below w.heap.size w w' := by
  by_cases hbig : 1048576 < s.size
  · unfold maxLen at hs
    go_enter Try.func3, Try.ntmps3
    go_wp2_with fail
    go_ret
    exact ⟨rfl, Below.refl _ _⟩
  · have hsm : s.size ≤ 1048576 := by omega
    obtain ⟨M, hM⟩ : ∃ M, M = (Rw.ans s d c).length := ⟨_, rfl⟩
    have HM : Hid ((Rw.ans s d c).length = M) := hM.symm
    have hM3 : M ≤ 1000 := by rw [hM]; exact Rw.ans_len s d c
    have HSP : Hid (∀ w : World, Calls Try.prog 9 #[.string s, .int .i64 d, .int .i64 c] w fun e w' => (∃ ao L cap, e = .returned (.tuple #[.slice ao L cap, .bool (Rw.thereB s.size d c)]) ∧ (Rw.ans s d c).length = L ∧ Ints w' ao (Rw.ans s d c)) ∧ Below w.heap.size w w') := fun w => spec_rowGet s d c w hsm
    have HIM : Hid (∀ w : World, Calls Try.prog 10 #[.string s, .int .i64 d, .int .i64 c] w fun e w' => (∃ ao L cap, e = .returned (.tuple #[.slice ao L cap, .bool (Rw.thereB s.size d c)]) ∧ (Rw.ans s d c).length = L ∧ L ≤ cap ∧ Owns w' w.heap.size ao (Rw.ans s d c)) ∧ Below w.heap.size w w') := fun w => impl_rowGet s d c w hsm
    clear hM
    generalize Rw.ans s d c = l at *
    generalize Rw.thereB s.size d c = ok at *
    go_enter Try.func3, Try.ntmps3
    go_wp2_with fail
    refine (HSP.out _).mono ?_
    rintro e w1 ⟨⟨y, L1, c1, rfl, hL1, W1⟩, b1⟩
    rw [HM.out] at hL1
    subst hL1
    have W0 : Hid (Ints w1 y l) := W1
    go_wp2_with fail
    refine (HIM.out _).mono ?_
    rintro e w2 ⟨⟨x, L2, c2, rfl, hL2, _, G2⟩, b2⟩
    rw [HM.out] at hL2
    subst hL2
    have V2 := W1.kept b2
    have bel := b1.trans (b2.mono b1.size)
    have s2 : w1.heap.size ≤ w2.heap.size := b2.size
    clear W1 b2
    go_wp2_with fail
    refine (eqInts_same _ _ _ _ M l w2 G2.ints V2 HM.out (by omega)).mono ?_
    rintro e w3 ⟨rfl, m3, hw3⟩
    have b3 : Below w2.heap.size w2 w3 := by rw [hw3]; exact drewN_below _ _
    have V3 := V2.kept b3
    have G3 := G2.kept b3
    have s3 := Nat.le_trans s2 b3.size
    have bel' := bel.trans (b3.mono bel.size)
    clear V2 G2 hw3 b3 bel s2
    go_wp2_with fail
    refine (mark_g x M c2 l w1.heap.size w3 G3 HM.out (by omega) s3).mono ?_
    rintro e w4 ⟨rfl, G4, b4⟩
    have V4 := Ints.low W0.out V3 b4 (by omega)
    have bel := bel'.trans (b4.mono b1.size)
    clear V3 G3 b4 bel' s3
    go_wp2_with fail
    refine (held_g x M c2 _ w4 G4 (by omega)).mono ?_
    rintro e w5 ⟨rfl, hw5⟩
    subst hw5
    have hd2 : decide ((M : Int) + 1 < 0) = false := by simp; omega
    go_wp2_with fail
    refine (HIM.out _).mono ?_
    rintro e w6 ⟨⟨u, L3, v, rfl, hL3, _, U6⟩, b6⟩
    rw [HM.out] at hL3
    subst hL3
    have V6 := V4.kept b6
    have G6 := G4.kept b6
    have bel' := bel.trans (b6.mono bel.size)
    clear V4 G4 b6 bel
    go_wp2_with fail
    refine (eqInts_same _ _ _ _ M l w6 U6.ints V6 HM.out (by omega)).mono ?_
    rintro e w7 ⟨rfl, m7, hw7⟩
    have b7 : Below w6.heap.size w6 w7 := by rw [hw7]; exact drewN_below _ _
    have G7 := G6.kept b7
    have bel := bel'.trans (b7.mono bel'.size)
    clear V6 G6 U6 b7 bel' hw7
    go_wp2_with fail
    refine (held_g x M c2 _ w7 G7 (by omega)).mono ?_
    rintro e w8 ⟨rfl, hw8⟩
    subst hw8
    go_wp2_with fail
    go_ret
    exact ⟨rfl, bel⟩
end Go.Proofs.Ytjikjjganloobaa
