/- The exact law of RunGet, walked. -/
import Derived.Test.YticfbeihmkfifaaRgSpec
import Derived.Test.YticfbeihmkfifaaHeldWalks
import Derived.Test.YticfbeihmkfifaaMarkRow
namespace Go.Proofs.Yticfbeihmkfifaa
open Go.RowKit

theorem Rg.get_len (s : ByteArray) (S : Nat) : ∀ (f A n : Nat) (l : List Int) (E : Nat), Rg.getF s S f A n = some (l, E) → l.length = n
  | 0, A, 0, l, E, h => by simp [Rg.getF] at h; rw [h.1]; rfl
  | _ + 1, A, 0, l, E, h => by simp [Rg.getF] at h; rw [h.1]; rfl
  | 0, A, n + 1, l, E, h => by simp [Rg.getF] at h
  | f + 1, A, n + 1, l, E, h => by
    unfold Rg.getF at h
    split at h
    · next ht =>
      rcases hg : Rg.getF s S f (A + 1 + Rg.need S (byteAt s A)) (n + 1 - Rg.cnt (byteAt s A)) with _ | ⟨l', E'⟩
      · rw [hg] at h; simp at h
      · rw [hg] at h
        simp at h
        have := Rg.get_len s S f _ _ l' E' hg
        rw [← h.1, List.length_append, Rg.nums_len, this]
        have := ht.2.1
        omega
    · simp at h
theorem Rg.ansL_len (s : ByteArray) (at_ sz ct : Int) : (Rg.ansL s at_ sz ct).length ≤ 1000 := by
  rcases h : Rg.res s at_ sz ct with _ | ⟨l, E⟩
  · rw [(Rg.ans_none h).1]; simp
  · rw [(Rg.ans_some h).1]
    unfold Rg.res at h
    split at h
    · next hv =>
      have := Rg.get_len s _ _ _ _ l E h
      unfold Rg.Valid at hv
      omega
    · simp at h

set_option maxHeartbeats 1000000 in
theorem exRunGet (s : ByteArray) (at_ sz ct : Int) (hs : s.size ≤ maxLen) (_h1 : (Lit.int .i64 at_).wf = true) (_h2 : (Lit.int .i64 sz).wf = true) (_h3 : (Lit.int .i64 ct).wf = true) (w : World) :
    Calls Try.prog 4 #[.string s, .int .i64 at_, .int .i64 sz, .int .i64 ct] w fun e w' => e = .returned (.bool true) ∧ Below w.heap.size w w' := by
  by_cases hbig : 1048576 < s.size
  · unfold maxLen at hs
    go_enter Try.func4, Try.ntmps4
    go_wp2_with fail
    go_ret
    exact ⟨rfl, Below.refl _ _⟩
  · have hsm : s.size ≤ 1048576 := by omega
    obtain ⟨M, hM⟩ : ∃ M, M = (Rg.ansL s at_ sz ct).length := ⟨_, rfl⟩
    have hM3 : M ≤ 1000 := by rw [hM]; exact Rg.ansL_len s at_ sz ct
    have HSP : Hid (∀ w : World, Calls Try.prog 14 #[.string s, .int .i64 at_, .int .i64 sz, .int .i64 ct] w fun e w' => (∃ ao cap, e = .returned (.tuple #[.slice ao M cap, .int .i64 (Rg.ansE s at_ sz ct), .bool (Rg.ansB s at_ sz ct)]) ∧ Ints w' ao (Rg.ansL s at_ sz ct)) ∧ Below w.heap.size w w') := fun w => by rw [hM]; exact spec_runGet s at_ sz ct w hsm
    have HIM : Hid (∀ w : World, Calls Try.prog 15 #[.string s, .int .i64 at_, .int .i64 sz, .int .i64 ct] w fun e w' => (∃ ao cap, e = .returned (.tuple #[.slice ao M cap, .int .i64 (Rg.ansE s at_ sz ct), .bool (Rg.ansB s at_ sz ct)]) ∧ Owns w' w.heap.size ao (Rg.ansL s at_ sz ct)) ∧ Below w.heap.size w w') := fun w => by rw [hM]; exact impl_runGet s at_ sz ct w hsm
    have HM : Hid ((Rg.ansL s at_ sz ct).length = M) := hM.symm
    clear hM
    generalize Rg.ansL s at_ sz ct = l at *
    generalize Rg.ansE s at_ sz ct = E at *
    generalize Rg.ansB s at_ sz ct = ok at *
    go_enter Try.func4, Try.ntmps4
    go_wp2_with fail
    refine (HSP.out _).mono ?_
    rintro e w1 ⟨⟨y, c1, rfl, W1⟩, b1⟩
    have W0 : Hid (Ints w1 y l) := W1
    go_wp2_with fail
    refine (HIM.out _).mono ?_
    rintro e w2 ⟨⟨x, c2, rfl, G2⟩, b2⟩
    have V2 := W1.kept b2
    have bel := b1.trans (b2.mono b1.size)
    have s2 : w1.heap.size ≤ w2.heap.size := b2.size
    clear W1 b2
    go_wp2_with fail
    refine (eqInts_same _ _ _ _ M l w2 G2.ints V2 HM.out (by omega)).mono ?_
    rintro e w3 ⟨rfl, m3, hw3⟩
    have b3 : Below w2.heap.size w2 w3 := by rw [hw3]; exact drewN_up _ _
    have V3 := V2.kept b3
    have G3 := G2.kept b3
    have s3 := Nat.le_trans s2 b3.size
    have bel' := bel.trans (b3.mono bel.size)
    clear V2 G2 hw3 b3 bel s2
    go_wp2_with fail
    refine (mark_g x M c2 l w1.heap.size w3 G3 HM.out (by omega) s3).mono ?_
    rintro e w4 ⟨rfl, G4, b4⟩
    have V4 := Ints.low W0.out V3 b4 (by omega)
    have bel := bel'.trans (b4.mono b1.size)
    clear V3 G3 b4 bel' s3
    go_wp2_with fail
    refine (held_g x M c2 _ w4 G4 (by omega)).mono ?_
    rintro e w5 ⟨rfl, hw5⟩
    subst hw5
    have hd2 : decide ((M : Int) + 1 < 0) = false := by simp; omega
    go_wp2_with fail
    refine (HIM.out _).mono ?_
    rintro e w6 ⟨⟨u, v, rfl, U6⟩, b6⟩
    have V6 := V4.kept b6
    have G6 := G4.kept b6
    have bel' := bel.trans (b6.mono bel.size)
    clear V4 G4 b6 bel
    go_wp2_with fail
    refine (eqInts_same _ _ _ _ M l w6 U6.ints V6 HM.out (by omega)).mono ?_
    rintro e w7 ⟨rfl, m7, hw7⟩
    have b7 : Below w6.heap.size w6 w7 := by rw [hw7]; exact drewN_up _ _
    have G7 := G6.kept b7
    have bel := bel'.trans (b7.mono bel'.size)
    clear V6 G6 U6 b7 bel' hw7
    go_wp2_with fail
    refine (held_g x M c2 _ w7 G7 (by omega)).mono ?_
    rintro e w8 ⟨rfl, hw8⟩
    subst hw8
    go_wp2_with fail
    go_ret
    exact ⟨rfl, bel⟩
end Go.Proofs.Yticfbeihmkfifaa
