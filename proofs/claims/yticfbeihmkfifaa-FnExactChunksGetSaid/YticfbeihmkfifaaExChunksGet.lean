/- The exact law of ChunksGet, walked. -/
import Derived.Test.YticfbeihmkfifaaCgSpec
import Derived.Test.YticfbeihmkfifaaCgImpl
import Derived.Test.YticfbeihmkfifaaChWalks
import Derived.Test.YticfbeihmkfifaaChMark
namespace Go.Proofs.Yticfbeihmkfifaa
open Go.RowKit

/-- a list that lay below stays -/
theorem Chs2.low {w0 w w' : World} {lo : Nat} {a : Option Addr} {l : List (ByteArray × ByteArray)} (h0 : Chs2 w0 a l) (h : Chs2 w a l) (hb : Below lo w w') (hlo : w0.heap.size ≤ lo) : Chs2 w' a l := by
  rcases h0 with e | ⟨b, off, rfl, hb0, _⟩
  · exact .inl e
  · rcases h with e | ⟨c, off', e, hc, hcell⟩
    · exact .inl e
    · cases e
      exact .inr ⟨b, off, rfl, Nat.lt_of_lt_of_le hc hb.size, fun i hi => ⟨(hb.cell (p := ⟨b, off + i * 2, none⟩) (show b < lo by omega)).trans (hcell i hi).1, (hb.cell (p := ⟨b, off + i * 2 + 1, none⟩) (show b < lo by omega)).trans (hcell i hi).2⟩⟩
theorem OwnC.pieces {w : World} {B n c : Nat} {a : Option Addr} {l : List (ByteArray × ByteArray)} (h : OwnC w B (.slice a n c) n l) : Chs2 w a l := by
  obtain ⟨ao, cap, e, hc⟩ := h.chs
  cases e
  exact hc
theorem OwnC.up {w w' : World} {B n : Nat} {v : Value} {l : List (ByteArray × ByteArray)} (h : OwnC w B v n l) (b : Below w.heap.size w w') : OwnC w' B v n l := h.same (fun k hk _ => b.block k hk)

set_option maxHeartbeats 1000000 in
theorem exChunksGet (s : ByteArray) (hs : s.size ≤ maxLen) (w : World) :
    Calls Try.prog 8 #[.string s] w fun e w' => e = .returned (.bool true) ∧ Below w.heap.size w w' := by
  by_cases hbig : 1048576 < s.size
  · unfold maxLen at hs
    go_enter Try.func8, Try.ntmps8
    go_wp2_with fail
    go_ret
    exact ⟨rfl, Below.refl _ _⟩
  · have hsm : s.size ≤ 1048576 := by omega
    obtain ⟨M, hM⟩ : ∃ M, M = (Cg.ansL s).length := ⟨_, rfl⟩
    have hM3 : M ≤ 9000 := by rw [hM]; exact Cg.ansL_len s
    have HSP : Hid (∀ w : World, Calls Try.prog 33 #[.string s] w fun e w' => ∃ ao cap, e = .returned (.tuple #[.slice ao M cap, .bool (Cg.ansB s)]) ∧ Chs2 w' ao (Cg.ansL s) ∧ Below w.heap.size w w') := fun w => by rw [hM]; exact spec_chunksGet s w (by omega)
    have HIM : Hid (∀ w : World, Calls Try.prog 34 #[.string s] w fun e w' => ∃ ao cap, e = .returned (.tuple #[.slice ao M cap, .bool (Cg.ansB s)]) ∧ OwnC w' w.heap.size (.slice ao M cap) M (Cg.ansL s) ∧ Below w.heap.size w w') := fun w => by rw [hM]; exact impl_chunksGet s w (by omega)
    have HM : Hid ((Cg.ansL s).length = M) := hM.symm
    clear hM
    generalize Cg.ansL s = l at *
    generalize Cg.ansB s = ok at *
    go_enter Try.func8, Try.ntmps8
    go_wp2_with fail
    refine (HSP.out _).mono ?_
    rintro e w1 ⟨y, c1, rfl, W1, b1⟩
    have W0 : Hid (Chs2 w1 y l) := W1
    clear HSP
    go_wp2_with fail
    refine (HIM.out _).mono ?_
    rintro e w2 ⟨x, c2, rfl, G2, b2⟩
    have V2 := W1.kept b2
    have bel := b1.trans (b2.mono b1.size)
    have s2 : w1.heap.size ≤ w2.heap.size := b2.size
    clear W1 b2
    go_wp2_with fail
    refine (eqChunks_same _ _ _ _ M l w2 G2.pieces V2 HM.out (by omega)).mono ?_
    rintro e w3 ⟨rfl, b3⟩
    have V3 := V2.kept b3
    have G3 := G2.up b3
    have s3 := Nat.le_trans s2 b3.size
    have bel' := bel.trans (b3.mono bel.size)
    clear V2 G2 b3 bel s2
    go_wp2_with fail
    refine (markChunks_any x M c2 w1.heap.size l w3 G3 s3 (by omega)).mono ?_
    rintro e w4 ⟨rfl, G4, b4⟩
    have V4 := Chs2.low W0.out V3 b4 (by omega)
    have bel := bel'.trans (b4.mono b1.size)
    clear V3 G3 b4 bel' s3
    go_wp2_with fail
    refine (heldChunks_any x M c2 w4 G4.pieces (by omega)).mono ?_
    rintro e w5 ⟨rfl, b5⟩
    have V5 := V4.kept b5
    have G5 := G4.up b5
    have bel5 := bel.trans (b5.mono bel.size)
    have hd2 : decide ((M : Int) * 2 + 1 < 0) = false := by simp; omega
    clear V4 G4 b5 bel
    go_wp2_with fail
    refine (HIM.out _).mono ?_
    rintro e w6 ⟨u, v, rfl, U6, b6⟩
    have V6 := V5.kept b6
    have G6 := G5.up b6
    have bel' := bel5.trans (b6.mono bel5.size)
    clear V5 G5 b6 bel5
    go_wp2_with fail
    refine (eqChunks_same _ _ _ _ M l w6 U6.pieces V6 HM.out (by omega)).mono ?_
    rintro e w7 ⟨rfl, b7⟩
    have G7 := G6.up b7
    have bel := bel'.trans (b7.mono bel'.size)
    clear V6 G6 U6 b7 bel'
    go_wp2_with fail
    refine (heldChunks_any x M c2 w7 G7.pieces (by omega)).mono ?_
    rintro e w8 ⟨rfl, b8⟩
    have bel' := bel.trans (b8.mono bel.size)
    clear G7 b8 bel
    go_wp2_with fail
    go_ret
    exact ⟨rfl, bel'⟩
end Go.Proofs.Yticfbeihmkfifaa
