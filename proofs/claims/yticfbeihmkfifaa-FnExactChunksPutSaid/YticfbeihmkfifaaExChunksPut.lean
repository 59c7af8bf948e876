/- The exact law on ChunksPut, walked: program and specification answer alike, and the list stays as it was. -/
import Derived.Test.YticfbeihmkfifaaChWalks
import Derived.Test.YticfbeihmkfifaaChSz
import Derived.Test.YticfbeihmkfifaaChImpl
namespace Go.Proofs.Yticfbeihmkfifaa
open Go.RowKit

/-- what the walk is told of a list of pieces that came in -/
def RowC (w : World) (a : Option Addr) (len cap : Nat) : Prop := len ≤ cap ∧ len ≤ maxLen ∧ ∃ l : List (ByteArray × ByteArray), l.length = len ∧ Chs2 w a l ∧ ∀ p ∈ l, p.1.size ≤ maxLen ∧ p.2.size ≤ maxLen

set_option maxHeartbeats 1000000 in
theorem exChunksPut (a0 : Option Addr) (len0 cap0 : Nat) (w : World) (h : RowC w a0 len0 cap0) :
    Calls Try.prog 7 #[.slice a0 len0 cap0] w fun e w' => e = .returned (.bool true) ∧ Below w.heap.size w w' := by
  obtain ⟨_, hm, l, hn, hB, hI⟩ := h
  have HSZ : Hid (Calls Try.prog 28 #[.slice a0 len0 cap0, .int .i64 1048576] w (SzEnd w l)) := szChunks_any a0 len0 cap0 l w hB hn hm hI
  have HB : Hid (Chs2 w a0 l) := hB
  have HN : Hid (l.length = len0) := hn
  clear hB hI hn hm
  go_enter Try.func7, Try.ntmps7
  go_wp2_with fail
  refine HSZ.out.mono ?_
  rintro e w1 ⟨(rfl | ⟨⟨L, rfl⟩, hl, hz⟩), bel1⟩
  · clear HSZ HB HN
    go_wp2_with fail
    go_ret
    exact ⟨rfl, bel1⟩
  · have hb : len0 ≤ 1048576 := by have := HN.out; omega
    have HT : Hid (∀ w, Chs2 w a0 l → Calls Try.prog 30 #[.slice a0 len0 cap0] w fun e w' => e = .returned (.slice (some ⟨w.heap.size, 0, none⟩) len0 len0) ∧ Chs2 w' (some ⟨w.heap.size, 0, none⟩) l ∧ Below w.heap.size w w') := fun w hw => toChunks_any a0 len0 cap0 l w hw HN.out (by omega)
    have HS : Hid (∀ (w : World) (a : Option Addr), Chs2 w a l → Calls Try.prog 29 #[.slice a len0 len0] w fun e w' => e = .returned (.string ⟨(Ch.ans l).toArray⟩) ∧ Below w.heap.size w w') := fun w a hw => spec_chunksPut a len0 len0 l w hw HN.out hb hz
    have HP : Hid (∀ (w : World) (a : Option Addr), Chs2 w a l → Calls Try.prog 31 #[.slice a len0 len0] w fun e w' => e = .returned (.string ⟨(Ch.ans l).toArray⟩) ∧ Below w.heap.size w w') := fun w a hw => impl_chunksPut a len0 len0 l w hw HN.out hb hz
    have HE : Hid (∀ (w : World) (a b : Option Addr), Chs2 w a l → Chs2 w b l → Calls Try.prog 32 #[.slice a len0 len0, .slice b len0 len0] w fun e w' => e = .returned (.bool true) ∧ Below w.heap.size w w') := fun w a b hw hw' => eqChunks_same a len0 b len0 len0 l w hw hw' HN.out (by omega)
    have HA1 : Hid (Chs2 w1 a0 l) := HB.out.kept bel1
    generalize (⟨(Ch.ans l).toArray⟩ : ByteArray) = t at *
    clear hz hl HSZ HB HN
    go_wp2_with fail
    refine (HT.out _ HA1.out).mono ?_
    rintro e w2 ⟨rfl, hB2, bel2⟩
    have HB2 : Hid (Chs2 w2 _ l) := hB2
    have HA2 : Hid (Chs2 w2 a0 l) := HA1.out.kept bel2
    have bb2 := bel1.trans (bel2.mono bel1.size)
    clear hB2 HA1 bel1 bel2
    go_wp2_with fail
    refine (HS.out _ _ HB2.out).mono ?_
    rintro e w3 ⟨rfl, bel3⟩
    have bb3 := bb2.trans (bel3.mono bb2.size)
    have HA3 : Hid (Chs2 w3 a0 l) := HA2.out.kept bel3
    clear bb2 bel3 HA2 HB2
    go_wp2_with fail
    refine (HT.out _ HA3.out).mono ?_
    rintro e w4 ⟨rfl, hB4, bel4⟩
    have HB4 : Hid (Chs2 w4 _ l) := hB4
    have HA4 : Hid (Chs2 w4 a0 l) := HA3.out.kept bel4
    have bb4 := bb3.trans (bel4.mono bb3.size)
    clear hB4 HA3 bb3 bel4
    generalize w3.heap.size = H3 at *
    go_wp2_with fail
    refine (HP.out _ _ HB4.out).mono ?_
    rintro e w5 ⟨rfl, bel5⟩
    have HB5 : Hid (Chs2 w5 _ l) := HB4.out.kept bel5
    have HA5 : Hid (Chs2 w5 a0 l) := HA4.out.kept bel5
    have bb5 := bb4.trans (bel5.mono bb4.size)
    clear HB4 HA4 bb4 bel5
    go_wp2_with fail
    refine (HT.out _ HA5.out).mono ?_
    rintro e w6 ⟨rfl, hB6, bel6⟩
    have HB6 : Hid (Chs2 w6 _ l) := HB5.out.kept bel6
    have HC6 : Hid (Chs2 w6 (some ⟨w5.heap.size, 0, none⟩) l) := hB6
    have bb6 := bb5.trans (bel6.mono bb5.size)
    clear hB6 HB5 HA5 bb5 bel6
    go_wp2_with fail
    refine (HE.out _ _ _ HB6.out HC6.out).mono ?_
    rintro e w7 ⟨rfl, bel7⟩
    have bb7 := bb6.trans (bel7.mono bb6.size)
    clear bb6 bel7
    go_wp2_with fail
    go_ret
    exact ⟨rfl, bb7⟩
end Go.Proofs.Yticfbeihmkfifaa
