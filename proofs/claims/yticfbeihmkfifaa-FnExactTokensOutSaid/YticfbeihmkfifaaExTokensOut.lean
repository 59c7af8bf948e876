/- The exact law on TokensOut, walked: program and specification answer alike, and the list stays as it was. -/
import Derived.Test.YticfbeihmkfifaaTkWalks
import Derived.Test.YticfbeihmkfifaaToTop
namespace Go.Proofs.Yticfbeihmkfifaa
open Go.RowKit

/-- what the walk is told of a list of tokens that came in -/
def RowK (w : World) (a : Option Addr) (len cap : Nat) : Prop := len ≤ cap ∧ len ≤ maxLen ∧ ∃ l : List Tk, l.length = len ∧ Toks w a l

set_option maxHeartbeats 1000000 in
theorem exTokensOut (a0 : Option Addr) (len0 cap0 : Nat) (w : World) (h : RowK w a0 len0 cap0) :
    Calls Try.prog 3 #[.slice a0 len0 cap0] w fun e w' => e = .returned (.bool true) ∧ Below w.heap.size w w' := by
  obtain ⟨_, hm, l, hn, hB⟩ := h
  unfold maxLen at hm
  by_cases hbig : 1048576 < len0
  · have HSZ : Hid (Calls Try.prog 9 #[.slice a0 len0 cap0, .int .i64 1048576] w fun e w' => e = .returned (.int .i64 (-1)) ∧ w' = w) := szToks_more a0 len0 cap0 w hbig hm
    clear hB hn
    go_enter Try.func3, Try.ntmps3
    go_wp2_with fail
    refine HSZ.out.mono ?_
    rintro e w1 ⟨rfl, hw1⟩
    replace hw1 := hw1.symm
    subst hw1
    go_wp2_with fail
    go_ret
    exact ⟨rfl, Below.refl _ _⟩
  have hb : len0 ≤ 1048576 := by omega
  have HSZ : Hid (Calls Try.prog 9 #[.slice a0 len0 cap0, .int .i64 1048576] w fun e w' => e = .returned (.int .i64 (1048576 - (len0 : Int))) ∧ w' = w) := szToks_fits a0 len0 cap0 w hb
  have HA1 : Hid (Toks w a0 l) := hB
  have HT : Hid (∀ w, Toks w a0 l → Calls Try.prog 11 #[.slice a0 len0 cap0] w fun e w' => e = .returned (.slice (some ⟨w.heap.size, 0, none⟩) len0 len0) ∧ Toks w' (some ⟨w.heap.size, 0, none⟩) l ∧ Below w.heap.size w w') := fun w hw => toToks_any a0 len0 cap0 l w hw hn (by omega)
  have HS : Hid (∀ (w : World) (a : Option Addr), Toks w a l → Calls Try.prog 10 #[.slice a len0 len0] w fun e w' => e = .returned (.tuple #[.string ⟨(To.ansL l).toArray⟩, .bool (To.ansB l)]) ∧ Below w.heap.size w w') := fun w a hw => spec_tokensOut a len0 len0 l w hw hn hb
  have HP : Hid (∀ (w : World) (a : Option Addr), Toks w a l → Calls Try.prog 12 #[.slice a len0 len0] w fun e w' => e = .returned (.tuple #[.string ⟨(To.ansL l).toArray⟩, .bool (To.ansB l)]) ∧ Below w.heap.size w w') := fun w a hw => impl_tokensOut a len0 len0 l w hw hn hb
  have HE : Hid (∀ (w : World) (a b : Option Addr), Toks w a l → Toks w b l → Calls Try.prog 13 #[.slice a len0 len0, .slice b len0 len0] w fun e w' => e = .returned (.bool true) ∧ Below w.heap.size w w') := fun w a b hw hw' => eqToks_same a len0 b len0 len0 l w hw hw' hn (by omega)
  generalize (⟨(To.ansL l).toArray⟩ : ByteArray) = t at *
  generalize To.ansB l = tb at *
  have hneg : ¬ (1048576 - (len0 : Int)) < 0 := by omega
  clear hB hn hbig hm
  go_enter Try.func3, Try.ntmps3
  go_wp2_with fail
  refine HSZ.out.mono ?_
  rintro e w1 ⟨rfl, hw1⟩
  replace hw1 := hw1.symm
  subst hw1
  clear HSZ
  go_wp2_with fail
  refine (HT.out _ HA1.out).mono ?_
  rintro e w2 ⟨rfl, hB2, bel2⟩
  have HB2 : Hid (Toks w2 _ l) := hB2
  have HA2 : Hid (Toks w2 a0 l) := HA1.out.kept bel2
  have bb2 := bel2
  clear hB2 HA1 bel2
  go_wp2_with fail
  refine (HS.out _ _ HB2.out).mono ?_
  rintro e w3 ⟨rfl, bel3⟩
  have bb3 := bb2.trans (bel3.mono bb2.size)
  have HA3 : Hid (Toks w3 a0 l) := HA2.out.kept bel3
  clear bb2 bel3 HA2 HB2
  go_wp2_with fail
  refine (HT.out _ HA3.out).mono ?_
  rintro e w4 ⟨rfl, hB4, bel4⟩
  have HB4 : Hid (Toks w4 _ l) := hB4
  have HA4 : Hid (Toks w4 a0 l) := HA3.out.kept bel4
  have bb4 := bb3.trans (bel4.mono bb3.size)
  clear hB4 HA3 bb3 bel4
  generalize w3.heap.size = H3 at *
  go_wp2_with fail
  refine (HP.out _ _ HB4.out).mono ?_
  rintro e w5 ⟨rfl, bel5⟩
  have HB5 : Hid (Toks w5 _ l) := HB4.out.kept bel5
  have HA5 : Hid (Toks w5 a0 l) := HA4.out.kept bel5
  have bb5 := bb4.trans (bel5.mono bb4.size)
  clear HB4 HA4 bb4 bel5
  go_wp2_with fail
  refine (HT.out _ HA5.out).mono ?_
  rintro e w6 ⟨rfl, hB6, bel6⟩
  have HB6 : Hid (Toks w6 _ l) := HB5.out.kept bel6
  have HC6 : Hid (Toks w6 (some ⟨w5.heap.size, 0, none⟩) l) := hB6
  have bb6 := bb5.trans (bel6.mono bb5.size)
  clear hB6 HB5 HA5 bb5 bel6
  go_wp2_with fail
  refine (HE.out _ _ _ HB6.out HC6.out).mono ?_
  rintro e w7 ⟨rfl, bel7⟩
  have bb7 := bb6.trans (bel7.mono bb6.size)
  clear bb6 bel7
  go_wp2_with fail
  go_ret
  exact ⟨rfl, bb7⟩
end Go.Proofs.Yticfbeihmkfifaa
