/- The exact law on RlePut, walked: program and specification answer alike, and the rows stay as they were. -/
import Derived.Test.YtlpfedhehfbfeaaReImpl
import Derived.Test.YtlpfedhehfbfeaaTorRows
import Derived.Test.YtlpfedhehfbfeaaSzRows
import Derived.Test.YtlpfedhehfbfeaaEqRows2
namespace Go.Proofs.Ytlpfedhehfbfeaa
open Go.RowKit

/-- what the walk is told of rows that came in -/
def RowR (w : World) (a : Option Addr) (len cap : Nat) : Prop := len ≤ cap ∧ len ≤ maxLen ∧ ∃ ls : List (List Int), ls.length = len ∧ Rows2 w a ls ∧ ∀ l ∈ ls, l.length ≤ maxLen

set_option maxHeartbeats 1000000 in
theorem impl_rlePut (a : Option Addr) (n cap : Nat) (ls : List (List Int)) (w : World) (h : Rows2 w a ls) (hn : ls.length = n) (hnb : n ≤ 2000000) (hm : ∀ l ∈ ls, l.length ≤ 2000000) :
    Calls Try.prog 8 #[.slice a n cap] w fun e w' => e = .returned (.string ⟨(Re.all ls).toArray⟩) ∧ Below w.heap.size w w' := by
  by_cases hbig : 100 < n
  · have hbi : (100 : Int) < (n : Int) := by omega
    have HF : Hid (Re.all ls = []) := Re.all_many (by omega)
    clear h hn hm
    go_enter Try.func8, Try.ntmps8
    go_wp2_with fail
    go_ret
    exact ⟨by rw [HF.out]; rfl, Below.refl _ _⟩
  · exact callsIn_wide.1 (impl_rlePut_in a n cap ls w h hn (by omega) hm)

set_option maxHeartbeats 1000000 in
theorem exRlePut (a0 : Option Addr) (len0 cap0 : Nat) (w : World) (h : RowR w a0 len0 cap0) :
    Calls Try.prog 5 #[.slice a0 len0 cap0] w fun e w' => e = .returned (.bool true) ∧ Below w.heap.size w w' := by
  obtain ⟨_, hm, ls, hn, hR, hI⟩ := h
  unfold maxLen at hm hI
  obtain ⟨z, hz⟩ : ∃ z : Int, z = if len0 ≤ 1048576 then leftOf (1048576 - len0) ls else -1 := ⟨_, rfl⟩
  have HSZ : Hid (Calls Try.prog 15 #[.slice a0 len0 cap0, .int .i64 1048576] w fun e w' => e = .returned (.int .i64 z) ∧ w' = w) := by rw [hz]; exact szRows_any a0 cap0 len0 ls w hR hn hm hI
  have HB : Hid (Rows2 w a0 ls) := hR
  have HN : Hid (ls.length = len0) := hn
  by_cases hneg : z < 0
  · clear hR hI hn hz HB HN
    go_enter Try.func5, Try.ntmps5
    go_wp2_with fail
    refine HSZ.out.mono ?_
    rintro e w1 ⟨rfl, hw1⟩
    subst hw1
    go_wp2_with fail
    go_ret
    exact ⟨rfl, Below.refl _ _⟩
  · have hb : len0 ≤ 1048576 := by
      by_cases hc : len0 ≤ 1048576
      · exact hc
      · rw [if_neg hc] at hz; omega
    rw [if_pos hb] at hz
    have hM : ∀ l ∈ ls, l.length ≤ 2000000 := fun l hl => by
      have := leftOf_le _ ls (by rw [← hz]; omega) l hl
      omega
    have HT : Hid (∀ w, Rows2 w a0 ls → Calls Try.prog 16 #[.slice a0 len0 cap0] w fun e w' => e = .returned (.slice (some ⟨w.heap.size, 0, none⟩) len0 len0) ∧ Rows2 w' (some ⟨w.heap.size, 0, none⟩) ls ∧ Below w.heap.size w w') := fun w hw =>
      (toRows_any a0 cap0 len0 ls w hw HN.out (by omega) hM).mono fun e w' ⟨h1, h2⟩ => ⟨h1, h2.rows HN.out, h2.below⟩
    have HS : Hid (∀ (w : World) (a : Option Addr), Rows2 w a ls → Calls Try.prog 9 #[.slice a len0 len0] w fun e w' => e = .returned (.string ⟨(Re.all ls).toArray⟩) ∧ Below w.heap.size w w') := fun w a hw => spec_rlePut a len0 len0 ls w hw HN.out (by omega) hM
    have HP : Hid (∀ (w : World) (a : Option Addr), Rows2 w a ls → Calls Try.prog 8 #[.slice a len0 len0] w fun e w' => e = .returned (.string ⟨(Re.all ls).toArray⟩) ∧ Below w.heap.size w w') := fun w a hw => impl_rlePut a len0 len0 ls w hw HN.out (by omega) hM
    have HE : Hid (∀ (w : World) (a b : Option Addr), Rows2 w a ls → Rows2 w b ls → Calls Try.prog 17 #[.slice a len0 len0, .slice b len0 len0] w fun e w' => e = .returned (.bool true) ∧ Below w.heap.size w w') := fun w a b hw hw' =>
      (eqRows2_same a len0 b len0 len0 ls w hw hw' HN.out (by omega) hM).mono fun e w' ⟨h1, m, h2⟩ => ⟨h1, by rw [h2]; exact ⟨rfl, rfl, rfl, Nat.le_refl _, fun _ _ => rfl⟩⟩
    generalize (⟨(Re.all ls).toArray⟩ : ByteArray) = t at *
    clear hR hI hn hz HN hM
    go_enter Try.func5, Try.ntmps5
    go_wp2_with fail
    refine HSZ.out.mono ?_
    rintro e w1 ⟨rfl, hw1⟩
    subst hw1
    clear HSZ
    go_wp2_with fail
    refine (HT.out _ HB.out).mono ?_
    rintro e w2 ⟨rfl, hB2, bel2⟩
    have HB2 : Hid (Rows2 w2 _ ls) := hB2
    have HA2 : Hid (Rows2 w2 a0 ls) := HB.out.kept bel2
    clear hB2 HB
    go_wp2_with fail
    refine (HS.out _ _ HB2.out).mono ?_
    rintro e w3 ⟨rfl, bel3⟩
    have bb3 := bel2.trans (bel3.mono bel2.size)
    have HA3 : Hid (Rows2 w3 a0 ls) := HA2.out.kept bel3
    clear bel2 bel3 HA2 HB2
    go_wp2_with fail
    refine (HT.out _ HA3.out).mono ?_
    rintro e w4 ⟨rfl, hB4, bel4⟩
    have HB4 : Hid (Rows2 w4 _ ls) := hB4
    have HA4 : Hid (Rows2 w4 a0 ls) := HA3.out.kept bel4
    have bb4 := bb3.trans (bel4.mono bb3.size)
    clear hB4 HA3 bb3 bel4
    generalize w3.heap.size = H3 at *
    go_wp2_with fail
    refine (HP.out _ _ HB4.out).mono ?_
    rintro e w5 ⟨rfl, bel5⟩
    have HB5 : Hid (Rows2 w5 _ ls) := HB4.out.kept bel5
    have HA5 : Hid (Rows2 w5 a0 ls) := HA4.out.kept bel5
    have bb5 := bb4.trans (bel5.mono bb4.size)
    clear HB4 HA4 bb4 bel5
    go_wp2_with fail
    refine (HT.out _ HA5.out).mono ?_
    rintro e w6 ⟨rfl, hB6, bel6⟩
    have HB6 : Hid (Rows2 w6 _ ls) := HB5.out.kept bel6
    have HC6 : Hid (Rows2 w6 (some ⟨w5.heap.size, 0, none⟩) ls) := hB6
    have bb6 := bb5.trans (bel6.mono bb5.size)
    clear hB6 HB5 HA5 bb5 bel6
    go_wp2_with fail
    refine (HE.out _ _ _ HB6.out HC6.out).mono ?_
    rintro e w7 ⟨rfl, bel7⟩
    have bb7 := bb6.trans (bel7.mono bb6.size)
    clear bb6 bel7
    go_wp2_with fail
    go_ret
    exact ⟨rfl, bb7⟩
end Go.Proofs.Ytlpfedhehfbfeaa
