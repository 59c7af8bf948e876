/- The exact law of LzwCodes, walked. -/
import Derived.Test.YtjfihmpnbblomaaLzSpecTop
import Derived.Test.YtjfihmpnbblomaaLzTopI
import Derived.Test.YtjfihmpnbblomaaMarkRow
namespace Go.Proofs.Ytjfihmpnbblomaa
open Go.RowKit

theorem Owns.keptL {w w' : World} {lo : Nat} {a : Option Addr} {l : List Int} (h : Owns w lo a l) (g : Below w.heap.size w w') : Owns w' lo a l := by
  rcases h with e | ⟨b, rfl, h1, h2, h3⟩
  · exact .inl e
  · exact .inr ⟨b, rfl, h1, Nat.lt_of_lt_of_le h2 g.size, fun i hi => ⟨(g.cell (p := ⟨b, i, none⟩) h2).trans (h3 i hi).1, (g.frozen (p := ⟨b, i, none⟩) h2).trans (h3 i hi).2⟩⟩

set_option maxHeartbeats 2000000 in
theorem exLzwCodes (s : ByteArray) (b : Int) (wide : Bool) (hs : s.size ≤ maxLen) (_hw : (Lit.int .i64 b).wf = true) (w : World) :
    Calls Try.prog 7 #[.string s, .int .i64 b, .bool wide] w fun e w' => e = .returned (.bool true) ∧ Below w.heap.size w w' := by
  by_cases hbig : 1048576 < s.size
  · unfold maxLen at hs
    go_enter Try.func7, Try.ntmps7
    go_wp2_with fail
    go_ret
    exact ⟨rfl, Below.refl _ _⟩
  have hsm : s.size ≤ 1048576 := by omega
  obtain ⟨L, hL⟩ : ∃ L, L = Lz.codes (Lz.res s b wide 5000) := ⟨_, rfl⟩
  obtain ⟨n, hn⟩ : ∃ n, n = L.length := ⟨_, rfl⟩
  have hlen : L.length = n := hn.symm
  have hn1 : n ≤ 72001 := by rw [hn, hL]; exact Lz.codes_len s b 5000 wide
  have HSP : Hid (∀ w : World, Calls Try.prog 18 #[.string s, .int .i64 b, .bool wide] w fun e w' => (∃ ao cap, e = .returned (.slice ao n cap) ∧ Ints w' ao L) ∧ Below w.heap.size w w') := fun w => by rw [hn, hL]; exact spec_lzwCodes s b wide w (by omega)
  have HIM : Hid (∀ w : World, Calls Try.prog 17 #[.string s, .int .i64 b, .bool wide] w fun e w' => (∃ ao cap, e = .returned (.slice ao n cap) ∧ Owns w' w.heap.size ao L) ∧ Below w.heap.size w w') := fun w => by rw [hn, hL]; exact impl_lzwCodes s b wide w (by omega)
  have HEQ : Hid (∀ (a : Option Addr) (ca : Nat) (b : Option Addr) (cb : Nat) (w : World), Ints w a L → Ints w b L → Calls Try.prog 20 #[.slice a n ca, .slice b n cb] w fun e w' => e = .returned (.bool true) ∧ Below w.heap.size w w') := fun a ca b cb w h1 h2 => by
    refine (eqInts_same a ca b cb n L w h1 h2 hlen (by omega)).mono ?_
    rintro e w' ⟨rfl, m, rfl⟩
    exact ⟨rfl, drewN_below _ _⟩
  obtain ⟨t, ht⟩ : ∃ t : Nat, t = n + 1 := ⟨_, rfl⟩
  have HMK : Hid (∀ (lo c : Nat) (ao : Option Addr) (w : World), Owns w lo ao L → lo ≤ w.heap.size → Calls Try.prog 21 #[.slice ao n c, .int .i64 1] w fun e w' => e = .returned (.int .i64 (t : Int)) ∧ Owns w' lo ao (marks n) ∧ Below lo w w') := fun lo c ao w h hl => by
    rw [ht]; exact mark_g ao n c L lo w h hlen (by omega) hl
  have HHD : Hid (∀ (lo c : Nat) (ao : Option Addr) (w : World), Owns w lo ao (marks n) → Calls Try.prog 22 #[.slice ao n c, .int .i64 1] w fun e w' => e = .returned (.int .i64 (t : Int)) ∧ w' = w) := fun lo c ao w h => by
    rw [ht]; exact held_g ao n c lo w h (by omega)
  have hd : decide ((t : Int) < 0) = false := by simp
  clear hn hL hlen ht hbig
  go_enter Try.func7, Try.ntmps7
  go_wp2_with fail
  refine (HSP.out _).mono ?_
  rintro e w1 ⟨⟨a0, c0, rfl, hI0⟩, b1⟩
  have HI0 : Hid (∀ w', Below w1.heap.size w1 w' → Ints w' a0 L) := fun w' b => hI0.kept b
  clear hI0 HSP
  go_wp2_with fail
  refine (HIM.out _).mono ?_
  rintro e w2 ⟨⟨a1, c1, rfl, hO1⟩, b2⟩
  have HG2 : Hid (Owns w2 w1.heap.size a1 L) := hO1
  have B2 : Hid (Below w1.heap.size w1 w2) := b2
  clear hO1 b2
  go_wp2_with fail
  refine (HEQ.out a1 c1 a0 c0 w2 HG2.out.ints (HI0.out w2 B2.out)).mono ?_
  rintro e w3 ⟨rfl, b3⟩
  have HG3 : Hid (Owns w3 w1.heap.size a1 L) := HG2.out.keptL b3
  have B3 : Hid (Below w1.heap.size w1 w3) := B2.out.trans (b3.mono B2.out.size)
  clear b3 B2 HG2
  go_wp2_with fail
  refine (HMK.out _ c1 a1 w3 HG3.out B3.out.size).mono ?_
  rintro e w4 ⟨rfl, hG4, b4⟩
  have HG4 : Hid (Owns w4 w1.heap.size a1 (marks n)) := hG4
  have B4 : Hid (Below w1.heap.size w1 w4) := B3.out.trans b4
  clear hG4 b4 B3 HG3 HMK
  go_wp2_with fail
  refine (HHD.out _ c1 a1 w4 HG4.out).mono ?_
  rintro e w5 ⟨rfl, hw⟩
  replace hw := hw.symm
  subst hw
  go_wp2_with fail
  refine (HIM.out _).mono ?_
  rintro e w6 ⟨⟨a6, c6, rfl, hO6⟩, b6⟩
  have HI6 : Hid (Ints w6 a6 L) := hO6.ints
  have HG6 : Hid (Owns w6 w1.heap.size a1 (marks n)) := HG4.out.keptL b6
  have B6 : Hid (Below w1.heap.size w1 w6) := B4.out.trans (b6.mono B4.out.size)
  clear hO6 b6 B4 HG4
  go_wp2_with fail
  refine (HEQ.out a6 c6 a0 c0 w6 HI6.out (HI0.out w6 B6.out)).mono ?_
  rintro e w7 ⟨rfl, b7⟩
  have HG7 : Hid (Owns w7 w1.heap.size a1 (marks n)) := HG6.out.keptL b7
  have B7 : Hid (Below w1.heap.size w1 w7) := B6.out.trans (b7.mono B6.out.size)
  clear b7 B6 HG6 HI6
  go_wp2_with fail
  refine (HHD.out _ c1 a1 w7 HG7.out).mono ?_
  rintro e w8 ⟨rfl, hw⟩
  replace hw := hw.symm
  subst hw
  have bel : Below w.heap.size w w7 := b1.trans (B7.out.mono b1.size)
  clear b1 B7 HG7 HHD HEQ HIM HI0
  go_wp2_with fail
  go_ret
  exact ⟨rfl, bel⟩
end Go.Proofs.Ytjfihmpnbblomaa
