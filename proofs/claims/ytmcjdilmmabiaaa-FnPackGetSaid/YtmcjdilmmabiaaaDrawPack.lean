/- A text to be packed, drawn of a code. -/
import Derived.Test.YtmcjdilmmabiaaaDrawWalks
import Derived.Test.YtmcjdilmmabiaaaTextWalks
namespace Go.Proofs.Ytmcjdilmmabiaaa
open Go.RowKit

/-- a text: short, or more than can be packed -/
def TextDrawn (w : World) (e : Ending) (w' : World) : Prop :=
  (∃ t : ByteArray, e = .returned (.string t) ∧ t.size ≤ 9001 ∧ (t.size ≤ 2400 ∨ 9000 ≤ t.size)) ∧ Below w.heap.size w w'

set_option maxHeartbeats 2000000 in
set_option maxRecDepth 20000 in
theorem drawPackPut_any (a : Option Addr) (len cap : Nat) (w : World) (h : Code8 w a len cap) :
    Calls Try.prog 7 #[.slice a len cap] w (TextDrawn w) := by
  have HOP : Hid (Calls Try.prog 20 #[.slice a len cap] w fun e w' => e = .returned (.pointer (some ⟨w.heap.size, 0, none⟩)) ∧ RdAt w' w.heap.size 0 ∧ Below w.heap.size w w') := open_any a len cap w h
  clear h
  go_enter Try.func7, Try.ntmps7
  go_wp2_with fail
  refine HOP.out.mono ?_
  rintro e w1 ⟨rfl, hR1, b1⟩
  clear HOP
  have HR1 : Hid (RdAt w1 w.heap.size 0) := hR1
  have HB1 : Hid (Below w.heap.size w w1) := b1
  clear hR1 b1
  obtain ⟨B, hB⟩ : ∃ B, B = w.heap.size := ⟨_, rfl⟩
  rw [← hB] at HR1 HB1 ⊢
  have HBB : Hid (B = w.heap.size) := hB
  clear hB
  go_wp2_with fail
  refine (pick_named B 0 _ _ HR1.out (by omega) (by omega) (by omega)).mono ?_
  rintro e w2 ⟨x, rfl, hx, hR2, hO2, -⟩
  have HR2 : Hid (RdAt w2 B (0 + 1)) := hR2
  have HB2 : Hid (Below B w w2) := HB1.out.trans hO2.below
  clear hR2 hO2 HR1 HB1
  by_cases hx0 : x = 0
  · subst hx0
    have HOF : Hid (Calls Try.prog 23 #[.pointer (some ⟨B, 0, none⟩), .slice (some ⟨w2.heap.size, 0, none⟩) 4 4] (w2.alloc (.cells #[.string ⟨#[97]⟩, .string ⟨#[97, 98]⟩, .string ⟨#[97, 97, 98]⟩, .string ⟨#[97, 98, 99, 100]⟩] 9)) fun e w' => (∃ t : ByteArray, e = .returned (.string t) ∧ t.size ≤ 10) ∧ RdAt w' B (0 + 1 + 1) ∧ Only B w2 w') := of_new B (0 + 1) _ _ _ _ w2 HR2.out (by omega) (by decide) (by decide) (by decide) (by decide)
    go_wp2_with fail
    refine HOF.out.mono ?_
    rintro e w3 ⟨⟨t, rfl, ht⟩, hR3, hO3⟩
    have HR3 : Hid (RdAt w3 B (0 + 1 + 1)) := hR3
    have HB3 : Hid (Below B w w3) := HB2.out.trans hO3.below
    clear hR3 hO3 HR2 HB2 HOF
    go_wp2_with fail
    refine (pick_named B (0 + 1 + 1) _ _ HR3.out (by omega) (by omega) (by omega)).mono ?_
    rintro e w4 ⟨y, rfl, hy, -, hO4, -⟩
    have HB4 : Hid (Below B w w4) := HB3.out.trans hO4.below
    clear hO4 HR3 HB3
    obtain ⟨n, hn⟩ : ∃ n, n = 100 + y := ⟨_, rfl⟩
    have en : (100 : Int) + (y : Int) = (n : Int) := by omega
    have hnb : n ≤ 190 := by omega
    have HMY : Hid (Calls Try.prog 22 #[.string t, .int .i64 (n : Int)] w4 fun e w' => (∃ u : ByteArray, e = .returned (.string u) ∧ u.size ≤ 2400) ∧ w' = w4) := by
      refine (l1Many_any t n w4 (by omega) (by omega)).mono ?_
      rintro e w' ⟨⟨u, h1, h2⟩, h3⟩
      refine ⟨⟨u, h1, ?_⟩, h3⟩
      rw [h2]
      exact Nat.le_trans (Nat.mul_le_mul hnb ht) (by decide)
    clear hn
    go_wp2_with fail
    refine HMY.out.mono ?_
    rintro e w5 ⟨⟨u, rfl, hu⟩, hw5⟩
    have HB5 : Hid (Below B w w5) := by rw [hw5]; exact HB4.out
    clear hw5 HMY HB4
    go_wp2_with fail
    go_ret
    exact ⟨⟨u, rfl, by omega, .inl hu⟩, by rw [← HBB.out]; exact HB5.out⟩
  · have hxb : ((x : Int) == 0) = false := by simp; omega
    have HTX : Hid (Calls Try.prog 24 #[.pointer (some ⟨B, 0, none⟩)] w2 fun e w' => (∃ t : ByteArray, e = .returned (.string t) ∧ t.size ≤ 9001 ∧ (t.size ≤ 2400 ∨ 9000 ≤ t.size)) ∧ (∃ q, q ≤ 0 + 1 + 100 ∧ RdAt w' B q) ∧ Only B w2 w') := text_two B (0 + 1) w2 HR2.out (by omega)
    go_wp2_with fail
    refine HTX.out.mono ?_
    rintro e w3 ⟨⟨t, rfl, ht, ht2⟩, -, hO3⟩
    have HB3 : Hid (Below B w w3) := HB2.out.trans hO3.below
    have HT : Hid (t.size ≤ 2400 ∨ 9000 ≤ t.size) := ht2
    clear hO3 HR2 HB2 HTX ht2
    go_wp2_with fail
    go_ret
    exact ⟨⟨t, rfl, ht, HT.out⟩, by rw [← HBB.out]; exact HB3.out⟩
end Go.Proofs.Ytmcjdilmmabiaaa
