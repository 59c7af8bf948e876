/- The exact law of CodeGet, walked. -/
import Derived.Test.YtjdilanmkgodnaaGtSpec
import Derived.Test.YtjdilanmkgodnaaRow64
namespace Go.Proofs.Ytjdilanmkgodnaa
open Go.RowKit

set_option maxHeartbeats 1000000 in
theorem exCodeGet (s : ByteArray) (at_ : Int) (a : Option Addr) (n cap : Nat) (w : World) (hs : s.size ≤ maxLen) (_h1 : (Lit.int .i64 at_).wf = true) (h : Row64 w a n cap) :
    Calls Try.prog 7 #[.string s, .int .i64 at_, .slice a n cap] w fun e w' => e = .returned (.bool true) ∧ Below w.heap.size w w' := by
  obtain ⟨_, hm, zs, hn, hI, _⟩ := h
  unfold maxLen at hm hs
  have HN : Hid (zs.length = n) := hn
  clear hn
  by_cases hbs : 1048576 < s.size
  · clear hI
    go_enter Try.func7, Try.ntmps7
    go_wp2_with fail
    go_ret
    exact ⟨rfl, Below.refl _ _⟩
  by_cases hbig : 1048576 < n
  · clear hI
    go_enter Try.func7, Try.ntmps7
    go_wp2_with fail
    go_ret
    exact ⟨rfl, Below.refl _ _⟩
  · have hsm : n ≤ 1048576 := by omega
    have hss : s.size ≤ 1048576 := by omega
    obtain ⟨r1, hr1⟩ : ∃ r1, r1 = (cgAns s at_ zs).1 := ⟨_, rfl⟩
    obtain ⟨r2, hr2⟩ : ∃ r2, r2 = (cgAns s at_ zs).2 := ⟨_, rfl⟩
    have HSP : Hid (∀ (w : World) (x : Option Addr) (c : Nat), Ints w x zs → Calls Try.prog 18 #[.string s, .int .i64 at_, .slice x n c] w fun e w' => e = .returned (.tuple #[.int .i64 r1, .int .i64 r2]) ∧ Below w.heap.size w w') := fun w x c hx => by
      rw [hr1, hr2]; exact spec_codeGet s at_ x c n zs w hx HN.out hsm hss
    have HIM : Hid (∀ (w : World) (x : Option Addr) (c : Nat), Ints w x zs → Calls Try.prog 17 #[.string s, .int .i64 at_, .slice x n c] w fun e w' => e = .returned (.tuple #[.int .i64 r1, .int .i64 r2]) ∧ Below w.heap.size w w') := fun w x c hx => by
      rw [hr1, hr2]; exact impl_codeGet s at_ x c n zs w hx HN.out hsm hss
    have I0 : Hid (Ints w a zs) := hI
    clear hr1 hr2 hI
    go_enter Try.func7, Try.ntmps7
    go_wp2_with fail
    refine (toInts_any a n cap zs w I0.out HN.out (by omega)).mono ?_
    rintro e w1 ⟨rfl, t1, bel1⟩
    have T1 : Hid (Ints w1 _ zs) := t1
    have I1 : Hid (Ints w1 a zs) := I0.out.kept bel1
    clear t1 I0
    go_wp2_with fail
    refine (HSP.out _ _ _ T1.out).mono ?_
    rintro e w2 ⟨rfl, b2⟩
    have I2 : Hid (Ints w2 a zs) := I1.out.kept b2
    have bb2 := bel1.trans (b2.mono bel1.size)
    clear b2 bel1 I1 T1 HSP
    go_wp2_with fail
    refine (toInts_any a n cap zs w2 I2.out HN.out (by omega)).mono ?_
    rintro e w3 ⟨rfl, t3, b3⟩
    have T3 : Hid (Ints w3 _ zs) := t3
    have I3 : Hid (Ints w3 a zs) := I2.out.kept b3
    have bb3 := bb2.trans (b3.mono bb2.size)
    clear t3 I2 b3 bb2
    generalize w2.heap.size = H2 at *
    go_wp2_with fail
    refine (HIM.out _ _ _ T3.out).mono ?_
    rintro e w4 ⟨rfl, b4⟩
    have I4 : Hid (Ints w4 a zs) := I3.out.kept b4
    have T4 : Hid (Ints w4 _ zs) := T3.out.kept b4
    have bb4 := bb3.trans (b4.mono bb3.size)
    clear b4 bb3 I3 T3 HIM
    go_wp2_with fail
    refine (toInts_any a n cap zs w4 I4.out HN.out (by omega)).mono ?_
    rintro e w5 ⟨rfl, t5, b5⟩
    have T5 : Hid (Ints w5 _ zs) := t5
    have T45 : Hid (Ints w5 _ zs) := T4.out.kept b5
    have bb5 := bb4.trans (b5.mono bb4.size)
    clear t5 b5 bb4 I4 T4
    go_wp2_with fail
    refine (eqInts_same _ _ _ _ n zs w5 T45.out T5.out HN.out (by omega)).mono ?_
    rintro e w6 ⟨rfl, m, hw6⟩
    have HB6 : Hid (Below w.heap.size w w6) := by rw [hw6]; exact bb5.trans ⟨rfl, rfl, rfl, Nat.le_refl _, fun _ _ => rfl⟩
    clear hw6 bb5
    go_wp2_with fail
    go_ret
    exact ⟨rfl, HB6.out⟩
end Go.Proofs.Ytjdilanmkgodnaa
