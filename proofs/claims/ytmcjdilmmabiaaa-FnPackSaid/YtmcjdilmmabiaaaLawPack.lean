/- The law on what was packed by PackBits, walked. -/
import Derived.Test.YtmcjdilmmabiaaaExPackPut
import Derived.Test.YtmcjdilmmabiaaaPgSpec
import Derived.Test.YtmcjdilmmabiaaaPgBack
import Derived.Test.YtmcjdilmmabiaaaDrawPack
namespace Go.Proofs.Ytmcjdilmmabiaaa
open Go.RowKit

set_option maxHeartbeats 2000000 in
set_option maxRecDepth 20000 in
theorem lawPack (a : Option Addr) (len cap : Nat) (w : World) (h : Code8 w a len cap) :
    Calls Try.prog 3 #[.slice a len cap] w fun e w' => e = .returned (.bool true) ∧ Below w.heap.size w w' := by
  by_cases hbig : 1048576 < len
  · go_enter Try.func3, Try.ntmps3
    go_wp2_with fail
    go_ret
    exact ⟨rfl, Below.refl _ _⟩
  · have HD : Hid (Calls Try.prog 7 #[.slice a len cap] w (TextDrawn w)) := drawPackPut_any a len cap w h
    clear h
    go_enter Try.func3, Try.ntmps3
    go_wp2_with fail
    refine HD.out.mono ?_
    rintro e w1 ⟨⟨t, rfl, ht, -⟩, b1⟩
    have HB1 : Hid (Below w.heap.size w w1) := b1
    obtain ⟨T, hT⟩ : ∃ T : ByteArray, T = ⟨(if t.size ≤ 5000 then Pk.all t.data.toList else []).toArray⟩ := ⟨_, rfl⟩
    have HS : Hid (∀ w : World, Calls Try.prog 9 #[.string t] w fun e w' => e = .returned (.string T) ∧ Below w.heap.size w w') := fun w => by rw [hT]; exact spec_packPut t w (by omega)
    have HI : Hid (∀ w : World, Calls Try.prog 8 #[.string t] w fun e w' => e = .returned (.string T) ∧ Below w.heap.size w w') := fun w => by rw [hT]; exact impl_packPut t w (by omega)
    clear b1 HD
    by_cases hl : t.size ≤ 5000
    · rw [if_pos hl] at hT
      have hTl : T.data.toList = Pk.all t.data.toList := by rw [hT]
      have hts : t.data.toList.length = t.size := by rw [Array.length_toList]; rfl
      have hTz : T.size = (Pk.all t.data.toList).length := by rw [hT]; simp [ByteArray.size]
      have hsh := Pg.all_short (l := t.data.toList)
      rw [← hTz, hts] at hsh
      have hTb : T.size ≤ 9000 := by omega
      have HG : Hid (∀ w : World, Calls Try.prog 10 #[.string T, .int .i64 5000] w fun e w' => e = .returned (.tuple #[.string t, .int .i64 0]) ∧ Below w.heap.size w w') := fun w => by
        refine (impl_packGet T 5000 w (by omega)).mono ?_
        rintro e w' ⟨h1, h2⟩
        refine ⟨?_, h2⟩
        rw [h1, show (5000 : Int) = ((5000 : Nat) : Int) from rfl, Pg.ans_ok (by unfold Pg.Valid; omega), hTl, Pg.all_back (by rw [hts]; exact hl)]
      have hli : ¬ (5000 : Int) < (t.size : Int) := by omega
      have hshi : (T.size : Int) ≤ (t.size : Int) + ((t.size : Int) + 127) / 128 := by omega
      clear hT hTl hts hTz hsh
      go_wp2_with fail
      refine (HI.out _).mono ?_
      rintro e w2 ⟨rfl, b2⟩
      have HB2 : Hid (Below w.heap.size w w2) := HB1.out.trans (b2.mono HB1.out.size)
      clear b2 HB1
      go_wp2_with fail
      refine (HS.out _).mono ?_
      rintro e w3 ⟨rfl, b3⟩
      have HB3 : Hid (Below w.heap.size w w3) := HB2.out.trans (b3.mono HB2.out.size)
      clear b3 HB2
      go_wp2_with fail
      refine (HG.out _).mono ?_
      rintro e w4 ⟨rfl, b4⟩
      have HB4 : Hid (Below w.heap.size w w4) := HB3.out.trans (b4.mono HB3.out.size)
      clear b4 HB3
      go_wp2_with fail
      go_ret
      exact ⟨rfl, HB4.out⟩
    · rw [if_neg hl] at hT
      have hli : (5000 : Int) < (t.size : Int) := by omega
      subst hT
      go_wp2_with fail
      refine (HI.out _).mono ?_
      rintro e w2 ⟨rfl, b2⟩
      have HB2 : Hid (Below w.heap.size w w2) := HB1.out.trans (b2.mono HB1.out.size)
      clear b2 HB1
      go_wp2_with fail
      refine (HS.out _).mono ?_
      rintro e w3 ⟨rfl, b3⟩
      have HB3 : Hid (Below w.heap.size w w3) := HB2.out.trans (b3.mono HB2.out.size)
      clear b3 HB2
      go_wp2_with fail
      go_ret
      exact ⟨rfl, HB3.out⟩
end Go.Proofs.Ytmcjdilmmabiaaa
