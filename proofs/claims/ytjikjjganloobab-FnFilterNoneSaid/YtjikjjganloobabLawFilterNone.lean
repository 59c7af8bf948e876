/- The law on rows without one above, walked. -/
import Derived.Test.YtjikjjganloobabFlBack
import Derived.Test.YtjikjjganloobabFlImplTop
import Derived.Test.YtjikjjganloobabDrawFilter
import Derived.Test.YtjikjjganloobabRowCode
namespace Go.Proofs.Ytjikjjganloobab
open Go.RowKit

set_option maxHeartbeats 2000000 in
set_option maxRecDepth 20000 in
theorem lawFilterNone (a : Option Addr) (len cap : Nat) (w : World) (h : Code8 w a len cap) :
    Calls Try.prog 3 #[.slice a len cap] w fun e w' => e = .returned (.bool true) ∧ Below w.heap.size w w' := by
  by_cases hbig : 1048576 < len
  · have hc := h.2.1
    have hc1 := h.1
    unfold maxLen at hc
    clear h
    go_enter Try.func3, Try.ntmps3
    go_wp2_with fail
    go_ret
    exact ⟨rfl, Below.refl _ _⟩
  · go_enter Try.func3, Try.ntmps3
    go_wp2_with fail
    refine (drawFilterGet_any a len cap w h).mono ?_
    rintro e w1 ⟨⟨kind, s, t, step, rfl, hs, ht, h1, h2, h3, h4⟩, b1⟩
    clear h ht
    obtain ⟨P, hP⟩ : ∃ P, P = flPut 1 s ⟨#[]⟩ step := ⟨_, rfl⟩
    have HIP : Hid (∀ w : World, Calls Try.prog 10 #[.int .i64 1, .string s, .string ⟨#[]⟩, .int .i64 step] w fun e w' => e = .returned (.string P) ∧ Below w.heap.size w w') := fun w => by rw [hP]; exact impl_filterPut 1 s ⟨#[]⟩ step w (by omega) (by decide)
    have HSP : Hid (∀ w : World, Calls Try.prog 11 #[.int .i64 1, .string s, .string ⟨#[]⟩, .int .i64 step] w fun e w' => e = .returned (.string P) ∧ Below w.heap.size w w') := fun w => by rw [hP]; exact spec_filterPut 1 s ⟨#[]⟩ step w (by omega) (by decide)
    by_cases g1 : step < 1
    · have d1 : decide (step < 1) = true := by simpa using g1
      clear hP
      go_wp2_with fail
      refine (HIP.out _).mono ?_
      rintro e w2 ⟨rfl, b2⟩
      go_wp2_with fail
      refine (HSP.out _).mono ?_
      rintro e w3 ⟨rfl, b3⟩
      go_wp2_with fail
      refine (HSP.out _).mono ?_
      rintro e w4 ⟨rfl, b4⟩
      have c2 := b1.trans (b2.mono b1.size)
      have c3 := c2.trans (b3.mono c2.size)
      have c4 := c3.trans (b4.mono c3.size)
      clear b1 b2 b3 b4 c2 c3
      go_wp2_with fail
      go_ret
      exact ⟨rfl, c4⟩
    · have d1 : decide (step < 1) = false := by simpa using g1
      by_cases g2 : 4 < step
      · have d2 : decide (4 < step) = true := by simpa using g2
        clear hP
        go_wp2_with fail
        refine (HIP.out _).mono ?_
        rintro e w2 ⟨rfl, b2⟩
        go_wp2_with fail
        refine (HSP.out _).mono ?_
        rintro e w3 ⟨rfl, b3⟩
        go_wp2_with fail
        refine (HSP.out _).mono ?_
        rintro e w4 ⟨rfl, b4⟩
        have c2 := b1.trans (b2.mono b1.size)
        have c3 := c2.trans (b3.mono c2.size)
        have c4 := c3.trans (b4.mono c3.size)
        clear b1 b2 b3 b4 c2 c3
        go_wp2_with fail
        go_ret
        exact ⟨rfl, c4⟩
      · have d2 : decide (4 < step) = false := by simpa using g2
        by_cases g3 : 1000 < s.size
        · have d3 : decide ((1000 : Int) < (s.size : Int)) = true := by simp; omega
          clear hP
          go_wp2_with fail
          refine (HIP.out _).mono ?_
          rintro e w2 ⟨rfl, b2⟩
          go_wp2_with fail
          refine (HSP.out _).mono ?_
          rintro e w3 ⟨rfl, b3⟩
          go_wp2_with fail
          refine (HSP.out _).mono ?_
          rintro e w4 ⟨rfl, b4⟩
          have c2 := b1.trans (b2.mono b1.size)
          have c3 := c2.trans (b3.mono c2.size)
          have c4 := c3.trans (b4.mono c3.size)
          clear b1 b2 b3 b4 c2 c3
          go_wp2_with fail
          go_ret
          exact ⟨rfl, c4⟩
        · have d3 : decide ((1000 : Int) < (s.size : Int)) = false := by simp; omega
          have hok : FlOk 1 s.size 0 step := ⟨by omega, by omega, by omega, .inl rfl⟩
          have HI4 : Hid (∀ w : World, Calls Try.prog 10 #[.int .i64 4, .string s, .string ⟨#[]⟩, .int .i64 step] w fun e w' => e = .returned (.string P) ∧ Below w.heap.size w w') := fun w => by
            have := impl_filterPut 4 s ⟨#[]⟩ step w (by omega) (by decide)
            rw [flPut_four hok] at this
            rw [hP]; exact this
          have HI0 : Hid (∀ w : World, Calls Try.prog 10 #[.int .i64 0, .string s, .string ⟨#[]⟩, .int .i64 step] w fun e w' => e = .returned (.string s) ∧ Below w.heap.size w w') := fun w => by
            have := impl_filterPut 0 s ⟨#[]⟩ step w (by omega) (by decide)
            rw [flPut_same (kind := 0) ⟨by omega, hok.2⟩ (.inl rfl)] at this
            exact this
          have HI2 : Hid (∀ w : World, Calls Try.prog 10 #[.int .i64 2, .string s, .string ⟨#[]⟩, .int .i64 step] w fun e w' => e = .returned (.string s) ∧ Below w.heap.size w w') := fun w => by
            have := impl_filterPut 2 s ⟨#[]⟩ step w (by omega) (by decide)
            rw [flPut_same (kind := 2) ⟨by omega, hok.2⟩ (.inr rfl)] at this
            exact this
          clear hP hok
          go_wp2_with fail
          refine (HIP.out _).mono ?_
          rintro e w2 ⟨rfl, b2⟩
          go_wp2_with fail
          refine (HSP.out _).mono ?_
          rintro e w3 ⟨rfl, b3⟩
          go_wp2_with fail
          refine (HI4.out _).mono ?_
          rintro e w4 ⟨rfl, b4⟩
          go_wp2_with fail
          refine (HI0.out _).mono ?_
          rintro e w5 ⟨rfl, b5⟩
          go_wp2_with fail
          refine (HI2.out _).mono ?_
          rintro e w6 ⟨rfl, b6⟩
          have c2 := b1.trans (b2.mono b1.size)
          have c3 := c2.trans (b3.mono c2.size)
          have c4 := c3.trans (b4.mono c3.size)
          have c5 := c4.trans (b5.mono c4.size)
          have c6 := c5.trans (b6.mono c5.size)
          clear b1 b2 b3 b4 b5 b6 c2 c3 c4 c5
          go_wp2_with fail
          go_ret
          exact ⟨rfl, c6⟩
end Go.Proofs.Ytjikjjganloobab
