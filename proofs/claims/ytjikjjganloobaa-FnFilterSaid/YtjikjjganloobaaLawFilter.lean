/- The law that what is taken away from a row can be put back, walked. -/
import Derived.Test.YtjikjjganloobaaFlBack
import Derived.Test.YtjikjjganloobaaFlImplTop
import Derived.Test.YtjikjjganloobaaDrawFilter
import Derived.Test.YtjikjjganloobaaRowCode
namespace Go.Proofs.Ytjikjjganloobaa
open Go.RowKit

theorem emptyList : (⟨#[]⟩ : ByteArray).toList.isEmpty = true := by rw [ByteArray.toList_eq]; rfl

set_option maxHeartbeats 2000000 in
set_option maxRecDepth 20000 in
theorem lawFilter (a : Option Addr) (len cap : Nat) (w : World) (h : Code8 w a len cap) :
    Calls Try.prog 8 #[.slice a len cap] w fun e w' => e = .returned (.bool true) ∧ Below w.heap.size w w' := by
  by_cases hbig : 1048576 < len
  · have hc := h.2.1
    have hc1 := h.1
    unfold maxLen at hc
    clear h
    go_enter Try.func8, Try.ntmps8
    go_wp2_with fail
    go_ret
    exact ⟨rfl, Below.refl _ _⟩
  · go_enter Try.func8, Try.ntmps8
    go_wp2_with fail
    refine (drawFilterPut_any a len cap w h).mono ?_
    rintro e w1 ⟨⟨kind, s, t, step, rfl, hs, ht, h1, h2, h3, h4⟩, b1⟩
    clear h
    obtain ⟨P, hP⟩ : ∃ P, P = flPut kind s t step := ⟨_, rfl⟩
    obtain ⟨G, hG⟩ : ∃ G, G = flGet kind s t step := ⟨_, rfl⟩
    have HIP : Hid (∀ w : World, Calls Try.prog 22 #[.int .i64 kind, .string s, .string t, .int .i64 step] w fun e w' => e = .returned (.string P) ∧ Below w.heap.size w w') := fun w => by rw [hP]; exact impl_filterPut kind s t step w (by omega) (by omega)
    have HIG : Hid (∀ w : World, Calls Try.prog 24 #[.int .i64 kind, .string s, .string t, .int .i64 step] w fun e w' => e = .returned (.string G) ∧ Below w.heap.size w w') := fun w => by rw [hG]; exact impl_filterGet kind s t step w (by omega) (by omega)
    have HSP : Hid (∀ w : World, Calls Try.prog 21 #[.int .i64 kind, .string s, .string t, .int .i64 step] w fun e w' => e = .returned (.string P) ∧ Below w.heap.size w w') := fun w => by rw [hP]; exact spec_filterPut kind s t step w (by omega) (by omega)
    have HSG : Hid (∀ w : World, Calls Try.prog 23 #[.int .i64 kind, .string s, .string t, .int .i64 step] w fun e w' => e = .returned (.string G) ∧ Below w.heap.size w w') := fun w => by rw [hG]; exact spec_filterGet kind s t step w (by omega) (by omega)
    by_cases hem : P.toList.isEmpty = true
    · clear hP hG
      go_wp2_with fail
      refine (HIP.out _).mono ?_
      rintro e w2 ⟨rfl, b2⟩
      go_wp2_with fail
      refine (HIG.out _).mono ?_
      rintro e w3 ⟨rfl, b3⟩
      go_wp2_with fail
      refine (HSP.out _).mono ?_
      rintro e w4 ⟨rfl, b4⟩
      go_wp2_with fail
      refine (HSG.out _).mono ?_
      rintro e w5 ⟨rfl, b5⟩
      go_wp2_with fail
      refine (HSP.out _).mono ?_
      rintro e w6 ⟨rfl, b6⟩
      go_wp2_with fail
      refine (HSG.out _).mono ?_
      rintro e w7 ⟨rfl, b7⟩
      have c2 := b1.trans (b2.mono b1.size)
      have c3 := c2.trans (b3.mono c2.size)
      have c4 := c3.trans (b4.mono c3.size)
      have c5 := c4.trans (b5.mono c4.size)
      have c6 := c5.trans (b6.mono c5.size)
      have c7 := c6.trans (b7.mono c6.size)
      clear b1 b2 b3 b4 b5 b6 b7 c2 c3 c4 c5 c6
      go_wp2_with fail
      go_ret
      exact ⟨rfl, c7⟩
    · have hem' : P.toList.isEmpty = false := by simpa using hem
      have hok : FlOk kind s.size t.size step := by
        rcases Classical.em (FlOk kind s.size t.size step) with g | g
        · exact g
        · rw [hP, flPut_no g] at hem
          exact absurd emptyList hem
      have hPs : P.size = s.size := by rw [hP]; exact flPut_size hok
      have hGs : G.size = s.size := by rw [hG]; exact flGet_size hok
      have HGP : Hid (∀ w : World, Calls Try.prog 24 #[.int .i64 kind, .string P, .string t, .int .i64 step] w fun e w' => e = .returned (.string s) ∧ Below w.heap.size w w') := fun w => by
        have := impl_filterGet kind P t step w (by omega) (by omega)
        rw [hP, flGet_put hok] at this
        rw [hP]; exact this
      have HPG : Hid (∀ w : World, Calls Try.prog 22 #[.int .i64 kind, .string G, .string t, .int .i64 step] w fun e w' => e = .returned (.string s) ∧ Below w.heap.size w w') := fun w => by
        have := impl_filterPut kind G t step w (by omega) (by omega)
        rw [hG, flPut_get hok] at this
        rw [hG]; exact this
      have hPi : (P.size : Int) = (s.size : Int) := by omega
      clear hP hG hok hPs hGs hem
      go_wp2_with fail
      refine (HIP.out _).mono ?_
      rintro e w2 ⟨rfl, b2⟩
      go_wp2_with fail
      refine (HIG.out _).mono ?_
      rintro e w3 ⟨rfl, b3⟩
      go_wp2_with fail
      refine (HSP.out _).mono ?_
      rintro e w4 ⟨rfl, b4⟩
      go_wp2_with fail
      refine (HSG.out _).mono ?_
      rintro e w5 ⟨rfl, b5⟩
      go_wp2_with fail
      refine (HGP.out _).mono ?_
      rintro e w6 ⟨rfl, b6⟩
      go_wp2_with fail
      refine (HPG.out _).mono ?_
      rintro e w7 ⟨rfl, b7⟩
      have c2 := b1.trans (b2.mono b1.size)
      have c3 := c2.trans (b3.mono c2.size)
      have c4 := c3.trans (b4.mono c3.size)
      have c5 := c4.trans (b5.mono c4.size)
      have c6 := c5.trans (b6.mono c5.size)
      have c7 := c6.trans (b7.mono c6.size)
      clear b1 b2 b3 b4 b5 b6 b7 c2 c3 c4 c5 c6
      go_wp2_with fail
      go_ret
      exact ⟨rfl, c7⟩
end Go.Proofs.Ytjikjjganloobaa
