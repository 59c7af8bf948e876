/- The law on packed texts one behind the other, walked. -/
import Derived.Test.YtmcjdilmmabiaaaPgSpec
import Derived.Test.YtmcjdilmmabiaaaDrawPackGet
namespace Go.Proofs.Ytmcjdilmmabiaaa
open Go.RowKit

theorem Pg.ans_full {s : ByteArray} {lim : Int} (h : (Pg.ans s lim).1 = 0) : Pg.Valid s lim ∧ Pg.get lim.toNat s.data.toList [] = (0, (Pg.ans s lim).2) := by
  by_cases hv : Pg.Valid s lim
  · have e : Pg.ans s lim = Pg.get lim.toNat s.data.toList [] := if_pos hv
    refine ⟨hv, ?_⟩
    rw [e] at h ⊢
    exact Prod.ext h rfl
  · rw [Pg.ans_bad hv] at h; simp at h
theorem Pg.ans_none {s : ByteArray} {lim : Int} (h : (Pg.ans s lim).1 ≠ 0) : (Pg.ans s lim).2 = [] := by
  by_cases hv : Pg.Valid s lim
  · have e : Pg.ans s lim = Pg.get lim.toNat s.data.toList [] := if_pos hv
    rw [e] at h ⊢
    rcases Pg.get_none (lim := lim.toNat) _ s.data.toList [] (Nat.le_refl _) with h1 | h1
    · exact absurd h1 h
    · exact h1
  · rw [Pg.ans_bad hv]
theorem Pg.ans_fits {s : ByteArray} {lim : Int} (h : (Pg.ans s lim).1 = 0) : ((Pg.ans s lim).2.length : Int) ≤ lim := by
  obtain ⟨hv, hg⟩ := Pg.ans_full h
  have := Pg.get_fits _ _ _ (Nat.le_refl _) (Nat.zero_le _) hg
  unfold Pg.Valid at hv
  omega
theorem Pg.ans_both {s t : ByteArray} {lim : Int} (h : (Pg.ans s lim).1 = 0) (h2 : (Pg.ans t 5000).1 = 0) (hz : s.size + t.size ≤ 9000) (hl : (Pg.ans s lim).2.length + (Pg.ans t 5000).2.length ≤ 5000) :
    Pg.ans (s ++ t) 5000 = (0, (Pg.ans s lim).2 ++ (Pg.ans t 5000).2) := by
  obtain ⟨hv, hg⟩ := Pg.ans_full h
  obtain ⟨_, hg2⟩ := Pg.ans_full h2
  have hval : Pg.Valid (s ++ t) 5000 := by unfold Pg.Valid; rw [ByteArray.size_append]; omega
  have e : Pg.ans (s ++ t) 5000 = Pg.get (5000 : Int).toNat (s ++ t).data.toList [] := if_pos hval
  have hlim : lim.toNat ≤ (5000 : Int).toNat := by unfold Pg.Valid at hv; omega
  rw [e, show (s ++ t).data.toList = s.data.toList ++ t.data.toList by simp, Pg.get_app hlim _ _ _ (Nat.le_refl _) hg]
  have := Pg.get_shift (lim := (5000 : Int).toNat) (o := (Pg.ans s lim).2) (x := (Pg.ans t 5000).2) (by rw [List.length_append]; exact hl) _ _ _ (Nat.le_refl _) hg2
  rw [List.append_nil] at this
  exact this

theorem empty_txt : (ByteArray.mk ([] : List UInt8).toArray).toList.isEmpty = true := by decide +kernel

set_option maxHeartbeats 4000000 in
set_option maxRecDepth 20000 in
theorem lawPackGet (a : Option Addr) (len cap : Nat) (b : Option Addr) (len2 cap2 : Nat) (w : World) (h : Code8 w a len cap) (h' : Code8 w b len2 cap2) :
    Calls Try.prog 4 #[.slice a len cap, .slice b len2 cap2] w fun e w' => e = .returned (.bool true) ∧ Below w.heap.size w w' := by
  by_cases hbig : 1048576 < len
  · have d0 : decide ((len : Int) > 1048576) = true := by simp; omega
    clear h h'
    go_enter Try.func4, Try.ntmps4
    go_wp2_with fail
    go_ret
    exact ⟨rfl, Below.refl _ _⟩
  · have d0 : decide ((len : Int) > 1048576) = false := by simp; omega
    by_cases hbig2 : 1048576 < len2
    · have d1 : decide ((len2 : Int) > 1048576) = true := by simp; omega
      clear h h'
      go_enter Try.func4, Try.ntmps4
      go_wp2_with fail
      go_ret
      exact ⟨rfl, Below.refl _ _⟩
    · have d1 : decide ((len2 : Int) > 1048576) = false := by simp; omega
      have HD : Hid (Calls Try.prog 11 #[.slice a len cap] w (PackDrawn w)) := drawPackGet_any a len cap w h
      have HD2 : Hid (∀ w' : World, Below w.heap.size w w' → Calls Try.prog 11 #[.slice b len2 cap2] w' (PackDrawn w')) := fun w' bb => drawPackGet_any b len2 cap2 w' (h'.kept bb)
      clear h h'
      go_enter Try.func4, Try.ntmps4
      go_wp2_with fail
      refine HD.out.mono ?_
      rintro e w1 ⟨⟨s, lm, rfl, hsz⟩, b1⟩
      have HB1 : Hid (Below w.heap.size w w1) := b1
      clear HD b1 d0 d1 hbig hbig2
      obtain ⟨O, hO⟩ : ∃ O, O = (Pg.ans s lm).2 := ⟨_, rfl⟩
      obtain ⟨c, hc⟩ : ∃ c, c = (Pg.ans s lm).1 := ⟨_, rfl⟩
      have HI : Hid (∀ w : World, Calls Try.prog 10 #[.string s, .int .i64 lm] w fun e w' => e = .returned (.tuple #[.string ⟨O.toArray⟩, .int .i64 c]) ∧ Below w.heap.size w w') := fun w => by rw [hO, hc]; exact impl_packGet s lm w (by omega)
      have HS : Hid (∀ w : World, Calls Try.prog 12 #[.string s, .int .i64 lm] w fun e w' => e = .returned (.tuple #[.string ⟨O.toArray⟩, .int .i64 c]) ∧ Below w.heap.size w w') := fun w => by rw [hO, hc]; exact spec_packGet s lm w (by omega)
      by_cases hc0 : c = 0
      · have h0 : (Pg.ans s lm).1 = 0 := by rw [← hc]; exact hc0
        have hfit := Pg.ans_fits h0
        have HBO : Hid (∀ t : ByteArray, (Pg.ans t 5000).1 = 0 → s.size + t.size ≤ 9000 → O.length + (Pg.ans t 5000).2.length ≤ 5000 → Pg.ans (s ++ t) 5000 = (0, O ++ (Pg.ans t 5000).2)) := fun t a1 a2 a3 => by
          rw [hO] at a3 ⊢
          exact Pg.ans_both h0 a1 a2 a3
        have hv5 : (Pg.ans s lm).2.length ≤ 5000 := by
          have := (Pg.ans_full h0).1
          unfold Pg.Valid at this
          omega
        rw [← hO] at hfit hv5
        obtain ⟨U, hU⟩ : ∃ U : ByteArray, U = ⟨O.toArray⟩ := ⟨_, rfl⟩
        have hUz : U.size = O.length := by rw [hU]; exact mk_size O
        rw [← hU] at HI HS
        have HU : Hid (U = ⟨O.toArray⟩ ∧ U.size = O.length) := ⟨hU, hUz⟩
        have hUf : (U.size : Int) ≤ lm := by rw [hUz]; exact hfit
        have hU5 : U.size ≤ 5000 := by rw [hUz]; exact hv5
        subst hc0
        clear hc hO h0 hfit hv5 hU hUz
        go_wp2_with fail
        refine (HI.out _).mono ?_
        rintro e w2 ⟨rfl, b2⟩
        have HB2 : Hid (Below w.heap.size w w2) := HB1.out.trans (b2.mono HB1.out.size)
        clear b2 HB1 HI
        go_wp2_with fail
        refine (HS.out _).mono ?_
        rintro e w3 ⟨rfl, b3⟩
        have HB3 : Hid (Below w.heap.size w w3) := HB2.out.trans (b3.mono HB2.out.size)
        clear b3 HB2 HS
        go_wp2_with fail
        refine (HD2.out _ HB3.out).mono ?_
        rintro e w4 ⟨⟨t, lm2, rfl, htz⟩, b4⟩
        have HB4 : Hid (Below w.heap.size w w4) := HB3.out.trans (b4.mono HB3.out.size)
        clear b4 HB3 HD2
        obtain ⟨X, hX⟩ : ∃ X : ByteArray, X = ⟨(Pg.ans t 5000).2.toArray⟩ := ⟨_, rfl⟩
        obtain ⟨d, hd⟩ : ∃ d, d = (Pg.ans t 5000).1 := ⟨_, rfl⟩
        have hXz : X.size = (Pg.ans t 5000).2.length := by rw [hX]; exact mk_size _
        have HT : Hid (∀ w : World, Calls Try.prog 10 #[.string t, .int .i64 5000] w fun e w' => e = .returned (.tuple #[.string X, .int .i64 d]) ∧ Below w.heap.size w w') := fun w => by rw [hX, hd]; exact impl_packGet t 5000 w (by omega)
        have hX5 : X.size ≤ 5000 := by
          by_cases hd0 : (Pg.ans t 5000).1 = 0
          · have := Pg.ans_fits hd0; omega
          · rw [hXz, Pg.ans_none hd0]; simp
        obtain ⟨Y, hY⟩ : ∃ Y : ByteArray, Y = ⟨(Pg.ans (s ++ t) 5000).2.toArray⟩ := ⟨_, rfl⟩
        obtain ⟨f, hf⟩ : ∃ f, f = (Pg.ans (s ++ t) 5000).1 := ⟨_, rfl⟩
        have HST : Hid (∀ w : World, Calls Try.prog 10 #[.string (s ++ t), .int .i64 5000] w fun e w' => e = .returned (.tuple #[.string Y, .int .i64 f]) ∧ Below w.heap.size w w') := fun w => by rw [hY, hf]; exact impl_packGet (s ++ t) 5000 w (by rw [ByteArray.size_append]; omega)
        have HE : Hid (d = 0 → U.size + X.size ≤ 5000 → f = 0 ∧ Y = U ++ X) := fun h1 h2 => by
          rw [HU.out.2, hXz] at h2
          have hb := HBO.out t (by rw [← hd]; exact h1) (by omega) h2
          rw [hb] at hf hY
          refine ⟨hf, ?_⟩
          rw [hY, HU.out.1, hX, str_app]
        clear hX hd hXz hY hf HBO HU
        have hsi : (s.size : Int) ≤ 2500 := by omega
        have hti : (t.size : Int) ≤ 2500 := by omega
        by_cases hd0 : d = 0
        · have bd : (d != 0) = false := by rw [hd0]; rfl
          by_cases hsum : U.size + X.size ≤ 5000
          · obtain ⟨rfl, hYe⟩ := HE.out hd0 hsum
            have hsd : decide ((U.size : Int) + (X.size : Int) > 5000) = false := by simp; omega
            have HYE : Hid (Y = U ++ X) := hYe
            subst hd0
            clear HE hYe
            have hye : (Y.toList == (U ++ X).toList) = true := by rw [HYE.out]; exact BEq.rfl
            go_wp2_with fail
            refine (HT.out _).mono ?_
            rintro e w5 ⟨rfl, b5⟩
            have HB5 : Hid (Below w.heap.size w w5) := HB4.out.trans (b5.mono HB4.out.size)
            clear b5 HB4 HT
            go_wp2_with fail
            refine (HST.out _).mono ?_
            rintro e w6 ⟨rfl, b6⟩
            have HB6 : Hid (Below w.heap.size w w6) := HB5.out.trans (b6.mono HB5.out.size)
            clear b6 HB5 HST
            go_wp2_with fail
            go_ret
            exact ⟨rfl, HB6.out⟩
          · have hsd : decide ((U.size : Int) + (X.size : Int) > 5000) = true := by simp; omega
            have hsi5 : (5000 : Int) < (U.size : Int) + (X.size : Int) := by omega
            subst hd0
            clear HE
            go_wp2_with fail
            refine (HT.out _).mono ?_
            rintro e w5 ⟨rfl, b5⟩
            have HB5 : Hid (Below w.heap.size w w5) := HB4.out.trans (b5.mono HB4.out.size)
            clear b5 HB4 HT
            go_wp2_with fail
            refine (HST.out _).mono ?_
            rintro e w6 ⟨rfl, b6⟩
            have HB6 : Hid (Below w.heap.size w w6) := HB5.out.trans (b6.mono HB5.out.size)
            clear b6 HB5 HST
            go_wp2_with fail
            go_ret
            exact ⟨rfl, HB6.out⟩
        · have bd : (d != 0) = true := by rw [bne_iff_ne]; exact hd0
          clear HE
          go_wp2_with fail
          refine (HT.out _).mono ?_
          rintro e w5 ⟨rfl, b5⟩
          have HB5 : Hid (Below w.heap.size w w5) := HB4.out.trans (b5.mono HB4.out.size)
          clear b5 HB4 HT
          go_wp2_with fail
          refine (HST.out _).mono ?_
          rintro e w6 ⟨rfl, b6⟩
          have HB6 : Hid (Below w.heap.size w w6) := HB5.out.trans (b6.mono HB5.out.size)
          clear b6 HB5 HST
          go_wp2_with fail
          go_ret
          exact ⟨rfl, HB6.out⟩
      · have hOe : O = [] := by rw [hO]; exact Pg.ans_none (by rw [← hc]; exact hc0)
        have bc : (c != 0) = true := by rw [bne_iff_ne]; exact hc0
        have bc' : (c == 0) = false := by rw [beq_eq_false_iff_ne]; exact hc0
        rw [hOe] at HI HS
        clear hO hOe hc HD2
        go_wp2_with fail
        refine (HI.out _).mono ?_
        rintro e w2 ⟨rfl, b2⟩
        have HB2 : Hid (Below w.heap.size w w2) := HB1.out.trans (b2.mono HB1.out.size)
        clear b2 HB1 HI
        go_wp2_with fail
        refine (HS.out _).mono ?_
        rintro e w3 ⟨rfl, b3⟩
        have HB3 : Hid (Below w.heap.size w w3) := HB2.out.trans (b3.mono HB2.out.size)
        clear b3 HB2 HS
        go_wp2_with fail
        go_ret
        exact ⟨rfl, HB3.out⟩
end Go.Proofs.Ytmcjdilmmabiaaa
