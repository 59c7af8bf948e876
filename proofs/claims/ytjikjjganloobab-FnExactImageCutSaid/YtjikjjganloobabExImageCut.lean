/- The exact law of ImageCut, at every picture. -/
import Derived.Test.YtjikjjganloobabCoreImageCut
import Derived.Test.YtjikjjganloobabImplCut
import Derived.Test.YtjikjjganloobabSpecCut
import Derived.Test.YtjikjjganloobabImgOk3
import Derived.Test.YtjikjjganloobabImgSpec3
namespace Go.Proofs.Ytjikjjganloobab
open Go.RowKit

theorem below_two (w : World) (o o' : Obj) : Below w.heap.size w ((w.alloc o).alloc o') := ((Below.refl _ _).alloc (Nat.le_refl _) _).alloc (by simp) _

theorem ok_open {k d wd hi : Int} {cs ps : List Int} (h : Im.okB k d wd hi cs ps = true) : Im.Ok k d wd hi cs ps := @of_decide_eq_true _ (Classical.propDecidable _) h

set_option maxHeartbeats 1000000 in
theorem exImageCut (k d wd hi : Int) (ca : Option Addr) (cn cc : Nat) (pa : Option Addr) (pn pc : Nat) (ax ay aw ah : Int) (w : World) (hc : Row64 w ca cn cc) (hp : Row64 w pa pn pc) (_w1 : (Lit.int .i64 ax).wf = true) (_w2 : (Lit.int .i64 ay).wf = true) (_w3 : (Lit.int .i64 aw).wf = true) (_w4 : (Lit.int .i64 ah).wf = true) :
    Calls Try.prog 5 #[.agg #[.int .i64 k, .int .i64 d, .int .i64 wd, .int .i64 hi, .slice ca cn cc, .slice pa pn pc], .int .i64 ax, .int .i64 ay, .int .i64 aw, .int .i64 ah] w fun e w' => e = .returned (.bool true) ∧ Below w.heap.size w w' := by
  obtain ⟨_, hcm, cs, hcn, hIc, _⟩ := hc
  obtain ⟨_, hpm, ps, hpn, hIp, _⟩ := hp
  unfold maxLen at hcm hpm
  have hB0 : Below w.heap.size w (w.alloc (.cells #[.int .i64 k, .int .i64 d, .int .i64 wd, .int .i64 hi, .slice ca cn cc, .slice pa pn pc] 34)) := (Below.refl _ _).alloc (Nat.le_refl _) _
  by_cases hbig : 1048576 < cn + pn
  · have HZ : Hid (Calls Try.prog 17 #[.agg #[.int .i64 k, .int .i64 d, .int .i64 wd, .int .i64 hi, .slice ca cn cc, .slice pa pn pc], .int .i64 1048576] (w.alloc (.cells #[.int .i64 k, .int .i64 d, .int .i64 wd, .int .i64 hi, .slice ca cn cc, .slice pa pn pc] 34)) fun e w' => e = .returned (.int .i64 (-1)) ∧ Below (w.alloc (.cells #[.int .i64 k, .int .i64 d, .int .i64 wd, .int .i64 hi, .slice ca cn cc, .slice pa pn pc] 34)).heap.size (w.alloc (.cells #[.int .i64 k, .int .i64 d, .int .i64 wd, .int .i64 hi, .slice ca cn cc, .slice pa pn pc] 34)) w') := szImage_big k d wd hi ca cn cc pa pn pc _ (by omega) (by omega) hbig
    clear hIc hIp hcn hpn
    go_enter Try.func5, Try.ntmps5
    go_wp2_with fail
    refine HZ.out.mono ?_
    rintro e w1 ⟨rfl, b1⟩
    have bel1 := hB0.trans (b1.mono (by simp))
    clear b1 HZ hB0
    go_wp2_with fail
    go_ret
    exact ⟨rfl, bel1⟩
  · rcases hok : Im.okB k d wd hi cs ps with _ | _
    · refine exImageCut_core k d wd hi ca cn cc pa pn pc 0 0 0 0 ax ay aw ah false 0 0 cs ps [] [] w hIc hIp hcn hpn (by omega) rfl rfl (by omega) (by omega) ?_ ?_
      · intro x y w' h1 h2
        refine (spec_cut_bad k d wd hi ax ay aw ah x cn cn y pn pn w' ?_).mono ?_
        · have := spec_imageOk k d wd hi x cn cn y pn pn ((w'.alloc (.cells #[.int .i64 k, .int .i64 d, .int .i64 wd, .int .i64 hi, .slice x cn cn, .slice y pn pn] 36)).alloc (.cells #[.int .i64 0, .int .i64 0, .int .i64 0, .int .i64 0, .slice none 0 0, .slice none 0 0] 36)) cs ps (h1.kept (below_two _ _ _)) hcn (by omega) (h2.kept (below_two _ _ _)) hpn
          rw [hok] at this; exact this
        · rintro e w'' ⟨rfl, b⟩
          exact ⟨⟨none, 0, none, 0, rfl, .inl rfl, .inl rfl⟩, b⟩
      · intro x y w' h1 h2
        refine (impl_cut_bad k d wd hi ax ay aw ah x cn cn y pn pn w' ?_).mono ?_
        · have := impl_imageOk k d wd hi x cn cn y pn pn ((w'.alloc (.cells #[.int .i64 k, .int .i64 d, .int .i64 wd, .int .i64 hi, .slice x cn cn, .slice y pn pn] 36)).alloc (.cells #[.int .i64 0, .int .i64 0, .int .i64 0, .int .i64 0, .slice none 0 0, .slice none 0 0] 36)) cs ps (h1.kept (below_two _ _ _)) hcn (by omega) (h2.kept (below_two _ _ _)) hpn (by omega)
          rw [hok] at this; exact this
        · rintro e w'' ⟨rfl, b⟩
          exact ⟨⟨none, 0, none, 0, rfl, ⟨w'.heap.size, Nat.le_refl _, .inl rfl, .inl rfl, .inl rfl⟩⟩, b⟩
    · obtain ⟨_, hw, hh, _, hm, _⟩ := ok_open hok
      by_cases hcut : CutOk wd hi ax ay aw ah
      · obtain ⟨q1, q2, q3, q4, q5, q6⟩ := hcut
        obtain ⟨Wd, rfl⟩ := Int.eq_ofNat_of_zero_le (show 0 ≤ wd by omega)
        obtain ⟨Hi, rfl⟩ := Int.eq_ofNat_of_zero_le (show 0 ≤ hi by omega)
        obtain ⟨X, rfl⟩ := Int.eq_ofNat_of_zero_le q1
        obtain ⟨Y, rfl⟩ := Int.eq_ofNat_of_zero_le q2
        obtain ⟨W, rfl⟩ := Int.eq_ofNat_of_zero_le (show 0 ≤ aw by omega)
        obtain ⟨H, rfl⟩ := Int.eq_ofNat_of_zero_le (show 0 ≤ ah by omega)
        have e : ((Wd * Hi : Nat) : Int) = (Wd : Int) * (Hi : Int) := by simp
        have hmm : pn = Wd * Hi := by omega
        have hmul : W * H ≤ 20 * 20 := Nat.mul_le_mul (by omega) (by omega)
        refine exImageCut_core k d Wd Hi ca cn cc pa pn pc k d W H X Y W H true cn (W * H) cs ps cs (upto (ptF W (cutF Wd X Y ps)) (W * H)) w hIc hIp hcn hpn (by omega) hcn (upto_length _ _) (by omega) (by omega) ?_ ?_
        · intro x y w' h1 h2
          refine spec_cut_yes k d Wd Hi x cn cn y pn pn X Y W H cs ps w' h1 hcn (by omega) h2 hpn (by omega) (by omega) hmm (Nat.le_refl _) (by omega) (by omega) (by omega) (by omega) ?_
          have := spec_imageOk k d Wd Hi x cn cn y pn pn ((w'.alloc (.cells #[.int .i64 k, .int .i64 d, .int .i64 (Wd : Int), .int .i64 (Hi : Int), .slice x cn cn, .slice y pn pn] 36)).alloc (.cells #[.int .i64 0, .int .i64 0, .int .i64 0, .int .i64 0, .slice none 0 0, .slice none 0 0] 36)) cs ps (h1.kept (below_two _ _ _)) hcn (by omega) (h2.kept (below_two _ _ _)) hpn
          rw [hok] at this; exact this
        · intro x y w' h1 h2
          refine impl_cut_yes k d Wd Hi x cn cn y pn pn X Y W H cs ps w' h1 hcn (by omega) h2 hpn (by omega) (by omega) hmm (by omega) (by omega) (by omega) (by omega) ?_
          have := impl_imageOk k d Wd Hi x cn cn y pn pn ((w'.alloc (.cells #[.int .i64 k, .int .i64 d, .int .i64 (Wd : Int), .int .i64 (Hi : Int), .slice x cn cn, .slice y pn pn] 36)).alloc (.cells #[.int .i64 0, .int .i64 0, .int .i64 0, .int .i64 0, .slice none 0 0, .slice none 0 0] 36)) cs ps (h1.kept (below_two _ _ _)) hcn (by omega) (h2.kept (below_two _ _ _)) hpn (by omega)
          rw [hok] at this; exact this
      · refine exImageCut_core k d wd hi ca cn cc pa pn pc 0 0 0 0 ax ay aw ah false 0 0 cs ps [] [] w hIc hIp hcn hpn (by omega) rfl rfl (by omega) (by omega) ?_ ?_
        · intro x y w' h1 h2
          refine (spec_cut_out k d wd hi ax ay aw ah x cn cn y pn pn w' (by omega) (by omega) hcut ?_).mono ?_
          · have := spec_imageOk k d wd hi x cn cn y pn pn ((w'.alloc (.cells #[.int .i64 k, .int .i64 d, .int .i64 wd, .int .i64 hi, .slice x cn cn, .slice y pn pn] 36)).alloc (.cells #[.int .i64 0, .int .i64 0, .int .i64 0, .int .i64 0, .slice none 0 0, .slice none 0 0] 36)) cs ps (h1.kept (below_two _ _ _)) hcn (by omega) (h2.kept (below_two _ _ _)) hpn
            rw [hok] at this; exact this
          · rintro e w'' ⟨rfl, b⟩
            exact ⟨⟨none, 0, none, 0, rfl, .inl rfl, .inl rfl⟩, b⟩
        · intro x y w' h1 h2
          refine (impl_cut_out k d wd hi ax ay aw ah x cn cn y pn pn w' (by omega) (by omega) hcut ?_).mono ?_
          · have := impl_imageOk k d wd hi x cn cn y pn pn ((w'.alloc (.cells #[.int .i64 k, .int .i64 d, .int .i64 wd, .int .i64 hi, .slice x cn cn, .slice y pn pn] 36)).alloc (.cells #[.int .i64 0, .int .i64 0, .int .i64 0, .int .i64 0, .slice none 0 0, .slice none 0 0] 36)) cs ps (h1.kept (below_two _ _ _)) hcn (by omega) (h2.kept (below_two _ _ _)) hpn (by omega)
            rw [hok] at this; exact this
          · rintro e w'' ⟨rfl, b⟩
            exact ⟨⟨none, 0, none, 0, rfl, ⟨w'.heap.size, Nat.le_refl _, .inl rfl, .inl rfl, .inl rfl⟩⟩, b⟩
end Go.Proofs.Ytjikjjganloobab
