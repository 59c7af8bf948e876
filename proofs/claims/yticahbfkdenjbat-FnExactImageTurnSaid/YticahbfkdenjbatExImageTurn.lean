/- The exact law of ImageTurn, at every picture. -/
import Derived.Test.YticahbfkdenjbatCoreImageTurn
import Derived.Test.YticahbfkdenjbatImplTurn
import Derived.Test.YticahbfkdenjbatSpecTurn
import Derived.Test.YticahbfkdenjbatImgOk3
import Derived.Test.YticahbfkdenjbatImgSpec3
namespace Go.Proofs.Yticahbfkdenjbat
open Go.RowKit

set_option maxHeartbeats 1000000 in
set_option maxRecDepth 20000 in
theorem spec_turn_no (k d wd hi : Int) (ca : Option Addr) (cn cc : Nat) (pa : Option Addr) (pn pc : Nat) (w : World)
    (hO : Calls Try.prog 15 #[.agg #[.int .i64 k, .int .i64 d, .int .i64 wd, .int .i64 hi, .slice ca cn cc, .slice pa pn pc]] ((w.alloc (.cells #[.int .i64 k, .int .i64 d, .int .i64 wd, .int .i64 hi, .slice ca cn cc, .slice pa pn pc] 33)).alloc (.cells #[.int .i64 0, .int .i64 0, .int .i64 0, .int .i64 0, .slice none 0 0, .slice none 0 0] 33)) fun e w' => e = .returned (.bool false) ∧ Below ((w.alloc (.cells #[.int .i64 k, .int .i64 d, .int .i64 wd, .int .i64 hi, .slice ca cn cc, .slice pa pn pc] 33)).alloc (.cells #[.int .i64 0, .int .i64 0, .int .i64 0, .int .i64 0, .slice none 0 0, .slice none 0 0] 33)).heap.size ((w.alloc (.cells #[.int .i64 k, .int .i64 d, .int .i64 wd, .int .i64 hi, .slice ca cn cc, .slice pa pn pc] 33)).alloc (.cells #[.int .i64 0, .int .i64 0, .int .i64 0, .int .i64 0, .slice none 0 0, .slice none 0 0] 33)) w') :
    Calls Try.prog 27 #[.agg #[.int .i64 k, .int .i64 d, .int .i64 wd, .int .i64 hi, .slice ca cn cc, .slice pa pn pc]] w fun e w' => e = .returned (.agg #[.int .i64 0, .int .i64 0, .int .i64 0, .int .i64 0, .slice none 0 0, .slice none 0 0]) ∧ Below w.heap.size w w' := by
  have hB0 : Below w.heap.size w ((w.alloc (.cells #[.int .i64 k, .int .i64 d, .int .i64 wd, .int .i64 hi, .slice ca cn cc, .slice pa pn pc] 33)).alloc (.cells #[.int .i64 0, .int .i64 0, .int .i64 0, .int .i64 0, .slice none 0 0, .slice none 0 0] 33)) := ((Below.refl _ _).alloc (Nat.le_refl _) _).alloc (by simp) _
  have HO : Hid (Calls Try.prog 15 #[.agg #[.int .i64 k, .int .i64 d, .int .i64 wd, .int .i64 hi, .slice ca cn cc, .slice pa pn pc]] ((w.alloc (.cells #[.int .i64 k, .int .i64 d, .int .i64 wd, .int .i64 hi, .slice ca cn cc, .slice pa pn pc] 33)).alloc (.cells #[.int .i64 0, .int .i64 0, .int .i64 0, .int .i64 0, .slice none 0 0, .slice none 0 0] 33)) fun e w' => e = .returned (.bool false) ∧ Below ((w.alloc (.cells #[.int .i64 k, .int .i64 d, .int .i64 wd, .int .i64 hi, .slice ca cn cc, .slice pa pn pc] 33)).alloc (.cells #[.int .i64 0, .int .i64 0, .int .i64 0, .int .i64 0, .slice none 0 0, .slice none 0 0] 33)).heap.size ((w.alloc (.cells #[.int .i64 k, .int .i64 d, .int .i64 wd, .int .i64 hi, .slice ca cn cc, .slice pa pn pc] 33)).alloc (.cells #[.int .i64 0, .int .i64 0, .int .i64 0, .int .i64 0, .slice none 0 0, .slice none 0 0] 33)) w') := hO
  clear hO
  have HZ : Hid (((w.alloc (.cells #[.int .i64 k, .int .i64 d, .int .i64 wd, .int .i64 hi, .slice ca cn cc, .slice pa pn pc] 33)).alloc (.cells #[.int .i64 0, .int .i64 0, .int .i64 0, .int .i64 0, .slice none 0 0, .slice none 0 0] 33)).heap[w.heap.size + 1]? = some (.cells #[.int .i64 0, .int .i64 0, .int .i64 0, .int .i64 0, .slice none 0 0, .slice none 0 0] 33 (0, 0))) := heap_alloc2_new _ _ _
  go_enter Try.func27, Try.ntmps27
  go_wp2_with fail
  refine HO.out.mono ?_
  rintro e w1 ⟨rfl, b1⟩
  have bel1 := hB0.trans (b1.mono hB0.size)
  have hz1 : w1.heap[w.heap.size + 1]? = some (.cells #[.int .i64 0, .int .i64 0, .int .i64 0, .int .i64 0, .slice none 0 0, .slice none 0 0] 33 (0, 0)) := (b1.block _ (by simp)).trans HZ.out
  have hI6 : (Try.prog.info? 33).map (·.size) = some (#[Value.int .i64 0, .int .i64 0, .int .i64 0, .int .i64 0, .slice none 0 0, .slice none 0 0]).size := by kernel_rfl
  have h16 : (#[Value.int .i64 0, .int .i64 0, .int .i64 0, .int .i64 0, .slice none 0 0, .slice none 0 0]).all (·.oneCell') = true := by simp [Value.oneCell']
  clear b1 hB0 HO HZ
  go_wp2_with (refine wpList_store_row rfl 33 (.tmp 2) (.tmp 9) rfl (w.heap.size + 1) #[.int .i64 0, .int .i64 0, .int .i64 0, .int .i64 0, .slice none 0 0, .slice none 0 0] rfl rfl 33 #[.int .i64 0, .int .i64 0, .int .i64 0, .int .i64 0, .slice none 0 0, .slice none 0 0] hz1 hI6 rfl h16 ?_)
  have hs2 := setRow_heap w1 (w.heap.size + 1) _ #[.int .i64 0, .int .i64 0, .int .i64 0, .int .i64 0, .slice none 0 0, .slice none 0 0] _ _ hz1
  refine bodyPost_ret_by (results_cell_row (p := 2) (ty := 33) (by kernel_rfl) _ _ (w.heap.size + 1) 33 _ (0, 0) _ rfl hs2 Try.underlying33 rfl (by kernel_rfl)) rfl ⟨rfl, ?_⟩
  exact bel1.trans ((below_setRow _ _ _).mono (by omega))

theorem below_two (w : World) (o o' : Obj) : Below w.heap.size w ((w.alloc o).alloc o') := ((Below.refl _ _).alloc (Nat.le_refl _) _).alloc (by simp) _

theorem ok_open {k d wd hi : Int} {cs ps : List Int} (h : Im.okB k d wd hi cs ps = true) : Im.Ok k d wd hi cs ps := @of_decide_eq_true _ (Classical.propDecidable _) h

set_option maxHeartbeats 1000000 in
theorem exImageTurn (k d wd hi : Int) (ca : Option Addr) (cn cc : Nat) (pa : Option Addr) (pn pc : Nat) (w : World) (hc : Row64 w ca cn cc) (hp : Row64 w pa pn pc) :
    Calls Try.prog 8 #[.agg #[.int .i64 k, .int .i64 d, .int .i64 wd, .int .i64 hi, .slice ca cn cc, .slice pa pn pc]] w fun e w' => e = .returned (.bool true) ∧ Below w.heap.size w w' := by
  obtain ⟨_, hcm, cs, hcn, hIc, _⟩ := hc
  obtain ⟨_, hpm, ps, hpn, hIp, _⟩ := hp
  unfold maxLen at hcm hpm
  have hB0 : Below w.heap.size w (w.alloc (.cells #[.int .i64 k, .int .i64 d, .int .i64 wd, .int .i64 hi, .slice ca cn cc, .slice pa pn pc] 30)) := (Below.refl _ _).alloc (Nat.le_refl _) _
  by_cases hbig : 1048576 < cn + pn
  · have HZ : Hid (Calls Try.prog 14 #[.agg #[.int .i64 k, .int .i64 d, .int .i64 wd, .int .i64 hi, .slice ca cn cc, .slice pa pn pc], .int .i64 1048576] (w.alloc (.cells #[.int .i64 k, .int .i64 d, .int .i64 wd, .int .i64 hi, .slice ca cn cc, .slice pa pn pc] 30)) fun e w' => e = .returned (.int .i64 (-1)) ∧ Below (w.alloc (.cells #[.int .i64 k, .int .i64 d, .int .i64 wd, .int .i64 hi, .slice ca cn cc, .slice pa pn pc] 30)).heap.size (w.alloc (.cells #[.int .i64 k, .int .i64 d, .int .i64 wd, .int .i64 hi, .slice ca cn cc, .slice pa pn pc] 30)) w') := szImage_big k d wd hi ca cn cc pa pn pc _ (by omega) (by omega) hbig
    clear hIc hIp hcn hpn
    go_enter Try.func8, Try.ntmps8
    go_wp2_with fail
    refine HZ.out.mono ?_
    rintro e w1 ⟨rfl, b1⟩
    have bel1 := hB0.trans (b1.mono (by simp))
    clear b1 HZ hB0
    go_wp2_with fail
    go_ret
    exact ⟨rfl, bel1⟩
  · rcases hok : Im.okB k d wd hi cs ps with _ | _
    · refine exImageTurn_core k d wd hi ca cn cc pa pn pc 0 0 0 0 0 0 cs ps [] [] w hIc hIp hcn hpn (by omega) rfl rfl (by omega) (by omega) ?_ ?_
      · intro x y w' h1 h2
        refine (spec_turn_no k d wd hi x cn cn y pn pn w' ?_).mono ?_
        · have := spec_imageOk k d wd hi x cn cn y pn pn ((w'.alloc (.cells #[.int .i64 k, .int .i64 d, .int .i64 wd, .int .i64 hi, .slice x cn cn, .slice y pn pn] 33)).alloc (.cells #[.int .i64 0, .int .i64 0, .int .i64 0, .int .i64 0, .slice none 0 0, .slice none 0 0] 33)) cs ps (h1.kept (below_two _ _ _)) hcn (by omega) (h2.kept (below_two _ _ _)) hpn
          rw [hok] at this; exact this
        · rintro e w'' ⟨rfl, b⟩
          exact ⟨⟨none, 0, none, 0, rfl, .inl rfl, .inl rfl⟩, b⟩
      · intro x y w' h1 h2
        refine (impl_turn_no k d wd hi x cn cn y pn pn w' ?_).mono ?_
        · have := impl_imageOk k d wd hi x cn cn y pn pn ((w'.alloc (.cells #[.int .i64 k, .int .i64 d, .int .i64 wd, .int .i64 hi, .slice x cn cn, .slice y pn pn] 33)).alloc (.cells #[.int .i64 0, .int .i64 0, .int .i64 0, .int .i64 0, .slice none 0 0, .slice none 0 0] 33)) cs ps (h1.kept (below_two _ _ _)) hcn (by omega) (h2.kept (below_two _ _ _)) hpn (by omega)
          rw [hok] at this; exact this
        · rintro e w'' ⟨rfl, b⟩
          exact ⟨⟨none, 0, none, 0, rfl, ⟨w'.heap.size, Nat.le_refl _, .inl rfl, .inl rfl, .inl rfl⟩⟩, b⟩
    · obtain ⟨_, hw, hh, _, hm, _⟩ := ok_open hok
      obtain ⟨Wd, rfl⟩ := Int.eq_ofNat_of_zero_le (show 0 ≤ wd by omega)
      obtain ⟨Hi, rfl⟩ := Int.eq_ofNat_of_zero_le (show 0 ≤ hi by omega)
      have e : ((Wd * Hi : Nat) : Int) = (Wd : Int) * (Hi : Int) := by simp
      have hmm : pn = Wd * Hi := by omega
      have hmul : Hi * Wd ≤ 20 * 20 := Nat.mul_le_mul (by omega) (by omega)
      refine exImageTurn_core k d Wd Hi ca cn cc pa pn pc k d Hi Wd cn (Hi * Wd) cs ps cs (upto (ptF Hi (turnF Wd Hi ps)) (Hi * Wd)) w hIc hIp hcn hpn (by omega) hcn (upto_length _ _) (by omega) (by omega) ?_ ?_
      · intro x y w' h1 h2
        refine spec_turn_yes k d Wd Hi x cn cn y pn pn cs ps w' h1 hcn (by omega) h2 hpn (by omega) (by omega) hmm (Nat.le_refl _) (by omega) ?_
        have := spec_imageOk k d Wd Hi x cn cn y pn pn ((w'.alloc (.cells #[.int .i64 k, .int .i64 d, .int .i64 (Wd : Int), .int .i64 (Hi : Int), .slice x cn cn, .slice y pn pn] 33)).alloc (.cells #[.int .i64 0, .int .i64 0, .int .i64 0, .int .i64 0, .slice none 0 0, .slice none 0 0] 33)) cs ps (h1.kept (below_two _ _ _)) hcn (by omega) (h2.kept (below_two _ _ _)) hpn
        rw [hok] at this; exact this
      · intro x y w' h1 h2
        refine impl_turn_yes k d Wd Hi x cn cn y pn pn cs ps w' h1 hcn (by omega) h2 hpn (by omega) (by omega) hmm ?_
        have := impl_imageOk k d Wd Hi x cn cn y pn pn ((w'.alloc (.cells #[.int .i64 k, .int .i64 d, .int .i64 (Wd : Int), .int .i64 (Hi : Int), .slice x cn cn, .slice y pn pn] 33)).alloc (.cells #[.int .i64 0, .int .i64 0, .int .i64 0, .int .i64 0, .slice none 0 0, .slice none 0 0] 33)) cs ps (h1.kept (below_two _ _ _)) hcn (by omega) (h2.kept (below_two _ _ _)) hpn (by omega)
        rw [hok] at this; exact this
end Go.Proofs.Yticahbfkdenjbat
