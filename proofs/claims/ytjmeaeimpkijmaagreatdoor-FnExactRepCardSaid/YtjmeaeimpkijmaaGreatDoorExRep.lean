/- The exact law of Rep, walked. -/
import Derived.Test.YtjmeaeimpkijmaaGreatDoorImgOk3
import Derived.Test.YtjmeaeimpkijmaaGreatDoorRepTop
import Derived.Test.YtjmeaeimpkijmaaGreatDoorImgSpec3
import Derived.Test.YtjmeaeimpkijmaaGreatDoorImgTo
import Derived.Test.YtjmeaeimpkijmaaGreatDoorRow64
namespace Go.Proofs.YtjmeaeimpkijmaaGreatDoor
open Go.RowKit

set_option maxHeartbeats 4000000 in
set_option maxRecDepth 20000 in
theorem exRep (n k d wd hi : Int) (ca : Option Addr) (cn cc : Nat) (pa : Option Addr) (pn pc : Nat) (w : World) (_hn : (Lit.int .i64 n).wf = true) (hc : Row64 w ca cn cc) (hp : Row64 w pa pn pc) :
    Calls Tryz.prog 5 #[.int .i64 n, .agg #[.int .i64 k, .int .i64 d, .int .i64 wd, .int .i64 hi, .slice ca cn cc, .slice pa pn pc]] w fun e w' => e = .returned (.bool true) ∧ Below w.heap.size w w' := by
  obtain ⟨_, hcm, cs, hcn, hIc, _⟩ := hc
  obtain ⟨_, hpm, ps, hpn, hIp, _⟩ := hp
  unfold maxLen at hcm hpm
  have hB0 : Below w.heap.size w (w.alloc (.cells #[.int .i64 k, .int .i64 d, .int .i64 wd, .int .i64 hi, .slice ca cn cc, .slice pa pn pc] 28)) := (Below.refl _ _).alloc (Nat.le_refl _) _
  by_cases hbig : 1048576 < cn + pn
  · have HZ : Hid (Calls Tryz.prog 10 #[.agg #[.int .i64 k, .int .i64 d, .int .i64 wd, .int .i64 hi, .slice ca cn cc, .slice pa pn pc], .int .i64 1048576] (w.alloc (.cells #[.int .i64 k, .int .i64 d, .int .i64 wd, .int .i64 hi, .slice ca cn cc, .slice pa pn pc] 28)) fun e w' => e = .returned (.int .i64 (-1)) ∧ Below (w.alloc (.cells #[.int .i64 k, .int .i64 d, .int .i64 wd, .int .i64 hi, .slice ca cn cc, .slice pa pn pc] 28)).heap.size (w.alloc (.cells #[.int .i64 k, .int .i64 d, .int .i64 wd, .int .i64 hi, .slice ca cn cc, .slice pa pn pc] 28)) w') := szImage_big k d wd hi ca cn cc pa pn pc _ (by omega) (by omega) hbig
    clear hIc hIp hcn hpn
    go_enter Tryz.func5, Tryz.ntmps5
    go_wp2_with fail
    refine HZ.out.mono ?_
    rintro e w1 ⟨rfl, b1⟩
    have bel1 := hB0.trans (b1.mono (by simp))
    clear b1 HZ hB0
    go_wp2_with fail
    go_ret
    exact ⟨rfl, bel1⟩
  · have hcl : cn ≤ 1048576 := by omega
    have hpl : pn ≤ 1048576 := by omega
    have HZ : Hid (Calls Tryz.prog 10 #[.agg #[.int .i64 k, .int .i64 d, .int .i64 wd, .int .i64 hi, .slice ca cn cc, .slice pa pn pc], .int .i64 1048576] (w.alloc (.cells #[.int .i64 k, .int .i64 d, .int .i64 wd, .int .i64 hi, .slice ca cn cc, .slice pa pn pc] 28)) fun e w' => e = .returned (.int .i64 (1048576 - (cn : Int) - (pn : Int))) ∧ Below (w.alloc (.cells #[.int .i64 k, .int .i64 d, .int .i64 wd, .int .i64 hi, .slice ca cn cc, .slice pa pn pc] 28)).heap.size (w.alloc (.cells #[.int .i64 k, .int .i64 d, .int .i64 wd, .int .i64 hi, .slice ca cn cc, .slice pa pn pc] 28)) w') := szImage_small k d wd hi ca cn cc pa pn pc _ (by omega)
    have HTO : Hid (∀ w', Ints w' ca cs → Ints w' pa ps → Calls Tryz.prog 12 #[.agg #[.int .i64 k, .int .i64 d, .int .i64 wd, .int .i64 hi, .slice ca cn cc, .slice pa pn pc]] w' fun e w'' => (∃ x y, e = .returned (.agg #[.int .i64 k, .int .i64 d, .int .i64 wd, .int .i64 hi, .slice x cn cn, .slice y pn pn]) ∧ Ints w'' x cs ∧ Ints w'' y ps) ∧ Below w'.heap.size w' w'') := fun w' h1 h2 => toImage_any k d wd hi ca cn cc pa pn pc cs ps w' h1 hcn hcl h2 hpn hpl
    have HEQ : Hid (∀ (x y u v : Option Addr) (w' : World), Ints w' x cs → Ints w' y ps → Ints w' u cs → Ints w' v ps → Calls Tryz.prog 14 #[.agg #[.int .i64 k, .int .i64 d, .int .i64 wd, .int .i64 hi, .slice x cn cn, .slice y pn pn], .agg #[.int .i64 k, .int .i64 d, .int .i64 wd, .int .i64 hi, .slice u cn cn, .slice v pn pn]] w' fun e w'' => e = .returned (.bool true) ∧ Below w'.heap.size w' w'') := fun x y u v w' h1 h2 h3 h4 => eqImage_same k d wd hi x cn y pn u cn v pn cn pn cs ps w' h1 h2 h3 h4 hcn hcl hpn hpl
    have hdk : Im.okB k d wd hi cs ps = true → k = 4 → d = 1 ∨ d = 2 ∨ d = 4 ∨ d = 8 := fun h hk => by
      by_cases hO : Im.Ok k d wd hi cs ps
      · exact Im.dep4 (hk ▸ hO.1)
      · rw [Im.okB_no hO] at h; cases h
    have HSP : Hid (∀ (x y : Option Addr) (w' : World), Ints w' x cs → Ints w' y ps → Calls Tryz.prog 11 #[.int .i64 n, .agg #[.int .i64 k, .int .i64 d, .int .i64 wd, .int .i64 hi, .slice x cn cn, .slice y pn pn]] w' fun e w'' => e = .returned (.bool (Im.okB k d wd hi cs ps && repB n k d cn)) ∧ Below w'.heap.size w' w'') := fun x y w' h1 h2 => spec_rep n k d wd hi x cn cn y pn pn _ hdk w' fun u b => spec_imageOk k d wd hi x cn cn y pn pn u cs ps (h1.kept b) hcn hcl (h2.kept b) hpn
    have HIM : Hid (∀ (x y : Option Addr) (w' : World), Ints w' x cs → Ints w' y ps → Calls Tryz.prog 13 #[.int .i64 n, .agg #[.int .i64 k, .int .i64 d, .int .i64 wd, .int .i64 hi, .slice x cn cn, .slice y pn pn]] w' fun e w'' => e = .returned (.bool (Im.okB k d wd hi cs ps && repB n k d cn)) ∧ Below w'.heap.size w' w'') := fun x y w' h1 h2 => impl_rep n k d wd hi x cn cn y pn pn _ hdk w' fun u b => impl_imageOk k d wd hi x cn cn y pn pn u cs ps (h1.kept b) hcn hcl (h2.kept b) hpn hpl
    have hd0 : decide (1048576 - (cn : Int) - (pn : Int) < 0) = false := by simp; omega
    clear hdk
    generalize (Im.okB k d wd hi cs ps && repB n k d cn) = ok at *
    have HIC : Hid (∀ w', Below w.heap.size w w' → Ints w' ca cs) := fun w' b => hIc.kept b
    have HIP : Hid (∀ w', Below w.heap.size w w' → Ints w' pa ps) := fun w' b => hIp.kept b
    clear hIc hIp hcn hpn
    go_enter Tryz.func5, Tryz.ntmps5
    go_wp2_with fail
    refine HZ.out.mono ?_
    rintro e w1 ⟨rfl, b1⟩
    obtain ⟨k0, k1, k2, k3, k4, k5⟩ := box_kept (box_new w _ _ _ _ _ _ 28) b1 (by simp)
    have bel1 := hB0.trans (b1.mono (by simp))
    have hlt1 : w.heap.size < w1.heap.size := Nat.lt_of_lt_of_le (by simp) b1.size
    clear b1 HZ hB0
    go_wp2_with fail
    refine (HTO.out w1 (HIC.out _ bel1) (HIP.out _ bel1)).mono ?_
    rintro e w2 ⟨⟨x2, y2, rfl, X2, Y2⟩, b2⟩
    obtain ⟨j0, j1, j2, j3, j4, j5⟩ := box_kept ⟨k0, k1, k2, k3, k4, k5⟩ b2 hlt1
    have bel2 := bel1.trans (b2.mono bel1.size)
    have hlt2 : w.heap.size < w2.heap.size := Nat.lt_of_lt_of_le hlt1 b2.size
    clear b2 bel1 k0 k1 k2 k3 k4 k5 hlt1
    go_wp2_with fail
    refine (HSP.out _ _ w2 X2 Y2).mono ?_
    rintro e w3 ⟨rfl, b3⟩
    obtain ⟨k0, k1, k2, k3, k4, k5⟩ := box_kept ⟨j0, j1, j2, j3, j4, j5⟩ b3 hlt2
    have bel3 := bel2.trans (b3.mono bel2.size)
    have hlt3 : w.heap.size < w3.heap.size := Nat.lt_of_lt_of_le hlt2 b3.size
    clear b3 bel2 j0 j1 j2 j3 j4 j5 hlt2 X2 Y2
    go_wp2_with fail
    refine (HTO.out w3 (HIC.out _ bel3) (HIP.out _ bel3)).mono ?_
    rintro e w4 ⟨⟨x3, y3, rfl, X4, Y4⟩, b4⟩
    obtain ⟨j0, j1, j2, j3, j4, j5⟩ := box_kept ⟨k0, k1, k2, k3, k4, k5⟩ b4 hlt3
    have bel4 := bel3.trans (b4.mono bel3.size)
    have hlt4 : w.heap.size < w4.heap.size := Nat.lt_of_lt_of_le hlt3 b4.size
    clear b4 bel3 k0 k1 k2 k3 k4 k5 hlt3
    obtain ⟨W5, hW5⟩ : ∃ W5, W5 = w4.alloc (.cells #[.int .i64 k, .int .i64 d, .int .i64 wd, .int .i64 hi, .slice x3 cn cn, .slice y3 pn pn] 31) := ⟨_, rfl⟩
    have b5 : Below w4.heap.size w4 W5 := by rw [hW5]; exact (Below.refl _ _).alloc (Nat.le_refl _) _
    have q5 := box_new w4 (.int .i64 k) (.int .i64 d) (.int .i64 wd) (.int .i64 hi) (.slice x3 cn cn) (.slice y3 pn pn) 31
    rw [← hW5] at q5
    have j5' := box_kept ⟨j0, j1, j2, j3, j4, j5⟩ b5 hlt4
    have X5 := X4.kept b5
    have Y5 := Y4.kept b5
    have bel5 := bel4.trans (b5.mono bel4.size)
    have hlt5 : w4.heap.size < W5.heap.size := by rw [hW5]; simp
    have H5 : Hid ((W5.cell? ⟨w.heap.size, 0, none⟩ = some (.int .i64 k) ∧ W5.cell? ⟨w.heap.size, 1, none⟩ = some (.int .i64 d) ∧ W5.cell? ⟨w.heap.size, 2, none⟩ = some (.int .i64 wd) ∧ W5.cell? ⟨w.heap.size, 3, none⟩ = some (.int .i64 hi) ∧ W5.cell? ⟨w.heap.size, 4, none⟩ = some (.slice ca cn cc) ∧ W5.cell? ⟨w.heap.size, 5, none⟩ = some (.slice pa pn pc)) ∧ (W5.cell? ⟨w4.heap.size, 0, none⟩ = some (.int .i64 k) ∧ W5.cell? ⟨w4.heap.size, 1, none⟩ = some (.int .i64 d) ∧ W5.cell? ⟨w4.heap.size, 2, none⟩ = some (.int .i64 wd) ∧ W5.cell? ⟨w4.heap.size, 3, none⟩ = some (.int .i64 hi) ∧ W5.cell? ⟨w4.heap.size, 4, none⟩ = some (.slice x3 cn cn) ∧ W5.cell? ⟨w4.heap.size, 5, none⟩ = some (.slice y3 pn pn)) ∧ Ints W5 x3 cs ∧ Ints W5 y3 ps ∧ Below w.heap.size w W5 ∧ w4.heap.size < W5.heap.size) := ⟨j5', q5, X5, Y5, bel5, hlt5⟩
    have HW5 : Hid (W5 = w4.alloc (.cells #[.int .i64 k, .int .i64 d, .int .i64 wd, .int .i64 hi, .slice x3 cn cn, .slice y3 pn pn] 31)) := hW5
    clear b5 q5 j5' X5 Y5 X4 Y4 bel5 hlt5 hW5 bel4
    have HI5 : Hid (Calls Tryz.prog 13 #[.int .i64 n, .agg #[.int .i64 k, .int .i64 d, .int .i64 wd, .int .i64 hi, .slice x3 cn cn, .slice y3 pn pn]] (w4.alloc (.cells #[.int .i64 k, .int .i64 d, .int .i64 wd, .int .i64 hi, .slice x3 cn cn, .slice y3 pn pn] 31)) fun e w'' => e = .returned (.bool ok) ∧ Below (w4.alloc (.cells #[.int .i64 k, .int .i64 d, .int .i64 wd, .int .i64 hi, .slice x3 cn cn, .slice y3 pn pn] 31)).heap.size (w4.alloc (.cells #[.int .i64 k, .int .i64 d, .int .i64 wd, .int .i64 hi, .slice x3 cn cn, .slice y3 pn pn] 31)) w'') := by
      rw [← HW5.out]; exact HIM.out x3 y3 W5 H5.out.2.2.1 H5.out.2.2.2.1
    go_wp2_with fail
    refine HI5.out.mono ?_
    rintro e w6 ⟨rfl, b6⟩
    rw [← HW5.out] at b6
    obtain ⟨H5a, H5b, X5, Y5, bel5, hlt5⟩ := H5.out
    obtain ⟨k0, k1, k2, k3, k4, k5⟩ := box_kept H5a b6 (by omega)
    obtain ⟨q0, q1, q2, q3, q4, q5⟩ := box_kept H5b b6 hlt5
    have X6 := X5.kept b6
    have Y6 := Y5.kept b6
    have bel6 := bel5.trans (b6.mono bel5.size)
    have hlt6 : w4.heap.size < w6.heap.size := Nat.lt_of_lt_of_le hlt5 b6.size
    clear H5a H5b X5 Y5 bel5 hlt5 b6 HI5 H5 HW5 j0 j1 j2 j3 j4 j5 HSP HIM
    have HIC6 : Hid (Ints w6 ca cs) := HIC.out _ bel6
    have HIP6 : Hid (Ints w6 pa ps) := HIP.out _ bel6
    have HX6 : Hid (Ints w6 x3 cs ∧ Ints w6 y3 ps) := ⟨X6, Y6⟩
    clear X6 Y6 HIC HIP
    go_wp2_with fail
    go_region_held3 (fun w' => w'.cell? ⟨w.heap.size, 0, none⟩ = some (.int .i64 k) ∧ w'.cell? ⟨w.heap.size, 1, none⟩ = some (.int .i64 d) ∧ w'.cell? ⟨w.heap.size, 2, none⟩ = some (.int .i64 wd) ∧ w'.cell? ⟨w.heap.size, 3, none⟩ = some (.int .i64 hi) ∧ w'.cell? ⟨w.heap.size, 4, none⟩ = some (.slice ca cn cc) ∧ w'.cell? ⟨w.heap.size, 5, none⟩ = some (.slice pa pn pc) ∧ w'.cell? ⟨w4.heap.size, 0, none⟩ = some (.int .i64 k) ∧ w'.cell? ⟨w4.heap.size, 1, none⟩ = some (.int .i64 d) ∧ w'.cell? ⟨w4.heap.size, 2, none⟩ = some (.int .i64 wd) ∧ w'.cell? ⟨w4.heap.size, 3, none⟩ = some (.int .i64 hi) ∧ w'.cell? ⟨w4.heap.size, 4, none⟩ = some (.slice x3 cn cn) ∧ w'.cell? ⟨w4.heap.size, 5, none⟩ = some (.slice y3 pn pn)) (go_keep) (first | (go_at_call 12; refine (HTO.out _ (HIC6.out.kept (Below.refl _ _).drew) (HIP6.out.kept (Below.refl _ _).drew)).mono ?_; rintro e w7 ⟨⟨x7, y7, rfl, X7, Y7⟩, b7⟩; have HX7 : Hid (Ints w7 x7 cs ∧ Ints w7 y7 ps) := ⟨X7, Y7⟩; clear X7 Y7; have bw7 : Below w6.heap.size w6 w7 := box_drew b7; have HX8 : Hid (Ints w7 x3 cs ∧ Ints w7 y3 ps) := ⟨HX6.out.1.kept bw7, HX6.out.2.kept bw7⟩; obtain ⟨m0, m1, m2, m3, m4, m5⟩ := box_kept ⟨k0, k1, k2, k3, k4, k5⟩ bw7 (by omega); obtain ⟨n0, n1, n2, n3, n4, n5⟩ := box_kept ⟨q0, q1, q2, q3, q4, q5⟩ bw7 hlt6) | (go_at_call 14; refine (HEQ.out _ _ _ _ _ HX8.out.1 HX8.out.2 HX7.out.1 HX7.out.2).mono ?_; rintro e w8 ⟨rfl, b8⟩; obtain ⟨g0, g1, g2, g3, g4, g5⟩ := box_kept ⟨m0, m1, m2, m3, m4, m5⟩ b8 (Nat.lt_of_lt_of_le (by omega) bw7.size); obtain ⟨f0, f1, f2, f3, f4, f5⟩ := box_kept ⟨n0, n1, n2, n3, n4, n5⟩ b8 (Nat.lt_of_lt_of_le hlt6 bw7.size)))
    all_goals
      have bel8 : Below w.heap.size w w8 := (bel6.trans (bw7.mono bel6.size)).trans (b8.mono (Nat.le_trans bel6.size bw7.size))
      clear b8 b7 bw7
      go_wp2_with fail
      go_ret
      exact ⟨rfl, bel8⟩
end Go.Proofs.YtjmeaeimpkijmaaGreatDoor
