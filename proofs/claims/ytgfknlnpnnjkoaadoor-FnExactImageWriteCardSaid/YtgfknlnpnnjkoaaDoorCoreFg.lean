/- A law on a picture and a text: walked over the contracts of both (for ImageWrite). -/
import Derived.Test.YtgfknlnpnnjkoaaDoorPicLaw
import Derived.Deep.RegionHeld3
namespace Go.Proofs.YtgfknlnpnnjkoaaDoor
open Go.RowKit

set_option linter.unusedSimpArgs false in
set_option maxHeartbeats 8000000 in
set_option maxRecDepth 20000 in
theorem exImageWrite_core (k d wd hi : Int) (ca : Option Addr) (cn cc : Nat) (pa : Option Addr) (pn pc : Nat) (T : ByteArray) (cs ps : List Int) (w : World) (hIc : Ints w ca cs) (hIp : Ints w pa ps) (hcn : cs.length = cn) (hpn : ps.length = pn) (hsum : cn + pn ≤ 1048576)
    (hSP : ∀ (x y : Option Addr) (w' : World), Ints w' x cs → Ints w' y ps → Calls Tryd.prog 15 #[.agg #[.int .i64 k, .int .i64 d, .int .i64 wd, .int .i64 hi, .slice x cn cn, .slice y pn pn]] w' fun e w'' => e = .returned (.string T) ∧ Below w'.heap.size w' w'')
    (hIM : ∀ (x y : Option Addr) (w' : World), Below w.heap.size w w' → Ints w' x cs → Ints w' y ps → Calls Tryd.prog 16 #[.agg #[.int .i64 k, .int .i64 d, .int .i64 wd, .int .i64 hi, .slice x cn cn, .slice y pn pn]] w' fun e w'' => e = .returned (.string T) ∧ Below w'.heap.size w' w'') :
    Calls Tryd.prog 5 #[.agg #[.int .i64 k, .int .i64 d, .int .i64 wd, .int .i64 hi, .slice ca cn cc, .slice pa pn pc]] w fun e w' => e = .returned (.bool true) ∧ Below w.heap.size w w' := by
  have HSP : Hid (∀ (x y : Option Addr) (w' : World), Ints w' x cs → Ints w' y ps → Calls Tryd.prog 15 #[.agg #[.int .i64 k, .int .i64 d, .int .i64 wd, .int .i64 hi, .slice x cn cn, .slice y pn pn]] w' fun e w'' => e = .returned (.string T) ∧ Below w'.heap.size w' w'') := hSP
  have HIM : Hid (∀ (x y : Option Addr) (w' : World), Below w.heap.size w w' → Ints w' x cs → Ints w' y ps → Calls Tryd.prog 16 #[.agg #[.int .i64 k, .int .i64 d, .int .i64 wd, .int .i64 hi, .slice x cn cn, .slice y pn pn]] w' fun e w'' => e = .returned (.string T) ∧ Below w'.heap.size w' w'') := hIM
  have hB0 : Below w.heap.size w (w.alloc (.cells #[.int .i64 k, .int .i64 d, .int .i64 wd, .int .i64 hi, .slice ca cn cc, .slice pa pn pc] 24)) := (Below.refl _ _).alloc (Nat.le_refl _) _
  have HZ : Hid (Calls Tryd.prog 6 #[.agg #[.int .i64 k, .int .i64 d, .int .i64 wd, .int .i64 hi, .slice ca cn cc, .slice pa pn pc], .int .i64 1048576] (w.alloc (.cells #[.int .i64 k, .int .i64 d, .int .i64 wd, .int .i64 hi, .slice ca cn cc, .slice pa pn pc] 24)) fun e w' => e = .returned (.int .i64 (1048576 - (cn : Int) - (pn : Int))) ∧ Below (w.alloc (.cells #[.int .i64 k, .int .i64 d, .int .i64 wd, .int .i64 hi, .slice ca cn cc, .slice pa pn pc] 24)).heap.size (w.alloc (.cells #[.int .i64 k, .int .i64 d, .int .i64 wd, .int .i64 hi, .slice ca cn cc, .slice pa pn pc] 24)) w') := szImage_small k d wd hi ca cn cc pa pn pc _ hsum
  have HTO : Hid (∀ w', Ints w' ca cs → Ints w' pa ps → Calls Tryd.prog 8 #[.agg #[.int .i64 k, .int .i64 d, .int .i64 wd, .int .i64 hi, .slice ca cn cc, .slice pa pn pc]] w' fun e w'' => (∃ x y, e = .returned (.agg #[.int .i64 k, .int .i64 d, .int .i64 wd, .int .i64 hi, .slice x cn cn, .slice y pn pn]) ∧ Two w'' w'.heap.size w''.heap.size x cs y ps) ∧ Below w'.heap.size w' w'') := fun w' h1 h2 => toImage_two k d wd hi ca cn cc pa pn pc cs ps w' h1 hcn (by omega) h2 hpn (by omega)
  have HEQ0 : Hid (∀ (x y u v : Option Addr) (w' : World), Ints w' x cs → Ints w' y ps → Ints w' u cs → Ints w' v ps → Calls Tryd.prog 10 #[.agg #[.int .i64 k, .int .i64 d, .int .i64 wd, .int .i64 hi, .slice x cn cn, .slice y pn pn], .agg #[.int .i64 k, .int .i64 d, .int .i64 wd, .int .i64 hi, .slice u cn cn, .slice v pn pn]] w' fun e w'' => e = .returned (.bool true) ∧ Below w'.heap.size w' w'') := fun x y u v w' h1 h2 h3 h4 => eqImage_same k d wd hi x cn y pn u cn v pn cn pn cs ps w' h1 h2 h3 h4 hcn (by omega) hpn (by omega)
  have hd0 : decide (1048576 - (cn : Int) - (pn : Int) < 0) = false := by simp; omega
  have HIC : Hid (∀ w', Below w.heap.size w w' → Ints w' ca cs) := fun w' b => hIc.kept b
  have HIP : Hid (∀ w', Below w.heap.size w w' → Ints w' pa ps) := fun w' b => hIp.kept b
  clear hIc hIp hcn hpn hSP hIM hsum
  go_enter Tryd.func5, Tryd.ntmps5
  go_wp2_with fail
  refine HZ.out.mono ?_
  rintro e w1 ⟨rfl, b1⟩
  have A1 : Hid (Bx w1 w.heap.size (.int .i64 k) (.int .i64 d) (.int .i64 wd) (.int .i64 hi) (.slice ca cn cc) (.slice pa pn pc)) := (bx_new w _ _ _ _ _ _ 24).kept b1
  have bel1 : Below w.heap.size w w1 := hB0.trans (b1.mono hB0.size)
  obtain ⟨_, a0, a1, a2, a3, a4, a5⟩ := A1.out
  clear b1 HZ hB0
  go_wp2_with fail
  refine (HTO.out w1 (HIC.out _ bel1) (HIP.out _ bel1)).mono ?_
  rintro e w2 ⟨⟨x2, y2, rfl, T2⟩, b2⟩
  have A2 : Hid (Bx w2 w.heap.size (.int .i64 k) (.int .i64 d) (.int .i64 wd) (.int .i64 hi) (.slice ca cn cc) (.slice pa pn pc)) := A1.out.kept b2
  have bel2 : Below w.heap.size w w2 := bel1.trans (b2.mono bel1.size)
  have T2i : Hid (Ints w2 x2 cs ∧ Ints w2 y2 ps) := T2.ints
  clear b2 bel1 A1 T2 a0 a1 a2 a3 a4 a5
  go_wp2_with fail
  refine (HSP.out x2 y2 w2 T2i.out.1 T2i.out.2).mono ?_
  rintro e w3 ⟨rfl, b3⟩
  have A3 : Hid (Bx w3 w.heap.size (.int .i64 k) (.int .i64 d) (.int .i64 wd) (.int .i64 hi) (.slice ca cn cc) (.slice pa pn pc)) := A2.out.kept b3
  have bel3 : Below w.heap.size w w3 := bel2.trans (b3.mono bel2.size)
  obtain ⟨_, a0, a1, a2, a3, a4, a5⟩ := A3.out
  clear b3 bel2 A2 T2i HSP
  go_wp2_with fail
  refine (HTO.out w3 (HIC.out _ bel3) (HIP.out _ bel3)).mono ?_
  rintro e w5 ⟨⟨x5, y5, rfl, T5⟩, b5⟩
  have b6 : Below w5.heap.size w5 (w5.alloc (.cells #[.int .i64 k, .int .i64 d, .int .i64 wd, .int .i64 hi, .slice x5 cn cn, .slice y5 pn pn] 27)) := (Below.refl _ _).alloc (Nat.le_refl _) _
  have A6 : Hid (Bx (w5.alloc (.cells #[.int .i64 k, .int .i64 d, .int .i64 wd, .int .i64 hi, .slice x5 cn cn, .slice y5 pn pn] 27)) w.heap.size (.int .i64 k) (.int .i64 d) (.int .i64 wd) (.int .i64 hi) (.slice ca cn cc) (.slice pa pn pc)) := (A3.out.kept b5).kept b6
  have X6 : Hid (Bx (w5.alloc (.cells #[.int .i64 k, .int .i64 d, .int .i64 wd, .int .i64 hi, .slice x5 cn cn, .slice y5 pn pn] 27)) w5.heap.size (.int .i64 k) (.int .i64 d) (.int .i64 wd) (.int .i64 hi) (.slice x5 cn cn) (.slice y5 pn pn)) := bx_new w5 _ _ _ _ _ _ 27
  have I6 : Hid (Ints (w5.alloc (.cells #[.int .i64 k, .int .i64 d, .int .i64 wd, .int .i64 hi, .slice x5 cn cn, .slice y5 pn pn] 27)) x5 cs ∧ Ints (w5.alloc (.cells #[.int .i64 k, .int .i64 d, .int .i64 wd, .int .i64 hi, .slice x5 cn cn, .slice y5 pn pn] 27)) y5 ps) := ⟨T5.ints.1.kept b6, T5.ints.2.kept b6⟩
  have bel5 : Below w.heap.size w w5 := bel3.trans (b5.mono bel3.size)
  have bel6 : Hid (Below w.heap.size w (w5.alloc (.cells #[.int .i64 k, .int .i64 d, .int .i64 wd, .int .i64 hi, .slice x5 cn cn, .slice y5 pn pn] 27))) := bel5.trans (b6.mono bel5.size)
  clear b5 b6 bel3 bel5 A3 T5 a0 a1 a2 a3 a4 a5
  go_wp2_with fail
  refine (HIM.out x5 y5 _ bel6.out I6.out.1 I6.out.2).mono ?_
  rintro e w7 ⟨rfl, b7⟩
  have A7 : Hid (Bx w7 w.heap.size (.int .i64 k) (.int .i64 d) (.int .i64 wd) (.int .i64 hi) (.slice ca cn cc) (.slice pa pn pc)) := A6.out.kept b7
  have X7 : Hid (Bx w7 w5.heap.size (.int .i64 k) (.int .i64 d) (.int .i64 wd) (.int .i64 hi) (.slice x5 cn cn) (.slice y5 pn pn)) := X6.out.kept b7
  have I7 : Hid (Ints w7 x5 cs ∧ Ints w7 y5 ps) := ⟨I6.out.1.kept b7, I6.out.2.kept b7⟩
  have bel7 : Hid (Below w.heap.size w w7) := bel6.out.trans (b7.mono bel6.out.size)
  clear b7 A6 X6 I6 bel6 HIM
  generalize w5.heap.size = XB at *
  obtain ⟨_, a0, a1, a2, a3, a4, a5⟩ := A7.out
  obtain ⟨_, x0, x1, x2', x3, x4, x5'⟩ := X7.out
  go_wp2_with fail
  refine wp_region_held_drew (S := fun w' => w'.cell? ⟨w.heap.size, 0, none⟩ = some (.int .i64 k) ∧ w'.cell? ⟨w.heap.size, 1, none⟩ = some (.int .i64 d) ∧ w'.cell? ⟨w.heap.size, 2, none⟩ = some (.int .i64 wd) ∧ w'.cell? ⟨w.heap.size, 3, none⟩ = some (.int .i64 hi) ∧ w'.cell? ⟨w.heap.size, 4, none⟩ = some (.slice ca cn cc) ∧ w'.cell? ⟨w.heap.size, 5, none⟩ = some (.slice pa pn pc) ∧ w'.cell? ⟨XB, 0, none⟩ = some (.int .i64 k) ∧ w'.cell? ⟨XB, 1, none⟩ = some (.int .i64 d) ∧ w'.cell? ⟨XB, 2, none⟩ = some (.int .i64 wd) ∧ w'.cell? ⟨XB, 3, none⟩ = some (.int .i64 hi) ∧ w'.cell? ⟨XB, 4, none⟩ = some (.slice x5 cn cn) ∧ w'.cell? ⟨XB, 5, none⟩ = some (.slice y5 pn pn)) (by kernel_rfl) ⟨a0, a1, a2, a3, a4, a5, x0, x1, x2', x3, x4, x5'⟩ (fun hHeld => ?_)
  refine wpAnyH_take (i := 0) (v := .agg #[.int .i64 k, .int .i64 d, .int .i64 wd, .int .i64 hi, .slice x5 cn cn, .slice y5 pn pn]) rfl (by kernel_rfl) (by kernel_rfl) (by kernel_rfl) (fun _ _ _ h => h) (Or.inl ⟨by rfl, ?_⟩) hHeld ?_
  · intro w' hSw
    obtain ⟨s0, s1, s2, s3, s4, s5, s6, s7, s8, s9, s10, s11⟩ := hSw
    go_simp
  try simp only [List.getElem_toArray, List.getElem_cons_succ, List.getElem_cons_zero, Act.put, List.setIfInBounds_toArray, List.set_cons_zero, List.set_cons_succ]
  refine wpAnyH_take (i := 1) (v := .agg #[.int .i64 k, .int .i64 d, .int .i64 wd, .int .i64 hi, .slice ca cn cc, .slice pa pn pc]) rfl (by kernel_rfl) (by kernel_rfl) (by kernel_rfl) (fun _ _ _ h => h) (Or.inl ⟨by rfl, ?_⟩) hHeld ?_
  · intro w' hSw
    obtain ⟨s0, s1, s2, s3, s4, s5, s6, s7, s8, s9, s10, s11⟩ := hSw
    go_simp
  try simp only [List.getElem_toArray, List.getElem_cons_succ, List.getElem_cons_zero, Act.put, List.setIfInBounds_toArray, List.set_cons_zero, List.set_cons_succ]
  refine wpAnyH_ready (rs := [2]) (by kernel_rfl) (by simp) ?_
  refine AllReadyH.cons rfl (fun K hK => ?_) AllReadyH.nil
  go_simp
  refine (HTO.out w7.drew (HIC.out _ bel7.out.drew) (HIP.out _ bel7.out.drew)).mono ?_
  rintro e w8 ⟨⟨x8, y8, rfl, T8⟩, b8'⟩
  have b8 := box_drew b8'
  have A8 : Hid (Bx w8 w.heap.size (.int .i64 k) (.int .i64 d) (.int .i64 wd) (.int .i64 hi) (.slice ca cn cc) (.slice pa pn pc)) := A7.out.kept b8
  have X8 : Hid (Bx w8 XB (.int .i64 k) (.int .i64 d) (.int .i64 wd) (.int .i64 hi) (.slice x5 cn cn) (.slice y5 pn pn)) := X7.out.kept b8
  have I8 : Hid (Ints w8 x5 cs ∧ Ints w8 y5 ps ∧ Ints w8 x8 cs ∧ Ints w8 y8 ps) := ⟨I7.out.1.kept b8, I7.out.2.kept b8, T8.ints.1, T8.ints.2⟩
  have bel8 : Hid (Below w.heap.size w w8) := bel7.out.trans (b8.mono bel7.out.size)
  obtain ⟨_, c0, c1, c2, c3, c4, c5⟩ := A8.out
  obtain ⟨_, d0, d1, d2, d3, d4, d5⟩ := X8.out
  clear b8 b8' T8
  refine hK.out _ _ ⟨c0, c1, c2, c3, c4, c5, d0, d1, d2, d3, d4, d5⟩ (fun hHeld => ?_)
  clear hK K
  try simp only [List.getElem_toArray, List.getElem_cons_succ, List.getElem_cons_zero, Act.put, List.setIfInBounds_toArray, List.set_cons_zero, List.set_cons_succ]
  refine wpAnyH_ready (rs := [3]) (by kernel_rfl) (by simp) ?_
  refine AllReadyH.cons rfl (fun K hK => ?_) AllReadyH.nil
  go_simp
  refine (HEQ0.out x5 y5 x8 y8 _ I8.out.1 I8.out.2.1 I8.out.2.2.1 I8.out.2.2.2).mono ?_
  rintro e w9 ⟨rfl, b9⟩
  have A9 : Hid (Bx w9 w.heap.size (.int .i64 k) (.int .i64 d) (.int .i64 wd) (.int .i64 hi) (.slice ca cn cc) (.slice pa pn pc)) := A8.out.kept b9
  have X9 : Hid (Bx w9 XB (.int .i64 k) (.int .i64 d) (.int .i64 wd) (.int .i64 hi) (.slice x5 cn cn) (.slice y5 pn pn)) := X8.out.kept b9
  have bel9 : Hid (Below w.heap.size w w9) := bel8.out.trans (b9.mono bel8.out.size)
  obtain ⟨_, e0, e1, e2, e3, e4, e5⟩ := A9.out
  obtain ⟨_, f0, f1, f2, f3, f4, f5⟩ := X9.out
  clear b9
  refine hK.out _ _ ⟨e0, e1, e2, e3, e4, e5, f0, f1, f2, f3, f4, f5⟩ (fun hHeld => ?_)
  clear hK K
  try simp only [List.getElem_toArray, List.getElem_cons_succ, List.getElem_cons_zero, Act.put, List.setIfInBounds_toArray, List.set_cons_zero, List.set_cons_succ]
  refine wpAnyH_take (i := 4) (v := .bool false) rfl (by kernel_rfl) (by kernel_rfl) (by kernel_rfl) (fun _ _ _ h => h) (Or.inl ⟨by rfl, ?_⟩) hHeld ?_
  · intro w' hSw
    obtain ⟨s0, s1, s2, s3, s4, s5, s6, s7, s8, s9, s10, s11⟩ := hSw
    go_simp
  try simp only [List.getElem_toArray, List.getElem_cons_succ, List.getElem_cons_zero, Act.put, List.setIfInBounds_toArray, List.set_cons_zero, List.set_cons_succ]
  refine wpAnyH_done (by kernel_rfl) ?_ _
  try simp only [List.getElem_toArray, List.getElem_cons_succ, List.getElem_cons_zero, Act.put, List.setIfInBounds_toArray, List.set_cons_zero, List.set_cons_succ]
  clear hHeld
  go_wp2_with fail
  go_ret
  exact ⟨rfl, bel9.out⟩
end Go.Proofs.YtgfknlnpnnjkoaaDoor
