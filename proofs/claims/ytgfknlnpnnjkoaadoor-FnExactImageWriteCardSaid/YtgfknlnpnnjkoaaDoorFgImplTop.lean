/- ImageWrite of the program. -/
import Derived.Test.YtgfknlnpnnjkoaaDoorFgImpl
import Derived.Test.YtgfknlnpnnjkoaaDoorFgSpecTop
import Derived.Test.YtgfknlnpnnjkoaaDoorDepWalks
namespace Go.Proofs.YtgfknlnpnnjkoaaDoor
open Go.RowKit

theorem fg_head (a b c d : Nat) : (figs [(a : Int), (b : Int), (c : Int), (d : Int)]) = 32 :: (Lib.decDigits a ++ [32] ++ Lib.decDigits b ++ [32] ++ Lib.decDigits c ++ [32] ++ Lib.decDigits d) := by
  unfold figs
  simp
theorem ba_tail (c : UInt8) (l : List UInt8) : (ByteArray.mk (c :: l).toArray).extract 1 (ByteArray.mk (c :: l).toArray).size = ⟨l.toArray⟩ := by
  apply ByteArray.ext
  rw [ByteArray.data_extract]
  apply Array.ext'
  simp [ByteArray.size]
set_option linter.unusedSimpArgs false in
set_option linter.unusedVariables false in
set_option maxHeartbeats 8000000 in
set_option maxRecDepth 20000 in
theorem impl_imageWrite_yes (Kd D Wd Hi : Nat) (ca : Option Addr) (cn cc : Nat) (pa : Option Addr) (pn pc : Nat) (cs ps : List Int) (w : World) (hc : Ints w ca cs) (hcn : cs.length = cn) (hcl : cn ≤ 1000) (hp : Ints w pa ps) (hpn : ps.length = pn) (hpl : pn ≤ 1000) (hfc : Figs cs) (hfp : Figs ps) (hKd : Kd ≤ 1000 ∧ D ≤ 1000 ∧ Wd ≤ 1000 ∧ Hi ≤ 1000) (ht : Tens w)
    (hO : ∀ w', Below w.heap.size w w' → Calls Tryd.prog 44 #[.agg #[.int .i64 (Kd : Int), .int .i64 (D : Int), .int .i64 (Wd : Int), .int .i64 (Hi : Int), .slice ca cn cc, .slice pa pn pc]] w' fun e w'' => e = .returned (.bool true) ∧ Below w'.heap.size w' w'') :
    Calls Tryd.prog 16 #[.agg #[.int .i64 (Kd : Int), .int .i64 (D : Int), .int .i64 (Wd : Int), .int .i64 (Hi : Int), .slice ca cn cc, .slice pa pn pc]] w fun e w' => e = .returned (.string ⟨(fgAll Kd D Wd Hi cs ps).toArray⟩) ∧ Below w.heap.size w w' := by
  have HO : Hid (∀ w', Below w.heap.size w w' → Calls Tryd.prog 44 #[.agg #[.int .i64 (Kd : Int), .int .i64 (D : Int), .int .i64 (Wd : Int), .int .i64 (Hi : Int), .slice ca cn cc, .slice pa pn pc]] w' fun e w'' => e = .returned (.bool true) ∧ Below w'.heap.size w' w'') := hO
  obtain ⟨HD, hHD⟩ : ∃ S : ByteArray, S = ⟨(figs [(Kd : Int), (D : Int), (Wd : Int), (Hi : Int)]).toArray⟩ := ⟨_, rfl⟩
  obtain ⟨H1, hH1⟩ : ∃ S : ByteArray, S = ⟨(Lib.decDigits Kd ++ [32] ++ Lib.decDigits D ++ [32] ++ Lib.decDigits Wd ++ [32] ++ Lib.decDigits Hi).toArray⟩ := ⟨_, rfl⟩
  obtain ⟨S4, hS4⟩ : ∃ S : ByteArray, S = ⟨(figs cs).toArray⟩ := ⟨_, rfl⟩
  obtain ⟨S5, hS5⟩ : ∃ S : ByteArray, S = ⟨(figs ps).toArray⟩ := ⟨_, rfl⟩
  have HH1 : Hid (HD.extract 1 HD.size = H1) := by show _ = _; rw [hHD, fg_head, ba_tail, hH1]
  have zH1 : H1.size ≤ 43 := by
    have d1 := dec_short (n := Kd) (by omega)
    have d2 := dec_short (n := D) (by omega)
    have d3 := dec_short (n := Wd) (by omega)
    have d4 := dec_short (n := Hi) (by omega)
    rw [hH1, str_size]
    simp only [List.length_append, List.length_singleton]
    omega
  have zHD : 1 ≤ HD.size := by rw [hHD, fg_head, str_size, List.length_cons]; omega
  have z4 : S4.size ≤ 11000 := by rw [hS4, str_size]; have := figs_len hfc; omega
  have z5 : S5.size ≤ 11000 := by rw [hS5, str_size]; have := figs_len hfp; omega
  have HLH : Hid (∀ (b : Nat) w', Below w.heap.size w w' → Ints w' (some ⟨b, 0, none⟩) [(Kd : Int), (D : Int), (Wd : Int), (Hi : Int)] → Calls Tryd.prog 45 #[.slice (some ⟨b, 0, none⟩) 4 4] w' fun e w'' => e = .returned (.string HD) ∧ Below w'.heap.size w' w'') := fun b w' k1 k2 => by
    rw [hHD]
    exact listFigures_any _ 4 4 _ w' k2 rfl (by omega) (fun n hn => by simp at hn; omega) (ht.below k1)
  have HL4 : Hid (∀ w', Below w.heap.size w w' → Calls Tryd.prog 45 #[.slice ca cn cc] w' fun e w'' => e = .returned (.string S4) ∧ Below w'.heap.size w' w'') := fun w' b => by rw [hS4]; exact listFigures_any ca cn cc cs w' (hc.kept b) hcn (by omega) hfc (ht.below b)
  have HL5 : Hid (∀ w', Below w.heap.size w w' → Calls Tryd.prog 45 #[.slice pa pn pc] w' fun e w'' => e = .returned (.string S5) ∧ Below w'.heap.size w' w'') := fun w' b => by rw [hS5]; exact listFigures_any pa pn pc ps w' (hp.kept b) hpn (by omega) hfp (ht.below b)
  obtain ⟨J1, hJ1⟩ : ∃ J : ByteArray, J = H1 ++ ⟨#[58]⟩ := ⟨_, rfl⟩
  have HJ1 : Hid (H1 ++ ⟨#[58]⟩ = J1) := hJ1.symm
  have zJ1 : J1.size ≤ 44 := by rw [hJ1, ByteArray.size_append]; show H1.size + 1 ≤ _; omega
  obtain ⟨J2, hJ2⟩ : ∃ J : ByteArray, J = J1 ++ S4 := ⟨_, rfl⟩
  have HJ2 : Hid (J1 ++ S4 = J2) := hJ2.symm
  have zJ2 : J2.size ≤ 11044 := by rw [hJ2, ByteArray.size_append]; omega
  obtain ⟨J3, hJ3⟩ : ∃ J : ByteArray, J = J2 ++ ⟨#[58]⟩ := ⟨_, rfl⟩
  have HJ3 : Hid (J2 ++ ⟨#[58]⟩ = J3) := hJ3.symm
  have zJ3 : J3.size ≤ 11045 := by rw [hJ3, ByteArray.size_append]; show J2.size + 1 ≤ _; omega
  obtain ⟨J4, hJ4⟩ : ∃ J : ByteArray, J = J3 ++ S5 := ⟨_, rfl⟩
  have HJ4 : Hid (J3 ++ S5 = J4) := hJ4.symm
  have zJ4 : J4.size ≤ 22045 := by rw [hJ4, ByteArray.size_append]; omega
  have HALL : Hid (J4 = ⟨(fgAll Kd D Wd Hi cs ps).toArray⟩) := by
    show _ = _
    rw [hJ4, hJ3, hJ2, hJ1, hH1, hS4, hS5]
    rw [show (⟨#[58]⟩ : ByteArray) = ⟨[58].toArray⟩ from rfl]
    simp only [str_two]
    rfl
  clear hc hp hcn hpn hfc hfp hO hKd ht hHD hH1 hS4 hS5 hJ1 hJ2 hJ3 hJ4
  obtain ⟨W0, hW0⟩ : ∃ W0, W0 = w.alloc (.cells #[.int .i64 (Kd : Int), .int .i64 (D : Int), .int .i64 (Wd : Int), .int .i64 (Hi : Int), .slice ca cn cc, .slice pa pn pc] 27) := ⟨_, rfl⟩
  obtain ⟨bx, hbx⟩ : ∃ bx, bx = w.heap.size := ⟨_, rfl⟩
  have b0 : Below w.heap.size w W0 := by rw [hW0]; exact (Below.refl _ _).alloc (Nat.le_refl _) _
  have X0 : Bx W0 bx (.int .i64 (Kd : Int)) (.int .i64 (D : Int)) (.int .i64 (Wd : Int)) (.int .i64 (Hi : Int)) (.slice ca cn cc) (.slice pa pn pc) := by rw [hW0, hbx]; exact bx_new w _ _ _ _ _ _ 27
  have HX0 : Hid (Bx W0 bx (.int .i64 (Kd : Int)) (.int .i64 (D : Int)) (.int .i64 (Wd : Int)) (.int .i64 (Hi : Int)) (.slice ca cn cc) (.slice pa pn pc)) := X0
  have HB0 : Hid (Below w.heap.size w W0) := b0
  obtain ⟨_, a0, a1, a2, a3, a4, a5⟩ := X0
  clear b0
  go_enter Tryd.func16, Tryd.ntmps16
  go_wp2_with fail
  rw [← hW0]
  refine (HO.out W0 HB0.out).mono ?_
  rintro e V0 ⟨rfl, bV⟩
  have HXV0 : Hid (Bx V0 bx (.int .i64 (Kd : Int)) (.int .i64 (D : Int)) (.int .i64 (Wd : Int)) (.int .i64 (Hi : Int)) (.slice ca cn cc) (.slice pa pn pc)) := HX0.out.kept bV
  have HBV0 : Hid (Below w.heap.size w V0) := HB0.out.trans (bV.mono HB0.out.size)
  clear bV HO HB0 HX0 a0 a1 a2 a3 a4 a5 hW0
  obtain ⟨hlt0, a0, a1, a2, a3, a4, a5⟩ := HXV0.out
  rw [← hbx]
  obtain ⟨V1, hV1⟩ : ∃ V1, V1 = V0.alloc (.cells #[.int .i64 (Kd : Int), .int .i64 (D : Int), .int .i64 (Wd : Int), .int .i64 (Hi : Int)] 3) := ⟨_, rfl⟩
  have b1 : Below V0.heap.size V0 V1 := by rw [hV1]; exact (Below.refl _ _).alloc (Nat.le_refl _) _
  have HI1 : Hid (Ints V1 (some ⟨V0.heap.size, 0, none⟩) [(Kd : Int), (D : Int), (Wd : Int), (Hi : Int)]) := by rw [hV1]; exact ints_new V0 _ _ rfl
  have HXV1 : Hid (Bx V1 bx (.int .i64 (Kd : Int)) (.int .i64 (D : Int)) (.int .i64 (Wd : Int)) (.int .i64 (Hi : Int)) (.slice ca cn cc) (.slice pa pn pc)) := HXV0.out.kept b1
  have HBV1 : Hid (Below w.heap.size w V1) := HBV0.out.trans (b1.mono HBV0.out.size)
  clear b1 hbx HXV0
  go_wp2_with fail
  rw [← hV1]
  clear hV1 a0 a1 a2 a3 a4 a5 hlt0
  refine (HLH.out _ V1 HBV1.out HI1.out).mono ?_
  rintro e V ⟨rfl, bV⟩
  have HXV : Hid (Bx V bx (.int .i64 (Kd : Int)) (.int .i64 (D : Int)) (.int .i64 (Wd : Int)) (.int .i64 (Hi : Int)) (.slice ca cn cc) (.slice pa pn pc)) := HXV1.out.kept bV
  have HB : Hid (Below w.heap.size w V) := HBV1.out.trans (bV.mono HBV1.out.size)
  have HC : Hid (∀ wz, Below V.heap.size V wz → Calls Tryd.prog 45 #[.slice ca cn cc] wz fun e w'' => e = .returned (.string S4) ∧ Below wz.heap.size wz w'') := fun wz b => HL4.out wz (HB.out.trans (b.mono HB.out.size))
  have HP : Hid (∀ wz, Below V.heap.size V wz → Calls Tryd.prog 45 #[.slice pa pn pc] wz fun e w'' => e = .returned (.string S5) ∧ Below wz.heap.size wz w'') := fun wz b => HL5.out wz (HB.out.trans (b.mono HB.out.size))
  clear bV HL4 HL5 HLH HI1 HXV1 HBV1 HBV0
  obtain ⟨hlt, c0, c1, c2, c3, c4, c5⟩ := HXV.out
  clear HXV
  go_wp2_with fail
  refine wp_region_told (S := (fun wz => Below V.heap.size V wz)) 12 29 [.is (.string HD), .is (.string H1), .is (.string J1), .is (.pointer (some ⟨bx, 4, none⟩)), .is (.slice ca cn cc), .is (.string S4), .is (.string J2), .is (.string J3), .is (.pointer (some ⟨bx, 5, none⟩)), .is (.slice pa pn pc), .is (.string S5), .is (.string J4)] (by kernel_rfl) (by kernel_rfl) (by rfl) (fun _ _ _ _ hd h => ⟨hd.trans h.1, h.2⟩) (fun vs => by simp only [puts, List.getElem?_toArray, List.getElem?_cons_succ, List.getElem?_cons_zero, Option.bind_some, Act.put, List.setIfInBounds_toArray, List.set_cons_zero, List.set_cons_succ]; exact rfl) ((Below.refl _ _).drew) ?_ ?_
  · refine TellsFrom.cons rfl (fun vs wz hS hd K hK => ?_) ?_
    · try dsimp only at hK ⊢
      try simp only [List.getElem_toArray, List.getElem_cons_succ, List.getElem_cons_zero, Act.put, List.setIfInBounds_toArray, List.set_cons_zero, List.set_cons_succ]
      go_simp
      exact hK.out _ _ hS (Below.refl _ _) rfl
    refine TellsFrom.cons rfl (fun vs wz hS hd K hK => ?_) ?_
    · try dsimp only at hK ⊢
      have h0 : vs 0 = (.string HD) := hd 0 (by kernel_rfl)
      generalize vs 0 = x0 at *
      subst h0
      try simp only [List.getElem_toArray, List.getElem_cons_succ, List.getElem_cons_zero, Act.put, List.setIfInBounds_toArray, List.set_cons_zero, List.set_cons_succ]
      have e := HH1.out
      have g1 : ¬ (HD.size : Int) < 1 := by omega
      have g2 : (1 : Int) ≤ (HD.size : Int) := by omega
      go_simp
      exact hK.out _ _ hS (Below.refl _ _) rfl
    refine TellsFrom.cons rfl (fun vs wz hS hd K hK => ?_) ?_
    · try dsimp only at hK ⊢
      have h1 : vs 1 = (.string H1) := hd 1 (by kernel_rfl)
      generalize vs 1 = x1 at *
      subst h1
      try simp only [List.getElem_toArray, List.getElem_cons_succ, List.getElem_cons_zero, Act.put, List.setIfInBounds_toArray, List.set_cons_zero, List.set_cons_succ]
      have e := HJ1.out
      have g : ¬ 9223372036854775807 < H1.size + 1 := by omega
      go_simp
      exact hK.out _ _ hS (Below.refl _ _) rfl
    refine TellsFrom.cons rfl (fun vs wz hS hd K hK => ?_) ?_
    · try dsimp only at hK ⊢
      try simp only [List.getElem_toArray, List.getElem_cons_succ, List.getElem_cons_zero, Act.put, List.setIfInBounds_toArray, List.set_cons_zero, List.set_cons_succ]
      go_simp
      exact hK.out _ _ hS (Below.refl _ _) rfl
    refine TellsFrom.cons rfl (fun vs wz hS hd K hK => ?_) ?_
    · try dsimp only at hK ⊢
      have h3 : vs 3 = (.pointer (some ⟨bx, 4, none⟩)) := hd 3 (by kernel_rfl)
      generalize vs 3 = x3 at *
      subst h3
      try simp only [List.getElem_toArray, List.getElem_cons_succ, List.getElem_cons_zero, Act.put, List.setIfInBounds_toArray, List.set_cons_zero, List.set_cons_succ]
      have q0 := (hS.cell (p := ⟨bx, 4, none⟩) hlt).trans c4
      go_simp
      exact hK.out _ _ hS (Below.refl _ _) rfl
    refine TellsFrom.cons rfl (fun vs wz hS hd K hK => ?_) ?_
    · try dsimp only at hK ⊢
      have h4 : vs 4 = (.slice ca cn cc) := hd 4 (by kernel_rfl)
      generalize vs 4 = x4 at *
      subst h4
      try simp only [List.getElem_toArray, List.getElem_cons_succ, List.getElem_cons_zero, Act.put, List.setIfInBounds_toArray, List.set_cons_zero, List.set_cons_succ]
      go_simp
      refine (HC.out _ hS).mono ?_
      rintro e v1 ⟨rfl, b1⟩
      exact hK.out _ _ (hS.trans (b1.mono hS.size)) b1 rfl
    refine TellsFrom.cons rfl (fun vs wz hS hd K hK => ?_) ?_
    · try dsimp only at hK ⊢
      have h2 : vs 2 = (.string J1) := hd 2 (by kernel_rfl)
      generalize vs 2 = x2 at *
      subst h2
      have h5 : vs 5 = (.string S4) := hd 5 (by kernel_rfl)
      generalize vs 5 = x5 at *
      subst h5
      try simp only [List.getElem_toArray, List.getElem_cons_succ, List.getElem_cons_zero, Act.put, List.setIfInBounds_toArray, List.set_cons_zero, List.set_cons_succ]
      have e := HJ2.out
      have g : ¬ 9223372036854775807 < J1.size + S4.size := by omega
      go_simp
      exact hK.out _ _ hS (Below.refl _ _) rfl
    refine TellsFrom.cons rfl (fun vs wz hS hd K hK => ?_) ?_
    · try dsimp only at hK ⊢
      have h6 : vs 6 = (.string J2) := hd 6 (by kernel_rfl)
      generalize vs 6 = x6 at *
      subst h6
      try simp only [List.getElem_toArray, List.getElem_cons_succ, List.getElem_cons_zero, Act.put, List.setIfInBounds_toArray, List.set_cons_zero, List.set_cons_succ]
      have e := HJ3.out
      have g : ¬ 9223372036854775807 < J2.size + 1 := by omega
      go_simp
      exact hK.out _ _ hS (Below.refl _ _) rfl
    refine TellsFrom.cons rfl (fun vs wz hS hd K hK => ?_) ?_
    · try dsimp only at hK ⊢
      try simp only [List.getElem_toArray, List.getElem_cons_succ, List.getElem_cons_zero, Act.put, List.setIfInBounds_toArray, List.set_cons_zero, List.set_cons_succ]
      go_simp
      exact hK.out _ _ hS (Below.refl _ _) rfl
    refine TellsFrom.cons rfl (fun vs wz hS hd K hK => ?_) ?_
    · try dsimp only at hK ⊢
      have h8 : vs 8 = (.pointer (some ⟨bx, 5, none⟩)) := hd 8 (by kernel_rfl)
      generalize vs 8 = x8 at *
      subst h8
      try simp only [List.getElem_toArray, List.getElem_cons_succ, List.getElem_cons_zero, Act.put, List.setIfInBounds_toArray, List.set_cons_zero, List.set_cons_succ]
      have q0 := (hS.cell (p := ⟨bx, 5, none⟩) hlt).trans c5
      go_simp
      exact hK.out _ _ hS (Below.refl _ _) rfl
    refine TellsFrom.cons rfl (fun vs wz hS hd K hK => ?_) ?_
    · try dsimp only at hK ⊢
      have h9 : vs 9 = (.slice pa pn pc) := hd 9 (by kernel_rfl)
      generalize vs 9 = x9 at *
      subst h9
      try simp only [List.getElem_toArray, List.getElem_cons_succ, List.getElem_cons_zero, Act.put, List.setIfInBounds_toArray, List.set_cons_zero, List.set_cons_succ]
      go_simp
      refine (HP.out _ hS).mono ?_
      rintro e v1 ⟨rfl, b1⟩
      exact hK.out _ _ (hS.trans (b1.mono hS.size)) b1 rfl
    refine TellsFrom.cons rfl (fun vs wz hS hd K hK => ?_) ?_
    · try dsimp only at hK ⊢
      have h7 : vs 7 = (.string J3) := hd 7 (by kernel_rfl)
      generalize vs 7 = x7 at *
      subst h7
      have h10 : vs 10 = (.string S5) := hd 10 (by kernel_rfl)
      generalize vs 10 = x10 at *
      subst h10
      try simp only [List.getElem_toArray, List.getElem_cons_succ, List.getElem_cons_zero, Act.put, List.setIfInBounds_toArray, List.set_cons_zero, List.set_cons_succ]
      have e := HJ4.out
      have g : ¬ 9223372036854775807 < J3.size + S5.size := by omega
      go_simp
      exact hK.out _ _ hS (Below.refl _ _) rfl
    exact TellsFrom.nil
  · intro vs wz hS hd
    try dsimp only
    have h11 : vs 11 = .string J4 := hd 11 (by omega)
    clear hd
    generalize vs 0 = y0 at *
    generalize vs 1 = y1 at *
    generalize vs 2 = y2 at *
    generalize vs 3 = y3 at *
    generalize vs 4 = y4 at *
    generalize vs 5 = y5 at *
    generalize vs 6 = y6 at *
    generalize vs 7 = y7 at *
    generalize vs 8 = y8 at *
    generalize vs 9 = y9 at *
    generalize vs 10 = y10 at *
    generalize vs 11 = y11 at *
    subst h11
    have HS1 : Hid (Below V.heap.size V wz) := hS
    clear hS
    refine wpAnyH_ready (rs := [12]) (by kernel_rfl) (by simp) ?_
    refine AllReadyH.cons rfl (fun K hK => ?_) AllReadyH.nil
    go_simp
    refine hK.out _ _ trivial (fun _ => ?_)
    clear hK K
    refine wpAnyH_done (by kernel_rfl) ?_ _
    try simp only [List.getElem_toArray, List.getElem_cons_succ, List.getElem_cons_zero, Act.put, List.setIfInBounds_toArray, List.set_cons_zero, List.set_cons_succ]
    go_wp2_with fail
    go_ret
    exact ⟨ret_str HALL.out, HB.out.trans (HS1.out.mono HB.out.size)⟩
end Go.Proofs.YtgfknlnpnnjkoaaDoor
