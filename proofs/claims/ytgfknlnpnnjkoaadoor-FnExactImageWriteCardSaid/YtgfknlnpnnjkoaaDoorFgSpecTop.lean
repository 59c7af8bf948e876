/- ImageWrite of the specification. -/
import Derived.Test.YtgfknlnpnnjkoaaDoorFgSpec
import Derived.Test.YtgfknlnpnnjkoaaDoorImgSpec3
import Derived.Test.YtgfknlnpnnjkoaaDoorPicLaw
import Derived.Test.YtgfknlnpnnjkoaaDoorEachReg
namespace Go.Proofs.YtgfknlnpnnjkoaaDoor
open Go.RowKit

def fgAll (k d wd hi : Int) (cs ps : List Int) : List UInt8 := Lib.decDigits k.toNat ++ [32] ++ Lib.decDigits d.toNat ++ [32] ++ Lib.decDigits wd.toNat ++ [32] ++ Lib.decDigits hi.toNat ++ [58] ++ figs cs ++ [58] ++ figs ps
set_option linter.unusedSimpArgs false in
set_option linter.unusedVariables false in
set_option maxHeartbeats 8000000 in
set_option maxRecDepth 20000 in
theorem spec_imageWrite_yes (Kd D Wd Hi : Nat) (ca : Option Addr) (cn cc : Nat) (pa : Option Addr) (pn pc : Nat) (cs ps : List Int) (w : World) (hc : Ints w ca cs) (hcn : cs.length = cn) (hcl : cn ≤ 1000) (hp : Ints w pa ps) (hpn : ps.length = pn) (hpl : pn ≤ 1000) (hfc : Figs cs) (hfp : Figs ps) (hKd : Kd ≤ 1000 ∧ D ≤ 1000 ∧ Wd ≤ 1000 ∧ Hi ≤ 1000)
    (hO : ∀ w', Below w.heap.size w w' → Calls Tryd.prog 18 #[.agg #[.int .i64 (Kd : Int), .int .i64 (D : Int), .int .i64 (Wd : Int), .int .i64 (Hi : Int), .slice ca cn cc, .slice pa pn pc]] w' fun e w'' => e = .returned (.bool true) ∧ Below w'.heap.size w' w'') :
    Calls Tryd.prog 15 #[.agg #[.int .i64 (Kd : Int), .int .i64 (D : Int), .int .i64 (Wd : Int), .int .i64 (Hi : Int), .slice ca cn cc, .slice pa pn pc]] w fun e w' => e = .returned (.string ⟨(fgAll Kd D Wd Hi cs ps).toArray⟩) ∧ Below w.heap.size w w' := by
  have HO : Hid (∀ w', Below w.heap.size w w' → Calls Tryd.prog 18 #[.agg #[.int .i64 (Kd : Int), .int .i64 (D : Int), .int .i64 (Wd : Int), .int .i64 (Hi : Int), .slice ca cn cc, .slice pa pn pc]] w' fun e w'' => e = .returned (.bool true) ∧ Below w'.heap.size w' w'') := hO
  have HI : Hid (Ints w ca cs ∧ Ints w pa ps ∧ cs.length = cn ∧ ps.length = pn ∧ Figs cs ∧ Figs ps) := ⟨hc, hp, hcn, hpn, hfc, hfp⟩
  obtain ⟨S0, hS0⟩ : ∃ S : ByteArray, S = ⟨(Lib.decDigits Kd).toArray⟩ := ⟨_, rfl⟩
  obtain ⟨S1, hS1⟩ : ∃ S : ByteArray, S = ⟨(Lib.decDigits D).toArray⟩ := ⟨_, rfl⟩
  obtain ⟨S2, hS2⟩ : ∃ S : ByteArray, S = ⟨(Lib.decDigits Wd).toArray⟩ := ⟨_, rfl⟩
  obtain ⟨S3, hS3⟩ : ∃ S : ByteArray, S = ⟨(Lib.decDigits Hi).toArray⟩ := ⟨_, rfl⟩
  obtain ⟨S4, hS4⟩ : ∃ S : ByteArray, S = ⟨(figs cs).toArray⟩ := ⟨_, rfl⟩
  obtain ⟨S5, hS5⟩ : ∃ S : ByteArray, S = ⟨(figs ps).toArray⟩ := ⟨_, rfl⟩
  have z0 : S0.size ≤ 10 := by rw [hS0, str_size]; exact dec_short (by omega)
  have z1 : S1.size ≤ 10 := by rw [hS1, str_size]; exact dec_short (by omega)
  have z2 : S2.size ≤ 10 := by rw [hS2, str_size]; exact dec_short (by omega)
  have z3 : S3.size ≤ 10 := by rw [hS3, str_size]; exact dec_short (by omega)
  have z4 : S4.size ≤ 11000 := by rw [hS4, str_size]; have := figs_len hfc; omega
  have z5 : S5.size ≤ 11000 := by rw [hS5, str_size]; have := figs_len hfp; omega
  have HD0 : Hid (∀ w, Calls Tryd.prog 42 #[.int .i64 (Kd : Int)] w fun e w' => e = .returned (.string S0) ∧ Below w.heap.size w w') := fun w => by rw [hS0]; exact l1Dec_any Kd (by omega) w
  have HD1 : Hid (∀ w, Calls Tryd.prog 42 #[.int .i64 (D : Int)] w fun e w' => e = .returned (.string S1) ∧ Below w.heap.size w w') := fun w => by rw [hS1]; exact l1Dec_any D (by omega) w
  have HD2 : Hid (∀ w, Calls Tryd.prog 42 #[.int .i64 (Wd : Int)] w fun e w' => e = .returned (.string S2) ∧ Below w.heap.size w w') := fun w => by rw [hS2]; exact l1Dec_any Wd (by omega) w
  have HD3 : Hid (∀ w, Calls Tryd.prog 42 #[.int .i64 (Hi : Int)] w fun e w' => e = .returned (.string S3) ∧ Below w.heap.size w w') := fun w => by rw [hS3]; exact l1Dec_any Hi (by omega) w
  have HL4 : Hid (∀ w', Below w.heap.size w w' → Calls Tryd.prog 43 #[.slice ca cn cc] w' fun e w'' => e = .returned (.string S4) ∧ Below w'.heap.size w' w'') := fun w' b => by rw [hS4]; exact l12List_any ca cn cc cs w' (hc.kept b) hcn (by omega) hfc
  have HL5 : Hid (∀ w', Below w.heap.size w w' → Calls Tryd.prog 43 #[.slice pa pn pc] w' fun e w'' => e = .returned (.string S5) ∧ Below w'.heap.size w' w'') := fun w' b => by rw [hS5]; exact l12List_any pa pn pc ps w' (hp.kept b) hpn (by omega) hfp
  obtain ⟨J1, hJ1⟩ : ∃ J : ByteArray, J = S0 ++ ⟨#[32]⟩ := ⟨_, rfl⟩
  have HJ1 : Hid (S0 ++ ⟨#[32]⟩ = J1) := hJ1.symm
  have zJ1 : J1.size ≤ 11 := by rw [hJ1, ByteArray.size_append]; show S0.size + 1 ≤ _; omega
  obtain ⟨J2, hJ2⟩ : ∃ J : ByteArray, J = J1 ++ S1 := ⟨_, rfl⟩
  have HJ2 : Hid (J1 ++ S1 = J2) := hJ2.symm
  have zJ2 : J2.size ≤ 21 := by rw [hJ2, ByteArray.size_append]; omega
  obtain ⟨J3, hJ3⟩ : ∃ J : ByteArray, J = J2 ++ ⟨#[32]⟩ := ⟨_, rfl⟩
  have HJ3 : Hid (J2 ++ ⟨#[32]⟩ = J3) := hJ3.symm
  have zJ3 : J3.size ≤ 22 := by rw [hJ3, ByteArray.size_append]; show J2.size + 1 ≤ _; omega
  obtain ⟨J4, hJ4⟩ : ∃ J : ByteArray, J = J3 ++ S2 := ⟨_, rfl⟩
  have HJ4 : Hid (J3 ++ S2 = J4) := hJ4.symm
  have zJ4 : J4.size ≤ 32 := by rw [hJ4, ByteArray.size_append]; omega
  obtain ⟨J5, hJ5⟩ : ∃ J : ByteArray, J = J4 ++ ⟨#[32]⟩ := ⟨_, rfl⟩
  have HJ5 : Hid (J4 ++ ⟨#[32]⟩ = J5) := hJ5.symm
  have zJ5 : J5.size ≤ 33 := by rw [hJ5, ByteArray.size_append]; show J4.size + 1 ≤ _; omega
  obtain ⟨J6, hJ6⟩ : ∃ J : ByteArray, J = J5 ++ S3 := ⟨_, rfl⟩
  have HJ6 : Hid (J5 ++ S3 = J6) := hJ6.symm
  have zJ6 : J6.size ≤ 43 := by rw [hJ6, ByteArray.size_append]; omega
  obtain ⟨J7, hJ7⟩ : ∃ J : ByteArray, J = J6 ++ ⟨#[58]⟩ := ⟨_, rfl⟩
  have HJ7 : Hid (J6 ++ ⟨#[58]⟩ = J7) := hJ7.symm
  have zJ7 : J7.size ≤ 44 := by rw [hJ7, ByteArray.size_append]; show J6.size + 1 ≤ _; omega
  obtain ⟨J8, hJ8⟩ : ∃ J : ByteArray, J = J7 ++ S4 := ⟨_, rfl⟩
  have HJ8 : Hid (J7 ++ S4 = J8) := hJ8.symm
  have zJ8 : J8.size ≤ 11044 := by rw [hJ8, ByteArray.size_append]; omega
  obtain ⟨J9, hJ9⟩ : ∃ J : ByteArray, J = J8 ++ ⟨#[58]⟩ := ⟨_, rfl⟩
  have HJ9 : Hid (J8 ++ ⟨#[58]⟩ = J9) := hJ9.symm
  have zJ9 : J9.size ≤ 11045 := by rw [hJ9, ByteArray.size_append]; show J8.size + 1 ≤ _; omega
  obtain ⟨J10, hJ10⟩ : ∃ J : ByteArray, J = J9 ++ S5 := ⟨_, rfl⟩
  have HJ10 : Hid (J9 ++ S5 = J10) := hJ10.symm
  have zJ10 : J10.size ≤ 22045 := by rw [hJ10, ByteArray.size_append]; omega
  have HALL : Hid (J10 = ⟨(fgAll Kd D Wd Hi cs ps).toArray⟩) := by
    show _ = _
    rw [hJ10, hJ9, hJ8, hJ7, hJ6, hJ5, hJ4, hJ3, hJ2, hJ1]
    rw [hS0, hS1, hS2, hS3, hS4, hS5]
    rw [show (⟨#[32]⟩ : ByteArray) = ⟨[32].toArray⟩ from rfl, show (⟨#[58]⟩ : ByteArray) = ⟨[58].toArray⟩ from rfl]
    simp only [str_two]
    rfl
  clear hc hp hcn hpn hfc hfp hO hKd HI hS0 hS1 hS2 hS3 hS4 hS5 hJ1 hJ2 hJ3 hJ4 hJ5 hJ6 hJ7 hJ8 hJ9 hJ10
  obtain ⟨W0, hW0⟩ : ∃ W0, W0 = w.alloc (.cells #[.int .i64 (Kd : Int), .int .i64 (D : Int), .int .i64 (Wd : Int), .int .i64 (Hi : Int), .slice ca cn cc, .slice pa pn pc] 27) := ⟨_, rfl⟩
  obtain ⟨bx, hbx⟩ : ∃ bx, bx = w.heap.size := ⟨_, rfl⟩
  have b0 : Below w.heap.size w W0 := by rw [hW0]; exact (Below.refl _ _).alloc (Nat.le_refl _) _
  have X0 : Bx W0 bx (.int .i64 (Kd : Int)) (.int .i64 (D : Int)) (.int .i64 (Wd : Int)) (.int .i64 (Hi : Int)) (.slice ca cn cc) (.slice pa pn pc) := by rw [hW0, hbx]; exact bx_new w _ _ _ _ _ _ 27
  have HX0 : Hid (Bx W0 bx (.int .i64 (Kd : Int)) (.int .i64 (D : Int)) (.int .i64 (Wd : Int)) (.int .i64 (Hi : Int)) (.slice ca cn cc) (.slice pa pn pc)) := X0
  have HB0 : Hid (Below w.heap.size w W0) := b0
  obtain ⟨_, a0, a1, a2, a3, a4, a5⟩ := X0
  clear b0
  go_enter Tryd.func15, Tryd.ntmps15
  go_wp2_with fail
  rw [← hW0]
  refine (HO.out W0 HB0.out).mono ?_
  rintro e V ⟨rfl, bV⟩
  have HXV : Hid (Bx V bx (.int .i64 (Kd : Int)) (.int .i64 (D : Int)) (.int .i64 (Wd : Int)) (.int .i64 (Hi : Int)) (.slice ca cn cc) (.slice pa pn pc)) := HX0.out.kept bV
  have HB : Hid (Below w.heap.size w V) := HB0.out.trans (bV.mono HB0.out.size)
  have HC : Hid (∀ wz, Below V.heap.size V wz → Calls Tryd.prog 43 #[.slice ca cn cc] wz fun e w'' => e = .returned (.string S4) ∧ Below wz.heap.size wz w'') := fun wz b => HL4.out wz (HB.out.trans (b.mono HB.out.size))
  have HP : Hid (∀ wz, Below V.heap.size V wz → Calls Tryd.prog 43 #[.slice pa pn pc] wz fun e w'' => e = .returned (.string S5) ∧ Below wz.heap.size wz w'') := fun wz b => HL5.out wz (HB.out.trans (b.mono HB.out.size))
  clear bV HO HB0 HX0 a0 a1 a2 a3 a4 a5 hW0 HL4 HL5
  obtain ⟨hlt, c0, c1, c2, c3, c4, c5⟩ := HXV.out
  rw [← hbx]
  clear HXV hbx
  go_wp2_with fail
  refine wp_region_told (S := (fun wz => Below V.heap.size V wz)) 28 34 [.is (.pointer (some ⟨bx, 0, none⟩)), .is (.int .i64 (Kd : Int)), .is (.string S0), .is (.string J1), .is (.pointer (some ⟨bx, 1, none⟩)), .is (.int .i64 (D : Int)), .is (.string S1), .is (.string J2), .is (.string J3), .is (.pointer (some ⟨bx, 2, none⟩)), .is (.int .i64 (Wd : Int)), .is (.string S2), .is (.string J4), .is (.string J5), .is (.pointer (some ⟨bx, 3, none⟩)), .is (.int .i64 (Hi : Int)), .is (.string S3), .is (.string J6), .is (.string J7), .is (.pointer (some ⟨bx, 4, none⟩)), .is (.slice ca cn cc), .is (.string S4), .is (.string J8), .is (.string J9), .is (.pointer (some ⟨bx, 5, none⟩)), .is (.slice pa pn pc), .is (.string S5), .is (.string J10)] (by kernel_rfl) (by kernel_rfl) (by rfl) (fun _ _ _ _ hd h => ⟨hd.trans h.1, h.2⟩) (fun vs => by simp only [puts, List.getElem?_toArray, List.getElem?_cons_succ, List.getElem?_cons_zero, Option.bind_some, Act.put, List.setIfInBounds_toArray, List.set_cons_zero, List.set_cons_succ]; exact rfl) ((Below.refl _ _).drew) ?_ ?_
  · refine TellsFrom.cons rfl (fun vs wz hS hd K hK => ?_) ?_
    · try dsimp only at hK ⊢
      try simp only [List.getElem_toArray, List.getElem_cons_succ, List.getElem_cons_zero, Act.put, List.setIfInBounds_toArray, List.set_cons_zero, List.set_cons_succ]
      go_simp
      exact hK.out _ _ hS (Below.refl _ _) rfl
    refine TellsFrom.cons rfl (fun vs wz hS hd K hK => ?_) ?_
    · try dsimp only at hK ⊢
      have h0 : vs 0 = (.pointer (some ⟨bx, 0, none⟩)) := hd 0 (by kernel_rfl)
      generalize vs 0 = x0 at *
      subst h0
      try simp only [List.getElem_toArray, List.getElem_cons_succ, List.getElem_cons_zero, Act.put, List.setIfInBounds_toArray, List.set_cons_zero, List.set_cons_succ]
      have q0 := (hS.cell (p := ⟨bx, 0, none⟩) hlt).trans c0
      go_simp
      exact hK.out _ _ hS (Below.refl _ _) rfl
    refine TellsFrom.cons rfl (fun vs wz hS hd K hK => ?_) ?_
    · try dsimp only at hK ⊢
      have h1 : vs 1 = (.int .i64 (Kd : Int)) := hd 1 (by kernel_rfl)
      generalize vs 1 = x1 at *
      subst h1
      try simp only [List.getElem_toArray, List.getElem_cons_succ, List.getElem_cons_zero, Act.put, List.setIfInBounds_toArray, List.set_cons_zero, List.set_cons_succ]
      go_simp
      refine (HD0.out _).mono ?_
      rintro e v1 ⟨rfl, b1⟩
      exact hK.out _ _ (hS.trans (b1.mono hS.size)) b1 rfl
    refine TellsFrom.cons rfl (fun vs wz hS hd K hK => ?_) ?_
    · try dsimp only at hK ⊢
      have h2 : vs 2 = (.string S0) := hd 2 (by kernel_rfl)
      generalize vs 2 = x2 at *
      subst h2
      try simp only [List.getElem_toArray, List.getElem_cons_succ, List.getElem_cons_zero, Act.put, List.setIfInBounds_toArray, List.set_cons_zero, List.set_cons_succ]
      have e := HJ1.out
      have g : ¬ 9223372036854775807 < S0.size + 1 := by omega
      go_simp
      exact hK.out _ _ hS (Below.refl _ _) rfl
    refine TellsFrom.cons rfl (fun vs wz hS hd K hK => ?_) ?_
    · try dsimp only at hK ⊢
      try simp only [List.getElem_toArray, List.getElem_cons_succ, List.getElem_cons_zero, Act.put, List.setIfInBounds_toArray, List.set_cons_zero, List.set_cons_succ]
      go_simp
      exact hK.out _ _ hS (Below.refl _ _) rfl
    refine TellsFrom.cons rfl (fun vs wz hS hd K hK => ?_) ?_
    · try dsimp only at hK ⊢
      have h4 : vs 4 = (.pointer (some ⟨bx, 1, none⟩)) := hd 4 (by kernel_rfl)
      generalize vs 4 = x4 at *
      subst h4
      try simp only [List.getElem_toArray, List.getElem_cons_succ, List.getElem_cons_zero, Act.put, List.setIfInBounds_toArray, List.set_cons_zero, List.set_cons_succ]
      have q0 := (hS.cell (p := ⟨bx, 1, none⟩) hlt).trans c1
      go_simp
      exact hK.out _ _ hS (Below.refl _ _) rfl
    refine TellsFrom.cons rfl (fun vs wz hS hd K hK => ?_) ?_
    · try dsimp only at hK ⊢
      have h5 : vs 5 = (.int .i64 (D : Int)) := hd 5 (by kernel_rfl)
      generalize vs 5 = x5 at *
      subst h5
      try simp only [List.getElem_toArray, List.getElem_cons_succ, List.getElem_cons_zero, Act.put, List.setIfInBounds_toArray, List.set_cons_zero, List.set_cons_succ]
      go_simp
      refine (HD1.out _).mono ?_
      rintro e v1 ⟨rfl, b1⟩
      exact hK.out _ _ (hS.trans (b1.mono hS.size)) b1 rfl
    refine TellsFrom.cons rfl (fun vs wz hS hd K hK => ?_) ?_
    · try dsimp only at hK ⊢
      have h3 : vs 3 = (.string J1) := hd 3 (by kernel_rfl)
      generalize vs 3 = x3 at *
      subst h3
      have h6 : vs 6 = (.string S1) := hd 6 (by kernel_rfl)
      generalize vs 6 = x6 at *
      subst h6
      try simp only [List.getElem_toArray, List.getElem_cons_succ, List.getElem_cons_zero, Act.put, List.setIfInBounds_toArray, List.set_cons_zero, List.set_cons_succ]
      have e := HJ2.out
      have g : ¬ 9223372036854775807 < J1.size + S1.size := by omega
      go_simp
      exact hK.out _ _ hS (Below.refl _ _) rfl
    refine TellsFrom.cons rfl (fun vs wz hS hd K hK => ?_) ?_
    · try dsimp only at hK ⊢
      have h7 : vs 7 = (.string J2) := hd 7 (by kernel_rfl)
      generalize vs 7 = x7 at *
      subst h7
      try simp only [List.getElem_toArray, List.getElem_cons_succ, List.getElem_cons_zero, Act.put, List.setIfInBounds_toArray, List.set_cons_zero, List.set_cons_succ]
      have e := HJ3.out
      have g : ¬ 9223372036854775807 < J2.size + 1 := by omega
      go_simp
      exact hK.out _ _ hS (Below.refl _ _) rfl
    refine TellsFrom.cons rfl (fun vs wz hS hd K hK => ?_) ?_
    · try dsimp only at hK ⊢
      try simp only [List.getElem_toArray, List.getElem_cons_succ, List.getElem_cons_zero, Act.put, List.setIfInBounds_toArray, List.set_cons_zero, List.set_cons_succ]
      go_simp
      exact hK.out _ _ hS (Below.refl _ _) rfl
    refine TellsFrom.cons rfl (fun vs wz hS hd K hK => ?_) ?_
    · try dsimp only at hK ⊢
      have h9 : vs 9 = (.pointer (some ⟨bx, 2, none⟩)) := hd 9 (by kernel_rfl)
      generalize vs 9 = x9 at *
      subst h9
      try simp only [List.getElem_toArray, List.getElem_cons_succ, List.getElem_cons_zero, Act.put, List.setIfInBounds_toArray, List.set_cons_zero, List.set_cons_succ]
      have q0 := (hS.cell (p := ⟨bx, 2, none⟩) hlt).trans c2
      go_simp
      exact hK.out _ _ hS (Below.refl _ _) rfl
    refine TellsFrom.cons rfl (fun vs wz hS hd K hK => ?_) ?_
    · try dsimp only at hK ⊢
      have h10 : vs 10 = (.int .i64 (Wd : Int)) := hd 10 (by kernel_rfl)
      generalize vs 10 = x10 at *
      subst h10
      try simp only [List.getElem_toArray, List.getElem_cons_succ, List.getElem_cons_zero, Act.put, List.setIfInBounds_toArray, List.set_cons_zero, List.set_cons_succ]
      go_simp
      refine (HD2.out _).mono ?_
      rintro e v1 ⟨rfl, b1⟩
      exact hK.out _ _ (hS.trans (b1.mono hS.size)) b1 rfl
    refine TellsFrom.cons rfl (fun vs wz hS hd K hK => ?_) ?_
    · try dsimp only at hK ⊢
      have h8 : vs 8 = (.string J3) := hd 8 (by kernel_rfl)
      generalize vs 8 = x8 at *
      subst h8
      have h11 : vs 11 = (.string S2) := hd 11 (by kernel_rfl)
      generalize vs 11 = x11 at *
      subst h11
      try simp only [List.getElem_toArray, List.getElem_cons_succ, List.getElem_cons_zero, Act.put, List.setIfInBounds_toArray, List.set_cons_zero, List.set_cons_succ]
      have e := HJ4.out
      have g : ¬ 9223372036854775807 < J3.size + S2.size := by omega
      go_simp
      exact hK.out _ _ hS (Below.refl _ _) rfl
    refine TellsFrom.cons rfl (fun vs wz hS hd K hK => ?_) ?_
    · try dsimp only at hK ⊢
      have h12 : vs 12 = (.string J4) := hd 12 (by kernel_rfl)
      generalize vs 12 = x12 at *
      subst h12
      try simp only [List.getElem_toArray, List.getElem_cons_succ, List.getElem_cons_zero, Act.put, List.setIfInBounds_toArray, List.set_cons_zero, List.set_cons_succ]
      have e := HJ5.out
      have g : ¬ 9223372036854775807 < J4.size + 1 := by omega
      go_simp
      exact hK.out _ _ hS (Below.refl _ _) rfl
    refine TellsFrom.cons rfl (fun vs wz hS hd K hK => ?_) ?_
    · try dsimp only at hK ⊢
      try simp only [List.getElem_toArray, List.getElem_cons_succ, List.getElem_cons_zero, Act.put, List.setIfInBounds_toArray, List.set_cons_zero, List.set_cons_succ]
      go_simp
      exact hK.out _ _ hS (Below.refl _ _) rfl
    refine TellsFrom.cons rfl (fun vs wz hS hd K hK => ?_) ?_
    · try dsimp only at hK ⊢
      have h14 : vs 14 = (.pointer (some ⟨bx, 3, none⟩)) := hd 14 (by kernel_rfl)
      generalize vs 14 = x14 at *
      subst h14
      try simp only [List.getElem_toArray, List.getElem_cons_succ, List.getElem_cons_zero, Act.put, List.setIfInBounds_toArray, List.set_cons_zero, List.set_cons_succ]
      have q0 := (hS.cell (p := ⟨bx, 3, none⟩) hlt).trans c3
      go_simp
      exact hK.out _ _ hS (Below.refl _ _) rfl
    refine TellsFrom.cons rfl (fun vs wz hS hd K hK => ?_) ?_
    · try dsimp only at hK ⊢
      have h15 : vs 15 = (.int .i64 (Hi : Int)) := hd 15 (by kernel_rfl)
      generalize vs 15 = x15 at *
      subst h15
      try simp only [List.getElem_toArray, List.getElem_cons_succ, List.getElem_cons_zero, Act.put, List.setIfInBounds_toArray, List.set_cons_zero, List.set_cons_succ]
      go_simp
      refine (HD3.out _).mono ?_
      rintro e v1 ⟨rfl, b1⟩
      exact hK.out _ _ (hS.trans (b1.mono hS.size)) b1 rfl
    refine TellsFrom.cons rfl (fun vs wz hS hd K hK => ?_) ?_
    · try dsimp only at hK ⊢
      have h13 : vs 13 = (.string J5) := hd 13 (by kernel_rfl)
      generalize vs 13 = x13 at *
      subst h13
      have h16 : vs 16 = (.string S3) := hd 16 (by kernel_rfl)
      generalize vs 16 = x16 at *
      subst h16
      try simp only [List.getElem_toArray, List.getElem_cons_succ, List.getElem_cons_zero, Act.put, List.setIfInBounds_toArray, List.set_cons_zero, List.set_cons_succ]
      have e := HJ6.out
      have g : ¬ 9223372036854775807 < J5.size + S3.size := by omega
      go_simp
      exact hK.out _ _ hS (Below.refl _ _) rfl
    refine TellsFrom.cons rfl (fun vs wz hS hd K hK => ?_) ?_
    · try dsimp only at hK ⊢
      have h17 : vs 17 = (.string J6) := hd 17 (by kernel_rfl)
      generalize vs 17 = x17 at *
      subst h17
      try simp only [List.getElem_toArray, List.getElem_cons_succ, List.getElem_cons_zero, Act.put, List.setIfInBounds_toArray, List.set_cons_zero, List.set_cons_succ]
      have e := HJ7.out
      have g : ¬ 9223372036854775807 < J6.size + 1 := by omega
      go_simp
      exact hK.out _ _ hS (Below.refl _ _) rfl
    refine TellsFrom.cons rfl (fun vs wz hS hd K hK => ?_) ?_
    · try dsimp only at hK ⊢
      try simp only [List.getElem_toArray, List.getElem_cons_succ, List.getElem_cons_zero, Act.put, List.setIfInBounds_toArray, List.set_cons_zero, List.set_cons_succ]
      go_simp
      exact hK.out _ _ hS (Below.refl _ _) rfl
    refine TellsFrom.cons rfl (fun vs wz hS hd K hK => ?_) ?_
    · try dsimp only at hK ⊢
      have h19 : vs 19 = (.pointer (some ⟨bx, 4, none⟩)) := hd 19 (by kernel_rfl)
      generalize vs 19 = x19 at *
      subst h19
      try simp only [List.getElem_toArray, List.getElem_cons_succ, List.getElem_cons_zero, Act.put, List.setIfInBounds_toArray, List.set_cons_zero, List.set_cons_succ]
      have q0 := (hS.cell (p := ⟨bx, 4, none⟩) hlt).trans c4
      go_simp
      exact hK.out _ _ hS (Below.refl _ _) rfl
    refine TellsFrom.cons rfl (fun vs wz hS hd K hK => ?_) ?_
    · try dsimp only at hK ⊢
      have h20 : vs 20 = (.slice ca cn cc) := hd 20 (by kernel_rfl)
      generalize vs 20 = x20 at *
      subst h20
      try simp only [List.getElem_toArray, List.getElem_cons_succ, List.getElem_cons_zero, Act.put, List.setIfInBounds_toArray, List.set_cons_zero, List.set_cons_succ]
      go_simp
      refine (HC.out _ hS).mono ?_
      rintro e v1 ⟨rfl, b1⟩
      exact hK.out _ _ (hS.trans (b1.mono hS.size)) b1 rfl
    refine TellsFrom.cons rfl (fun vs wz hS hd K hK => ?_) ?_
    · try dsimp only at hK ⊢
      have h18 : vs 18 = (.string J7) := hd 18 (by kernel_rfl)
      generalize vs 18 = x18 at *
      subst h18
      have h21 : vs 21 = (.string S4) := hd 21 (by kernel_rfl)
      generalize vs 21 = x21 at *
      subst h21
      try simp only [List.getElem_toArray, List.getElem_cons_succ, List.getElem_cons_zero, Act.put, List.setIfInBounds_toArray, List.set_cons_zero, List.set_cons_succ]
      have e := HJ8.out
      have g : ¬ 9223372036854775807 < J7.size + S4.size := by omega
      go_simp
      exact hK.out _ _ hS (Below.refl _ _) rfl
    refine TellsFrom.cons rfl (fun vs wz hS hd K hK => ?_) ?_
    · try dsimp only at hK ⊢
      have h22 : vs 22 = (.string J8) := hd 22 (by kernel_rfl)
      generalize vs 22 = x22 at *
      subst h22
      try simp only [List.getElem_toArray, List.getElem_cons_succ, List.getElem_cons_zero, Act.put, List.setIfInBounds_toArray, List.set_cons_zero, List.set_cons_succ]
      have e := HJ9.out
      have g : ¬ 9223372036854775807 < J8.size + 1 := by omega
      go_simp
      exact hK.out _ _ hS (Below.refl _ _) rfl
    refine TellsFrom.cons rfl (fun vs wz hS hd K hK => ?_) ?_
    · try dsimp only at hK ⊢
      try simp only [List.getElem_toArray, List.getElem_cons_succ, List.getElem_cons_zero, Act.put, List.setIfInBounds_toArray, List.set_cons_zero, List.set_cons_succ]
      go_simp
      exact hK.out _ _ hS (Below.refl _ _) rfl
    refine TellsFrom.cons rfl (fun vs wz hS hd K hK => ?_) ?_
    · try dsimp only at hK ⊢
      have h24 : vs 24 = (.pointer (some ⟨bx, 5, none⟩)) := hd 24 (by kernel_rfl)
      generalize vs 24 = x24 at *
      subst h24
      try simp only [List.getElem_toArray, List.getElem_cons_succ, List.getElem_cons_zero, Act.put, List.setIfInBounds_toArray, List.set_cons_zero, List.set_cons_succ]
      have q0 := (hS.cell (p := ⟨bx, 5, none⟩) hlt).trans c5
      go_simp
      exact hK.out _ _ hS (Below.refl _ _) rfl
    refine TellsFrom.cons rfl (fun vs wz hS hd K hK => ?_) ?_
    · try dsimp only at hK ⊢
      have h25 : vs 25 = (.slice pa pn pc) := hd 25 (by kernel_rfl)
      generalize vs 25 = x25 at *
      subst h25
      try simp only [List.getElem_toArray, List.getElem_cons_succ, List.getElem_cons_zero, Act.put, List.setIfInBounds_toArray, List.set_cons_zero, List.set_cons_succ]
      go_simp
      refine (HP.out _ hS).mono ?_
      rintro e v1 ⟨rfl, b1⟩
      exact hK.out _ _ (hS.trans (b1.mono hS.size)) b1 rfl
    refine TellsFrom.cons rfl (fun vs wz hS hd K hK => ?_) ?_
    · try dsimp only at hK ⊢
      have h23 : vs 23 = (.string J9) := hd 23 (by kernel_rfl)
      generalize vs 23 = x23 at *
      subst h23
      have h26 : vs 26 = (.string S5) := hd 26 (by kernel_rfl)
      generalize vs 26 = x26 at *
      subst h26
      try simp only [List.getElem_toArray, List.getElem_cons_succ, List.getElem_cons_zero, Act.put, List.setIfInBounds_toArray, List.set_cons_zero, List.set_cons_succ]
      have e := HJ10.out
      have g : ¬ 9223372036854775807 < J9.size + S5.size := by omega
      go_simp
      exact hK.out _ _ hS (Below.refl _ _) rfl
    exact TellsFrom.nil
  · intro vs wz hS hd
    try dsimp only
    have h27 : vs 27 = .string J10 := hd 27 (by omega)
    clear hd
    generalize vs 0 = y0 at *
    generalize vs 1 = y1 at *
    generalize vs 2 = y2 at *
    generalize vs 3 = y3 at *
    generalize vs 4 = y4 at *
    generalize vs 5 = y5 at *
    generalize vs 6 = y6 at *
    generalize vs 7 = y7 at *
    generalize vs 8 = y8 at *
    generalize vs 9 = y9 at *
    generalize vs 10 = y10 at *
    generalize vs 11 = y11 at *
    generalize vs 12 = y12 at *
    generalize vs 13 = y13 at *
    generalize vs 14 = y14 at *
    generalize vs 15 = y15 at *
    generalize vs 16 = y16 at *
    generalize vs 17 = y17 at *
    generalize vs 18 = y18 at *
    generalize vs 19 = y19 at *
    generalize vs 20 = y20 at *
    generalize vs 21 = y21 at *
    generalize vs 22 = y22 at *
    generalize vs 23 = y23 at *
    generalize vs 24 = y24 at *
    generalize vs 25 = y25 at *
    generalize vs 26 = y26 at *
    generalize vs 27 = y27 at *
    subst h27
    have HS1 : Hid (Below V.heap.size V wz) := hS
    clear hS
    refine wpAnyH_ready (rs := [28]) (by kernel_rfl) (by simp) ?_
    refine AllReadyH.cons rfl (fun K hK => ?_) AllReadyH.nil
    go_simp
    refine hK.out _ _ trivial (fun _ => ?_)
    clear hK K
    refine wpAnyH_done (by kernel_rfl) ?_ _
    try simp only [List.getElem_toArray, List.getElem_cons_succ, List.getElem_cons_zero, Act.put, List.setIfInBounds_toArray, List.set_cons_zero, List.set_cons_succ]
    go_wp2_with fail
    go_ret
    exact ⟨ret_str HALL.out, HB.out.trans (HS1.out.mono HB.out.size)⟩
end Go.Proofs.YtgfknlnpnnjkoaaDoor
