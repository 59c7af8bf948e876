/- pnmHead of the program. -/
import Derived.Test.YtbfeonhokagdjaaDoorKEPnmPutx0
import Derived.Test.YtbfeonhokagdjaaDoorVEPnmPutEachReg
namespace Go.Proofs.YtbfeonhokagdjaaDoor
open Go.RowKit

/-- what stands ahead of the points -/
def Pn.head (d : Int) (N Wd Hi : Nat) : List UInt8 := 80 :: Lib.decDigits N ++ [10] ++ Lib.decDigits Wd ++ [32] ++ Lib.decDigits Hi ++ [10] ++ (if d = 1 then [] else Lib.decDigits (Pn.most d).toNat ++ [10])
set_option linter.unusedSimpArgs false in
set_option linter.unusedVariables false in
set_option maxHeartbeats 8000000 in
set_option maxRecDepth 20000 in
theorem pnmHead_any (k d : Int) (Wd Hi : Nat) (ca : Option Addr) (cn cc : Nat) (pa : Option Addr) (pn pc : Nat) (plain : Bool) (N : Nat) (hk : k = 1 ∨ k = 2) (hd : d = 1 ∨ d = 2 ∨ d = 4 ∨ d = 8 ∨ d = 24) (hN : Pn.num k d plain = (N : Int)) (hW : Wd ≤ 1000) (hH : Hi ≤ 1000) (w : World) (ht : Tens w) :
    Calls Tryd.prog 16 #[.agg #[.int .i64 k, .int .i64 d, .int .i64 (Wd : Int), .int .i64 (Hi : Int), .slice ca cn cc, .slice pa pn pc], .bool plain] w fun e w' => e = .returned (.string ⟨(Pn.head d N Wd Hi).toArray⟩) ∧ Below w.heap.size w w' := by
  have HTN : Hid (Tens w) := ht
  have HDD : Hid (d = 1 ∨ d = 2 ∨ d = 4 ∨ d = 8 ∨ d = 24) := hd
  have hNb : N ≤ 6 := by have h := hN; unfold Pn.num at h; rcases hk with rfl | rfl <;> cases plain <;> simp at h <;> (first | omega | (split at h <;> omega))
  obtain ⟨sr, hsr⟩ : ∃ s, s = Pn.sort k d := ⟨_, rfl⟩
  have hsn : sr + (if plain then 0 else 3) = (N : Int) := by
    rw [hsr, ← hN]; unfold Pn.sort Pn.num
    rcases hk with rfl | rfl <;> simp
  have HSO : Hid (∀ w : World, Calls Tryd.prog 33 #[.int .i64 k, .int .i64 d] w fun e w' => e = .returned (.int .i64 sr) ∧ w' = w) := fun w => by rw [hsr]; exact pnmSort_any k d w
  obtain ⟨S0, hS0⟩ : ∃ S : ByteArray, S = ⟨(Lib.decDigits N).toArray⟩ := ⟨_, rfl⟩
  have z0 : S0.size ≤ 10 := by rw [hS0, str_size]; exact dec_short (by omega)
  have HI0 : Hid (∀ wz, Below w.heap.size w wz → Calls Tryd.prog 35 #[.int .i64 (N : Int)] wz fun e w' => e = .returned (.string S0) ∧ Below wz.heap.size wz w') := fun wz b => by rw [hS0]; exact itoa_any N wz (by omega) (HTN.out.below b)
  obtain ⟨S1, hS1⟩ : ∃ S : ByteArray, S = ⟨(Lib.decDigits Wd).toArray⟩ := ⟨_, rfl⟩
  have z1 : S1.size ≤ 10 := by rw [hS1, str_size]; exact dec_short (by omega)
  have HI1 : Hid (∀ wz, Below w.heap.size w wz → Calls Tryd.prog 35 #[.int .i64 (Wd : Int)] wz fun e w' => e = .returned (.string S1) ∧ Below wz.heap.size wz w') := fun wz b => by rw [hS1]; exact itoa_any Wd wz (by omega) (HTN.out.below b)
  obtain ⟨S2, hS2⟩ : ∃ S : ByteArray, S = ⟨(Lib.decDigits Hi).toArray⟩ := ⟨_, rfl⟩
  have z2 : S2.size ≤ 10 := by rw [hS2, str_size]; exact dec_short (by omega)
  have HI2 : Hid (∀ wz, Below w.heap.size w wz → Calls Tryd.prog 35 #[.int .i64 (Hi : Int)] wz fun e w' => e = .returned (.string S2) ∧ Below wz.heap.size wz w') := fun wz b => by rw [hS2]; exact itoa_any Hi wz (by omega) (HTN.out.below b)
  obtain ⟨J1, hJ1⟩ : ∃ J : ByteArray, J = ⟨#[80]⟩ ++ S0 := ⟨_, rfl⟩
  have HJ1 : Hid (⟨#[80]⟩ ++ S0 = J1) := hJ1.symm
  have zJ1 : J1.size ≤ 11 := by rw [hJ1, ByteArray.size_append]; show 1 + S0.size ≤ _; omega
  obtain ⟨J2, hJ2⟩ : ∃ J : ByteArray, J = J1 ++ ⟨#[10]⟩ := ⟨_, rfl⟩
  have HJ2 : Hid (J1 ++ ⟨#[10]⟩ = J2) := hJ2.symm
  have zJ2 : J2.size ≤ 12 := by rw [hJ2, ByteArray.size_append]; show J1.size + 1 ≤ _; omega
  obtain ⟨J3, hJ3⟩ : ∃ J : ByteArray, J = J2 ++ S1 := ⟨_, rfl⟩
  have HJ3 : Hid (J2 ++ S1 = J3) := hJ3.symm
  have zJ3 : J3.size ≤ 22 := by rw [hJ3, ByteArray.size_append]; show J2.size + S1.size ≤ _; omega
  obtain ⟨J4, hJ4⟩ : ∃ J : ByteArray, J = J3 ++ ⟨#[32]⟩ := ⟨_, rfl⟩
  have HJ4 : Hid (J3 ++ ⟨#[32]⟩ = J4) := hJ4.symm
  have zJ4 : J4.size ≤ 23 := by rw [hJ4, ByteArray.size_append]; show J3.size + 1 ≤ _; omega
  obtain ⟨J5, hJ5⟩ : ∃ J : ByteArray, J = J4 ++ S2 := ⟨_, rfl⟩
  have HJ5 : Hid (J4 ++ S2 = J5) := hJ5.symm
  have zJ5 : J5.size ≤ 33 := by rw [hJ5, ByteArray.size_append]; show J4.size + S2.size ≤ _; omega
  obtain ⟨J6, hJ6⟩ : ∃ J : ByteArray, J = J5 ++ ⟨#[10]⟩ := ⟨_, rfl⟩
  have HJ6 : Hid (J5 ++ ⟨#[10]⟩ = J6) := hJ6.symm
  have zJ6 : J6.size ≤ 34 := by rw [hJ6, ByteArray.size_append]; show J5.size + 1 ≤ _; omega
  have HJ : Hid (J6 = ⟨(80 :: Lib.decDigits N ++ [10] ++ Lib.decDigits Wd ++ [32] ++ Lib.decDigits Hi ++ [10]).toArray⟩) := by
    show _ = _
    rw [hJ6, hJ5, hJ4, hJ3, hJ2, hJ1, hS0, hS1, hS2, show (⟨#[80]⟩ : ByteArray) = ⟨[80].toArray⟩ from rfl, show (⟨#[10]⟩ : ByteArray) = ⟨[10].toArray⟩ from rfl, show (⟨#[32]⟩ : ByteArray) = ⟨[32].toArray⟩ from rfl]
    simp only [str_two]
    rfl
  clear hS0 hS1 hS2 hJ1 hJ2 hJ3 hJ4 hJ5 hJ6 hN hsr ht hd
  obtain ⟨V, hV⟩ : ∃ V, V = w.alloc (.cells #[.int .i64 k, .int .i64 d, .int .i64 (Wd : Int), .int .i64 (Hi : Int), .slice ca cn cc, .slice pa pn pc] 27) := ⟨_, rfl⟩
  obtain ⟨bx, hbx⟩ : ∃ bx, bx = w.heap.size := ⟨_, rfl⟩
  have HB : Hid (Below w.heap.size w V) := by rw [hV]; exact (Below.refl _ _).alloc (Nat.le_refl _) _
  have X0 : Bx V bx (.int .i64 k) (.int .i64 d) (.int .i64 (Wd : Int)) (.int .i64 (Hi : Int)) (.slice ca cn cc) (.slice pa pn pc) := by rw [hV, hbx]; exact bx_new w _ _ _ _ _ _ 27
  have X1 : Bx (w.alloc (.cells #[.int .i64 k, .int .i64 d, .int .i64 (Wd : Int), .int .i64 (Hi : Int), .slice ca cn cc, .slice pa pn pc] 27)) w.heap.size (.int .i64 k) (.int .i64 d) (.int .i64 (Wd : Int)) (.int .i64 (Hi : Int)) (.slice ca cn cc) (.slice pa pn pc) := bx_new w _ _ _ _ _ _ 27
  obtain ⟨hlt, c0, c1, c2, c3, c4, c5⟩ := X0
  obtain ⟨_, a0, a1, a2, a3, a4, a5⟩ := X1
  have HD0 : Hid (∀ wz, Below V.heap.size V wz → Calls Tryd.prog 35 #[.int .i64 (N : Int)] wz fun e w' => e = .returned (.string S0) ∧ Below wz.heap.size wz w') := fun wz b => HI0.out wz (HB.out.trans (b.mono HB.out.size))
  have HD1 : Hid (∀ wz, Below V.heap.size V wz → Calls Tryd.prog 35 #[.int .i64 (Wd : Int)] wz fun e w' => e = .returned (.string S1) ∧ Below wz.heap.size wz w') := fun wz b => HI1.out wz (HB.out.trans (b.mono HB.out.size))
  have HD2 : Hid (∀ wz, Below V.heap.size V wz → Calls Tryd.prog 35 #[.int .i64 (Hi : Int)] wz fun e w' => e = .returned (.string S2) ∧ Below wz.heap.size wz w') := fun wz b => HI2.out wz (HB.out.trans (b.mono HB.out.size))
  clear HI0 HI1 HI2
  go_enter Tryd.func16, Tryd.ntmps16
  go_wp2_with fail
  rw [← hV, ← hbx]
  refine (HSO.out _).mono ?_
  rintro e u0 ⟨rfl, hu0⟩
  have hu1 := hu0.symm
  clear hu0
  subst hu1
  clear HSO a0 a1 a2 a3 a4 a5 hV hbx
  cases plain with
  | true =>
    obtain rfl : sr = (N : Int) := by simpa using hsn
    clear hsn
    go_wp2_with fail
    refine wp_region_told (S := (fun wz => Below V.heap.size V wz)) 14 41 [.is (.int .i64 (N : Int)), .is (.string S0), .is (.string J1), .is (.string J2), .is (.pointer (some ⟨bx, 2, none⟩)), .is (.int .i64 (Wd : Int)), .is (.string S1), .is (.string J3), .is (.string J4), .is (.pointer (some ⟨bx, 3, none⟩)), .is (.int .i64 (Hi : Int)), .is (.string S2), .is (.string J5), .is (.string J6)] (by kernel_rfl) (by kernel_rfl) (by rfl) (fun _ _ _ _ hd h => ⟨hd.trans h.1, h.2⟩) (fun vs => by simp only [puts, List.getElem?_toArray, List.getElem?_cons_succ, List.getElem?_cons_zero, Option.bind_some, Act.put, List.setIfInBounds_toArray, List.set_cons_zero, List.set_cons_succ]; exact rfl) ((Below.refl _ _).drew) ?_ ?_
    · refine TellsFrom.cons rfl (fun vs wz hS hd K hK => ?_) ?_
      · try dsimp only at hK ⊢
        try simp only [List.getElem_toArray, List.getElem_cons_succ, List.getElem_cons_zero, Act.put, List.setIfInBounds_toArray, List.set_cons_zero, List.set_cons_succ]
        go_simp
        exact hK.out _ _ hS (Below.refl _ _) rfl
      refine TellsFrom.cons rfl (fun vs wz hS hd K hK => ?_) ?_
      · try dsimp only at hK ⊢
        have h0 : vs 0 = (.int .i64 (N : Int)) := hd 0 (by kernel_rfl)
        generalize vs 0 = x0 at *
        subst h0
        try simp only [List.getElem_toArray, List.getElem_cons_succ, List.getElem_cons_zero, Act.put, List.setIfInBounds_toArray, List.set_cons_zero, List.set_cons_succ]
        go_simp
        refine (HD0.out _ hS).mono ?_
        rintro e v1 ⟨rfl, b1⟩
        exact hK.out _ _ (hS.trans (b1.mono hS.size)) b1 rfl
      refine TellsFrom.cons rfl (fun vs wz hS hd K hK => ?_) ?_
      · try dsimp only at hK ⊢
        have h1 : vs 1 = (.string S0) := hd 1 (by kernel_rfl)
        generalize vs 1 = x1 at *
        subst h1
        try simp only [List.getElem_toArray, List.getElem_cons_succ, List.getElem_cons_zero, Act.put, List.setIfInBounds_toArray, List.set_cons_zero, List.set_cons_succ]
        have e := HJ1.out
        have g : ¬ 9223372036854775807 < 1 + S0.size := by omega
        go_simp
        exact hK.out _ _ hS (Below.refl _ _) rfl
      refine TellsFrom.cons rfl (fun vs wz hS hd K hK => ?_) ?_
      · try dsimp only at hK ⊢
        have h2 : vs 2 = (.string J1) := hd 2 (by kernel_rfl)
        generalize vs 2 = x2 at *
        subst h2
        try simp only [List.getElem_toArray, List.getElem_cons_succ, List.getElem_cons_zero, Act.put, List.setIfInBounds_toArray, List.set_cons_zero, List.set_cons_succ]
        have e := HJ2.out
        have g : ¬ 9223372036854775807 < J1.size + 1 := by omega
        go_simp
        exact hK.out _ _ hS (Below.refl _ _) rfl
      refine TellsFrom.cons rfl (fun vs wz hS hd K hK => ?_) ?_
      · try dsimp only at hK ⊢
        try simp only [List.getElem_toArray, List.getElem_cons_succ, List.getElem_cons_zero, Act.put, List.setIfInBounds_toArray, List.set_cons_zero, List.set_cons_succ]
        go_simp
        exact hK.out _ _ hS (Below.refl _ _) rfl
      refine TellsFrom.cons rfl (fun vs wz hS hd K hK => ?_) ?_
      · try dsimp only at hK ⊢
        have h4 : vs 4 = (.pointer (some ⟨bx, 2, none⟩)) := hd 4 (by kernel_rfl)
        generalize vs 4 = x4 at *
        subst h4
        try simp only [List.getElem_toArray, List.getElem_cons_succ, List.getElem_cons_zero, Act.put, List.setIfInBounds_toArray, List.set_cons_zero, List.set_cons_succ]
        have q0 := (hS.cell (p := ⟨bx, 2, none⟩) hlt).trans c2
        go_simp
        exact hK.out _ _ hS (Below.refl _ _) rfl
      refine TellsFrom.cons rfl (fun vs wz hS hd K hK => ?_) ?_
      · try dsimp only at hK ⊢
        have h5 : vs 5 = (.int .i64 (Wd : Int)) := hd 5 (by kernel_rfl)
        generalize vs 5 = x5 at *
        subst h5
        try simp only [List.getElem_toArray, List.getElem_cons_succ, List.getElem_cons_zero, Act.put, List.setIfInBounds_toArray, List.set_cons_zero, List.set_cons_succ]
        go_simp
        refine (HD1.out _ hS).mono ?_
        rintro e v1 ⟨rfl, b1⟩
        exact hK.out _ _ (hS.trans (b1.mono hS.size)) b1 rfl
      refine TellsFrom.cons rfl (fun vs wz hS hd K hK => ?_) ?_
      · try dsimp only at hK ⊢
        have h3 : vs 3 = (.string J2) := hd 3 (by kernel_rfl)
        generalize vs 3 = x3 at *
        subst h3
        have h6 : vs 6 = (.string S1) := hd 6 (by kernel_rfl)
        generalize vs 6 = x6 at *
        subst h6
        try simp only [List.getElem_toArray, List.getElem_cons_succ, List.getElem_cons_zero, Act.put, List.setIfInBounds_toArray, List.set_cons_zero, List.set_cons_succ]
        have e := HJ3.out
        have g : ¬ 9223372036854775807 < J2.size + S1.size := by omega
        go_simp
        exact hK.out _ _ hS (Below.refl _ _) rfl
      refine TellsFrom.cons rfl (fun vs wz hS hd K hK => ?_) ?_
      · try dsimp only at hK ⊢
        have h7 : vs 7 = (.string J3) := hd 7 (by kernel_rfl)
        generalize vs 7 = x7 at *
        subst h7
        try simp only [List.getElem_toArray, List.getElem_cons_succ, List.getElem_cons_zero, Act.put, List.setIfInBounds_toArray, List.set_cons_zero, List.set_cons_succ]
        have e := HJ4.out
        have g : ¬ 9223372036854775807 < J3.size + 1 := by omega
        go_simp
        exact hK.out _ _ hS (Below.refl _ _) rfl
      refine TellsFrom.cons rfl (fun vs wz hS hd K hK => ?_) ?_
      · try dsimp only at hK ⊢
        try simp only [List.getElem_toArray, List.getElem_cons_succ, List.getElem_cons_zero, Act.put, List.setIfInBounds_toArray, List.set_cons_zero, List.set_cons_succ]
        go_simp
        exact hK.out _ _ hS (Below.refl _ _) rfl
      refine TellsFrom.cons rfl (fun vs wz hS hd K hK => ?_) ?_
      · try dsimp only at hK ⊢
        have h9 : vs 9 = (.pointer (some ⟨bx, 3, none⟩)) := hd 9 (by kernel_rfl)
        generalize vs 9 = x9 at *
        subst h9
        try simp only [List.getElem_toArray, List.getElem_cons_succ, List.getElem_cons_zero, Act.put, List.setIfInBounds_toArray, List.set_cons_zero, List.set_cons_succ]
        have q0 := (hS.cell (p := ⟨bx, 3, none⟩) hlt).trans c3
        go_simp
        exact hK.out _ _ hS (Below.refl _ _) rfl
      refine TellsFrom.cons rfl (fun vs wz hS hd K hK => ?_) ?_
      · try dsimp only at hK ⊢
        have h10 : vs 10 = (.int .i64 (Hi : Int)) := hd 10 (by kernel_rfl)
        generalize vs 10 = x10 at *
        subst h10
        try simp only [List.getElem_toArray, List.getElem_cons_succ, List.getElem_cons_zero, Act.put, List.setIfInBounds_toArray, List.set_cons_zero, List.set_cons_succ]
        go_simp
        refine (HD2.out _ hS).mono ?_
        rintro e v1 ⟨rfl, b1⟩
        exact hK.out _ _ (hS.trans (b1.mono hS.size)) b1 rfl
      refine TellsFrom.cons rfl (fun vs wz hS hd K hK => ?_) ?_
      · try dsimp only at hK ⊢
        have h8 : vs 8 = (.string J4) := hd 8 (by kernel_rfl)
        generalize vs 8 = x8 at *
        subst h8
        have h11 : vs 11 = (.string S2) := hd 11 (by kernel_rfl)
        generalize vs 11 = x11 at *
        subst h11
        try simp only [List.getElem_toArray, List.getElem_cons_succ, List.getElem_cons_zero, Act.put, List.setIfInBounds_toArray, List.set_cons_zero, List.set_cons_succ]
        have e := HJ5.out
        have g : ¬ 9223372036854775807 < J4.size + S2.size := by omega
        go_simp
        exact hK.out _ _ hS (Below.refl _ _) rfl
      refine TellsFrom.cons rfl (fun vs wz hS hd K hK => ?_) ?_
      · try dsimp only at hK ⊢
        have h12 : vs 12 = (.string J5) := hd 12 (by kernel_rfl)
        generalize vs 12 = x12 at *
        subst h12
        try simp only [List.getElem_toArray, List.getElem_cons_succ, List.getElem_cons_zero, Act.put, List.setIfInBounds_toArray, List.set_cons_zero, List.set_cons_succ]
        have e := HJ6.out
        have g : ¬ 9223372036854775807 < J5.size + 1 := by omega
        go_simp
        exact hK.out _ _ hS (Below.refl _ _) rfl
      exact TellsFrom.nil
    · intro vs wz hS hd
      try dsimp only
      have h13 : vs 13 = .string J6 := hd 13 (by omega)
      clear hd
      generalize vs 0 = y0 at *
      generalize vs 1 = y1 at *
      generalize vs 2 = y2 at *
      generalize vs 3 = y3 at *
      generalize vs 4 = y4 at *
      generalize vs 5 = y5 at *
      generalize vs 6 = y6 at *
      generalize vs 7 = y7 at *
      generalize vs 8 = y8 at *
      generalize vs 9 = y9 at *
      generalize vs 10 = y10 at *
      generalize vs 11 = y11 at *
      generalize vs 12 = y12 at *
      generalize vs 13 = y13 at *
      subst h13
      have HS1 : Hid (Below V.heap.size V wz) := hS
      clear hS
      refine wpAnyH_ready (rs := [14]) (by kernel_rfl) (by simp) ?_
      refine AllReadyH.cons rfl (fun K hK => ?_) AllReadyH.nil
      go_simp
      refine hK.out _ _ trivial (fun _ => ?_)
      clear hK K
      refine wpAnyH_done (by kernel_rfl) ?_ _
      try simp only [List.getElem_toArray, List.getElem_cons_succ, List.getElem_cons_zero, Act.put, List.setIfInBounds_toArray, List.set_cons_zero, List.set_cons_succ]
      have c1' : wz.cell? ⟨bx, 1, none⟩ = some (.int .i64 d) := (HS1.out.cell (p := ⟨bx, 1, none⟩) hlt).trans c1
      have HBZ : Hid (Below w.heap.size w wz) := HB.out.trans (HS1.out.mono HB.out.size)
      clear c0 c1 c2 c3 c4 c5 HS1
      by_cases hd1 : d = 1
      · have HE : Hid (J6 = ⟨(Pn.head d N Wd Hi).toArray⟩) := by show _ = _; rw [HJ.out]; unfold Pn.head; rw [if_pos hd1, List.append_nil]
        subst hd1
        go_wp2_with fail
        go_ret
        exact ⟨ret_str HE.out, HBZ.out⟩
      · have g1 : (d == 1) = false := by rw [beq_eq_false_iff_ne]; exact hd1
        obtain ⟨G, hG⟩ : ∃ G : Nat, (G : Int) = Pn.most d := ⟨(Pn.most d).toNat, by unfold Pn.most; repeat' split <;> omega⟩
        obtain ⟨S3, hS3⟩ : ∃ S : ByteArray, S = ⟨(Lib.decDigits G).toArray⟩ := ⟨_, rfl⟩
        have hGb : G ≤ 255 := by have h := hG; unfold Pn.most at h; split at h; omega; split at h; omega; split at h <;> omega
        have z3 : S3.size ≤ 10 := by rw [hS3, str_size]; exact dec_short (by omega)
        have HGR : Hid (∀ w : World, Calls Tryd.prog 36 #[.int .i64 d] w fun e w' => e = .returned (.int .i64 (G : Int)) ∧ w' = w) := fun w => by rw [hG]; exact pnmGreatest_any d HDD.out w
        have HD3 : Hid (∀ wz, Below w.heap.size w wz → Calls Tryd.prog 35 #[.int .i64 (G : Int)] wz fun e w' => e = .returned (.string S3) ∧ Below wz.heap.size wz w') := fun wz b => by rw [hS3]; exact itoa_any G wz (by omega) (HTN.out.below b)
        obtain ⟨J7, hJ7⟩ : ∃ J : ByteArray, J = J6 ++ S3 := ⟨_, rfl⟩
        have HJ7 : Hid (J6 ++ S3 = J7) := hJ7.symm
        have z7 : J7.size ≤ 60 := by rw [hJ7, ByteArray.size_append]; omega
        have HE : Hid (J7 ++ ⟨#[10]⟩ = ⟨(Pn.head d N Wd Hi).toArray⟩) := by
          show _ = _
          unfold Pn.head
          rw [hJ7, HJ.out, hS3, if_neg hd1, ← hG, show (⟨#[10]⟩ : ByteArray) = ⟨[10].toArray⟩ from rfl]
          simp only [str_two, Int.toNat_natCast, List.append_assoc]
        have g7 : ¬ 9223372036854775807 < J6.size + S3.size := by omega
        have g8 : ¬ 9223372036854775807 < J7.size + 1 := by omega
        have e7 := HJ7.out
        clear hG hS3 hJ7 hGb HJ7
        go_wp2_with fail
        refine (HGR.out _).mono ?_
        rintro e u1 ⟨rfl, hu⟩
        subst hu
        go_wp2_with fail
        refine (HD3.out _ HBZ.out).mono ?_
        rintro e u2 ⟨rfl, b2⟩
        have HBU : Hid (Below w.heap.size w u2) := HBZ.out.trans (b2.mono HBZ.out.size)
        clear b2
        go_wp2_with fail
        go_ret
        exact ⟨ret_str HE.out, HBU.out⟩
  | false =>
    have hs3 : sr + 3 = (N : Int) := by simpa using hsn
    have hs4 : IntKind.i64.wrap (N : Int) = (N : Int) := wrap_i64_nat N (by omega)
    clear hsn
    go_wp2_with fail
    refine wp_region_told (S := (fun wz => Below V.heap.size V wz)) 14 41 [.is (.int .i64 (N : Int)), .is (.string S0), .is (.string J1), .is (.string J2), .is (.pointer (some ⟨bx, 2, none⟩)), .is (.int .i64 (Wd : Int)), .is (.string S1), .is (.string J3), .is (.string J4), .is (.pointer (some ⟨bx, 3, none⟩)), .is (.int .i64 (Hi : Int)), .is (.string S2), .is (.string J5), .is (.string J6)] (by kernel_rfl) (by kernel_rfl) (by rfl) (fun _ _ _ _ hd h => ⟨hd.trans h.1, h.2⟩) (fun vs => by simp only [puts, List.getElem?_toArray, List.getElem?_cons_succ, List.getElem?_cons_zero, Option.bind_some, Act.put, List.setIfInBounds_toArray, List.set_cons_zero, List.set_cons_succ]; exact rfl) ((Below.refl _ _).drew) ?_ ?_
    · refine TellsFrom.cons rfl (fun vs wz hS hd K hK => ?_) ?_
      · try dsimp only at hK ⊢
        try simp only [List.getElem_toArray, List.getElem_cons_succ, List.getElem_cons_zero, Act.put, List.setIfInBounds_toArray, List.set_cons_zero, List.set_cons_succ]
        go_simp
        exact hK.out _ _ hS (Below.refl _ _) rfl
      refine TellsFrom.cons rfl (fun vs wz hS hd K hK => ?_) ?_
      · try dsimp only at hK ⊢
        have h0 : vs 0 = (.int .i64 (N : Int)) := hd 0 (by kernel_rfl)
        generalize vs 0 = x0 at *
        subst h0
        try simp only [List.getElem_toArray, List.getElem_cons_succ, List.getElem_cons_zero, Act.put, List.setIfInBounds_toArray, List.set_cons_zero, List.set_cons_succ]
        go_simp
        refine (HD0.out _ hS).mono ?_
        rintro e v1 ⟨rfl, b1⟩
        exact hK.out _ _ (hS.trans (b1.mono hS.size)) b1 rfl
      refine TellsFrom.cons rfl (fun vs wz hS hd K hK => ?_) ?_
      · try dsimp only at hK ⊢
        have h1 : vs 1 = (.string S0) := hd 1 (by kernel_rfl)
        generalize vs 1 = x1 at *
        subst h1
        try simp only [List.getElem_toArray, List.getElem_cons_succ, List.getElem_cons_zero, Act.put, List.setIfInBounds_toArray, List.set_cons_zero, List.set_cons_succ]
        have e := HJ1.out
        have g : ¬ 9223372036854775807 < 1 + S0.size := by omega
        go_simp
        exact hK.out _ _ hS (Below.refl _ _) rfl
      refine TellsFrom.cons rfl (fun vs wz hS hd K hK => ?_) ?_
      · try dsimp only at hK ⊢
        have h2 : vs 2 = (.string J1) := hd 2 (by kernel_rfl)
        generalize vs 2 = x2 at *
        subst h2
        try simp only [List.getElem_toArray, List.getElem_cons_succ, List.getElem_cons_zero, Act.put, List.setIfInBounds_toArray, List.set_cons_zero, List.set_cons_succ]
        have e := HJ2.out
        have g : ¬ 9223372036854775807 < J1.size + 1 := by omega
        go_simp
        exact hK.out _ _ hS (Below.refl _ _) rfl
      refine TellsFrom.cons rfl (fun vs wz hS hd K hK => ?_) ?_
      · try dsimp only at hK ⊢
        try simp only [List.getElem_toArray, List.getElem_cons_succ, List.getElem_cons_zero, Act.put, List.setIfInBounds_toArray, List.set_cons_zero, List.set_cons_succ]
        go_simp
        exact hK.out _ _ hS (Below.refl _ _) rfl
      refine TellsFrom.cons rfl (fun vs wz hS hd K hK => ?_) ?_
      · try dsimp only at hK ⊢
        have h4 : vs 4 = (.pointer (some ⟨bx, 2, none⟩)) := hd 4 (by kernel_rfl)
        generalize vs 4 = x4 at *
        subst h4
        try simp only [List.getElem_toArray, List.getElem_cons_succ, List.getElem_cons_zero, Act.put, List.setIfInBounds_toArray, List.set_cons_zero, List.set_cons_succ]
        have q0 := (hS.cell (p := ⟨bx, 2, none⟩) hlt).trans c2
        go_simp
        exact hK.out _ _ hS (Below.refl _ _) rfl
      refine TellsFrom.cons rfl (fun vs wz hS hd K hK => ?_) ?_
      · try dsimp only at hK ⊢
        have h5 : vs 5 = (.int .i64 (Wd : Int)) := hd 5 (by kernel_rfl)
        generalize vs 5 = x5 at *
        subst h5
        try simp only [List.getElem_toArray, List.getElem_cons_succ, List.getElem_cons_zero, Act.put, List.setIfInBounds_toArray, List.set_cons_zero, List.set_cons_succ]
        go_simp
        refine (HD1.out _ hS).mono ?_
        rintro e v1 ⟨rfl, b1⟩
        exact hK.out _ _ (hS.trans (b1.mono hS.size)) b1 rfl
      refine TellsFrom.cons rfl (fun vs wz hS hd K hK => ?_) ?_
      · try dsimp only at hK ⊢
        have h3 : vs 3 = (.string J2) := hd 3 (by kernel_rfl)
        generalize vs 3 = x3 at *
        subst h3
        have h6 : vs 6 = (.string S1) := hd 6 (by kernel_rfl)
        generalize vs 6 = x6 at *
        subst h6
        try simp only [List.getElem_toArray, List.getElem_cons_succ, List.getElem_cons_zero, Act.put, List.setIfInBounds_toArray, List.set_cons_zero, List.set_cons_succ]
        have e := HJ3.out
        have g : ¬ 9223372036854775807 < J2.size + S1.size := by omega
        go_simp
        exact hK.out _ _ hS (Below.refl _ _) rfl
      refine TellsFrom.cons rfl (fun vs wz hS hd K hK => ?_) ?_
      · try dsimp only at hK ⊢
        have h7 : vs 7 = (.string J3) := hd 7 (by kernel_rfl)
        generalize vs 7 = x7 at *
        subst h7
        try simp only [List.getElem_toArray, List.getElem_cons_succ, List.getElem_cons_zero, Act.put, List.setIfInBounds_toArray, List.set_cons_zero, List.set_cons_succ]
        have e := HJ4.out
        have g : ¬ 9223372036854775807 < J3.size + 1 := by omega
        go_simp
        exact hK.out _ _ hS (Below.refl _ _) rfl
      refine TellsFrom.cons rfl (fun vs wz hS hd K hK => ?_) ?_
      · try dsimp only at hK ⊢
        try simp only [List.getElem_toArray, List.getElem_cons_succ, List.getElem_cons_zero, Act.put, List.setIfInBounds_toArray, List.set_cons_zero, List.set_cons_succ]
        go_simp
        exact hK.out _ _ hS (Below.refl _ _) rfl
      refine TellsFrom.cons rfl (fun vs wz hS hd K hK => ?_) ?_
      · try dsimp only at hK ⊢
        have h9 : vs 9 = (.pointer (some ⟨bx, 3, none⟩)) := hd 9 (by kernel_rfl)
        generalize vs 9 = x9 at *
        subst h9
        try simp only [List.getElem_toArray, List.getElem_cons_succ, List.getElem_cons_zero, Act.put, List.setIfInBounds_toArray, List.set_cons_zero, List.set_cons_succ]
        have q0 := (hS.cell (p := ⟨bx, 3, none⟩) hlt).trans c3
        go_simp
        exact hK.out _ _ hS (Below.refl _ _) rfl
      refine TellsFrom.cons rfl (fun vs wz hS hd K hK => ?_) ?_
      · try dsimp only at hK ⊢
        have h10 : vs 10 = (.int .i64 (Hi : Int)) := hd 10 (by kernel_rfl)
        generalize vs 10 = x10 at *
        subst h10
        try simp only [List.getElem_toArray, List.getElem_cons_succ, List.getElem_cons_zero, Act.put, List.setIfInBounds_toArray, List.set_cons_zero, List.set_cons_succ]
        go_simp
        refine (HD2.out _ hS).mono ?_
        rintro e v1 ⟨rfl, b1⟩
        exact hK.out _ _ (hS.trans (b1.mono hS.size)) b1 rfl
      refine TellsFrom.cons rfl (fun vs wz hS hd K hK => ?_) ?_
      · try dsimp only at hK ⊢
        have h8 : vs 8 = (.string J4) := hd 8 (by kernel_rfl)
        generalize vs 8 = x8 at *
        subst h8
        have h11 : vs 11 = (.string S2) := hd 11 (by kernel_rfl)
        generalize vs 11 = x11 at *
        subst h11
        try simp only [List.getElem_toArray, List.getElem_cons_succ, List.getElem_cons_zero, Act.put, List.setIfInBounds_toArray, List.set_cons_zero, List.set_cons_succ]
        have e := HJ5.out
        have g : ¬ 9223372036854775807 < J4.size + S2.size := by omega
        go_simp
        exact hK.out _ _ hS (Below.refl _ _) rfl
      refine TellsFrom.cons rfl (fun vs wz hS hd K hK => ?_) ?_
      · try dsimp only at hK ⊢
        have h12 : vs 12 = (.string J5) := hd 12 (by kernel_rfl)
        generalize vs 12 = x12 at *
        subst h12
        try simp only [List.getElem_toArray, List.getElem_cons_succ, List.getElem_cons_zero, Act.put, List.setIfInBounds_toArray, List.set_cons_zero, List.set_cons_succ]
        have e := HJ6.out
        have g : ¬ 9223372036854775807 < J5.size + 1 := by omega
        go_simp
        exact hK.out _ _ hS (Below.refl _ _) rfl
      exact TellsFrom.nil
    · intro vs wz hS hd
      try dsimp only
      have h13 : vs 13 = .string J6 := hd 13 (by omega)
      clear hd
      generalize vs 0 = y0 at *
      generalize vs 1 = y1 at *
      generalize vs 2 = y2 at *
      generalize vs 3 = y3 at *
      generalize vs 4 = y4 at *
      generalize vs 5 = y5 at *
      generalize vs 6 = y6 at *
      generalize vs 7 = y7 at *
      generalize vs 8 = y8 at *
      generalize vs 9 = y9 at *
      generalize vs 10 = y10 at *
      generalize vs 11 = y11 at *
      generalize vs 12 = y12 at *
      generalize vs 13 = y13 at *
      subst h13
      have HS1 : Hid (Below V.heap.size V wz) := hS
      clear hS
      refine wpAnyH_ready (rs := [14]) (by kernel_rfl) (by simp) ?_
      refine AllReadyH.cons rfl (fun K hK => ?_) AllReadyH.nil
      go_simp
      refine hK.out _ _ trivial (fun _ => ?_)
      clear hK K
      refine wpAnyH_done (by kernel_rfl) ?_ _
      try simp only [List.getElem_toArray, List.getElem_cons_succ, List.getElem_cons_zero, Act.put, List.setIfInBounds_toArray, List.set_cons_zero, List.set_cons_succ]
      have c1' : wz.cell? ⟨bx, 1, none⟩ = some (.int .i64 d) := (HS1.out.cell (p := ⟨bx, 1, none⟩) hlt).trans c1
      have HBZ : Hid (Below w.heap.size w wz) := HB.out.trans (HS1.out.mono HB.out.size)
      clear c0 c1 c2 c3 c4 c5 HS1
      by_cases hd1 : d = 1
      · have HE : Hid (J6 = ⟨(Pn.head d N Wd Hi).toArray⟩) := by show _ = _; rw [HJ.out]; unfold Pn.head; rw [if_pos hd1, List.append_nil]
        subst hd1
        go_wp2_with fail
        go_ret
        exact ⟨ret_str HE.out, HBZ.out⟩
      · have g1 : (d == 1) = false := by rw [beq_eq_false_iff_ne]; exact hd1
        obtain ⟨G, hG⟩ : ∃ G : Nat, (G : Int) = Pn.most d := ⟨(Pn.most d).toNat, by unfold Pn.most; repeat' split <;> omega⟩
        obtain ⟨S3, hS3⟩ : ∃ S : ByteArray, S = ⟨(Lib.decDigits G).toArray⟩ := ⟨_, rfl⟩
        have hGb : G ≤ 255 := by have h := hG; unfold Pn.most at h; split at h; omega; split at h; omega; split at h <;> omega
        have z3 : S3.size ≤ 10 := by rw [hS3, str_size]; exact dec_short (by omega)
        have HGR : Hid (∀ w : World, Calls Tryd.prog 36 #[.int .i64 d] w fun e w' => e = .returned (.int .i64 (G : Int)) ∧ w' = w) := fun w => by rw [hG]; exact pnmGreatest_any d HDD.out w
        have HD3 : Hid (∀ wz, Below w.heap.size w wz → Calls Tryd.prog 35 #[.int .i64 (G : Int)] wz fun e w' => e = .returned (.string S3) ∧ Below wz.heap.size wz w') := fun wz b => by rw [hS3]; exact itoa_any G wz (by omega) (HTN.out.below b)
        obtain ⟨J7, hJ7⟩ : ∃ J : ByteArray, J = J6 ++ S3 := ⟨_, rfl⟩
        have HJ7 : Hid (J6 ++ S3 = J7) := hJ7.symm
        have z7 : J7.size ≤ 60 := by rw [hJ7, ByteArray.size_append]; omega
        have HE : Hid (J7 ++ ⟨#[10]⟩ = ⟨(Pn.head d N Wd Hi).toArray⟩) := by
          show _ = _
          unfold Pn.head
          rw [hJ7, HJ.out, hS3, if_neg hd1, ← hG, show (⟨#[10]⟩ : ByteArray) = ⟨[10].toArray⟩ from rfl]
          simp only [str_two, Int.toNat_natCast, List.append_assoc]
        have g7 : ¬ 9223372036854775807 < J6.size + S3.size := by omega
        have g8 : ¬ 9223372036854775807 < J7.size + 1 := by omega
        have e7 := HJ7.out
        clear hG hS3 hJ7 hGb HJ7
        go_wp2_with fail
        refine (HGR.out _).mono ?_
        rintro e u1 ⟨rfl, hu⟩
        subst hu
        go_wp2_with fail
        refine (HD3.out _ HBZ.out).mono ?_
        rintro e u2 ⟨rfl, b2⟩
        have HBU : Hid (Below w.heap.size w u2) := HBZ.out.trans (b2.mono HBZ.out.size)
        clear b2
        go_wp2_with fail
        go_ret
        exact ⟨ret_str HE.out, HBU.out⟩
end Go.Proofs.YtbfeonhokagdjaaDoor
