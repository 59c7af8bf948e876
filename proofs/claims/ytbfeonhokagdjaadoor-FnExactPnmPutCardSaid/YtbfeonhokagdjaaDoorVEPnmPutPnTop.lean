/- The specification's PNM: the head and the rows. -/
import Derived.Deep.DeepCutAuto
import Derived.Deep.CutBlock
import Derived.Test.YtbfeonhokagdjaaDoorKEPnmPutx2
import Derived.Test.YtbfeonhokagdjaaDoorVEPnmPutPnHead
import Derived.Test.YtbfeonhokagdjaaDoorKEPnmPutx0
namespace Go.Proofs.YtbfeonhokagdjaaDoor
open Go.RowKit

/-- a row in figures or in bytes -/
def Pn.line (k d : Int) (plain : Bool) (l : List Int) : List UInt8 := if plain then figs (l.flatMap fun p => Pn.pt k d p.toNat) ++ [10] else Pn.pack k d l
/-- the rows -/
theorem figs_app (a b : List Int) : figs (a ++ b) = figs a ++ figs b := by simp [figs]
theorem pt_len (k d : Int) (p : Nat) (h : p < 16777216) (h1 : d = 1 → p ≤ 1) : (figs (Pn.pt k d p)).length ≤ 40 := by
  have hf : Figs (Pn.pt k d p) := by
    unfold Pn.pt
    intro z hz
    split at hz
    · simp at hz; rcases hz with rfl | rfl | rfl <;> omega
    · split at hz
      · rename_i hd1
        have := h1 hd1
        simp at hz; omega
      · simp at hz; omega
  have hl : (Pn.pt k d p).length ≤ 3 := by unfold Pn.pt; split <;> (try split) <;> simp
  have := figs_len hf
  omega
def rowsOfL (Wd Hi : Nat) (ps : List Int) : List (List Int) := (List.range Hi).map fun y => seg ps (y * Wd) Wd
theorem rowsOfL_len (Wd Hi : Nat) (ps : List Int) : (rowsOfL Wd Hi ps).length = Hi := by simp [rowsOfL]
theorem rowsOfL_take {Wd Hi y : Nat} (ps : List Int) (h : y < Hi) (L : List Int → List UInt8) : ((rowsOfL Wd Hi ps).take (y + 1)).flatMap L = ((rowsOfL Wd Hi ps).take y).flatMap L ++ L (seg ps (y * Wd) Wd) := by
  rw [List.take_succ_eq_append_getElem (by rw [rowsOfL_len]; exact h), List.flatMap_append]
  simp [rowsOfL]
set_option linter.unusedSimpArgs false in
set_option linter.unusedVariables false in
set_option maxHeartbeats 8000000 in
set_option maxRecDepth 20000 in
theorem l12Put_any (k d : Int) (Wd Hi : Nat) (ca : Option Addr) (cn cc : Nat) (pa : Option Addr) (pn pc : Nat) (ps : List Int) (plain : Bool) (N : Nat) (hk : k = 1 ∨ k = 2) (hd : d = 1 ∨ d = 2 ∨ d = 4 ∨ d = 8 ∨ d = 24) (hkd : k = 2 ↔ d = 24) (hN : Pn.num k d plain = (N : Int)) (hW1 : 1 ≤ Wd) (hW : Wd ≤ 20) (hH : Hi ≤ 20) (w : World) (hp : Ints w pa ps) (hpn : ps.length = pn) (hpc : pn ≤ pc) (hm : pn = Wd * Hi)
    (hPt : ∀ z ∈ ps, 0 ≤ z ∧ z < 16777216 ∧ (d = 1 → z ≤ 1)) (hRw : ∀ (a : Option Addr) (c : Nat) (l : List Int) (w' : World), (∀ z ∈ l, z ∈ ps) → l.length = Wd → Ints w' a l → plain = false → Calls Tryd.prog 30 #[.agg #[.int .i64 k, .int .i64 d, .int .i64 (Wd : Int), .int .i64 (Hi : Int), .slice ca cn cc, .slice pa pn pc], .slice a Wd c] w' fun e w'' => e = .returned (.string ⟨(Pn.pack k d l).toArray⟩) ∧ Below w'.heap.size w' w'') :
    Calls Tryd.prog 12 #[.agg #[.int .i64 k, .int .i64 d, .int .i64 (Wd : Int), .int .i64 (Hi : Int), .slice ca cn cc, .slice pa pn pc], .bool plain] w fun e w' => e = .returned (.string ⟨(Pn.head d N Wd Hi ++ (rowsOfL Wd Hi ps).flatMap (Pn.line k d plain)).toArray⟩) ∧ Below w.heap.size w w' := by
  have HDD : Hid (d = 1 ∨ d = 2 ∨ d = 4 ∨ d = 8 ∨ d = 24) := hd
  have hNb : N ≤ 6 := by have h := hN; unfold Pn.num at h; rcases hk with rfl | rfl <;> cases plain <;> simp at h <;> (first | omega | (split at h <;> omega))
  have HNU : Hid (∀ w : World, Calls Tryd.prog 29 #[.agg #[.int .i64 k, .int .i64 d, .int .i64 (Wd : Int), .int .i64 (Hi : Int), .slice ca cn cc, .slice pa pn pc], .bool plain] w fun e w' => e = .returned (.int .i64 (N : Int)) ∧ Below w.heap.size w w') := fun w => by rw [← hN]; exact l12Num_any k d _ _ ca cn cc pa pn pc plain w
  obtain ⟨S0, hS0⟩ : ∃ S : ByteArray, S = ⟨(Lib.decDigits N).toArray⟩ := ⟨_, rfl⟩
  have z0 : S0.size ≤ 10 := by rw [hS0, str_size]; exact dec_short (by omega)
  have HD0 : Hid (∀ wz : World, Calls Tryd.prog 28 #[.int .i64 (N : Int)] wz fun e w' => e = .returned (.string S0) ∧ Below wz.heap.size wz w') := fun wz => by rw [hS0]; exact l1Dec_any N (by omega) wz
  obtain ⟨S1, hS1⟩ : ∃ S : ByteArray, S = ⟨(Lib.decDigits Wd).toArray⟩ := ⟨_, rfl⟩
  have z1 : S1.size ≤ 10 := by rw [hS1, str_size]; exact dec_short (by omega)
  have HD1 : Hid (∀ wz : World, Calls Tryd.prog 28 #[.int .i64 (Wd : Int)] wz fun e w' => e = .returned (.string S1) ∧ Below wz.heap.size wz w') := fun wz => by rw [hS1]; exact l1Dec_any Wd (by omega) wz
  obtain ⟨S2, hS2⟩ : ∃ S : ByteArray, S = ⟨(Lib.decDigits Hi).toArray⟩ := ⟨_, rfl⟩
  have z2 : S2.size ≤ 10 := by rw [hS2, str_size]; exact dec_short (by omega)
  have HD2 : Hid (∀ wz : World, Calls Tryd.prog 28 #[.int .i64 (Hi : Int)] wz fun e w' => e = .returned (.string S2) ∧ Below wz.heap.size wz w') := fun wz => by rw [hS2]; exact l1Dec_any Hi (by omega) wz
  obtain ⟨J1, hJ1⟩ : ∃ J : ByteArray, J = ⟨#[80]⟩ ++ S0 := ⟨_, rfl⟩
  have HJ1 : Hid (⟨#[80]⟩ ++ S0 = J1) := hJ1.symm
  have zJ1 : J1.size ≤ 11 := by rw [hJ1, ByteArray.size_append]; show 1 + S0.size ≤ _; omega
  obtain ⟨J2, hJ2⟩ : ∃ J : ByteArray, J = J1 ++ ⟨#[10]⟩ := ⟨_, rfl⟩
  have HJ2 : Hid (J1 ++ ⟨#[10]⟩ = J2) := hJ2.symm
  have zJ2 : J2.size ≤ 12 := by rw [hJ2, ByteArray.size_append]; show J1.size + 1 ≤ _; omega
  obtain ⟨J3, hJ3⟩ : ∃ J : ByteArray, J = J2 ++ S1 := ⟨_, rfl⟩
  have HJ3 : Hid (J2 ++ S1 = J3) := hJ3.symm
  have zJ3 : J3.size ≤ 22 := by rw [hJ3, ByteArray.size_append]; show J2.size + S1.size ≤ _; omega
  obtain ⟨J4, hJ4⟩ : ∃ J : ByteArray, J = J3 ++ ⟨#[32]⟩ := ⟨_, rfl⟩
  have HJ4 : Hid (J3 ++ ⟨#[32]⟩ = J4) := hJ4.symm
  have zJ4 : J4.size ≤ 23 := by rw [hJ4, ByteArray.size_append]; show J3.size + 1 ≤ _; omega
  obtain ⟨J5, hJ5⟩ : ∃ J : ByteArray, J = J4 ++ S2 := ⟨_, rfl⟩
  have HJ5 : Hid (J4 ++ S2 = J5) := hJ5.symm
  have zJ5 : J5.size ≤ 33 := by rw [hJ5, ByteArray.size_append]; show J4.size + S2.size ≤ _; omega
  obtain ⟨J6, hJ6⟩ : ∃ J : ByteArray, J = J5 ++ ⟨#[10]⟩ := ⟨_, rfl⟩
  have HJ6 : Hid (J5 ++ ⟨#[10]⟩ = J6) := hJ6.symm
  have zJ6 : J6.size ≤ 34 := by rw [hJ6, ByteArray.size_append]; show J5.size + 1 ≤ _; omega
  have HJ : Hid (J6 = ⟨(80 :: Lib.decDigits N ++ [10] ++ Lib.decDigits Wd ++ [32] ++ Lib.decDigits Hi ++ [10]).toArray⟩) := by
    show _ = _
    rw [hJ6, hJ5, hJ4, hJ3, hJ2, hJ1, hS0, hS1, hS2, show (⟨#[80]⟩ : ByteArray) = ⟨[80].toArray⟩ from rfl, show (⟨#[10]⟩ : ByteArray) = ⟨[10].toArray⟩ from rfl, show (⟨#[32]⟩ : ByteArray) = ⟨[32].toArray⟩ from rfl]
    simp only [str_two]
    rfl
  clear hS0 hS1 hS2 hJ1 hJ2 hJ3 hJ4 hJ5 hJ6 hN
  obtain ⟨V, hV⟩ : ∃ V, V = w.alloc (.cells #[.int .i64 k, .int .i64 d, .int .i64 (Wd : Int), .int .i64 (Hi : Int), .slice ca cn cc, .slice pa pn pc] 27) := ⟨_, rfl⟩
  obtain ⟨bx, hbx⟩ : ∃ bx, bx = w.heap.size := ⟨_, rfl⟩
  have HB : Hid (Below w.heap.size w V) := by rw [hV]; exact (Below.refl _ _).alloc (Nat.le_refl _) _
  have X0 : Bx V bx (.int .i64 k) (.int .i64 d) (.int .i64 (Wd : Int)) (.int .i64 (Hi : Int)) (.slice ca cn cc) (.slice pa pn pc) := by rw [hV, hbx]; exact bx_new w _ _ _ _ _ _ 27
  obtain ⟨hlt, c0, c1, c2, c3, c4, c5⟩ := X0
  have HPP : Hid (Ints w pa ps ∧ ps.length = pn ∧ pn ≤ pc ∧ pn = Wd * Hi ∧ (∀ z ∈ ps, 0 ≤ z ∧ z < 16777216 ∧ (d = 1 → z ≤ 1)) ∧ (k = 2 ↔ d = 24) ∧ (k = 1 ∨ k = 2)) := ⟨hp, hpn, hpc, hm, hPt, hkd, hk⟩
  have HRW : Hid (∀ (a : Option Addr) (c : Nat) (l : List Int) (w' : World), (∀ z ∈ l, z ∈ ps) → l.length = Wd → Ints w' a l → plain = false → Calls Tryd.prog 30 #[.agg #[.int .i64 k, .int .i64 d, .int .i64 (Wd : Int), .int .i64 (Hi : Int), .slice ca cn cc, .slice pa pn pc], .slice a Wd c] w' fun e w'' => e = .returned (.string ⟨(Pn.pack k d l).toArray⟩) ∧ Below w'.heap.size w' w'') := hRw
  obtain ⟨HL, hHL⟩ : ∃ HL, HL = Pn.head d N Wd Hi := ⟨_, rfl⟩
  have HHL : Hid (HL = Pn.head d N Wd Hi) := hHL
  rw [← hHL]
  clear hp hpn hpc hm hPt hkd hRw hd hk hHL
  go_enter Tryd.func12, Tryd.ntmps12
  go_upto_region 1 with fail
  rw [← hV, ← hbx]
  clear hV hbx
  refine wp_region_told (S := (fun wz => Below V.heap.size V wz)) 16 83 [.is (.agg #[.int .i64 k, .int .i64 d, .int .i64 (Wd : Int), .int .i64 (Hi : Int), .slice ca cn cc, .slice pa pn pc]), .is (.bool plain), .is (.int .i64 (N : Int)), .is (.string S0), .is (.string J1), .is (.string J2), .is (.pointer (some ⟨bx, 2, none⟩)), .is (.int .i64 (Wd : Int)), .is (.string S1), .is (.string J3), .is (.string J4), .is (.pointer (some ⟨bx, 3, none⟩)), .is (.int .i64 (Hi : Int)), .is (.string S2), .is (.string J5), .is (.string J6)] (by kernel_rfl) (by kernel_rfl) (by rfl) (fun _ _ _ _ hd h => ⟨hd.trans h.1, h.2⟩) (fun vs => by simp only [puts, List.getElem?_toArray, List.getElem?_cons_succ, List.getElem?_cons_zero, Option.bind_some, Act.put, List.setIfInBounds_toArray, List.set_cons_zero, List.set_cons_succ]; exact rfl) ((Below.refl _ _).drew) ?_ ?_
  · refine TellsFrom.cons rfl (fun vs wz hS hd K hK => ?_) ?_
    · try dsimp only at hK ⊢
      try simp only [List.getElem_toArray, List.getElem_cons_succ, List.getElem_cons_zero, Act.put, List.setIfInBounds_toArray, List.set_cons_zero, List.set_cons_succ]
      have q0 := (hS.cell (p := ⟨bx, 0, none⟩) hlt).trans c0
      have q1 := (hS.cell (p := ⟨bx, 1, none⟩) hlt).trans c1
      have q2 := (hS.cell (p := ⟨bx, 2, none⟩) hlt).trans c2
      have q3 := (hS.cell (p := ⟨bx, 3, none⟩) hlt).trans c3
      have q4 := (hS.cell (p := ⟨bx, 4, none⟩) hlt).trans c4
      have q5 := (hS.cell (p := ⟨bx, 5, none⟩) hlt).trans c5
      go_simp
      exact hK.out _ _ hS (Below.refl _ _) rfl
    refine TellsFrom.cons rfl (fun vs wz hS hd K hK => ?_) ?_
    · try dsimp only at hK ⊢
      try simp only [List.getElem_toArray, List.getElem_cons_succ, List.getElem_cons_zero, Act.put, List.setIfInBounds_toArray, List.set_cons_zero, List.set_cons_succ]
      go_simp
      exact hK.out _ _ hS (Below.refl _ _) rfl
    refine TellsFrom.cons rfl (fun vs wz hS hd K hK => ?_) ?_
    · try dsimp only at hK ⊢
      have h0 : vs 0 = (.agg #[.int .i64 k, .int .i64 d, .int .i64 (Wd : Int), .int .i64 (Hi : Int), .slice ca cn cc, .slice pa pn pc]) := hd 0 (by kernel_rfl)
      generalize vs 0 = x0 at *
      subst h0
      have h1 : vs 1 = (.bool plain) := hd 1 (by kernel_rfl)
      generalize vs 1 = x1 at *
      subst h1
      try simp only [List.getElem_toArray, List.getElem_cons_succ, List.getElem_cons_zero, Act.put, List.setIfInBounds_toArray, List.set_cons_zero, List.set_cons_succ]
      go_simp
      refine (HNU.out wz).mono ?_
      rintro e v1 ⟨rfl, b1⟩
      exact hK.out _ _ (hS.trans (b1.mono hS.size)) b1 rfl
    refine TellsFrom.cons rfl (fun vs wz hS hd K hK => ?_) ?_
    · try dsimp only at hK ⊢
      have h2 : vs 2 = (.int .i64 (N : Int)) := hd 2 (by kernel_rfl)
      generalize vs 2 = x2 at *
      subst h2
      try simp only [List.getElem_toArray, List.getElem_cons_succ, List.getElem_cons_zero, Act.put, List.setIfInBounds_toArray, List.set_cons_zero, List.set_cons_succ]
      go_simp
      refine (HD0.out wz).mono ?_
      rintro e v1 ⟨rfl, b1⟩
      exact hK.out _ _ (hS.trans (b1.mono hS.size)) b1 rfl
    refine TellsFrom.cons rfl (fun vs wz hS hd K hK => ?_) ?_
    · try dsimp only at hK ⊢
      have h3 : vs 3 = (.string S0) := hd 3 (by kernel_rfl)
      generalize vs 3 = x3 at *
      subst h3
      try simp only [List.getElem_toArray, List.getElem_cons_succ, List.getElem_cons_zero, Act.put, List.setIfInBounds_toArray, List.set_cons_zero, List.set_cons_succ]
      have e := HJ1.out
      have g : ¬ 9223372036854775807 < 1 + S0.size := by omega
      go_simp
      exact hK.out _ _ hS (Below.refl _ _) rfl
    refine TellsFrom.cons rfl (fun vs wz hS hd K hK => ?_) ?_
    · try dsimp only at hK ⊢
      have h4 : vs 4 = (.string J1) := hd 4 (by kernel_rfl)
      generalize vs 4 = x4 at *
      subst h4
      try simp only [List.getElem_toArray, List.getElem_cons_succ, List.getElem_cons_zero, Act.put, List.setIfInBounds_toArray, List.set_cons_zero, List.set_cons_succ]
      have e := HJ2.out
      have g : ¬ 9223372036854775807 < J1.size + 1 := by omega
      go_simp
      exact hK.out _ _ hS (Below.refl _ _) rfl
    refine TellsFrom.cons rfl (fun vs wz hS hd K hK => ?_) ?_
    · try dsimp only at hK ⊢
      try simp only [List.getElem_toArray, List.getElem_cons_succ, List.getElem_cons_zero, Act.put, List.setIfInBounds_toArray, List.set_cons_zero, List.set_cons_succ]
      go_simp
      exact hK.out _ _ hS (Below.refl _ _) rfl
    refine TellsFrom.cons rfl (fun vs wz hS hd K hK => ?_) ?_
    · try dsimp only at hK ⊢
      have h6 : vs 6 = (.pointer (some ⟨bx, 2, none⟩)) := hd 6 (by kernel_rfl)
      generalize vs 6 = x6 at *
      subst h6
      try simp only [List.getElem_toArray, List.getElem_cons_succ, List.getElem_cons_zero, Act.put, List.setIfInBounds_toArray, List.set_cons_zero, List.set_cons_succ]
      have q0 := (hS.cell (p := ⟨bx, 2, none⟩) hlt).trans c2
      go_simp
      exact hK.out _ _ hS (Below.refl _ _) rfl
    refine TellsFrom.cons rfl (fun vs wz hS hd K hK => ?_) ?_
    · try dsimp only at hK ⊢
      have h7 : vs 7 = (.int .i64 (Wd : Int)) := hd 7 (by kernel_rfl)
      generalize vs 7 = x7 at *
      subst h7
      try simp only [List.getElem_toArray, List.getElem_cons_succ, List.getElem_cons_zero, Act.put, List.setIfInBounds_toArray, List.set_cons_zero, List.set_cons_succ]
      go_simp
      refine (HD1.out wz).mono ?_
      rintro e v1 ⟨rfl, b1⟩
      exact hK.out _ _ (hS.trans (b1.mono hS.size)) b1 rfl
    refine TellsFrom.cons rfl (fun vs wz hS hd K hK => ?_) ?_
    · try dsimp only at hK ⊢
      have h5 : vs 5 = (.string J2) := hd 5 (by kernel_rfl)
      generalize vs 5 = x5 at *
      subst h5
      have h8 : vs 8 = (.string S1) := hd 8 (by kernel_rfl)
      generalize vs 8 = x8 at *
      subst h8
      try simp only [List.getElem_toArray, List.getElem_cons_succ, List.getElem_cons_zero, Act.put, List.setIfInBounds_toArray, List.set_cons_zero, List.set_cons_succ]
      have e := HJ3.out
      have g : ¬ 9223372036854775807 < J2.size + S1.size := by omega
      go_simp
      exact hK.out _ _ hS (Below.refl _ _) rfl
    refine TellsFrom.cons rfl (fun vs wz hS hd K hK => ?_) ?_
    · try dsimp only at hK ⊢
      have h9 : vs 9 = (.string J3) := hd 9 (by kernel_rfl)
      generalize vs 9 = x9 at *
      subst h9
      try simp only [List.getElem_toArray, List.getElem_cons_succ, List.getElem_cons_zero, Act.put, List.setIfInBounds_toArray, List.set_cons_zero, List.set_cons_succ]
      have e := HJ4.out
      have g : ¬ 9223372036854775807 < J3.size + 1 := by omega
      go_simp
      exact hK.out _ _ hS (Below.refl _ _) rfl
    refine TellsFrom.cons rfl (fun vs wz hS hd K hK => ?_) ?_
    · try dsimp only at hK ⊢
      try simp only [List.getElem_toArray, List.getElem_cons_succ, List.getElem_cons_zero, Act.put, List.setIfInBounds_toArray, List.set_cons_zero, List.set_cons_succ]
      go_simp
      exact hK.out _ _ hS (Below.refl _ _) rfl
    refine TellsFrom.cons rfl (fun vs wz hS hd K hK => ?_) ?_
    · try dsimp only at hK ⊢
      have h11 : vs 11 = (.pointer (some ⟨bx, 3, none⟩)) := hd 11 (by kernel_rfl)
      generalize vs 11 = x11 at *
      subst h11
      try simp only [List.getElem_toArray, List.getElem_cons_succ, List.getElem_cons_zero, Act.put, List.setIfInBounds_toArray, List.set_cons_zero, List.set_cons_succ]
      have q0 := (hS.cell (p := ⟨bx, 3, none⟩) hlt).trans c3
      go_simp
      exact hK.out _ _ hS (Below.refl _ _) rfl
    refine TellsFrom.cons rfl (fun vs wz hS hd K hK => ?_) ?_
    · try dsimp only at hK ⊢
      have h12 : vs 12 = (.int .i64 (Hi : Int)) := hd 12 (by kernel_rfl)
      generalize vs 12 = x12 at *
      subst h12
      try simp only [List.getElem_toArray, List.getElem_cons_succ, List.getElem_cons_zero, Act.put, List.setIfInBounds_toArray, List.set_cons_zero, List.set_cons_succ]
      go_simp
      refine (HD2.out wz).mono ?_
      rintro e v1 ⟨rfl, b1⟩
      exact hK.out _ _ (hS.trans (b1.mono hS.size)) b1 rfl
    refine TellsFrom.cons rfl (fun vs wz hS hd K hK => ?_) ?_
    · try dsimp only at hK ⊢
      have h10 : vs 10 = (.string J4) := hd 10 (by kernel_rfl)
      generalize vs 10 = x10 at *
      subst h10
      have h13 : vs 13 = (.string S2) := hd 13 (by kernel_rfl)
      generalize vs 13 = x13 at *
      subst h13
      try simp only [List.getElem_toArray, List.getElem_cons_succ, List.getElem_cons_zero, Act.put, List.setIfInBounds_toArray, List.set_cons_zero, List.set_cons_succ]
      have e := HJ5.out
      have g : ¬ 9223372036854775807 < J4.size + S2.size := by omega
      go_simp
      exact hK.out _ _ hS (Below.refl _ _) rfl
    refine TellsFrom.cons rfl (fun vs wz hS hd K hK => ?_) ?_
    · try dsimp only at hK ⊢
      have h14 : vs 14 = (.string J5) := hd 14 (by kernel_rfl)
      generalize vs 14 = x14 at *
      subst h14
      try simp only [List.getElem_toArray, List.getElem_cons_succ, List.getElem_cons_zero, Act.put, List.setIfInBounds_toArray, List.set_cons_zero, List.set_cons_succ]
      have e := HJ6.out
      have g : ¬ 9223372036854775807 < J5.size + 1 := by omega
      go_simp
      exact hK.out _ _ hS (Below.refl _ _) rfl
    exact TellsFrom.nil
  · intro vs wz hS hd
    try dsimp only
    have h15 : vs 15 = .string J6 := hd 15 (by omega)
    clear hd
    generalize vs 0 = y0 at *
    generalize vs 1 = y1 at *
    generalize vs 2 = y2 at *
    generalize vs 3 = y3 at *
    generalize vs 4 = y4 at *
    generalize vs 5 = y5 at *
    generalize vs 6 = y6 at *
    generalize vs 7 = y7 at *
    generalize vs 8 = y8 at *
    generalize vs 9 = y9 at *
    generalize vs 10 = y10 at *
    generalize vs 11 = y11 at *
    generalize vs 12 = y12 at *
    generalize vs 13 = y13 at *
    generalize vs 14 = y14 at *
    generalize vs 15 = y15 at *
    subst h15
    have HS1 : Hid (Below V.heap.size V wz) := hS
    clear hS
    refine wpAnyH_ready (rs := [16]) (by kernel_rfl) (by simp) ?_
    refine AllReadyH.cons rfl (fun K hK => ?_) AllReadyH.nil
    go_simp
    refine hK.out _ _ trivial (fun _ => ?_)
    clear hK K
    refine wpAnyH_done (by kernel_rfl) ?_ _
    try simp only [List.getElem_toArray, List.getElem_cons_succ, List.getElem_cons_zero, Act.put, List.setIfInBounds_toArray, List.set_cons_zero, List.set_cons_succ]
    have HXZ : Hid (Bx wz bx (.int .i64 k) (.int .i64 d) (.int .i64 (Wd : Int)) (.int .i64 (Hi : Int)) (.slice ca cn cc) (.slice pa pn pc)) := Bx.kept (show Bx V bx (.int .i64 k) (.int .i64 d) (.int .i64 (Wd : Int)) (.int .i64 (Hi : Int)) (.slice ca cn cc) (.slice pa pn pc) from ⟨hlt, c0, c1, c2, c3, c4, c5⟩) HS1.out
    have HBZ : Hid (Below w.heap.size w wz) := HB.out.trans (HS1.out.mono HB.out.size)
    clear c0 c1 c2 c3 c4 c5 HS1 hlt
    have HHD : Hid (J6 = ⟨(80 :: Lib.decDigits N ++ [10] ++ Lib.decDigits Wd ++ [32] ++ Lib.decDigits Hi ++ [10]).toArray⟩ ∧ HL = Pn.head d N Wd Hi) := ⟨HJ.out, HHL.out⟩
    clear HJ HHL HNU HD0 HD1 HD2 HJ1 HJ2 HJ3 HJ4 HJ5 HJ6
    obtain ⟨hlt, c0, c1, c2, c3, c4, c5⟩ := HXZ.out
    go_upto_if 27 with fail
    go_cut [5] (fun s5 wx => s5 = .string ⟨HL.toArray⟩ ∧ Below w.heap.size w wx ∧ Bx wx bx (.int .i64 k) (.int .i64 d) (.int .i64 (Wd : Int)) (.int .i64 (Hi : Int)) (.slice ca cn cc) (.slice pa pn pc))
    case first =>
      by_cases h2 : k = 2
      · have hd24 : d = 24 := HPP.out.2.2.2.2.2.1.1 h2
        have g2 : (k == 2) = true := by rw [h2]; rfl
        have HE : Hid (J6 ++ ⟨#[50, 53, 53, 10]⟩ = ⟨HL.toArray⟩) := by
          show _ = _
          have e255 : Lib.decDigits (Pn.most 24).toNat = [50, 53, 53] := by decide +kernel
          rw [HHD.out.1, HHD.out.2, show (⟨#[50, 53, 53, 10]⟩ : ByteArray) = ⟨[50, 53, 53, 10].toArray⟩ from rfl, str_two]
          unfold Pn.head
          rw [if_neg (by omega), hd24, e255]
          rfl
        have g : ¬ 9223372036854775807 < J6.size + 4 := by omega
        clear h2 hd24
        go_wp2_with fail
        go_meet
        exact ⟨by rw [HE.out], HBZ.out, HXZ.out⟩
      · have g2 : (k == 2) = false := by rw [beq_eq_false_iff_ne]; exact h2
        by_cases h1 : d = 1
        · have g1 : decide (d > 1) = false := by simp; omega
          have HE : Hid (J6 = ⟨HL.toArray⟩) := by
            show _ = _
            rw [HHD.out.1, HHD.out.2]
            unfold Pn.head
            rw [if_pos h1, List.append_nil]
          clear h2 h1
          go_wp2_with fail
          go_meet
          exact ⟨by rw [HE.out], HBZ.out, HXZ.out⟩
        · have g1 : decide (d > 1) = true := by have := HDD.out; simp; omega
          obtain ⟨D, hD⟩ : ∃ D : Nat, d = (D : Int) := ⟨d.toNat, by have := HDD.out; omega⟩
          have hD8 : D = 2 ∨ D = 4 ∨ D = 8 := by
            have := HDD.out
            have h24 : d ≠ 24 := fun e => h2 (HPP.out.2.2.2.2.2.1.2 e)
            omega
          obtain ⟨G, hG⟩ : ∃ G : Nat, (G : Int) = Pn.most d := ⟨(Pn.most d).toNat, by unfold Pn.most; repeat' split <;> omega⟩
          have hPG : ((2 ^ D : Nat) : Int) - 1 = (G : Int) := by
            rw [hG, hD]
            rcases hD8 with rfl | rfl | rfl <;> rfl
          obtain ⟨Q, hQ⟩ : ∃ Q, Q = 2 ^ D := ⟨_, rfl⟩
          have hGb : G ≤ 255 := by have h := hG; unfold Pn.most at h; split at h; omega; split at h; omega; split at h <;> omega
          have HP : Hid (∀ w, Calls Tryd.prog 27 #[.int .i64 d] w fun e w' => e = .returned (.int .i64 (Q : Int)) ∧ w' = w) := by
            intro w; rw [hQ, hD]; exact l1Pow_any D w (by omega)
          rw [← hQ] at hPG
          have f1 := wrap_i64_nat G (by omega)
          obtain ⟨S3, hS3⟩ : ∃ S : ByteArray, S = ⟨(Lib.decDigits G).toArray⟩ := ⟨_, rfl⟩
          have z3 : S3.size ≤ 10 := by rw [hS3, str_size]; exact dec_short (by omega)
          have HD3 : Hid (∀ wz : World, Calls Tryd.prog 28 #[.int .i64 (G : Int)] wz fun e w' => e = .returned (.string S3) ∧ Below wz.heap.size wz w') := fun wz => by rw [hS3]; exact l1Dec_any G (by omega) wz
          obtain ⟨J7, hJ7⟩ : ∃ J : ByteArray, J = J6 ++ S3 := ⟨_, rfl⟩
          have z7 : J7.size ≤ 60 := by rw [hJ7, ByteArray.size_append]; omega
          have HE : Hid (J7 ++ ⟨#[10]⟩ = ⟨HL.toArray⟩) := by
            show _ = _
            rw [hJ7, HHD.out.1, HHD.out.2, hS3, show (⟨#[10]⟩ : ByteArray) = ⟨[10].toArray⟩ from rfl]
            unfold Pn.head
            rw [if_neg h1, ← hG]
            simp only [str_two, Int.toNat_natCast, List.append_assoc]
          have g7 : ¬ 9223372036854775807 < J6.size + S3.size := by omega
          have g8 : ¬ 9223372036854775807 < J7.size + 1 := by omega
          have e7 : J6 ++ S3 = J7 := hJ7.symm
          clear hG hS3 hJ7 hGb h1 h2 hD hQ
          go_wp2_with fail
          refine (HP.out _).mono ?_
          rintro e u1 ⟨rfl, hu⟩
          subst hu
          go_wp2_with fail
          refine (HD3.out _).mono ?_
          rintro e u2 ⟨rfl, b2⟩
          have HZ2 : Hid (Below w.heap.size w u2 ∧ Bx u2 bx (.int .i64 k) (.int .i64 d) (.int .i64 (Wd : Int)) (.int .i64 (Hi : Int)) (.slice ca cn cc) (.slice pa pn pc)) := ⟨HBZ.out.trans (b2.mono HBZ.out.size), HXZ.out.kept b2⟩
          clear b2
          go_wp2_with fail
          go_meet
          exact ⟨by rw [HE.out], HZ2.out⟩
    case rest =>
    obtain ⟨rfl, hBw, hXw⟩ := hcut
    have HS0 : Hid (Below w.heap.size w wc ∧ Bx wc bx (.int .i64 k) (.int .i64 d) (.int .i64 (Wd : Int)) (.int .i64 (Hi : Int)) (.slice ca cn cc) (.slice pa pn pc)) := ⟨hBw, hXw⟩
    have hHl : HL.length ≤ 60 := by
      rw [HHD.out.2]
      have e1 := dec_short (n := N) (by omega)
      have e2 := dec_short (n := Wd) (by omega)
      have e3 := dec_short (n := Hi) (by omega)
      have e4 : (Lib.decDigits (Pn.most d).toNat).length ≤ 10 := dec_short (by unfold Pn.most; repeat' split <;> omega)
      unfold Pn.head
      split <;> simp only [List.length_append, List.length_cons, List.length_nil] <;> omega
    clear c0 c1 c2 c3 c4 c5 hlt hBw hXw HBZ HXZ HHD
    obtain ⟨LN, hLN⟩ : ∃ LN, LN = Pn.line k d plain := ⟨_, rfl⟩
    have HLN : Hid (LN = Pn.line k d plain) := hLN
    go_wp2_with fail
    go_loopw [5, 6] (fun o i wr => ∃ (y : Nat) (X : ByteArray), y ≤ Hi ∧ i = .int .i64 (y : Int) ∧ o = .string X ∧ X.size ≤ 60 + 20000 * y ∧ Hid (X = ⟨(HL ++ ((rowsOfL Wd Hi ps).take y).flatMap LN).toArray⟩ ∧ Below w.heap.size w wr ∧ Bx wr bx (.int .i64 k) (.int .i64 d) (.int .i64 (Wd : Int)) (.int .i64 (Hi : Int)) (.slice ca cn cc) (.slice pa pn pc))) (fun _ i _ => Hi - (intOf i).toNat)
    case atStart => exact ⟨0, ⟨HL.toArray⟩, Nat.zero_le _, rfl, rfl, by rw [str_size]; omega, by rw [List.take_zero, List.flatMap_nil, List.append_nil], HS0.out⟩
    case round =>
      obtain ⟨y, X, hy, rfl, rfl, hX, HX⟩ := hrel
      clear HS0
      obtain ⟨_, c0, c1, c2, c3, c4, c5⟩ := HX.out.2.2
      by_cases hyh : y < Hi
      · have hyi : (y : Int) < (Hi : Int) := by omega
        obtain ⟨P, hP⟩ : ∃ P, P = y * Wd := ⟨_, rfl⟩
        obtain ⟨P2, hP2⟩ : ∃ P2, P2 = (y + 1) * Wd := ⟨_, rfl⟩
        obtain ⟨y2, hy2⟩ : ∃ y2, y2 = y + 1 := ⟨_, rfl⟩
        have hPi : (y : Int) * (Wd : Int) = (P : Int) := by rw [hP]; simp
        have hyi2 : (y : Int) + 1 = (y2 : Int) := by omega
        have hP2i : (y2 : Int) * (Wd : Int) = (P2 : Int) := by rw [hP2, hy2]; simp
        have hPP : P2 = P + Wd := by rw [hP2, hP, Nat.succ_mul]
        have hPn : P2 ≤ pn := by rw [HPP.out.2.2.2.1, hP2, Nat.mul_comm Wd Hi]; exact Nat.mul_le_mul_right _ (by omega)
        have hpn4 : pn ≤ 400 := by rw [HPP.out.2.2.2.1]; exact Nat.mul_le_mul hW hH
        have hpc := HPP.out.2.2.1
        have hpl := HPP.out.2.1
        have f1 := wrap_i64_nat P (by omega)
        have f2 := wrap_i64_nat P2 (by omega)
        have f3 := wrap_i64_nat y2 (by omega)
        rcases HPP.out.1 with e0 | ⟨b, off, rfl, hb, hcells⟩
        · rw [e0] at hpl; simp at hpl; omega
        have HSG : Hid ((∀ w', Below w.heap.size w w' → Ints w' (some ⟨b, off + P, none⟩) (seg ps P Wd)) ∧ (∀ z ∈ seg ps P Wd, z ∈ ps)) := by
          refine ⟨fun w' bb => seg_ints (HPP.out.1.kept bb) (by omega), fun z hz => ?_⟩
          unfold seg at hz
          rw [List.mem_map] at hz
          obtain ⟨t, ht, rfl⟩ := hz
          rw [List.mem_range] at ht
          rw [List.getD_eq_getElem?_getD, List.getElem?_eq_getElem (by omega)]
          exact List.getElem_mem _
        have HT : Hid (((rowsOfL Wd Hi ps).take (y + 1)).flatMap LN = ((rowsOfL Wd Hi ps).take y).flatMap LN ++ LN (seg ps P Wd)) := by rw [hP]; exact rowsOfL_take ps hyh LN
        have i1 : (P : Int) ≤ (P2 : Int) := by omega
        have i2 : (P2 : Int) ≤ (pc : Int) := by omega
        have i3 : P ≤ P2 := by omega
        have i4 : P2 ≤ pc := by omega
        have i5 : P2 - P = Wd := by omega
        have HY : Hid (y2 = y + 1) := hy2
        clear hP hP2 hy2 hb hcells hPP hpl
        cases plain with
        | false =>
          go_wp2_with fail
          obtain ⟨R, hR⟩ : ∃ R, R = Pn.pack k d (seg ps P Wd) := ⟨_, rfl⟩
          have HRC := HRW.out (some ⟨b, off + P, none⟩) (pc - P) (seg ps P Wd) wr HSG.out.2 (seg_len _ _ _) (HSG.out.1 wr HX.out.2.1) trivial
          rw [← hR] at HRC
          have hRl : R.length ≤ 100 := by rw [hR]; exact Pn.pack_len (by rw [seg_len]; exact hW)
          obtain ⟨Q, hQ⟩ : ∃ Q : ByteArray, Q = ⟨R.toArray⟩ := ⟨_, rfl⟩
          have hQs : Q.size ≤ 100 := by rw [hQ, str_size]; exact hRl
          have HE : Hid (X ++ Q = ⟨(HL ++ ((rowsOfL Wd Hi ps).take (y + 1)).flatMap LN).toArray⟩) := by
            show _ = _
            rw [HT.out, HX.out.1, hQ, str_two, HLN.out, hR, List.append_assoc]
            rfl
          have hX2 : (X ++ Q).size ≤ 60 + 20000 * y2 := by rw [ByteArray.size_append]; omega
          have hlen : ¬ 9223372036854775807 < X.size + Q.size := by omega
          rw [← hQ] at HRC
          have HXW : Hid (Below w.heap.size w wr ∧ Bx wr bx (.int .i64 k) (.int .i64 d) (.int .i64 (Wd : Int)) (.int .i64 (Hi : Int)) (.slice ca cn cc) (.slice (some ⟨b, off, none⟩) pn pc)) := HX.out.2
          clear hR hRl hQ HT HSG HX c0 c1 c2 c3 c4 c5 hQs
          refine HRC.mono ?_
          rintro e w1 ⟨rfl, b1⟩
          have HF : Hid (X ++ Q = ⟨(HL ++ ((rowsOfL Wd Hi ps).take y2).flatMap LN).toArray⟩ ∧ Below w.heap.size w w1 ∧ Bx w1 bx (.int .i64 k) (.int .i64 d) (.int .i64 (Wd : Int)) (.int .i64 (Hi : Int)) (.slice ca cn cc) (.slice (some ⟨b, off, none⟩) pn pc)) := ⟨by rw [HY.out]; exact HE.out, HXW.out.1.trans (b1.mono HXW.out.1.size), HXW.out.2.kept b1⟩
          clear b1 HE HXW HRC
          go_wp2_with fail
          go_roundw
          case rel => exact ⟨y2, _, by omega, rfl, rfl, hX2, HF⟩
          case measure => simp [intOf]; omega
        | true =>
          obtain ⟨SG, hSG⟩ : ∃ SG, SG = seg ps P Wd := ⟨_, rfl⟩
          have hSl : SG.length = Wd := by rw [hSG]; exact seg_len _ _ _
          rw [← hSG] at HSG HT
          have HX0 : Hid (X = X ++ ⟨(figs ((SG.take 0).flatMap fun p => Pn.pt k d p.toNat)).toArray⟩ ∧ Below w.heap.size w wr ∧ Bx wr bx (.int .i64 k) (.int .i64 d) (.int .i64 (Wd : Int)) (.int .i64 (Hi : Int)) (.slice ca cn cc) (.slice (some ⟨b, off, none⟩) pn pc)) := ⟨by rw [List.take_zero]; show X = X ++ ByteArray.empty; rw [ByteArray.append_empty], HX.out.2⟩
          have HXX : Hid (X = ⟨(HL ++ ((rowsOfL Wd Hi ps).take y).flatMap LN).toArray⟩) := HX.out.1
          clear hSG HX
          go_wp2_with fail
          clear c0 c1 c2 c3 c4 c5
          generalize wr = wo at *
          go_loopw [5, 8] (fun o i wr1 => ∃ (x : Nat) (X1 : ByteArray), x ≤ Wd ∧ i = .int .i64 (x : Int) ∧ o = .string X1 ∧ X1.size ≤ 60 + 20000 * y + 40 * x ∧ Hid (X1 = X ++ ⟨(figs ((SG.take x).flatMap fun p => Pn.pt k d p.toNat)).toArray⟩ ∧ Below w.heap.size w wr1 ∧ Bx wr1 bx (.int .i64 k) (.int .i64 d) (.int .i64 (Wd : Int)) (.int .i64 (Hi : Int)) (.slice ca cn cc) (.slice (some ⟨b, off, none⟩) pn pc))) (fun _ i _ => Wd - (intOf i).toNat)
          case atStart => exact ⟨0, X, Nat.zero_le _, rfl, rfl, by omega, HX0.out⟩
          case round =>
            obtain ⟨x, X1, hx, rfl, rfl, hX1, HX1⟩ := hrel
            clear HX0
            by_cases hxW : x < Wd
            · have hxi : (x : Int) < (Wd : Int) := by omega
              obtain ⟨_, c0, c1, c2, c3, c4, c5⟩ := HX1.out.2.2
              have hxl : x < SG.length := by omega
              obtain ⟨b1, o1, he, hbl, hcp⟩ := (HSG.out.1 wr HX1.out.2.1).cellAt hxl
              cases he
              have hin := HPP.out.2.2.2.2.1 _ (HSG.out.2 _ (List.getElem_mem hxl))
              obtain ⟨p, hp⟩ := Int.eq_ofNat_of_zero_le hin.1
              rw [hp] at hcp hin
              obtain ⟨Q, hQ⟩ : ∃ Q : ByteArray, Q = ⟨(figs (Pn.pt k d p)).toArray⟩ := ⟨_, rfl⟩
              have HPL : Hid (∀ w' : World, Calls Tryd.prog 31 #[.agg #[.int .i64 k, .int .i64 d, .int .i64 (Wd : Int), .int .i64 (Hi : Int), .slice ca cn cc, .slice (some ⟨b, off, none⟩) pn pc], .int .i64 (p : Int)] w' fun e w'' => e = .returned (.string Q) ∧ Below w'.heap.size w' w'') := fun w' => by rw [hQ]; exact l12Plain_any k d _ _ ca cn cc _ pn pc p (by omega) (fun _ hd1 => by have := hin.2.2 hd1; omega) w'
              have hQs : Q.size ≤ 40 := by rw [hQ, str_size]; exact pt_len k d p (by omega) (fun hd1 => by have := hin.2.2 hd1; omega)
              have hQX : ¬ 9223372036854775807 < X1.size + Q.size := by omega
              have HE1 : Hid (X1 ++ Q = X ++ ⟨(figs ((SG.take (x + 1)).flatMap fun p => Pn.pt k d p.toNat)).toArray⟩) := by
                show _ = _
                rw [HX1.out.1, List.take_succ_eq_append_getElem hxl, List.flatMap_append, figs_app, ← str_two, hQ, ByteArray.append_assoc]
                simp [hp]
              have hX2 : (X1 ++ Q).size ≤ 60 + 20000 * y + 40 * (x + 1) := by rw [ByteArray.size_append]; omega
              clear hp hin hQ hQs
              go_wp2_with fail
              refine wp_region_held_drew (S := fun w' => w'.cell? ⟨bx, 0, none⟩ = some (.int .i64 k) ∧ w'.cell? ⟨bx, 1, none⟩ = some (.int .i64 d) ∧ w'.cell? ⟨bx, 2, none⟩ = some (.int .i64 (Wd : Int)) ∧ w'.cell? ⟨bx, 3, none⟩ = some (.int .i64 (Hi : Int)) ∧ w'.cell? ⟨bx, 4, none⟩ = some (.slice ca cn cc) ∧ w'.cell? ⟨bx, 5, none⟩ = some (.slice (some ⟨b, off, none⟩) pn pc) ∧ w'.cell? ⟨b, off + P + x, none⟩ = some (.int .i64 (p : Int))) (by kernel_rfl) ⟨c0, c1, c2, c3, c4, c5, hcp⟩ (fun hHeld => ?_)
              refine wpAnyH_take (i := 0) (v := .string X1) rfl (by kernel_rfl) (by kernel_rfl) (by kernel_rfl) (fun _ _ _ h => h) (Or.inl ⟨by rfl, ?_⟩) hHeld ?_
              · intro w' hSw
                obtain ⟨s0, s1, s2, s3, s4, s5, s6⟩ := hSw
                go_simp
              try simp only [List.getElem_toArray, List.getElem_cons_succ, List.getElem_cons_zero, Act.put, List.setIfInBounds_toArray, List.set_cons_zero, List.set_cons_succ]
              refine wpAnyH_take (i := 1) (v := .agg #[.int .i64 k, .int .i64 d, .int .i64 (Wd : Int), .int .i64 (Hi : Int), .slice ca cn cc, .slice (some ⟨b, off, none⟩) pn pc]) rfl (by kernel_rfl) (by kernel_rfl) (by kernel_rfl) (fun _ _ _ h => h) (Or.inl ⟨by rfl, ?_⟩) hHeld ?_
              · intro w' hSw
                obtain ⟨s0, s1, s2, s3, s4, s5, s6⟩ := hSw
                go_simp
              try simp only [List.getElem_toArray, List.getElem_cons_succ, List.getElem_cons_zero, Act.put, List.setIfInBounds_toArray, List.set_cons_zero, List.set_cons_succ]
              refine wpAnyH_take (i := 2) (v := .slice (some ⟨b, off + P, none⟩) Wd (pc - P)) rfl (by kernel_rfl) (by kernel_rfl) (by kernel_rfl) (fun _ _ _ h => h) (Or.inl ⟨by rfl, ?_⟩) hHeld ?_
              · intro w' hSw
                obtain ⟨s0, s1, s2, s3, s4, s5, s6⟩ := hSw
                go_simp
              try simp only [List.getElem_toArray, List.getElem_cons_succ, List.getElem_cons_zero, Act.put, List.setIfInBounds_toArray, List.set_cons_zero, List.set_cons_succ]
              refine wpAnyH_take (i := 3) (v := .int .i64 (x : Int)) rfl (by kernel_rfl) (by kernel_rfl) (by kernel_rfl) (fun _ _ _ h => h) (Or.inl ⟨by rfl, ?_⟩) hHeld ?_
              · intro w' hSw
                obtain ⟨s0, s1, s2, s3, s4, s5, s6⟩ := hSw
                go_simp
              try simp only [List.getElem_toArray, List.getElem_cons_succ, List.getElem_cons_zero, Act.put, List.setIfInBounds_toArray, List.set_cons_zero, List.set_cons_succ]
              refine wpAnyH_take (i := 4) (v := .pointer (some ⟨b, off + P + x, none⟩)) rfl (by kernel_rfl) (by kernel_rfl) (by kernel_rfl) (fun _ _ _ h => h) (Or.inl ⟨by rfl, ?_⟩) hHeld ?_
              · intro w' hSw
                obtain ⟨s0, s1, s2, s3, s4, s5, s6⟩ := hSw
                go_simp
              try simp only [List.getElem_toArray, List.getElem_cons_succ, List.getElem_cons_zero, Act.put, List.setIfInBounds_toArray, List.set_cons_zero, List.set_cons_succ]
              refine wpAnyH_take (i := 5) (v := .int .i64 (p : Int)) rfl (by kernel_rfl) (by kernel_rfl) (by kernel_rfl) (fun _ _ _ h => h) (Or.inl ⟨by rfl, ?_⟩) hHeld ?_
              · intro w' hSw
                obtain ⟨s0, s1, s2, s3, s4, s5, s6⟩ := hSw
                go_simp
              try simp only [List.getElem_toArray, List.getElem_cons_succ, List.getElem_cons_zero, Act.put, List.setIfInBounds_toArray, List.set_cons_zero, List.set_cons_succ]
              refine wpAnyH_ready (rs := [6]) (by kernel_rfl) (by simp) ?_
              refine AllReadyH.cons rfl (fun K hK => ?_) AllReadyH.nil
              go_simp
              refine (HPL.out _).mono ?_
              rintro e w3 ⟨rfl, b3⟩
              have HX3 : Hid (Below w.heap.size w w3 ∧ Bx w3 bx (.int .i64 k) (.int .i64 d) (.int .i64 (Wd : Int)) (.int .i64 (Hi : Int)) (.slice ca cn cc) (.slice (some ⟨b, off, none⟩) pn pc)) := ⟨HX1.out.2.1.drew.trans (b3.mono HX1.out.2.1.size), HX1.out.2.2.kept ((Below.refl _ _).drew.trans b3)⟩
              obtain ⟨_, d0, d1, d2, d3, d4, d5⟩ := HX3.out.2
              have dp : w3.cell? ⟨b, off + P + x, none⟩ = some (.int .i64 (p : Int)) := (((Below.refl _ _).drew.trans b3 : Below wr.heap.size wr w3).cell (p := ⟨b, off + P + x, none⟩) hbl).trans hcp
              refine hK.out _ _ ⟨d0, d1, d2, d3, d4, d5, dp⟩ (fun hHeld => ?_)
              clear hK K
              try simp only [List.getElem_toArray, List.getElem_cons_succ, List.getElem_cons_zero, Act.put, List.setIfInBounds_toArray, List.set_cons_zero, List.set_cons_succ]
              refine wpAnyH_take (i := 7) (v := .string (X1 ++ Q)) rfl (by kernel_rfl) (by kernel_rfl) (by kernel_rfl) (fun _ _ _ h => h) (Or.inl ⟨by rfl, ?_⟩) hHeld ?_
              · intro w' hSw
                have hlen := hQX
                obtain ⟨s0, s1, s2, s3, s4, s5, s6⟩ := hSw
                go_simp
              try simp only [List.getElem_toArray, List.getElem_cons_succ, List.getElem_cons_zero, Act.put, List.setIfInBounds_toArray, List.set_cons_zero, List.set_cons_succ]
              refine wpAnyH_ready (rs := [8]) (by kernel_rfl) (by simp) ?_
              refine AllReadyH.cons rfl (fun K hK => ?_) AllReadyH.nil
              go_simp
              refine hK.out _ _ hHeld (fun _ => ?_)
              clear hK K
              refine wpAnyH_done (by kernel_rfl) ?_ _
              try simp only [List.getElem_toArray, List.getElem_cons_succ, List.getElem_cons_zero, Act.put, List.setIfInBounds_toArray, List.set_cons_zero, List.set_cons_succ]
              have HF : Hid (X1 ++ Q = X ++ ⟨(figs ((SG.take (x + 1)).flatMap fun p => Pn.pt k d p.toNat)).toArray⟩ ∧ Below w.heap.size w w3 ∧ Bx w3 bx (.int .i64 k) (.int .i64 d) (.int .i64 (Wd : Int)) (.int .i64 (Hi : Int)) (.slice ca cn cc) (.slice (some ⟨b, off, none⟩) pn pc)) := ⟨HE1.out, HX3.out⟩
              clear hHeld b3 HX3 HE1 HX1 HPL d0 d1 d2 d3 d4 d5 dp c0 c1 c2 c3 c4 c5 hcp
              go_wp2_with fail
              go_roundw
              case rel => exact ⟨x + 1, _, by omega, by go_num, rfl, hX2, HF⟩
              case measure => simp [intOf]; omega
            · have hxi : ¬ (x : Int) < (Wd : Int) := by omega
              have hxe : x = Wd := by omega
              have hlen : ¬ 9223372036854775807 < X1.size + 1 := by omega
              have HF : Hid (X1 ++ ⟨#[10]⟩ = ⟨(HL ++ ((rowsOfL Wd Hi ps).take y2).flatMap LN).toArray⟩ ∧ Below w.heap.size w wr ∧ Bx wr bx (.int .i64 k) (.int .i64 d) (.int .i64 (Wd : Int)) (.int .i64 (Hi : Int)) (.slice ca cn cc) (.slice (some ⟨b, off, none⟩) pn pc)) := by
                refine ⟨?_, HX1.out.2⟩
                rw [HY.out, HT.out, HX1.out.1, List.take_of_length_le (by omega), HXX.out, HLN.out, show (⟨#[10]⟩ : ByteArray) = ⟨[10].toArray⟩ from rfl, str_two, str_two]
                simp [Pn.line, List.append_assoc]
              have hX2 : (X1 ++ (⟨#[10]⟩ : ByteArray)).size ≤ 60 + 20000 * y2 := by rw [ByteArray.size_append]; show _ + 1 ≤ _; omega
              clear HX1 HXX HT HSG
              go_wp2_with fail
              go_roundw
              case rel => exact ⟨y2, _, by omega, rfl, rfl, hX2, HF⟩
              case measure => simp [intOf]; omega
      · have hyi : ¬ (y : Int) < (Hi : Int) := by omega
        have hye : y = Hi := by omega
        subst hye
        have HE : Hid (X = ⟨(HL ++ (rowsOfL Wd y ps).flatMap (Pn.line k d plain)).toArray⟩ ∧ Below w.heap.size w wr) := by
          refine ⟨?_, HX.out.2.1⟩
          rw [HX.out.1, List.take_of_length_le (by rw [rowsOfL_len]; exact Nat.le_refl _), HLN.out]
        clear HX
        obtain ⟨hXe, hbe⟩ := HE.out
        subst hXe
        go_wp2_with fail
        go_ret
        exact ⟨rfl, hbe⟩
end Go.Proofs.YtbfeonhokagdjaaDoor
