/- What the next bytes say, done by the program. -/
import Derived.Test.YtlpfedhehfbfeaaRlPut
import Derived.Deep.RegionHeld
namespace Go.Proofs.Ytlpfedhehfbfeaa
open Go.RowKit

/-- how a step ends -/
def StEnd (base : Nat) (w : World) (B S R : Nat) (G : List Nat) (W : Nat) (ro : Option Addr) (cp : Nat) (s : ByteArray) (A x y : Nat) (g : Rl.Grid) (e : Ending) (w' : World) : Prop :=
  (∃ o : Rl.Out, Rl.step s W G.length A g x y = some o ∧ e = .returned (.bool o.1) ∧ Rst base w B S R G W ro cp s o.2.1 o.2.2.2.1 o.2.2.2.2 o.2.2.1 w') ∨ (Rl.step s W G.length A g x y = none ∧ ∃ c, c ≠ 0 ∧ e = fault c ∧ Tn B S G w w')

set_option linter.unusedSimpArgs false in
set_option maxHeartbeats 8000000 in
set_option maxRecDepth 100000 in
theorem sheetStep_any (base : Nat) (w : World) (B S R : Nat) (G : List Nat) (W : Nat) (ro : Option Addr) (cp : Nat) (s : ByteArray) (A x y : Nat) (g : Rl.Grid) (wr : World) (h : Rst base w B S R G W ro cp s A x y g wr) (ap : Apart B S R G ro) (hs : s.size ≤ 9000) (hA : A ≤ s.size) (hx9 : x ≤ 3000000) (hy9 : y ≤ 3000000) :
    Calls Try.prog 30 #[.pointer (some ⟨S, 0, none⟩), .pointer (some ⟨B, 0, none⟩)] wr (StEnd base w B S R G W ro cp s A x y g) := by
  have HNB : Hid (∀ (A' x' y' : Nat) (g' : Rl.Grid) (w2 : World), Rst base w B S R G W ro cp s A' x' y' g' w2 → A' < s.size → Calls Try.prog 46 #[.pointer (some ⟨B, 0, none⟩)] w2 fun e w' => e = .returned (.int .i64 (byteAt s A' : Int)) ∧ Rst base w B S R G W ro cp s (A' + 1) x' y' g' w') := fun A' x' y' g' w2 hr hlt => by
    refine (nextByte_yes B A' s w2 hr.1 (by omega) hlt).mono ?_
    rintro e w' ⟨h1, h2, h3, h4⟩
    exact ⟨h1, hr.read ap h3 h4 h2⟩
  have HNF : Hid (∀ (A' x' y' : Nat) (g' : Rl.Grid) (w2 : World), Rst base w B S R G W ro cp s A' x' y' g' w2 → A' = s.size → Calls Try.prog 46 #[.pointer (some ⟨B, 0, none⟩)] w2 fun e w' => e = fault 2 ∧ Tn B S G w w') := fun A' x' y' g' w2 hr hlt => by
    refine (nextByte_no B A' s w2 hr.1 (by omega) hlt).mono ?_
    rintro e w' ⟨h1, h2, h3, h4⟩
    exact ⟨h1, hr.2.2.2.only h3 h4⟩
  have HPT : Hid (∀ (A' x' y' : Nat) (g' : Rl.Grid) (b : Int) (w2 : World), Rst base w B S R G W ro cp s A' x' y' g' w2 → x' ≤ 10000000 → Calls Try.prog 47 #[.pointer (some ⟨S, 0, none⟩), .int .i64 b] w2 (PtEndR base w B S R G W ro cp s A' x' y' g' b)) := fun A' x' y' g' b w2 hr h1 => sheetPut_any base w B S R G W ro cp s A' x' y' g' b w2 hr ap h1
  have HR0 : Hid (Rst base w B S R G W ro cp s A x y g wr) := h
  clear h
  go_enter Try.func30, Try.ntmps30
  go_wp2_with fail
  by_cases h0 : A < s.size
  rotate_left
  · have hno : Rl.step s W G.length A g x y = none := by unfold Rl.step; rw [if_neg (by omega)]
    refine (HNF.out A x y g wr HR0.out (by omega)).mono ?_
    rintro e w2 ⟨rfl, h2⟩
    have HF : Hid (StEnd base w B S R G W ro cp s A x y g (fault 2) w2) := .inr ⟨hno, 2, by decide, rfl, h2⟩
    clear h2 hno HNB HNF HPT HR0
    unfold fault
    go_wp2_with fail
    exact ⟨rfl, HF.out⟩
  refine (HNB.out A x y g wr HR0.out h0).mono ?_
  rintro e w2 ⟨rfl, h2⟩
  have HR2 : Hid (Rst base w B S R G W ro cp s (A + 1) x y g w2) := h2
  clear h2 HR0
  obtain ⟨c, hc⟩ : ∃ c, c = byteAt s A := ⟨_, rfl⟩
  have HC : Hid (c = byteAt s A) := hc
  have hcb : c < 256 := by rw [hc]; exact byteAt_lt _ _
  rw [← hc]
  clear hc
  go_wp2_with fail
  by_cases h1 : A + 1 < s.size
  rotate_left
  · have hno : Rl.step s W G.length A g x y = none := by unfold Rl.step; rw [if_neg (by omega)]
    refine (HNF.out (A + 1) x y g w2 HR2.out (by omega)).mono ?_
    rintro e w3 ⟨rfl, h2⟩
    have HF : Hid (StEnd base w B S R G W ro cp s A x y g (fault 2) w3) := .inr ⟨hno, 2, by decide, rfl, h2⟩
    clear h2 hno HNB HNF HPT HR2
    unfold fault
    go_wp2_with fail
    exact ⟨rfl, HF.out⟩
  refine (HNB.out (A + 1) x y g w2 HR2.out h1).mono ?_
  rintro e w3 ⟨rfl, h2⟩
  have HR3 : Hid (Rst base w B S R G W ro cp s (A + 2) x y g w3) := h2
  clear h2 HR2
  obtain ⟨b, hb⟩ : ∃ b, b = byteAt s (A + 1) := ⟨_, rfl⟩
  have HB : Hid (b = byteAt s (A + 1)) := hb
  have hbb : b < 256 := by rw [hb]; exact byteAt_lt _ _
  rw [← hb]
  have h2s : A + 2 ≤ s.size := by omega
  have HST : Hid (Rl.step s W G.length A g x y = if 0 < c then (Rl.puts W G.length (List.replicate c (b : Int)) g x y).map (fun r => (true, A + 2, r.1, r.2, y)) else if b = 0 then some (true, A + 2, g, 0, y + 1) else if b = 1 then some (false, A + 2, g, x, y) else if b = 2 then (if A + 4 ≤ s.size then some (true, A + 4, g, x + byteAt s (A + 2), y + byteAt s (A + 3)) else none) else if A + 2 + b + b % 2 ≤ s.size then (Rl.puts W G.length (Rl.lit s (A + 2) b) g x y).map (fun r => (true, A + 2 + b + b % 2, r.1, r.2, y)) else none) := by
    show _ = _
    unfold Rl.step
    rw [if_pos h2s, HB.out, HC.out]
  clear hb HB HC
  by_cases hc0 : 0 < c
  · have hc0i : (0 : Int) < (c : Int) := by omega
    have HSP : Hid (Rl.step s W G.length A g x y = (Rl.puts W G.length (List.replicate c (b : Int)) g x y).map (fun r => (true, A + 2, r.1, r.2, y))) := by show _ = _; rw [HST.out, if_pos hc0]
    clear HST
    go_wp2_with fail
    go_loopw [27] (fun i wr' => ∃ (k x' : Nat) (g' : Rl.Grid), k ≤ c ∧ i = .int .i64 (k : Int) ∧ x' ≤ x + k ∧ Hid (Rl.puts W G.length (List.replicate c (b : Int)) g x y = Rl.puts W G.length ((List.replicate c (b : Int)).drop k) g' x' y) ∧ Hid (Rst base w B S R G W ro cp s (A + 2) x' y g' wr')) (fun i _ => c - (intOf i).toNat)
    case atStart => exact ⟨0, x, g, Nat.zero_le _, rfl, Nat.le_refl _, rfl, HR3⟩
    case round =>
      obtain ⟨k, x', g', hk, rfl, hx', HP, HR⟩ := hrel
      clear HR3
      by_cases hkc : k < c
      · have hkci : (k : Int) < (c : Int) := by omega
        go_wp2_with fail
        refine (HPT.out (A + 2) x' y g' (b : Int) _ HR.out (by omega)).mono ?_
        rintro e w4 (⟨h1, rfl, h2⟩ | ⟨h1, rfl, h2⟩)
        · have HP2 : Hid (Rl.puts W G.length (List.replicate c (b : Int)) g x y = Rl.puts W G.length ((List.replicate c (b : Int)).drop (k + 1)) (Rl.upd g' y x' (b : Int)) (x' + 1) y) := by
            show _ = _
            rw [HP.out, Rl.rep_drop _ _ _ hkc, Rl.puts_yes h1]
          have HR4 : Hid (Rst base w B S R G W ro cp s (A + 2) (x' + 1) y (Rl.upd g' y x' (b : Int)) w4) := h2
          clear h1 h2 HP HR
          go_wp2_with fail
          go_roundw
          case rel => exact ⟨k + 1, x' + 1, _, by omega, by go_num, by omega, HP2.out, HR4.out⟩
          case measure => simp [intOf]; omega
        · have hno : Rl.step s W G.length A g x y = none := by rw [HSP.out, HP.out, Rl.rep_drop _ _ _ hkc, Rl.puts_no h1]; rfl
          have HF : Hid (StEnd base w B S R G W ro cp s A x y g (fault 1) w4) := .inr ⟨hno, 1, by decide, rfl, h2⟩
          clear h1 h2 hno HNB HNF HPT HP HR HSP
          unfold fault
          go_wp2_with fail
          exact ⟨rfl, HF.out⟩
      · have hkci : ¬ (k : Int) < (c : Int) := by omega
        have HF : Hid (StEnd base w B S R G W ro cp s A x y g (.returned (.bool true)) wr) := by
          refine .inl ⟨(true, A + 2, g', x', y), ?_, rfl, HR.out⟩
          rw [HSP.out, HP.out, List.drop_of_length_le (by simp; omega)]; rfl
        clear HP HR HSP HNB HNF HPT
        go_wp2_with fail
        go_ret
        exact HF.out
  have hc0' : c = 0 := by omega
  subst hc0'
  obtain ⟨c0, c1, c2, z1, z2⟩ := HR3.out.2.1.cells
  by_cases hb0 : b = 0
  · subst hb0
    have HSP : Hid (Rl.step s W G.length A g x y = some (true, A + 2, g, 0, y + 1)) := by show _ = _; rw [HST.out, if_neg (by omega), if_pos rfl]
    have HF : Hid (StEnd base w B S R G W ro cp s A x y g (.returned (.bool true)) ((w3.setCell ⟨S, 1, none⟩ (.int .i64 0)).setCell ⟨S, 2, none⟩ (.int .i64 ((y : Int) + 1)))) := by
      have h1 := (HR3.out.setX ap 0).setY ap (y + 1)
      rw [show ((y + 1 : Nat) : Int) = (y : Int) + 1 by omega] at h1
      exact .inl ⟨(true, A + 2, g, 0, y + 1), HSP.out, rfl, h1⟩
    clear HST HSP HNB HNF HPT HR3
    go_wp2_with fail
    go_ret
    exact HF.out
  have g0 : ((b : Int) == 0) = false := by rw [beq_eq_false_iff_ne]; omega
  by_cases hb1 : b = 1
  · subst hb1
    have HSP : Hid (Rl.step s W G.length A g x y = some (false, A + 2, g, x, y)) := by show _ = _; rw [HST.out, if_neg (by omega), if_neg (by omega), if_pos rfl]
    have HF : Hid (StEnd base w B S R G W ro cp s A x y g (.returned (.bool false)) w3) := .inl ⟨(false, A + 2, g, x, y), HSP.out, rfl, HR3.out⟩
    clear HST HSP HNB HNF HPT HR3
    go_wp2_with fail
    go_ret
    exact HF.out
  have g1 : ((b : Int) == 1) = false := by rw [beq_eq_false_iff_ne]; omega
  by_cases hb2 : b = 2
  · subst hb2
    have HSP : Hid (Rl.step s W G.length A g x y = if A + 4 ≤ s.size then some (true, A + 4, g, x + byteAt s (A + 2), y + byteAt s (A + 3)) else none) := by show _ = _; rw [HST.out, if_neg (by omega), if_neg (by omega), if_neg (by omega), if_pos rfl]
    clear HST HPT
    by_cases h3 : A + 2 < s.size
    rotate_left
    · have hno : Rl.step s W G.length A g x y = none := by rw [HSP.out, if_neg (by omega)]
      go_wp2_with fail
      refine wp_region_held_drew (S := fun w' => w'.cell? ⟨S, 1, none⟩ = some (.int .i64 (x : Int))) (by kernel_rfl) c1 (fun hHeld => ?_)
      refine wpAnyH_take (i := 0) (v := .pointer (some ⟨S, 0, none⟩)) rfl (by kernel_rfl) (by kernel_rfl) (by kernel_rfl) (fun _ _ _ h => h) (Or.inl ⟨by rfl, ?_⟩) hHeld ?_
      · intro w' s1
        go_simp
      try simp only [Act.put, List.setIfInBounds_toArray, List.set_cons_zero, List.set_cons_succ]
      refine wpAnyH_take (i := 1) (v := .pointer (some ⟨S, 0, none⟩)) rfl (by kernel_rfl) (by kernel_rfl) (by kernel_rfl) (fun _ _ _ h => h) (Or.inl ⟨by rfl, ?_⟩) hHeld ?_
      · intro w' s1
        go_simp
      try simp only [Act.put, List.setIfInBounds_toArray, List.set_cons_zero, List.set_cons_succ]
      refine wpAnyH_take (i := 2) (v := .pointer (some ⟨S, 1, none⟩)) rfl (by kernel_rfl) (by kernel_rfl) (by kernel_rfl) (fun _ _ _ h => h) (Or.inl ⟨by rfl, ?_⟩) hHeld ?_
      · intro w' s1
        go_simp
      try simp only [Act.put, List.setIfInBounds_toArray, List.set_cons_zero, List.set_cons_succ]
      refine wpAnyH_take (i := 3) (v := .int .i64 (x : Int)) rfl (by kernel_rfl) (by kernel_rfl) (by kernel_rfl) (fun _ _ _ h => h) (Or.inl ⟨by rfl, ?_⟩) hHeld ?_
      · intro w' s1
        go_simp
      try simp only [Act.put, List.setIfInBounds_toArray, List.set_cons_zero, List.set_cons_succ]
      refine wpAnyH_take (i := 4) (v := .pointer (some ⟨B, 0, none⟩)) rfl (by kernel_rfl) (by kernel_rfl) (by kernel_rfl) (fun _ _ _ h => h) (Or.inl ⟨by rfl, ?_⟩) hHeld ?_
      · intro w' s1
        go_simp
      try simp only [Act.put, List.setIfInBounds_toArray, List.set_cons_zero, List.set_cons_succ]
      refine wpAnyH_ready (rs := [5]) (by kernel_rfl) (by simp) ?_
      refine AllReadyH.cons rfl (fun K hK => ?_) AllReadyH.nil
      go_simp
      refine (HNF.out (A + 2) x y g w3.drew (HR3.out.drewN 1) (by omega)).mono ?_
      rintro e w9 ⟨rfl, h9⟩
      have HF : Hid (StEnd base w B S R G W ro cp s A x y g (fault 2) w9) := .inr ⟨hno, 2, by decide, rfl, h9⟩
      clear h9 hno
      unfold fault
      go_wp2_with fail
      exact ⟨rfl, HF.out⟩
    obtain ⟨u, hu⟩ : ∃ u, u = byteAt s (A + 2) := ⟨_, rfl⟩
    have hub : u < 256 := by rw [hu]; exact byteAt_lt _ _
    have HCX : Hid (Calls Try.prog 46 #[.pointer (some ⟨B, 0, none⟩)] w3.drew fun e w' => e = .returned (.int .i64 (u : Int)) ∧ Rst base w B S R G W ro cp s (A + 3) x y g w') := by rw [hu]; exact HNB.out (A + 2) x y g w3.drew (HR3.out.drewN 1) h3
    obtain ⟨X, hX⟩ : ∃ X, X = x + u := ⟨_, rfl⟩
    have eX : (x : Int) + (u : Int) = (X : Int) := by omega
    have fX := wrap_i64_nat X (by omega)
    have HXE : Hid (X = x + byteAt s (A + 2)) := by rw [← hu]; exact hX
    clear hu hX
    go_wp2_with fail
    refine wp_region_held_drew (S := fun _ => True) (by kernel_rfl) trivial (fun hHeld => ?_)
    refine wpAnyH_take (i := 0) (v := .pointer (some ⟨S, 0, none⟩)) rfl (by kernel_rfl) (by kernel_rfl) (by kernel_rfl) (fun _ _ _ h => h) (Or.inl ⟨by rfl, ?_⟩) hHeld ?_
    · intro w' _
      go_simp
    try simp only [Act.put, List.setIfInBounds_toArray, List.set_cons_zero, List.set_cons_succ]
    refine wpAnyH_take (i := 1) (v := .pointer (some ⟨S, 0, none⟩)) rfl (by kernel_rfl) (by kernel_rfl) (by kernel_rfl) (fun _ _ _ h => h) (Or.inl ⟨by rfl, ?_⟩) hHeld ?_
    · intro w' _
      go_simp
    try simp only [Act.put, List.setIfInBounds_toArray, List.set_cons_zero, List.set_cons_succ]
    refine wpAnyH_take (i := 2) (v := .pointer (some ⟨S, 1, none⟩)) rfl (by kernel_rfl) (by kernel_rfl) (by kernel_rfl) (fun _ _ _ h => h) (Or.inl ⟨by rfl, ?_⟩) hHeld ?_
    · intro w' _
      go_simp
    try simp only [Act.put, List.setIfInBounds_toArray, List.set_cons_zero, List.set_cons_succ]
    refine wpAnyH_take (i := 4) (v := .pointer (some ⟨B, 0, none⟩)) rfl (by kernel_rfl) (by kernel_rfl) (by kernel_rfl) (fun _ _ _ h => h) (Or.inl ⟨by rfl, ?_⟩) hHeld ?_
    · intro w' _
      go_simp
    try simp only [Act.put, List.setIfInBounds_toArray, List.set_cons_zero, List.set_cons_succ]
    refine wpAnyH_ready (rs := [3, 5]) (by kernel_rfl) (by simp) ?_
    refine AllReadyH.cons rfl (fun K hK => ?_) (AllReadyH.cons rfl (fun K hK => ?_) AllReadyH.nil)
    · go_simp
      refine hK.out _ _ trivial (fun hHeld => ?_)
      clear hK K
      try simp only [Act.put, List.setIfInBounds_toArray, List.set_cons_zero, List.set_cons_succ]
      refine wpAnyH_ready (rs := [5]) (by kernel_rfl) (by simp) ?_
      refine AllReadyH.cons rfl (fun K hK => ?_) AllReadyH.nil
      go_simp
      refine HCX.out.mono ?_
      rintro e w5 ⟨rfl, h5⟩
      have HR5 : Hid (Rst base w B S R G W ro cp s (A + 3) x y g w5) := h5
      clear h5
      have k5 := HR5.out.2.1.cells.2.1
      have z5 := HR5.out.2.1.cells.2.2.2.1
      refine hK.out _ _ trivial (fun hHeld => ?_)
      clear hK K
      try simp only [Act.put, List.setIfInBounds_toArray, List.set_cons_zero, List.set_cons_succ]
      refine wpAnyH_take (i := 6) (v := .int .i64 (X : Int)) rfl (by kernel_rfl) (by kernel_rfl) (by kernel_rfl) (fun _ _ _ h => h) (Or.inl ⟨by rfl, ?_⟩) hHeld ?_
      · intro w' _
        go_simp
      try simp only [Act.put, List.setIfInBounds_toArray, List.set_cons_zero, List.set_cons_succ]
      refine wpAnyH_take (i := 7) (v := .pointer (some ⟨S, 0, none⟩)) rfl (by kernel_rfl) (by kernel_rfl) (by kernel_rfl) (fun _ _ _ h => h) (Or.inl ⟨by rfl, ?_⟩) hHeld ?_
      · intro w' _
        go_simp
      try simp only [Act.put, List.setIfInBounds_toArray, List.set_cons_zero, List.set_cons_succ]
      refine wpAnyH_take (i := 8) (v := .pointer (some ⟨S, 1, none⟩)) rfl (by kernel_rfl) (by kernel_rfl) (by kernel_rfl) (fun _ _ _ h => h) (Or.inl ⟨by rfl, ?_⟩) hHeld ?_
      · intro w' _
        go_simp
      try simp only [Act.put, List.setIfInBounds_toArray, List.set_cons_zero, List.set_cons_succ]
      refine wpAnyH_ready (rs := [9]) (by kernel_rfl) (by simp) ?_
      refine AllReadyH.cons rfl (fun K hK => ?_) AllReadyH.nil
      go_simp
      refine hK.out _ _ trivial (fun hHeld => ?_)
      clear hK K hHeld
      refine wpAnyH_done (by kernel_rfl) ?_ _
      have HR6 : Hid (Rst base w B S R G W ro cp s (A + 3) X y g (w5.setCell ⟨S, 1, none⟩ (.int .i64 (X : Int)))) := HR5.out.setX ap X
      generalize w5.setCell ⟨S, 1, none⟩ (.int .i64 (X : Int)) = w6 at *
      clear HR5 k5 z5 HCX HR3 c0 c1 c2 z1 z2
      obtain ⟨-, -, d2, -, q2⟩ := HR6.out.2.1.cells
      by_cases h4 : A + 3 < s.size
      rotate_left
      · have hno : Rl.step s W G.length A g x y = none := by rw [HSP.out, if_neg (by omega)]
        go_wp2_with fail
        refine wp_region_held_drew (S := fun w' => w'.cell? ⟨S, 2, none⟩ = some (.int .i64 (y : Int))) (by kernel_rfl) d2 (fun hHeld => ?_)
        refine wpAnyH_take (i := 0) (v := .pointer (some ⟨S, 0, none⟩)) rfl (by kernel_rfl) (by kernel_rfl) (by kernel_rfl) (fun _ _ _ h => h) (Or.inl ⟨by rfl, ?_⟩) hHeld ?_
        · intro w' s1
          go_simp
        try simp only [Act.put, List.setIfInBounds_toArray, List.set_cons_zero, List.set_cons_succ]
        refine wpAnyH_take (i := 1) (v := .pointer (some ⟨S, 0, none⟩)) rfl (by kernel_rfl) (by kernel_rfl) (by kernel_rfl) (fun _ _ _ h => h) (Or.inl ⟨by rfl, ?_⟩) hHeld ?_
        · intro w' s1
          go_simp
        try simp only [Act.put, List.setIfInBounds_toArray, List.set_cons_zero, List.set_cons_succ]
        refine wpAnyH_take (i := 2) (v := .pointer (some ⟨S, 2, none⟩)) rfl (by kernel_rfl) (by kernel_rfl) (by kernel_rfl) (fun _ _ _ h => h) (Or.inl ⟨by rfl, ?_⟩) hHeld ?_
        · intro w' s1
          go_simp
        try simp only [Act.put, List.setIfInBounds_toArray, List.set_cons_zero, List.set_cons_succ]
        refine wpAnyH_take (i := 3) (v := .int .i64 (y : Int)) rfl (by kernel_rfl) (by kernel_rfl) (by kernel_rfl) (fun _ _ _ h => h) (Or.inl ⟨by rfl, ?_⟩) hHeld ?_
        · intro w' s1
          go_simp
        try simp only [Act.put, List.setIfInBounds_toArray, List.set_cons_zero, List.set_cons_succ]
        refine wpAnyH_take (i := 4) (v := .pointer (some ⟨B, 0, none⟩)) rfl (by kernel_rfl) (by kernel_rfl) (by kernel_rfl) (fun _ _ _ h => h) (Or.inl ⟨by rfl, ?_⟩) hHeld ?_
        · intro w' s1
          go_simp
        try simp only [Act.put, List.setIfInBounds_toArray, List.set_cons_zero, List.set_cons_succ]
        refine wpAnyH_ready (rs := [5]) (by kernel_rfl) (by simp) ?_
        refine AllReadyH.cons rfl (fun K hK => ?_) AllReadyH.nil
        go_simp
        refine (HNF.out (A + 3) X y g w6.drew (HR6.out.drewN 1) (by omega)).mono ?_
        rintro e w9 ⟨rfl, h9⟩
        have HF : Hid (StEnd base w B S R G W ro cp s A x y g (fault 2) w9) := .inr ⟨hno, 2, by decide, rfl, h9⟩
        clear h9 hno
        unfold fault
        go_wp2_with fail
        exact ⟨rfl, HF.out⟩
      obtain ⟨v, hv⟩ : ∃ v, v = byteAt s (A + 3) := ⟨_, rfl⟩
      have hvb : v < 256 := by rw [hv]; exact byteAt_lt _ _
      have HCY : Hid (Calls Try.prog 46 #[.pointer (some ⟨B, 0, none⟩)] w6.drew fun e w' => e = .returned (.int .i64 (v : Int)) ∧ Rst base w B S R G W ro cp s (A + 4) X y g w') := by rw [hv]; exact HNB.out (A + 3) X y g w6.drew (HR6.out.drewN 1) h4
      obtain ⟨Y, hY⟩ : ∃ Y, Y = y + v := ⟨_, rfl⟩
      have eY : (y : Int) + (v : Int) = (Y : Int) := by omega
      have fY := wrap_i64_nat Y (by omega)
      have HYE : Hid (Y = y + byteAt s (A + 3)) := by rw [← hv]; exact hY
      clear hv hY
      go_wp2_with fail
      refine wp_region_held_drew (S := fun _ => True) (by kernel_rfl) trivial (fun hHeld => ?_)
      refine wpAnyH_take (i := 0) (v := .pointer (some ⟨S, 0, none⟩)) rfl (by kernel_rfl) (by kernel_rfl) (by kernel_rfl) (fun _ _ _ h => h) (Or.inl ⟨by rfl, ?_⟩) hHeld ?_
      · intro w' _
        go_simp
      try simp only [Act.put, List.setIfInBounds_toArray, List.set_cons_zero, List.set_cons_succ]
      refine wpAnyH_take (i := 1) (v := .pointer (some ⟨S, 0, none⟩)) rfl (by kernel_rfl) (by kernel_rfl) (by kernel_rfl) (fun _ _ _ h => h) (Or.inl ⟨by rfl, ?_⟩) hHeld ?_
      · intro w' _
        go_simp
      try simp only [Act.put, List.setIfInBounds_toArray, List.set_cons_zero, List.set_cons_succ]
      refine wpAnyH_take (i := 2) (v := .pointer (some ⟨S, 2, none⟩)) rfl (by kernel_rfl) (by kernel_rfl) (by kernel_rfl) (fun _ _ _ h => h) (Or.inl ⟨by rfl, ?_⟩) hHeld ?_
      · intro w' _
        go_simp
      try simp only [Act.put, List.setIfInBounds_toArray, List.set_cons_zero, List.set_cons_succ]
      refine wpAnyH_take (i := 4) (v := .pointer (some ⟨B, 0, none⟩)) rfl (by kernel_rfl) (by kernel_rfl) (by kernel_rfl) (fun _ _ _ h => h) (Or.inl ⟨by rfl, ?_⟩) hHeld ?_
      · intro w' _
        go_simp
      try simp only [Act.put, List.setIfInBounds_toArray, List.set_cons_zero, List.set_cons_succ]
      refine wpAnyH_ready (rs := [3, 5]) (by kernel_rfl) (by simp) ?_
      refine AllReadyH.cons rfl (fun K hK => ?_) (AllReadyH.cons rfl (fun K hK => ?_) AllReadyH.nil)
      · go_simp
        refine hK.out _ _ trivial (fun hHeld => ?_)
        clear hK K
        try simp only [Act.put, List.setIfInBounds_toArray, List.set_cons_zero, List.set_cons_succ]
        refine wpAnyH_ready (rs := [5]) (by kernel_rfl) (by simp) ?_
        refine AllReadyH.cons rfl (fun K hK => ?_) AllReadyH.nil
        go_simp
        refine HCY.out.mono ?_
        rintro e w5 ⟨rfl, h5⟩
        have HR5 : Hid (Rst base w B S R G W ro cp s (A + 4) X y g w5) := h5
        clear h5
        have k5 := HR5.out.2.1.cells.2.2.1
        have z5 := HR5.out.2.1.cells.2.2.2.2
        refine hK.out _ _ trivial (fun hHeld => ?_)
        clear hK K
        try simp only [Act.put, List.setIfInBounds_toArray, List.set_cons_zero, List.set_cons_succ]
        refine wpAnyH_take (i := 6) (v := .int .i64 (Y : Int)) rfl (by kernel_rfl) (by kernel_rfl) (by kernel_rfl) (fun _ _ _ h => h) (Or.inl ⟨by rfl, ?_⟩) hHeld ?_
        · intro w' _
          go_simp
        try simp only [Act.put, List.setIfInBounds_toArray, List.set_cons_zero, List.set_cons_succ]
        refine wpAnyH_take (i := 7) (v := .pointer (some ⟨S, 0, none⟩)) rfl (by kernel_rfl) (by kernel_rfl) (by kernel_rfl) (fun _ _ _ h => h) (Or.inl ⟨by rfl, ?_⟩) hHeld ?_
        · intro w' _
          go_simp
        try simp only [Act.put, List.setIfInBounds_toArray, List.set_cons_zero, List.set_cons_succ]
        refine wpAnyH_take (i := 8) (v := .pointer (some ⟨S, 2, none⟩)) rfl (by kernel_rfl) (by kernel_rfl) (by kernel_rfl) (fun _ _ _ h => h) (Or.inl ⟨by rfl, ?_⟩) hHeld ?_
        · intro w' _
          go_simp
        try simp only [Act.put, List.setIfInBounds_toArray, List.set_cons_zero, List.set_cons_succ]
        refine wpAnyH_ready (rs := [9]) (by kernel_rfl) (by simp) ?_
        refine AllReadyH.cons rfl (fun K hK => ?_) AllReadyH.nil
        go_simp
        refine hK.out _ _ trivial (fun hHeld => ?_)
        clear hK K hHeld
        refine wpAnyH_done (by kernel_rfl) ?_ _
        have HF : Hid (StEnd base w B S R G W ro cp s A x y g (.returned (.bool true)) (w5.setCell ⟨S, 2, none⟩ (.int .i64 (Y : Int)))) := by
          refine .inl ⟨(true, A + 4, g, X, Y), ?_, rfl, HR5.out.setY ap Y⟩
          rw [HSP.out, if_pos (by omega), HXE.out, HYE.out]
        clear HR5 k5 z5 HCY HR6 d2 q2 HSP HNB HNF HXE HYE
        go_wp2_with fail
        go_ret
        exact HF.out
      · go_simp
        refine HCY.out.mono ?_
        rintro e w5 ⟨rfl, h5⟩
        have HR5 : Hid (Rst base w B S R G W ro cp s (A + 4) X y g w5) := h5
        clear h5
        have k5 := HR5.out.2.1.cells.2.2.1
        have z5 := HR5.out.2.1.cells.2.2.2.2
        refine hK.out _ _ trivial (fun hHeld => ?_)
        clear hK K
        try simp only [Act.put, List.setIfInBounds_toArray, List.set_cons_zero, List.set_cons_succ]
        refine wpAnyH_ready (rs := [3]) (by kernel_rfl) (by simp) ?_
        refine AllReadyH.cons rfl (fun K hK => ?_) AllReadyH.nil
        go_simp
        refine hK.out _ _ trivial (fun hHeld => ?_)
        clear hK K
        try simp only [Act.put, List.setIfInBounds_toArray, List.set_cons_zero, List.set_cons_succ]
        refine wpAnyH_take (i := 6) (v := .int .i64 (Y : Int)) rfl (by kernel_rfl) (by kernel_rfl) (by kernel_rfl) (fun _ _ _ h => h) (Or.inl ⟨by rfl, ?_⟩) hHeld ?_
        · intro w' _
          go_simp
        try simp only [Act.put, List.setIfInBounds_toArray, List.set_cons_zero, List.set_cons_succ]
        refine wpAnyH_take (i := 7) (v := .pointer (some ⟨S, 0, none⟩)) rfl (by kernel_rfl) (by kernel_rfl) (by kernel_rfl) (fun _ _ _ h => h) (Or.inl ⟨by rfl, ?_⟩) hHeld ?_
        · intro w' _
          go_simp
        try simp only [Act.put, List.setIfInBounds_toArray, List.set_cons_zero, List.set_cons_succ]
        refine wpAnyH_take (i := 8) (v := .pointer (some ⟨S, 2, none⟩)) rfl (by kernel_rfl) (by kernel_rfl) (by kernel_rfl) (fun _ _ _ h => h) (Or.inl ⟨by rfl, ?_⟩) hHeld ?_
        · intro w' _
          go_simp
        try simp only [Act.put, List.setIfInBounds_toArray, List.set_cons_zero, List.set_cons_succ]
        refine wpAnyH_ready (rs := [9]) (by kernel_rfl) (by simp) ?_
        refine AllReadyH.cons rfl (fun K hK => ?_) AllReadyH.nil
        go_simp
        refine hK.out _ _ trivial (fun hHeld => ?_)
        clear hK K hHeld
        refine wpAnyH_done (by kernel_rfl) ?_ _
        have HF : Hid (StEnd base w B S R G W ro cp s A x y g (.returned (.bool true)) (w5.setCell ⟨S, 2, none⟩ (.int .i64 (Y : Int)))) := by
          refine .inl ⟨(true, A + 4, g, X, Y), ?_, rfl, HR5.out.setY ap Y⟩
          rw [HSP.out, if_pos (by omega), HXE.out, HYE.out]
        clear HR5 k5 z5 HCY HR6 d2 q2 HSP HNB HNF HXE HYE
        go_wp2_with fail
        go_ret
        exact HF.out
    · go_simp
      refine HCX.out.mono ?_
      rintro e w5 ⟨rfl, h5⟩
      have HR5 : Hid (Rst base w B S R G W ro cp s (A + 3) x y g w5) := h5
      clear h5
      have k5 := HR5.out.2.1.cells.2.1
      have z5 := HR5.out.2.1.cells.2.2.2.1
      refine hK.out _ _ trivial (fun hHeld => ?_)
      clear hK K
      try simp only [Act.put, List.setIfInBounds_toArray, List.set_cons_zero, List.set_cons_succ]
      refine wpAnyH_ready (rs := [3]) (by kernel_rfl) (by simp) ?_
      refine AllReadyH.cons rfl (fun K hK => ?_) AllReadyH.nil
      go_simp
      refine hK.out _ _ trivial (fun hHeld => ?_)
      clear hK K
      try simp only [Act.put, List.setIfInBounds_toArray, List.set_cons_zero, List.set_cons_succ]
      refine wpAnyH_take (i := 6) (v := .int .i64 (X : Int)) rfl (by kernel_rfl) (by kernel_rfl) (by kernel_rfl) (fun _ _ _ h => h) (Or.inl ⟨by rfl, ?_⟩) hHeld ?_
      · intro w' _
        go_simp
      try simp only [Act.put, List.setIfInBounds_toArray, List.set_cons_zero, List.set_cons_succ]
      refine wpAnyH_take (i := 7) (v := .pointer (some ⟨S, 0, none⟩)) rfl (by kernel_rfl) (by kernel_rfl) (by kernel_rfl) (fun _ _ _ h => h) (Or.inl ⟨by rfl, ?_⟩) hHeld ?_
      · intro w' _
        go_simp
      try simp only [Act.put, List.setIfInBounds_toArray, List.set_cons_zero, List.set_cons_succ]
      refine wpAnyH_take (i := 8) (v := .pointer (some ⟨S, 1, none⟩)) rfl (by kernel_rfl) (by kernel_rfl) (by kernel_rfl) (fun _ _ _ h => h) (Or.inl ⟨by rfl, ?_⟩) hHeld ?_
      · intro w' _
        go_simp
      try simp only [Act.put, List.setIfInBounds_toArray, List.set_cons_zero, List.set_cons_succ]
      refine wpAnyH_ready (rs := [9]) (by kernel_rfl) (by simp) ?_
      refine AllReadyH.cons rfl (fun K hK => ?_) AllReadyH.nil
      go_simp
      refine hK.out _ _ trivial (fun hHeld => ?_)
      clear hK K hHeld
      refine wpAnyH_done (by kernel_rfl) ?_ _
      have HR6 : Hid (Rst base w B S R G W ro cp s (A + 3) X y g (w5.setCell ⟨S, 1, none⟩ (.int .i64 (X : Int)))) := HR5.out.setX ap X
      generalize w5.setCell ⟨S, 1, none⟩ (.int .i64 (X : Int)) = w6 at *
      clear HR5 k5 z5 HCX HR3 c0 c1 c2 z1 z2
      obtain ⟨-, -, d2, -, q2⟩ := HR6.out.2.1.cells
      by_cases h4 : A + 3 < s.size
      rotate_left
      · have hno : Rl.step s W G.length A g x y = none := by rw [HSP.out, if_neg (by omega)]
        go_wp2_with fail
        refine wp_region_held_drew (S := fun w' => w'.cell? ⟨S, 2, none⟩ = some (.int .i64 (y : Int))) (by kernel_rfl) d2 (fun hHeld => ?_)
        refine wpAnyH_take (i := 0) (v := .pointer (some ⟨S, 0, none⟩)) rfl (by kernel_rfl) (by kernel_rfl) (by kernel_rfl) (fun _ _ _ h => h) (Or.inl ⟨by rfl, ?_⟩) hHeld ?_
        · intro w' s1
          go_simp
        try simp only [Act.put, List.setIfInBounds_toArray, List.set_cons_zero, List.set_cons_succ]
        refine wpAnyH_take (i := 1) (v := .pointer (some ⟨S, 0, none⟩)) rfl (by kernel_rfl) (by kernel_rfl) (by kernel_rfl) (fun _ _ _ h => h) (Or.inl ⟨by rfl, ?_⟩) hHeld ?_
        · intro w' s1
          go_simp
        try simp only [Act.put, List.setIfInBounds_toArray, List.set_cons_zero, List.set_cons_succ]
        refine wpAnyH_take (i := 2) (v := .pointer (some ⟨S, 2, none⟩)) rfl (by kernel_rfl) (by kernel_rfl) (by kernel_rfl) (fun _ _ _ h => h) (Or.inl ⟨by rfl, ?_⟩) hHeld ?_
        · intro w' s1
          go_simp
        try simp only [Act.put, List.setIfInBounds_toArray, List.set_cons_zero, List.set_cons_succ]
        refine wpAnyH_take (i := 3) (v := .int .i64 (y : Int)) rfl (by kernel_rfl) (by kernel_rfl) (by kernel_rfl) (fun _ _ _ h => h) (Or.inl ⟨by rfl, ?_⟩) hHeld ?_
        · intro w' s1
          go_simp
        try simp only [Act.put, List.setIfInBounds_toArray, List.set_cons_zero, List.set_cons_succ]
        refine wpAnyH_take (i := 4) (v := .pointer (some ⟨B, 0, none⟩)) rfl (by kernel_rfl) (by kernel_rfl) (by kernel_rfl) (fun _ _ _ h => h) (Or.inl ⟨by rfl, ?_⟩) hHeld ?_
        · intro w' s1
          go_simp
        try simp only [Act.put, List.setIfInBounds_toArray, List.set_cons_zero, List.set_cons_succ]
        refine wpAnyH_ready (rs := [5]) (by kernel_rfl) (by simp) ?_
        refine AllReadyH.cons rfl (fun K hK => ?_) AllReadyH.nil
        go_simp
        refine (HNF.out (A + 3) X y g w6.drew (HR6.out.drewN 1) (by omega)).mono ?_
        rintro e w9 ⟨rfl, h9⟩
        have HF : Hid (StEnd base w B S R G W ro cp s A x y g (fault 2) w9) := .inr ⟨hno, 2, by decide, rfl, h9⟩
        clear h9 hno
        unfold fault
        go_wp2_with fail
        exact ⟨rfl, HF.out⟩
      obtain ⟨v, hv⟩ : ∃ v, v = byteAt s (A + 3) := ⟨_, rfl⟩
      have hvb : v < 256 := by rw [hv]; exact byteAt_lt _ _
      have HCY : Hid (Calls Try.prog 46 #[.pointer (some ⟨B, 0, none⟩)] w6.drew fun e w' => e = .returned (.int .i64 (v : Int)) ∧ Rst base w B S R G W ro cp s (A + 4) X y g w') := by rw [hv]; exact HNB.out (A + 3) X y g w6.drew (HR6.out.drewN 1) h4
      obtain ⟨Y, hY⟩ : ∃ Y, Y = y + v := ⟨_, rfl⟩
      have eY : (y : Int) + (v : Int) = (Y : Int) := by omega
      have fY := wrap_i64_nat Y (by omega)
      have HYE : Hid (Y = y + byteAt s (A + 3)) := by rw [← hv]; exact hY
      clear hv hY
      go_wp2_with fail
      refine wp_region_held_drew (S := fun _ => True) (by kernel_rfl) trivial (fun hHeld => ?_)
      refine wpAnyH_take (i := 0) (v := .pointer (some ⟨S, 0, none⟩)) rfl (by kernel_rfl) (by kernel_rfl) (by kernel_rfl) (fun _ _ _ h => h) (Or.inl ⟨by rfl, ?_⟩) hHeld ?_
      · intro w' _
        go_simp
      try simp only [Act.put, List.setIfInBounds_toArray, List.set_cons_zero, List.set_cons_succ]
      refine wpAnyH_take (i := 1) (v := .pointer (some ⟨S, 0, none⟩)) rfl (by kernel_rfl) (by kernel_rfl) (by kernel_rfl) (fun _ _ _ h => h) (Or.inl ⟨by rfl, ?_⟩) hHeld ?_
      · intro w' _
        go_simp
      try simp only [Act.put, List.setIfInBounds_toArray, List.set_cons_zero, List.set_cons_succ]
      refine wpAnyH_take (i := 2) (v := .pointer (some ⟨S, 2, none⟩)) rfl (by kernel_rfl) (by kernel_rfl) (by kernel_rfl) (fun _ _ _ h => h) (Or.inl ⟨by rfl, ?_⟩) hHeld ?_
      · intro w' _
        go_simp
      try simp only [Act.put, List.setIfInBounds_toArray, List.set_cons_zero, List.set_cons_succ]
      refine wpAnyH_take (i := 4) (v := .pointer (some ⟨B, 0, none⟩)) rfl (by kernel_rfl) (by kernel_rfl) (by kernel_rfl) (fun _ _ _ h => h) (Or.inl ⟨by rfl, ?_⟩) hHeld ?_
      · intro w' _
        go_simp
      try simp only [Act.put, List.setIfInBounds_toArray, List.set_cons_zero, List.set_cons_succ]
      refine wpAnyH_ready (rs := [3, 5]) (by kernel_rfl) (by simp) ?_
      refine AllReadyH.cons rfl (fun K hK => ?_) (AllReadyH.cons rfl (fun K hK => ?_) AllReadyH.nil)
      · go_simp
        refine hK.out _ _ trivial (fun hHeld => ?_)
        clear hK K
        try simp only [Act.put, List.setIfInBounds_toArray, List.set_cons_zero, List.set_cons_succ]
        refine wpAnyH_ready (rs := [5]) (by kernel_rfl) (by simp) ?_
        refine AllReadyH.cons rfl (fun K hK => ?_) AllReadyH.nil
        go_simp
        refine HCY.out.mono ?_
        rintro e w5 ⟨rfl, h5⟩
        have HR5 : Hid (Rst base w B S R G W ro cp s (A + 4) X y g w5) := h5
        clear h5
        have k5 := HR5.out.2.1.cells.2.2.1
        have z5 := HR5.out.2.1.cells.2.2.2.2
        refine hK.out _ _ trivial (fun hHeld => ?_)
        clear hK K
        try simp only [Act.put, List.setIfInBounds_toArray, List.set_cons_zero, List.set_cons_succ]
        refine wpAnyH_take (i := 6) (v := .int .i64 (Y : Int)) rfl (by kernel_rfl) (by kernel_rfl) (by kernel_rfl) (fun _ _ _ h => h) (Or.inl ⟨by rfl, ?_⟩) hHeld ?_
        · intro w' _
          go_simp
        try simp only [Act.put, List.setIfInBounds_toArray, List.set_cons_zero, List.set_cons_succ]
        refine wpAnyH_take (i := 7) (v := .pointer (some ⟨S, 0, none⟩)) rfl (by kernel_rfl) (by kernel_rfl) (by kernel_rfl) (fun _ _ _ h => h) (Or.inl ⟨by rfl, ?_⟩) hHeld ?_
        · intro w' _
          go_simp
        try simp only [Act.put, List.setIfInBounds_toArray, List.set_cons_zero, List.set_cons_succ]
        refine wpAnyH_take (i := 8) (v := .pointer (some ⟨S, 2, none⟩)) rfl (by kernel_rfl) (by kernel_rfl) (by kernel_rfl) (fun _ _ _ h => h) (Or.inl ⟨by rfl, ?_⟩) hHeld ?_
        · intro w' _
          go_simp
        try simp only [Act.put, List.setIfInBounds_toArray, List.set_cons_zero, List.set_cons_succ]
        refine wpAnyH_ready (rs := [9]) (by kernel_rfl) (by simp) ?_
        refine AllReadyH.cons rfl (fun K hK => ?_) AllReadyH.nil
        go_simp
        refine hK.out _ _ trivial (fun hHeld => ?_)
        clear hK K hHeld
        refine wpAnyH_done (by kernel_rfl) ?_ _
        have HF : Hid (StEnd base w B S R G W ro cp s A x y g (.returned (.bool true)) (w5.setCell ⟨S, 2, none⟩ (.int .i64 (Y : Int)))) := by
          refine .inl ⟨(true, A + 4, g, X, Y), ?_, rfl, HR5.out.setY ap Y⟩
          rw [HSP.out, if_pos (by omega), HXE.out, HYE.out]
        clear HR5 k5 z5 HCY HR6 d2 q2 HSP HNB HNF HXE HYE
        go_wp2_with fail
        go_ret
        exact HF.out
      · go_simp
        refine HCY.out.mono ?_
        rintro e w5 ⟨rfl, h5⟩
        have HR5 : Hid (Rst base w B S R G W ro cp s (A + 4) X y g w5) := h5
        clear h5
        have k5 := HR5.out.2.1.cells.2.2.1
        have z5 := HR5.out.2.1.cells.2.2.2.2
        refine hK.out _ _ trivial (fun hHeld => ?_)
        clear hK K
        try simp only [Act.put, List.setIfInBounds_toArray, List.set_cons_zero, List.set_cons_succ]
        refine wpAnyH_ready (rs := [3]) (by kernel_rfl) (by simp) ?_
        refine AllReadyH.cons rfl (fun K hK => ?_) AllReadyH.nil
        go_simp
        refine hK.out _ _ trivial (fun hHeld => ?_)
        clear hK K
        try simp only [Act.put, List.setIfInBounds_toArray, List.set_cons_zero, List.set_cons_succ]
        refine wpAnyH_take (i := 6) (v := .int .i64 (Y : Int)) rfl (by kernel_rfl) (by kernel_rfl) (by kernel_rfl) (fun _ _ _ h => h) (Or.inl ⟨by rfl, ?_⟩) hHeld ?_
        · intro w' _
          go_simp
        try simp only [Act.put, List.setIfInBounds_toArray, List.set_cons_zero, List.set_cons_succ]
        refine wpAnyH_take (i := 7) (v := .pointer (some ⟨S, 0, none⟩)) rfl (by kernel_rfl) (by kernel_rfl) (by kernel_rfl) (fun _ _ _ h => h) (Or.inl ⟨by rfl, ?_⟩) hHeld ?_
        · intro w' _
          go_simp
        try simp only [Act.put, List.setIfInBounds_toArray, List.set_cons_zero, List.set_cons_succ]
        refine wpAnyH_take (i := 8) (v := .pointer (some ⟨S, 2, none⟩)) rfl (by kernel_rfl) (by kernel_rfl) (by kernel_rfl) (fun _ _ _ h => h) (Or.inl ⟨by rfl, ?_⟩) hHeld ?_
        · intro w' _
          go_simp
        try simp only [Act.put, List.setIfInBounds_toArray, List.set_cons_zero, List.set_cons_succ]
        refine wpAnyH_ready (rs := [9]) (by kernel_rfl) (by simp) ?_
        refine AllReadyH.cons rfl (fun K hK => ?_) AllReadyH.nil
        go_simp
        refine hK.out _ _ trivial (fun hHeld => ?_)
        clear hK K hHeld
        refine wpAnyH_done (by kernel_rfl) ?_ _
        have HF : Hid (StEnd base w B S R G W ro cp s A x y g (.returned (.bool true)) (w5.setCell ⟨S, 2, none⟩ (.int .i64 (Y : Int)))) := by
          refine .inl ⟨(true, A + 4, g, X, Y), ?_, rfl, HR5.out.setY ap Y⟩
          rw [HSP.out, if_pos (by omega), HXE.out, HYE.out]
        clear HR5 k5 z5 HCY HR6 d2 q2 HSP HNB HNF HXE HYE
        go_wp2_with fail
        go_ret
        exact HF.out
  have g2 : ((b : Int) == 2) = false := by rw [beq_eq_false_iff_ne]; omega
  have HSP : Hid (Rl.step s W G.length A g x y = if A + 2 + b + b % 2 ≤ s.size then (Rl.puts W G.length (Rl.lit s (A + 2) b) g x y).map (fun r => (true, A + 2 + b + b % 2, r.1, r.2, y)) else none) := by show _ = _; rw [HST.out, if_neg (by omega), if_neg hb0, if_neg hb1, if_neg hb2]
  clear HST c0 c1 c2 z1 z2
  go_wp2_with fail
  go_loopw [12] (fun i wr' => ∃ (k x' : Nat) (g' : Rl.Grid), k ≤ b ∧ i = .int .i64 (k : Int) ∧ x' ≤ x + k ∧ A + 2 + k ≤ s.size ∧ Hid (Rl.puts W G.length (Rl.lit s (A + 2) b) g x y = Rl.puts W G.length ((Rl.lit s (A + 2) b).drop k) g' x' y) ∧ Hid (Rst base w B S R G W ro cp s (A + 2 + k) x' y g' wr')) (fun i _ => b - (intOf i).toNat)
  case atStart => exact ⟨0, x, g, Nat.zero_le _, rfl, Nat.le_refl _, h2s, rfl, HR3⟩
  case round =>
    obtain ⟨k, x', g', hk, rfl, hx', hks, HP, HR⟩ := hrel
    clear HR3
    by_cases hkc : k < b
    · have hkci : (k : Int) < (b : Int) := by omega
      go_wp2_with fail
      by_cases hav : A + 2 + k < s.size
      rotate_left
      · have hno : Rl.step s W G.length A g x y = none := by rw [HSP.out, if_neg (by omega)]
        refine (HNF.out (A + 2 + k) x' y g' _ HR.out (by omega)).mono ?_
        rintro e w4 ⟨rfl, h2⟩
        have HF : Hid (StEnd base w B S R G W ro cp s A x y g (fault 2) w4) := .inr ⟨hno, 2, by decide, rfl, h2⟩
        clear h2 hno HNB HNF HPT HP HR HSP
        unfold fault
        go_wp2_with fail
        exact ⟨rfl, HF.out⟩
      refine (HNB.out (A + 2 + k) x' y g' _ HR.out hav).mono ?_
      rintro e w4 ⟨rfl, h2⟩
      have HR4 : Hid (Rst base w B S R G W ro cp s (A + 2 + k + 1) x' y g' w4) := h2
      clear h2 HR
      go_wp2_with fail
      refine (HPT.out (A + 2 + k + 1) x' y g' _ _ HR4.out (by omega)).mono ?_
      rintro e w5 (⟨h1, rfl, h2⟩ | ⟨h1, rfl, h2⟩)
      · have HP2 : Hid (Rl.puts W G.length (Rl.lit s (A + 2) b) g x y = Rl.puts W G.length ((Rl.lit s (A + 2) b).drop (k + 1)) (Rl.upd g' y x' ((byteAt s (A + 2 + k) : Nat) : Int)) (x' + 1) y) := by
          show _ = _
          rw [HP.out, Rl.lit_drop _ _ _ _ hkc, Rl.puts_yes h1]
        have HR5 : Hid (Rst base w B S R G W ro cp s (A + 2 + (k + 1)) (x' + 1) y (Rl.upd g' y x' ((byteAt s (A + 2 + k) : Nat) : Int)) w5) := h2
        clear h1 h2 HP HR4
        go_wp2_with fail
        go_roundw
        case rel => exact ⟨k + 1, x' + 1, _, by omega, by go_num, by omega, by omega, HP2.out, HR5.out⟩
        case measure => simp [intOf]; omega
      · have hno : Rl.step s W G.length A g x y = none := by
          rw [HSP.out, HP.out, Rl.lit_drop _ _ _ _ hkc, Rl.puts_no h1]
          split <;> rfl
        have HF : Hid (StEnd base w B S R G W ro cp s A x y g (fault 1) w5) := .inr ⟨hno, 1, by decide, rfl, h2⟩
        clear h1 h2 hno HNB HNF HPT HP HR4 HSP
        unfold fault
        go_wp2_with fail
        exact ⟨rfl, HF.out⟩
    · have hkci : ¬ (k : Int) < (b : Int) := by omega
      have hkb : k = b := by omega
      subst hkb
      have HPE : Hid (Rl.puts W G.length (Rl.lit s (A + 2) k) g x y = some (g', x')) := by
        show _ = _
        rw [HP.out, List.drop_of_length_le (by rw [Rl.lit_len]; exact Nat.le_refl _)]; rfl
      obtain ⟨m, hm⟩ : ∃ m, m = k % 2 := ⟨_, rfl⟩
      have em : (k : Int) % 2 = (m : Int) := by omega
      have HME : Hid (m = k % 2) := hm
      have hmb : m < 2 := by omega
      clear HP hm
      go_wp2_with fail
      by_cases hf : A + 2 + k + m ≤ s.size
      · refine (piece_yes B (A + 2 + k) m s _ HR.out.1 (by omega) hf).mono ?_
        rintro e w5 ⟨rfl, h2, h3, h4⟩
        have HF : Hid (StEnd base w B S R G W ro cp s A x y g (.returned (.bool true)) w5) := by
          refine .inl ⟨(true, A + 2 + k + m, g', x', y), ?_, rfl, HR.out.read ap h3 h4 h2⟩
          rw [HSP.out, ← HME.out, if_pos hf, HPE.out]; rfl
        clear h2 h3 h4 HR HSP HPE HNB HNF HPT HME
        go_wp2_with fail
        go_ret
        exact HF.out
      · have hno : Rl.step s W G.length A g x y = none := by rw [HSP.out, ← HME.out, if_neg hf]
        refine (piece_no B (A + 2 + k) m s _ HR.out.1 (by omega) hks (by omega)).mono ?_
        rintro e w5 ⟨rfl, -, h3, h4⟩
        have HF : Hid (StEnd base w B S R G W ro cp s A x y g (fault 2) w5) := .inr ⟨hno, 2, by decide, rfl, HR.out.2.2.2.only h3 h4⟩
        clear h3 h4 hno HR HSP HPE HNB HNF HPT HME
        unfold fault
        go_wp2_with fail
        exact ⟨rfl, HF.out⟩
end Go.Proofs.Ytlpfedhehfbfeaa
