/- What stands behind a nought, done by the specification. -/
import Derived.Test.YtlpfedhehfbfeaaQsMem
import Derived.Test.YtlpfedhehfbfeaaRlEsc
import Derived.Deep.RegionHeld
namespace Go.Proofs.Ytlpfedhehfbfeaa
open Go.RowKit

/-- it went wrong: whatever the state -/
def Qbad (base : Nat) (w : World) (Q R : Nat) (G : List Nat) (W : Nat) (ro : Option Addr) (cp : Nat) (s : ByteArray) (A0 : Nat) (wr : World) : Prop :=
  ∃ A x y g, A0 ≤ A ∧ A ≤ s.size ∧ Qst base w Q R G W ro cp s A x y false g wr
/-- how it ends -/
def EsEnd (base : Nat) (w : World) (Q R : Nat) (G : List Nat) (W : Nat) (ro : Option Addr) (cp : Nat) (s : ByteArray) (A b x y : Nat) (g : Rl.Grid) (e : Ending) (w' : World) : Prop :=
  (∃ o : Rl.Out, Rl.esc s W G.length A b g x y = some o ∧ e = .returned (.bool o.1) ∧ Qst base w Q R G W ro cp s o.2.1 o.2.2.2.1 o.2.2.2.2 true o.2.2.1 w') ∨ (Rl.esc s W G.length A b g x y = none ∧ ∃ t, e = .returned (.bool t) ∧ Qbad base w Q R G W ro cp s A w')

set_option linter.unusedSimpArgs false in
set_option maxHeartbeats 8000000 in
set_option maxRecDepth 100000 in
theorem escape_any (base : Nat) (w : World) (Q R : Nat) (G : List Nat) (W : Nat) (ro : Option Addr) (cp : Nat) (s : ByteArray) (A b x y : Nat) (g : Rl.Grid) (wr : World) (h : Qst base w Q R G W ro cp s A x y true g wr) (ap : ApQ Q R G ro) (hs : s.size ≤ 9000) (hA : A ≤ s.size) (hbb : b < 256) (hx9 : x ≤ 3000000) (hy9 : y ≤ 3000000) :
    Calls Try.prog 50 #[.pointer (some ⟨Q, 0, none⟩), .int .i64 (b : Int)] wr (EsEnd base w Q R G W ro cp s A b x y g) := by
  have HBY : Hid (∀ (A' x' y' : Nat) (ok : Bool) (g' : Rl.Grid) (w2 : World), Qst base w Q R G W ro cp s A' x' y' ok g' w2 → A' < s.size → Calls Try.prog 49 #[.pointer (some ⟨Q, 0, none⟩)] w2 fun e w' => e = .returned (.int .i64 (byteAt s A' : Int)) ∧ Qst base w Q R G W ro cp s (A' + 1) x' y' ok g' w') := fun A' x' y' ok g' w2 hr hlt => qbyte_yes base w Q R G W ro cp s A' x' y' ok g' w2 hr ap hs hlt
  have HBN : Hid (∀ (A' x' y' : Nat) (ok : Bool) (g' : Rl.Grid) (w2 : World), Qst base w Q R G W ro cp s A' x' y' ok g' w2 → s.size ≤ A' → Calls Try.prog 49 #[.pointer (some ⟨Q, 0, none⟩)] w2 fun e w' => e = .returned (.int .i64 0) ∧ Qst base w Q R G W ro cp s A' x' y' false g' w') := fun A' x' y' ok g' w2 hr hlt => qbyte_no base w Q R G W ro cp s A' x' y' ok g' w2 hr ap hlt
  have HPT : Hid (∀ (A' x' : Nat) (g' : Rl.Grid) (c : Int) (w2 : World), Qst base w Q R G W ro cp s A' x' y true g' w2 → x' ≤ 10000000 → Calls Try.prog 51 #[.pointer (some ⟨Q, 0, none⟩), .int .i64 c] w2 (QpEnd base w Q R G W ro cp s A' x' y g' c)) := fun A' x' g' c w2 hr h1 => qput_any base w Q R G W ro cp s A' x' y g' c w2 hr ap h1
  have HR0 : Hid (Qst base w Q R G W ro cp s A x y true g wr) := h
  obtain ⟨-, -, -, c3, c4, -⟩ := h.1.cells
  have z3 := h.1.free 3
  have z4 := h.1.free 4
  clear h
  by_cases hb0 : b = 0
  · subst hb0
    have HF : Hid (EsEnd base w Q R G W ro cp s A 0 x y g (.returned (.bool true)) ((wr.setCell ⟨Q, 3, none⟩ (.int .i64 0)).setCell ⟨Q, 4, none⟩ (.int .i64 ((y : Int) + 1)))) := by
      have h1 : Qst base w Q R G W ro cp s A 0 y true g (wr.setCell ⟨Q, 3, none⟩ (.int .i64 0)) := HR0.out.set ap rfl
      have h2 : Qst base w Q R G W ro cp s A 0 (y + 1) true g ((wr.setCell ⟨Q, 3, none⟩ (.int .i64 0)).setCell ⟨Q, 4, none⟩ (.int .i64 ((y : Int) + 1))) := h1.set ap (by rw [show ((y + 1 : Nat) : Int) = (y : Int) + 1 by omega]; rfl)
      exact .inl ⟨(true, A, g, 0, y + 1), rfl, rfl, h2⟩
    have k4 : (wr.setCell ⟨Q, 3, none⟩ (.int .i64 0)).cell? ⟨Q, 4, none⟩ = some (.int .i64 (y : Int)) := (World.cell?_setCell_other _ _ _ _ (fun e => by have := congrArg Addr.off e; simp at this)).trans c4
    have f4 : (wr.setCell ⟨Q, 3, none⟩ (.int .i64 0)).frozen? ⟨Q, 4, none⟩ = false := by rw [World.frozen?_setCell]; exact z4
    clear HBY HBN HPT HR0
    go_enter Try.func50, Try.ntmps50
    go_wp2_with fail
    go_ret
    exact HF.out
  have g0 : ((b : Int) == 0) = false := by rw [beq_eq_false_iff_ne]; omega
  by_cases hb1 : b = 1
  · subst hb1
    have HF : Hid (EsEnd base w Q R G W ro cp s A 1 x y g (.returned (.bool false)) wr) := .inl ⟨(false, A, g, x, y), rfl, rfl, HR0.out⟩
    clear HBY HBN HPT HR0
    go_enter Try.func50, Try.ntmps50
    go_wp2_with fail
    go_ret
    exact HF.out
  have g1 : ((b : Int) == 1) = false := by rw [beq_eq_false_iff_ne]; omega
  by_cases hb2 : b = 2
  · subst hb2
    clear HPT
    -- the two bytes, there or not: what each call answers, and the state behind it
    obtain ⟨u, hu⟩ : ∃ u, u = if A < s.size then byteAt s A else 0 := ⟨_, rfl⟩
    obtain ⟨A1, hA1⟩ : ∃ A1, A1 = if A < s.size then A + 1 else A := ⟨_, rfl⟩
    obtain ⟨o1, ho1⟩ : ∃ o1, o1 = decide (A < s.size) := ⟨_, rfl⟩
    have HCX : Hid (Calls Try.prog 49 #[.pointer (some ⟨Q, 0, none⟩)] wr.drew fun e w' => e = .returned (.int .i64 (u : Int)) ∧ Qst base w Q R G W ro cp s A1 x y o1 g w') := by
      by_cases hlt : A < s.size
      · rw [hu, hA1, ho1, if_pos hlt, if_pos hlt, decide_eq_true hlt]; exact HBY.out A x y true g wr.drew (HR0.out.drewN 1) hlt
      · rw [hu, hA1, ho1, if_neg hlt, if_neg hlt, decide_eq_false hlt]; exact HBN.out A x y true g wr.drew (HR0.out.drewN 1) (by omega)
    have hub : u < 256 := by
      rw [hu]; split
      · exact byteAt_lt _ _
      · omega
    have hA1s : A1 ≤ s.size ∧ A ≤ A1 := by rw [hA1]; split <;> omega
    obtain ⟨v, hv⟩ : ∃ v, v = if A1 < s.size then byteAt s A1 else 0 := ⟨_, rfl⟩
    obtain ⟨A2, hA2⟩ : ∃ A2, A2 = if A1 < s.size then A1 + 1 else A1 := ⟨_, rfl⟩
    obtain ⟨o2, ho2⟩ : ∃ o2, o2 = (o1 && decide (A1 < s.size)) := ⟨_, rfl⟩
    have HCYA : Hid (∀ (X : Nat) (w6 : World), Qst base w Q R G W ro cp s A1 X y o1 g w6 → Calls Try.prog 49 #[.pointer (some ⟨Q, 0, none⟩)] w6 fun e w' => e = .returned (.int .i64 (v : Int)) ∧ Qst base w Q R G W ro cp s A2 X y o2 g w') := fun X w6 hr => by
      by_cases hlt : A1 < s.size
      · rw [hv, hA2, ho2, if_pos hlt, if_pos hlt, decide_eq_true hlt, Bool.and_true]; exact HBY.out A1 X y o1 g w6 hr hlt
      · rw [hv, hA2, ho2, if_neg hlt, if_neg hlt, decide_eq_false hlt, Bool.and_false]; exact HBN.out A1 X y o1 g w6 hr (by omega)
    have hvb : v < 256 := by
      rw [hv]; split
      · exact byteAt_lt _ _
      · omega
    have hA2s : A2 ≤ s.size ∧ A1 ≤ A2 := by rw [hA2]; split <;> omega
    obtain ⟨X, hX⟩ : ∃ X, X = x + u := ⟨_, rfl⟩
    obtain ⟨Y, hY⟩ : ∃ Y, Y = y + v := ⟨_, rfl⟩
    have HEE : Hid (∀ w9, Qst base w Q R G W ro cp s A2 X Y o2 g w9 → EsEnd base w Q R G W ro cp s A 2 x y g (.returned (.bool true)) w9) := fun w9 hq => by
      by_cases hlt : A + 2 ≤ s.size
      · have l1 : A < s.size := by omega
        rw [if_pos l1] at hu hA1
        have l2 : A1 < s.size := by omega
        rw [if_pos l2] at hv hA2
        refine .inl ⟨(true, A + 2, g, x + byteAt s A, y + byteAt s (A + 1)), by rw [Rl.esc_two, if_pos hlt], rfl, ?_⟩
        rw [hX, hY, ho2, ho1, hu, hv, hA2, hA1, decide_eq_true l1, decide_eq_true (show A + 1 < s.size by omega)] at hq
        exact hq
      · refine .inr ⟨by rw [Rl.esc_two, if_neg hlt], true, rfl, A2, X, Y, g, by omega, hA2s.1, ?_⟩
        have hf : o2 = false := by
          rw [ho2, ho1]
          by_cases l1 : A < s.size
          · rw [if_pos l1] at hA1
            rw [decide_eq_false (show ¬ A1 < s.size by omega), Bool.and_false]
          · rw [decide_eq_false l1, Bool.false_and]
        rw [hf] at hq
        exact hq
    have eX : (x : Int) + (u : Int) = (X : Int) := by omega
    have fX := wrap_i64_nat X (by omega)
    have eY : (y : Int) + (v : Int) = (Y : Int) := by omega
    have fY := wrap_i64_nat Y (by omega)
    clear hu hA1 ho1 hv hA2 ho2 hX hY HBY HBN
    go_enter Try.func50, Try.ntmps50
    go_wp2_with fail
    refine wp_region_held_drew (S := fun _ => True) (by kernel_rfl) trivial (fun hHeld => ?_)
    refine wpAnyH_take (i := 0) (v := .pointer (some ⟨Q, 0, none⟩)) rfl (by kernel_rfl) (by kernel_rfl) (by kernel_rfl) (fun _ _ _ h => h) (Or.inl ⟨by rfl, ?_⟩) hHeld ?_
    · intro w' _
      go_simp
    try simp only [Act.put, List.setIfInBounds_toArray, List.set_cons_zero, List.set_cons_succ]
    refine wpAnyH_take (i := 1) (v := .pointer (some ⟨Q, 0, none⟩)) rfl (by kernel_rfl) (by kernel_rfl) (by kernel_rfl) (fun _ _ _ h => h) (Or.inl ⟨by rfl, ?_⟩) hHeld ?_
    · intro w' _
      go_simp
    try simp only [Act.put, List.setIfInBounds_toArray, List.set_cons_zero, List.set_cons_succ]
    refine wpAnyH_take (i := 2) (v := .pointer (some ⟨Q, 0, none⟩)) rfl (by kernel_rfl) (by kernel_rfl) (by kernel_rfl) (fun _ _ _ h => h) (Or.inl ⟨by rfl, ?_⟩) hHeld ?_
    · intro w' _
      go_simp
    try simp only [Act.put, List.setIfInBounds_toArray, List.set_cons_zero, List.set_cons_succ]
    refine wpAnyH_take (i := 3) (v := .pointer (some ⟨Q, 3, none⟩)) rfl (by kernel_rfl) (by kernel_rfl) (by kernel_rfl) (fun _ _ _ h => h) (Or.inl ⟨by rfl, ?_⟩) hHeld ?_
    · intro w' _
      go_simp
    try simp only [Act.put, List.setIfInBounds_toArray, List.set_cons_zero, List.set_cons_succ]
    refine wpAnyH_take (i := 5) (v := .pointer (some ⟨Q, 0, none⟩)) rfl (by kernel_rfl) (by kernel_rfl) (by kernel_rfl) (fun _ _ _ h => h) (Or.inl ⟨by rfl, ?_⟩) hHeld ?_
    · intro w' _
      go_simp
    try simp only [Act.put, List.setIfInBounds_toArray, List.set_cons_zero, List.set_cons_succ]
    refine wpAnyH_ready (rs := [4, 6]) (by kernel_rfl) (by simp) ?_
    refine AllReadyH.cons rfl (fun K hK => ?_) (AllReadyH.cons rfl (fun K hK => ?_) AllReadyH.nil)
    · go_simp
      refine hK.out _ _ trivial (fun hHeld => ?_)
      clear hK K
      try simp only [Act.put, List.setIfInBounds_toArray, List.set_cons_zero, List.set_cons_succ]
      refine wpAnyH_ready (rs := [6]) (by kernel_rfl) (by simp) ?_
      refine AllReadyH.cons rfl (fun K hK => ?_) AllReadyH.nil
      go_simp
      refine HCX.out.mono ?_
      rintro e w5 ⟨rfl, h5⟩
      have HR5 : Hid (Qst base w Q R G W ro cp s A1 x y o1 g w5) := h5
      clear h5
      have k5 := HR5.out.1.cells.2.2.2.1
      have z5 := HR5.out.1.free 3
      refine hK.out _ _ trivial (fun hHeld => ?_)
      clear hK K
      try simp only [Act.put, List.setIfInBounds_toArray, List.set_cons_zero, List.set_cons_succ]
      refine wpAnyH_take (i := 7) (v := .int .i64 (X : Int)) rfl (by kernel_rfl) (by kernel_rfl) (by kernel_rfl) (fun _ _ _ h => h) (Or.inl ⟨by rfl, ?_⟩) hHeld ?_
      · intro w' _
        go_simp
      try simp only [Act.put, List.setIfInBounds_toArray, List.set_cons_zero, List.set_cons_succ]
      refine wpAnyH_take (i := 8) (v := .pointer (some ⟨Q, 0, none⟩)) rfl (by kernel_rfl) (by kernel_rfl) (by kernel_rfl) (fun _ _ _ h => h) (Or.inl ⟨by rfl, ?_⟩) hHeld ?_
      · intro w' _
        go_simp
      try simp only [Act.put, List.setIfInBounds_toArray, List.set_cons_zero, List.set_cons_succ]
      refine wpAnyH_take (i := 9) (v := .pointer (some ⟨Q, 3, none⟩)) rfl (by kernel_rfl) (by kernel_rfl) (by kernel_rfl) (fun _ _ _ h => h) (Or.inl ⟨by rfl, ?_⟩) hHeld ?_
      · intro w' _
        go_simp
      try simp only [Act.put, List.setIfInBounds_toArray, List.set_cons_zero, List.set_cons_succ]
      refine wpAnyH_ready (rs := [10]) (by kernel_rfl) (by simp) ?_
      refine AllReadyH.cons rfl (fun K hK => ?_) AllReadyH.nil
      go_simp
      refine hK.out _ _ trivial (fun hHeld => ?_)
      clear hK K hHeld
      refine wpAnyH_done (by kernel_rfl) ?_ _
      have HR6 : Hid (Qst base w Q R G W ro cp s A1 X y o1 g (w5.setCell ⟨Q, 3, none⟩ (.int .i64 (X : Int)))) := HR5.out.set ap rfl
      generalize w5.setCell ⟨Q, 3, none⟩ (.int .i64 (X : Int)) = w6 at *
      clear HR5 k5 z5 HCX HR0 c3 c4 z3 z4
      obtain ⟨-, -, -, -, d4, -⟩ := HR6.out.1.cells
      have HCY : Hid (Calls Try.prog 49 #[.pointer (some ⟨Q, 0, none⟩)] w6.drew fun e w' => e = .returned (.int .i64 (v : Int)) ∧ Qst base w Q R G W ro cp s A2 X y o2 g w') := HCYA.out X w6.drew (HR6.out.drewN 1)
      clear HCYA
      go_wp2_with fail
      refine wp_region_held_drew (S := fun _ => True) (by kernel_rfl) trivial (fun hHeld => ?_)
      refine wpAnyH_take (i := 0) (v := .pointer (some ⟨Q, 0, none⟩)) rfl (by kernel_rfl) (by kernel_rfl) (by kernel_rfl) (fun _ _ _ h => h) (Or.inl ⟨by rfl, ?_⟩) hHeld ?_
      · intro w' _
        go_simp
      try simp only [Act.put, List.setIfInBounds_toArray, List.set_cons_zero, List.set_cons_succ]
      refine wpAnyH_take (i := 1) (v := .pointer (some ⟨Q, 0, none⟩)) rfl (by kernel_rfl) (by kernel_rfl) (by kernel_rfl) (fun _ _ _ h => h) (Or.inl ⟨by rfl, ?_⟩) hHeld ?_
      · intro w' _
        go_simp
      try simp only [Act.put, List.setIfInBounds_toArray, List.set_cons_zero, List.set_cons_succ]
      refine wpAnyH_take (i := 2) (v := .pointer (some ⟨Q, 0, none⟩)) rfl (by kernel_rfl) (by kernel_rfl) (by kernel_rfl) (fun _ _ _ h => h) (Or.inl ⟨by rfl, ?_⟩) hHeld ?_
      · intro w' _
        go_simp
      try simp only [Act.put, List.setIfInBounds_toArray, List.set_cons_zero, List.set_cons_succ]
      refine wpAnyH_take (i := 3) (v := .pointer (some ⟨Q, 4, none⟩)) rfl (by kernel_rfl) (by kernel_rfl) (by kernel_rfl) (fun _ _ _ h => h) (Or.inl ⟨by rfl, ?_⟩) hHeld ?_
      · intro w' _
        go_simp
      try simp only [Act.put, List.setIfInBounds_toArray, List.set_cons_zero, List.set_cons_succ]
      refine wpAnyH_take (i := 5) (v := .pointer (some ⟨Q, 0, none⟩)) rfl (by kernel_rfl) (by kernel_rfl) (by kernel_rfl) (fun _ _ _ h => h) (Or.inl ⟨by rfl, ?_⟩) hHeld ?_
      · intro w' _
        go_simp
      try simp only [Act.put, List.setIfInBounds_toArray, List.set_cons_zero, List.set_cons_succ]
      refine wpAnyH_ready (rs := [4, 6]) (by kernel_rfl) (by simp) ?_
      refine AllReadyH.cons rfl (fun K hK => ?_) (AllReadyH.cons rfl (fun K hK => ?_) AllReadyH.nil)
      · go_simp
        refine hK.out _ _ trivial (fun hHeld => ?_)
        clear hK K
        try simp only [Act.put, List.setIfInBounds_toArray, List.set_cons_zero, List.set_cons_succ]
        refine wpAnyH_ready (rs := [6]) (by kernel_rfl) (by simp) ?_
        refine AllReadyH.cons rfl (fun K hK => ?_) AllReadyH.nil
        go_simp
        refine HCY.out.mono ?_
        rintro e w5 ⟨rfl, h5⟩
        have HR5 : Hid (Qst base w Q R G W ro cp s A2 X y o2 g w5) := h5
        clear h5
        have k5 := HR5.out.1.cells.2.2.2.2.1
        have z5 := HR5.out.1.free 4
        refine hK.out _ _ trivial (fun hHeld => ?_)
        clear hK K
        try simp only [Act.put, List.setIfInBounds_toArray, List.set_cons_zero, List.set_cons_succ]
        refine wpAnyH_take (i := 7) (v := .int .i64 (Y : Int)) rfl (by kernel_rfl) (by kernel_rfl) (by kernel_rfl) (fun _ _ _ h => h) (Or.inl ⟨by rfl, ?_⟩) hHeld ?_
        · intro w' _
          go_simp
        try simp only [Act.put, List.setIfInBounds_toArray, List.set_cons_zero, List.set_cons_succ]
        refine wpAnyH_take (i := 8) (v := .pointer (some ⟨Q, 0, none⟩)) rfl (by kernel_rfl) (by kernel_rfl) (by kernel_rfl) (fun _ _ _ h => h) (Or.inl ⟨by rfl, ?_⟩) hHeld ?_
        · intro w' _
          go_simp
        try simp only [Act.put, List.setIfInBounds_toArray, List.set_cons_zero, List.set_cons_succ]
        refine wpAnyH_take (i := 9) (v := .pointer (some ⟨Q, 4, none⟩)) rfl (by kernel_rfl) (by kernel_rfl) (by kernel_rfl) (fun _ _ _ h => h) (Or.inl ⟨by rfl, ?_⟩) hHeld ?_
        · intro w' _
          go_simp
        try simp only [Act.put, List.setIfInBounds_toArray, List.set_cons_zero, List.set_cons_succ]
        refine wpAnyH_ready (rs := [10]) (by kernel_rfl) (by simp) ?_
        refine AllReadyH.cons rfl (fun K hK => ?_) AllReadyH.nil
        go_simp
        refine hK.out _ _ trivial (fun hHeld => ?_)
        clear hK K hHeld
        refine wpAnyH_done (by kernel_rfl) ?_ _
        have HR9 : Hid (Qst base w Q R G W ro cp s A2 X Y o2 g (w5.setCell ⟨Q, 4, none⟩ (.int .i64 (Y : Int)))) := HR5.out.set ap rfl
        have HF : Hid (EsEnd base w Q R G W ro cp s A 2 x y g (.returned (.bool true)) (w5.setCell ⟨Q, 4, none⟩ (.int .i64 (Y : Int)))) := HEE.out _ HR9.out
        clear HR5 k5 z5 HR9 HEE HCY
        go_wp2_with fail
        go_ret
        exact HF.out
      · go_simp
        refine HCY.out.mono ?_
        rintro e w5 ⟨rfl, h5⟩
        have HR5 : Hid (Qst base w Q R G W ro cp s A2 X y o2 g w5) := h5
        clear h5
        have k5 := HR5.out.1.cells.2.2.2.2.1
        have z5 := HR5.out.1.free 4
        refine hK.out _ _ trivial (fun hHeld => ?_)
        clear hK K
        try simp only [Act.put, List.setIfInBounds_toArray, List.set_cons_zero, List.set_cons_succ]
        refine wpAnyH_ready (rs := [4]) (by kernel_rfl) (by simp) ?_
        refine AllReadyH.cons rfl (fun K hK => ?_) AllReadyH.nil
        go_simp
        refine hK.out _ _ trivial (fun hHeld => ?_)
        clear hK K
        try simp only [Act.put, List.setIfInBounds_toArray, List.set_cons_zero, List.set_cons_succ]
        refine wpAnyH_take (i := 7) (v := .int .i64 (Y : Int)) rfl (by kernel_rfl) (by kernel_rfl) (by kernel_rfl) (fun _ _ _ h => h) (Or.inl ⟨by rfl, ?_⟩) hHeld ?_
        · intro w' _
          go_simp
        try simp only [Act.put, List.setIfInBounds_toArray, List.set_cons_zero, List.set_cons_succ]
        refine wpAnyH_take (i := 8) (v := .pointer (some ⟨Q, 0, none⟩)) rfl (by kernel_rfl) (by kernel_rfl) (by kernel_rfl) (fun _ _ _ h => h) (Or.inl ⟨by rfl, ?_⟩) hHeld ?_
        · intro w' _
          go_simp
        try simp only [Act.put, List.setIfInBounds_toArray, List.set_cons_zero, List.set_cons_succ]
        refine wpAnyH_take (i := 9) (v := .pointer (some ⟨Q, 4, none⟩)) rfl (by kernel_rfl) (by kernel_rfl) (by kernel_rfl) (fun _ _ _ h => h) (Or.inl ⟨by rfl, ?_⟩) hHeld ?_
        · intro w' _
          go_simp
        try simp only [Act.put, List.setIfInBounds_toArray, List.set_cons_zero, List.set_cons_succ]
        refine wpAnyH_ready (rs := [10]) (by kernel_rfl) (by simp) ?_
        refine AllReadyH.cons rfl (fun K hK => ?_) AllReadyH.nil
        go_simp
        refine hK.out _ _ trivial (fun hHeld => ?_)
        clear hK K hHeld
        refine wpAnyH_done (by kernel_rfl) ?_ _
        have HR9 : Hid (Qst base w Q R G W ro cp s A2 X Y o2 g (w5.setCell ⟨Q, 4, none⟩ (.int .i64 (Y : Int)))) := HR5.out.set ap rfl
        have HF : Hid (EsEnd base w Q R G W ro cp s A 2 x y g (.returned (.bool true)) (w5.setCell ⟨Q, 4, none⟩ (.int .i64 (Y : Int)))) := HEE.out _ HR9.out
        clear HR5 k5 z5 HR9 HEE HCY
        go_wp2_with fail
        go_ret
        exact HF.out
    · go_simp
      refine HCX.out.mono ?_
      rintro e w5 ⟨rfl, h5⟩
      have HR5 : Hid (Qst base w Q R G W ro cp s A1 x y o1 g w5) := h5
      clear h5
      have k5 := HR5.out.1.cells.2.2.2.1
      have z5 := HR5.out.1.free 3
      refine hK.out _ _ trivial (fun hHeld => ?_)
      clear hK K
      try simp only [Act.put, List.setIfInBounds_toArray, List.set_cons_zero, List.set_cons_succ]
      refine wpAnyH_ready (rs := [4]) (by kernel_rfl) (by simp) ?_
      refine AllReadyH.cons rfl (fun K hK => ?_) AllReadyH.nil
      go_simp
      refine hK.out _ _ trivial (fun hHeld => ?_)
      clear hK K
      try simp only [Act.put, List.setIfInBounds_toArray, List.set_cons_zero, List.set_cons_succ]
      refine wpAnyH_take (i := 7) (v := .int .i64 (X : Int)) rfl (by kernel_rfl) (by kernel_rfl) (by kernel_rfl) (fun _ _ _ h => h) (Or.inl ⟨by rfl, ?_⟩) hHeld ?_
      · intro w' _
        go_simp
      try simp only [Act.put, List.setIfInBounds_toArray, List.set_cons_zero, List.set_cons_succ]
      refine wpAnyH_take (i := 8) (v := .pointer (some ⟨Q, 0, none⟩)) rfl (by kernel_rfl) (by kernel_rfl) (by kernel_rfl) (fun _ _ _ h => h) (Or.inl ⟨by rfl, ?_⟩) hHeld ?_
      · intro w' _
        go_simp
      try simp only [Act.put, List.setIfInBounds_toArray, List.set_cons_zero, List.set_cons_succ]
      refine wpAnyH_take (i := 9) (v := .pointer (some ⟨Q, 3, none⟩)) rfl (by kernel_rfl) (by kernel_rfl) (by kernel_rfl) (fun _ _ _ h => h) (Or.inl ⟨by rfl, ?_⟩) hHeld ?_
      · intro w' _
        go_simp
      try simp only [Act.put, List.setIfInBounds_toArray, List.set_cons_zero, List.set_cons_succ]
      refine wpAnyH_ready (rs := [10]) (by kernel_rfl) (by simp) ?_
      refine AllReadyH.cons rfl (fun K hK => ?_) AllReadyH.nil
      go_simp
      refine hK.out _ _ trivial (fun hHeld => ?_)
      clear hK K hHeld
      refine wpAnyH_done (by kernel_rfl) ?_ _
      have HR6 : Hid (Qst base w Q R G W ro cp s A1 X y o1 g (w5.setCell ⟨Q, 3, none⟩ (.int .i64 (X : Int)))) := HR5.out.set ap rfl
      generalize w5.setCell ⟨Q, 3, none⟩ (.int .i64 (X : Int)) = w6 at *
      clear HR5 k5 z5 HCX HR0 c3 c4 z3 z4
      obtain ⟨-, -, -, -, d4, -⟩ := HR6.out.1.cells
      have HCY : Hid (Calls Try.prog 49 #[.pointer (some ⟨Q, 0, none⟩)] w6.drew fun e w' => e = .returned (.int .i64 (v : Int)) ∧ Qst base w Q R G W ro cp s A2 X y o2 g w') := HCYA.out X w6.drew (HR6.out.drewN 1)
      clear HCYA
      go_wp2_with fail
      refine wp_region_held_drew (S := fun _ => True) (by kernel_rfl) trivial (fun hHeld => ?_)
      refine wpAnyH_take (i := 0) (v := .pointer (some ⟨Q, 0, none⟩)) rfl (by kernel_rfl) (by kernel_rfl) (by kernel_rfl) (fun _ _ _ h => h) (Or.inl ⟨by rfl, ?_⟩) hHeld ?_
      · intro w' _
        go_simp
      try simp only [Act.put, List.setIfInBounds_toArray, List.set_cons_zero, List.set_cons_succ]
      refine wpAnyH_take (i := 1) (v := .pointer (some ⟨Q, 0, none⟩)) rfl (by kernel_rfl) (by kernel_rfl) (by kernel_rfl) (fun _ _ _ h => h) (Or.inl ⟨by rfl, ?_⟩) hHeld ?_
      · intro w' _
        go_simp
      try simp only [Act.put, List.setIfInBounds_toArray, List.set_cons_zero, List.set_cons_succ]
      refine wpAnyH_take (i := 2) (v := .pointer (some ⟨Q, 0, none⟩)) rfl (by kernel_rfl) (by kernel_rfl) (by kernel_rfl) (fun _ _ _ h => h) (Or.inl ⟨by rfl, ?_⟩) hHeld ?_
      · intro w' _
        go_simp
      try simp only [Act.put, List.setIfInBounds_toArray, List.set_cons_zero, List.set_cons_succ]
      refine wpAnyH_take (i := 3) (v := .pointer (some ⟨Q, 4, none⟩)) rfl (by kernel_rfl) (by kernel_rfl) (by kernel_rfl) (fun _ _ _ h => h) (Or.inl ⟨by rfl, ?_⟩) hHeld ?_
      · intro w' _
        go_simp
      try simp only [Act.put, List.setIfInBounds_toArray, List.set_cons_zero, List.set_cons_succ]
      refine wpAnyH_take (i := 5) (v := .pointer (some ⟨Q, 0, none⟩)) rfl (by kernel_rfl) (by kernel_rfl) (by kernel_rfl) (fun _ _ _ h => h) (Or.inl ⟨by rfl, ?_⟩) hHeld ?_
      · intro w' _
        go_simp
      try simp only [Act.put, List.setIfInBounds_toArray, List.set_cons_zero, List.set_cons_succ]
      refine wpAnyH_ready (rs := [4, 6]) (by kernel_rfl) (by simp) ?_
      refine AllReadyH.cons rfl (fun K hK => ?_) (AllReadyH.cons rfl (fun K hK => ?_) AllReadyH.nil)
      · go_simp
        refine hK.out _ _ trivial (fun hHeld => ?_)
        clear hK K
        try simp only [Act.put, List.setIfInBounds_toArray, List.set_cons_zero, List.set_cons_succ]
        refine wpAnyH_ready (rs := [6]) (by kernel_rfl) (by simp) ?_
        refine AllReadyH.cons rfl (fun K hK => ?_) AllReadyH.nil
        go_simp
        refine HCY.out.mono ?_
        rintro e w5 ⟨rfl, h5⟩
        have HR5 : Hid (Qst base w Q R G W ro cp s A2 X y o2 g w5) := h5
        clear h5
        have k5 := HR5.out.1.cells.2.2.2.2.1
        have z5 := HR5.out.1.free 4
        refine hK.out _ _ trivial (fun hHeld => ?_)
        clear hK K
        try simp only [Act.put, List.setIfInBounds_toArray, List.set_cons_zero, List.set_cons_succ]
        refine wpAnyH_take (i := 7) (v := .int .i64 (Y : Int)) rfl (by kernel_rfl) (by kernel_rfl) (by kernel_rfl) (fun _ _ _ h => h) (Or.inl ⟨by rfl, ?_⟩) hHeld ?_
        · intro w' _
          go_simp
        try simp only [Act.put, List.setIfInBounds_toArray, List.set_cons_zero, List.set_cons_succ]
        refine wpAnyH_take (i := 8) (v := .pointer (some ⟨Q, 0, none⟩)) rfl (by kernel_rfl) (by kernel_rfl) (by kernel_rfl) (fun _ _ _ h => h) (Or.inl ⟨by rfl, ?_⟩) hHeld ?_
        · intro w' _
          go_simp
        try simp only [Act.put, List.setIfInBounds_toArray, List.set_cons_zero, List.set_cons_succ]
        refine wpAnyH_take (i := 9) (v := .pointer (some ⟨Q, 4, none⟩)) rfl (by kernel_rfl) (by kernel_rfl) (by kernel_rfl) (fun _ _ _ h => h) (Or.inl ⟨by rfl, ?_⟩) hHeld ?_
        · intro w' _
          go_simp
        try simp only [Act.put, List.setIfInBounds_toArray, List.set_cons_zero, List.set_cons_succ]
        refine wpAnyH_ready (rs := [10]) (by kernel_rfl) (by simp) ?_
        refine AllReadyH.cons rfl (fun K hK => ?_) AllReadyH.nil
        go_simp
        refine hK.out _ _ trivial (fun hHeld => ?_)
        clear hK K hHeld
        refine wpAnyH_done (by kernel_rfl) ?_ _
        have HR9 : Hid (Qst base w Q R G W ro cp s A2 X Y o2 g (w5.setCell ⟨Q, 4, none⟩ (.int .i64 (Y : Int)))) := HR5.out.set ap rfl
        have HF : Hid (EsEnd base w Q R G W ro cp s A 2 x y g (.returned (.bool true)) (w5.setCell ⟨Q, 4, none⟩ (.int .i64 (Y : Int)))) := HEE.out _ HR9.out
        clear HR5 k5 z5 HR9 HEE HCY
        go_wp2_with fail
        go_ret
        exact HF.out
      · go_simp
        refine HCY.out.mono ?_
        rintro e w5 ⟨rfl, h5⟩
        have HR5 : Hid (Qst base w Q R G W ro cp s A2 X y o2 g w5) := h5
        clear h5
        have k5 := HR5.out.1.cells.2.2.2.2.1
        have z5 := HR5.out.1.free 4
        refine hK.out _ _ trivial (fun hHeld => ?_)
        clear hK K
        try simp only [Act.put, List.setIfInBounds_toArray, List.set_cons_zero, List.set_cons_succ]
        refine wpAnyH_ready (rs := [4]) (by kernel_rfl) (by simp) ?_
        refine AllReadyH.cons rfl (fun K hK => ?_) AllReadyH.nil
        go_simp
        refine hK.out _ _ trivial (fun hHeld => ?_)
        clear hK K
        try simp only [Act.put, List.setIfInBounds_toArray, List.set_cons_zero, List.set_cons_succ]
        refine wpAnyH_take (i := 7) (v := .int .i64 (Y : Int)) rfl (by kernel_rfl) (by kernel_rfl) (by kernel_rfl) (fun _ _ _ h => h) (Or.inl ⟨by rfl, ?_⟩) hHeld ?_
        · intro w' _
          go_simp
        try simp only [Act.put, List.setIfInBounds_toArray, List.set_cons_zero, List.set_cons_succ]
        refine wpAnyH_take (i := 8) (v := .pointer (some ⟨Q, 0, none⟩)) rfl (by kernel_rfl) (by kernel_rfl) (by kernel_rfl) (fun _ _ _ h => h) (Or.inl ⟨by rfl, ?_⟩) hHeld ?_
        · intro w' _
          go_simp
        try simp only [Act.put, List.setIfInBounds_toArray, List.set_cons_zero, List.set_cons_succ]
        refine wpAnyH_take (i := 9) (v := .pointer (some ⟨Q, 4, none⟩)) rfl (by kernel_rfl) (by kernel_rfl) (by kernel_rfl) (fun _ _ _ h => h) (Or.inl ⟨by rfl, ?_⟩) hHeld ?_
        · intro w' _
          go_simp
        try simp only [Act.put, List.setIfInBounds_toArray, List.set_cons_zero, List.set_cons_succ]
        refine wpAnyH_ready (rs := [10]) (by kernel_rfl) (by simp) ?_
        refine AllReadyH.cons rfl (fun K hK => ?_) AllReadyH.nil
        go_simp
        refine hK.out _ _ trivial (fun hHeld => ?_)
        clear hK K hHeld
        refine wpAnyH_done (by kernel_rfl) ?_ _
        have HR9 : Hid (Qst base w Q R G W ro cp s A2 X Y o2 g (w5.setCell ⟨Q, 4, none⟩ (.int .i64 (Y : Int)))) := HR5.out.set ap rfl
        have HF : Hid (EsEnd base w Q R G W ro cp s A 2 x y g (.returned (.bool true)) (w5.setCell ⟨Q, 4, none⟩ (.int .i64 (Y : Int)))) := HEE.out _ HR9.out
        clear HR5 k5 z5 HR9 HEE HCY
        go_wp2_with fail
        go_ret
        exact HF.out
  have g2 : ((b : Int) == 2) = false := by rw [beq_eq_false_iff_ne]; omega
  have HSP : Hid (Rl.esc s W G.length A b g x y = if A + b + b % 2 ≤ s.size then (Rl.puts W G.length (Rl.lit s A b) g x y).map (fun r => (true, A + b + b % 2, r.1, r.2, y)) else none) := Rl.esc_lit hb0 hb1 hb2
  clear c3 c4 z3 z4
  go_enter Try.func50, Try.ntmps50
  go_wp2_with fail
  go_loopw [5] (fun i wr' => ∃ (k : Nat), k ≤ b ∧ i = .int .i64 (k : Int) ∧ ((∃ (x' : Nat) (g' : Rl.Grid), x' ≤ x + k ∧ A + k ≤ s.size ∧ Hid (Rl.puts W G.length (Rl.lit s A b) g x y = Rl.puts W G.length ((Rl.lit s A b).drop k) g' x' y) ∧ Hid (Qst base w Q R G W ro cp s (A + k) x' y true g' wr')) ∨ Hid (Rl.esc s W G.length A b g x y = none ∧ Qbad base w Q R G W ro cp s A wr'))) (fun i _ => b - (intOf i).toNat)
  case atStart => exact ⟨0, Nat.zero_le _, rfl, .inl ⟨x, g, Nat.le_refl _, hA, rfl, HR0⟩⟩
  case round =>
    obtain ⟨k, hk, rfl, (⟨x', g', hx', hks, HP, HR⟩ | HBAD)⟩ := hrel
    · clear HR0
      obtain ⟨-, -, -, -, -, c5⟩ := HR.out.1.cells
      by_cases hkc : k < b
      · have hkci : (k : Int) < (b : Int) := by omega
        have dk : decide ((k : Int) < (b : Int)) = true := decide_eq_true hkci
        by_cases hav : A + k < s.size
        · have HBC : Hid (Calls Try.prog 49 #[.pointer (some ⟨Q, 0, none⟩)] wr fun e w' => e = .returned (.int .i64 (byteAt s (A + k) : Int)) ∧ Qst base w Q R G W ro cp s (A + k + 1) x' y true g' w') := HBY.out (A + k) x' y true g' wr HR.out hav
          clear HR
          go_wp2_with fail
          refine HBC.out.mono ?_
          rintro e w4 ⟨rfl, h2⟩
          have HR4 : Hid (Qst base w Q R G W ro cp s (A + k + 1) x' y true g' w4) := h2
          obtain ⟨-, -, -, -, -, d5⟩ := h2.1.cells
          obtain ⟨c, hc⟩ : ∃ c, c = byteAt s (A + k) := ⟨_, rfl⟩
          have HC : Hid (c = byteAt s (A + k)) := hc
          rw [← hc]
          clear h2 HBC c5 hc
          go_wp2_with fail
          refine (HPT.out (A + k + 1) x' g' (c : Int) _ HR4.out (by omega)).mono ?_
          rintro e w5 ⟨rfl, (⟨h1, h2⟩ | ⟨h1, h2⟩)⟩
          · have HP2 : Hid (Rl.puts W G.length (Rl.lit s A b) g x y = Rl.puts W G.length ((Rl.lit s A b).drop (k + 1)) (Rl.upd g' y x' (c : Int)) (x' + 1) y) := by
              show _ = _
              rw [HP.out, Rl.lit_drop _ _ _ _ hkc, Rl.puts_yes h1, HC.out]
            have HR5 : Hid (Qst base w Q R G W ro cp s (A + (k + 1)) (x' + 1) y true (Rl.upd g' y x' (c : Int)) w5) := h2
            clear h1 h2 HP HR4 d5
            go_wp2_with fail
            go_roundw
            case rel => exact ⟨k + 1, by omega, by go_num, .inl ⟨x' + 1, _, by omega, by omega, HP2.out, HR5.out⟩⟩
            case measure => simp [intOf]; omega
          · have HB5 : Hid (Rl.esc s W G.length A b g x y = none ∧ Qbad base w Q R G W ro cp s A w5) := by
              refine ⟨?_, A + k + 1, x', y, g', by omega, by omega, h2⟩
              rw [HSP.out, HP.out, Rl.lit_drop _ _ _ _ hkc, Rl.puts_no h1]
              split <;> rfl
            clear h1 h2 HP HR4 d5
            go_wp2_with fail
            go_roundw
            case rel => exact ⟨k + 1, by omega, by go_num, .inr HB5.out⟩
            case measure => simp [intOf]; omega
        · have HBC : Hid (Calls Try.prog 49 #[.pointer (some ⟨Q, 0, none⟩)] wr fun e w' => e = .returned (.int .i64 0) ∧ Qst base w Q R G W ro cp s (A + k) x' y false g' w') := HBN.out (A + k) x' y true g' wr HR.out (by omega)
          clear HR
          go_wp2_with fail
          refine HBC.out.mono ?_
          rintro e w4 ⟨rfl, h2⟩
          obtain ⟨-, -, -, -, -, d5⟩ := h2.1.cells
          have HB5 : Hid (Rl.esc s W G.length A b g x y = none ∧ Qbad base w Q R G W ro cp s A w4) := ⟨by rw [HSP.out, if_neg (by omega)], A + k, x', y, g', by omega, by omega, h2⟩
          clear h2 HP HBC c5
          go_wp2_with fail
          go_roundw
          case rel => exact ⟨k + 1, by omega, by go_num, .inr HB5.out⟩
          case measure => simp [intOf]; omega
      · have hkci : ¬ (k : Int) < (b : Int) := by omega
        have dk : decide ((k : Int) < (b : Int)) = false := decide_eq_false hkci
        have hkb : k = b := by omega
        subst hkb
        have HPE : Hid (Rl.puts W G.length (Rl.lit s A k) g x y = some (g', x')) := by
          show _ = _
          rw [HP.out, List.drop_of_length_le (by rw [Rl.lit_len]; exact Nat.le_refl _)]; rfl
        by_cases hodd : k % 2 = 1
        · have ho : ((k : Int) % 2 == 1) = true := by rw [beq_iff_eq]; omega
          have hoi : (k : Int) % 2 = 1 := by omega
          by_cases hav : A + k < s.size
          · have HBC : Hid (Calls Try.prog 49 #[.pointer (some ⟨Q, 0, none⟩)] wr fun e w' => e = .returned (.int .i64 (byteAt s (A + k) : Int)) ∧ Qst base w Q R G W ro cp s (A + k + 1) x' y true g' w') := HBY.out (A + k) x' y true g' wr HR.out hav
            clear HR HP
            go_wp2_with fail
            refine HBC.out.mono ?_
            rintro e w4 ⟨rfl, h2⟩
            have HF : Hid (EsEnd base w Q R G W ro cp s A k x y g (.returned (.bool true)) w4) := by
              refine .inl ⟨(true, A + k + 1, g', x', y), ?_, rfl, h2⟩
              rw [HSP.out, hodd, if_pos (by omega), HPE.out]; rfl
            clear h2 HBC c5
            go_wp2_with fail
            go_ret
            exact HF.out
          · have HBC : Hid (Calls Try.prog 49 #[.pointer (some ⟨Q, 0, none⟩)] wr fun e w' => e = .returned (.int .i64 0) ∧ Qst base w Q R G W ro cp s (A + k) x' y false g' w') := HBN.out (A + k) x' y true g' wr HR.out (by omega)
            clear HR HP
            go_wp2_with fail
            refine HBC.out.mono ?_
            rintro e w4 ⟨rfl, h2⟩
            have HF : Hid (EsEnd base w Q R G W ro cp s A k x y g (.returned (.bool true)) w4) := .inr ⟨by rw [HSP.out, if_neg (by omega)], true, rfl, A + k, x', y, g', by omega, by omega, h2⟩
            clear h2 HBC c5
            go_wp2_with fail
            go_ret
            exact HF.out
        · have ho : ((k : Int) % 2 == 1) = false := by rw [beq_eq_false_iff_ne]; omega
          have hoi : ¬ (k : Int) % 2 = 1 := by omega
          have hev : k % 2 = 0 := by omega
          have HF : Hid (EsEnd base w Q R G W ro cp s A k x y g (.returned (.bool true)) wr) := by
            refine .inl ⟨(true, A + k, g', x', y), ?_, rfl, HR.out⟩
            rw [HSP.out, hev, if_pos (by omega), HPE.out]; rfl
          clear HR HP hev
          go_wp2_with fail
          go_ret
          exact HF.out
    · obtain ⟨hno, A', x', y', g', l1, l2, hq⟩ := HBAD.out
      obtain ⟨-, -, -, -, -, c5⟩ := hq.1.cells
      have HQ : Hid (Qst base w Q R G W ro cp s A' x' y' false g' wr) := hq
      have HNO : Hid (Rl.esc s W G.length A b g x y = none) := hno
      clear hno hq HBAD HR0
      by_cases hodd : b % 2 = 1
      · have ho : ((b : Int) % 2 == 1) = true := by rw [beq_iff_eq]; omega
        have hoi : (b : Int) % 2 = 1 := by omega
        have HBC : Hid (∃ (z : Int), Calls Try.prog 49 #[.pointer (some ⟨Q, 0, none⟩)] wr fun e w' => e = .returned (.int .i64 z) ∧ Qbad base w Q R G W ro cp s A w') := by
          by_cases hav : A' < s.size
          · refine ⟨((byteAt s A' : Nat) : Int), (HBY.out A' x' y' false g' wr HQ.out hav).mono ?_⟩
            rintro e w' ⟨h1, h2⟩
            exact ⟨h1, A' + 1, x', y', g', by omega, by omega, h2⟩
          · refine ⟨0, (HBN.out A' x' y' false g' wr HQ.out (by omega)).mono ?_⟩
            rintro e w' ⟨h1, h2⟩
            exact ⟨h1, A', x', y', g', l1, l2, h2⟩
        obtain ⟨z, hz⟩ := HBC.out
        have HZ : Hid (Calls Try.prog 49 #[.pointer (some ⟨Q, 0, none⟩)] wr fun e w' => e = .returned (.int .i64 z) ∧ Qbad base w Q R G W ro cp s A w') := hz
        clear hz HBC HQ
        by_cases hkc : (k : Int) < (b : Int)
        all_goals
          go_wp2_with fail
          refine HZ.out.mono ?_
          rintro e w4 ⟨rfl, h2⟩
          have HF : Hid (EsEnd base w Q R G W ro cp s A b x y g (.returned (.bool true)) w4) := .inr ⟨HNO.out, true, rfl, h2⟩
          clear h2 HZ c5
          go_wp2_with fail
          go_ret
          exact HF.out
      · have ho : ((b : Int) % 2 == 1) = false := by rw [beq_eq_false_iff_ne]; omega
        have hoi : ¬ (b : Int) % 2 = 1 := by omega
        have HF : Hid (EsEnd base w Q R G W ro cp s A b x y g (.returned (.bool true)) wr) := .inr ⟨HNO.out, true, rfl, A', x', y', g', l1, l2, HQ.out⟩
        clear HQ
        by_cases hkc : (k : Int) < (b : Int)
        all_goals
          go_wp2_with fail
          go_ret
          exact HF.out
end Go.Proofs.Ytlpfedhehfbfeaa
