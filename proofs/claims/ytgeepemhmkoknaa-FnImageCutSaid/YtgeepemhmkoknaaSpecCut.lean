/- ImageCut of the specification. -/
import Derived.Test.YtgeepemhmkoknaaBlankSpec
import Derived.Test.YtgeepemhmkoknaaImplCut
import Derived.Test.YtgeepemhmkoknaaImgSpec3
import Derived.Test.YtgeepemhmkoknaaSegInts
namespace Go.Proofs.Ytgeepemhmkoknaa
open Go.RowKit

theorem cut_rows (Wd X Y W : Nat) (ps : List Int) (j : Nat) : upto (ptF W (cutF Wd X Y ps)) ((j + 1) * W) = upto (ptF W (cutF Wd X Y ps)) (j * W) ++ seg ps ((Y + j) * Wd + X) W := by
  rw [Nat.add_mul, Nat.one_mul, upto_add]
  congr 1
  unfold seg
  apply List.map_congr_left
  intro t ht
  rw [List.mem_range] at ht
  rw [ptF_at _ ht]
  unfold cutF
  rw [Nat.add_assoc ((Y + j) * Wd)]

set_option maxHeartbeats 1000000 in
set_option maxRecDepth 20000 in
theorem spec_cut_bad (k d wd hi x y cw ch : Int) (ca : Option Addr) (cn cc : Nat) (pa : Option Addr) (pn pc : Nat) (w : World)
    (hO : Calls Try.prog 14 #[.agg #[.int .i64 k, .int .i64 d, .int .i64 wd, .int .i64 hi, .slice ca cn cc, .slice pa pn pc]] ((w.alloc (.cells #[.int .i64 k, .int .i64 d, .int .i64 wd, .int .i64 hi, .slice ca cn cc, .slice pa pn pc] 25)).alloc (.cells #[.int .i64 0, .int .i64 0, .int .i64 0, .int .i64 0, .slice none 0 0, .slice none 0 0] 25)) fun e w' => e = .returned (.bool false) ∧ Below ((w.alloc (.cells #[.int .i64 k, .int .i64 d, .int .i64 wd, .int .i64 hi, .slice ca cn cc, .slice pa pn pc] 25)).alloc (.cells #[.int .i64 0, .int .i64 0, .int .i64 0, .int .i64 0, .slice none 0 0, .slice none 0 0] 25)).heap.size ((w.alloc (.cells #[.int .i64 k, .int .i64 d, .int .i64 wd, .int .i64 hi, .slice ca cn cc, .slice pa pn pc] 25)).alloc (.cells #[.int .i64 0, .int .i64 0, .int .i64 0, .int .i64 0, .slice none 0 0, .slice none 0 0] 25)) w') :
    Calls Try.prog 21 #[.agg #[.int .i64 k, .int .i64 d, .int .i64 wd, .int .i64 hi, .slice ca cn cc, .slice pa pn pc], .int .i64 x, .int .i64 y, .int .i64 cw, .int .i64 ch] w fun e w' => e = .returned (.tuple #[.agg #[.int .i64 0, .int .i64 0, .int .i64 0, .int .i64 0, .slice none 0 0, .slice none 0 0], .bool false]) ∧ Below w.heap.size w w' := by
  have hB0 : Below w.heap.size w ((w.alloc (.cells #[.int .i64 k, .int .i64 d, .int .i64 wd, .int .i64 hi, .slice ca cn cc, .slice pa pn pc] 25)).alloc (.cells #[.int .i64 0, .int .i64 0, .int .i64 0, .int .i64 0, .slice none 0 0, .slice none 0 0] 25)) := ((Below.refl _ _).alloc (Nat.le_refl _) _).alloc (by simp) _
  have HO : Hid (Calls Try.prog 14 #[.agg #[.int .i64 k, .int .i64 d, .int .i64 wd, .int .i64 hi, .slice ca cn cc, .slice pa pn pc]] ((w.alloc (.cells #[.int .i64 k, .int .i64 d, .int .i64 wd, .int .i64 hi, .slice ca cn cc, .slice pa pn pc] 25)).alloc (.cells #[.int .i64 0, .int .i64 0, .int .i64 0, .int .i64 0, .slice none 0 0, .slice none 0 0] 25)) fun e w' => e = .returned (.bool false) ∧ Below ((w.alloc (.cells #[.int .i64 k, .int .i64 d, .int .i64 wd, .int .i64 hi, .slice ca cn cc, .slice pa pn pc] 25)).alloc (.cells #[.int .i64 0, .int .i64 0, .int .i64 0, .int .i64 0, .slice none 0 0, .slice none 0 0] 25)).heap.size ((w.alloc (.cells #[.int .i64 k, .int .i64 d, .int .i64 wd, .int .i64 hi, .slice ca cn cc, .slice pa pn pc] 25)).alloc (.cells #[.int .i64 0, .int .i64 0, .int .i64 0, .int .i64 0, .slice none 0 0, .slice none 0 0] 25)) w') := hO
  clear hO
  have HZ : Hid (((w.alloc (.cells #[.int .i64 k, .int .i64 d, .int .i64 wd, .int .i64 hi, .slice ca cn cc, .slice pa pn pc] 25)).alloc (.cells #[.int .i64 0, .int .i64 0, .int .i64 0, .int .i64 0, .slice none 0 0, .slice none 0 0] 25)).heap[w.heap.size + 1]? = some (.cells #[.int .i64 0, .int .i64 0, .int .i64 0, .int .i64 0, .slice none 0 0, .slice none 0 0] 25 (0, 0))) := heap_alloc2_new _ _ _
  go_enter Try.func21, Try.ntmps21
  go_wp2_with fail
  refine HO.out.mono ?_
  rintro e w1 ⟨rfl, b1⟩
  have bel1 := hB0.trans (b1.mono hB0.size)
  have hz1 : w1.heap[w.heap.size + 1]? = some (.cells #[.int .i64 0, .int .i64 0, .int .i64 0, .int .i64 0, .slice none 0 0, .slice none 0 0] 25 (0, 0)) := (b1.block _ (by simp)).trans HZ.out
  clear b1 hB0 HO HZ
  have hI6 : (Try.prog.info? 25).map (·.size) = some (#[Value.int .i64 0, .int .i64 0, .int .i64 0, .int .i64 0, .slice none 0 0, .slice none 0 0]).size := by kernel_rfl
  have h16 : (#[Value.int .i64 0, .int .i64 0, .int .i64 0, .int .i64 0, .slice none 0 0, .slice none 0 0]).all (·.oneCell') = true := by simp [Value.oneCell']
  go_wp2_with (refine wpList_store_row rfl 25 (.tmp 10) (.tmp 50) rfl (w.heap.size + 1) #[.int .i64 0, .int .i64 0, .int .i64 0, .int .i64 0, .slice none 0 0, .slice none 0 0] rfl rfl 25 #[.int .i64 0, .int .i64 0, .int .i64 0, .int .i64 0, .slice none 0 0, .slice none 0 0] hz1 hI6 rfl h16 ?_)
  have hs2 := setRow_heap w1 (w.heap.size + 1) _ #[.int .i64 0, .int .i64 0, .int .i64 0, .int .i64 0, .slice none 0 0, .slice none 0 0] _ _ hz1
  obtain ⟨⟨z0, z1, z2, z3, z4, z5⟩, _⟩ := box6 hs2
  refine bodyPost_ret (v := .tuple #[.agg #[.int .i64 0, .int .i64 0, .int .i64 0, .int .i64 0, .slice none 0 0, .slice none 0 0], .bool false]) (by simp [results, Try.results21, go_sem, z0, z1, z2, z3, z4, z5]) rfl ⟨rfl, ?_⟩
  exact bel1.trans ((below_setRow _ _ _).mono (by omega))

set_option maxHeartbeats 2000000 in
set_option maxRecDepth 20000 in
theorem spec_cut_out (k d wd hi x y cw ch : Int) (ca : Option Addr) (cn cc : Nat) (pa : Option Addr) (pn pc : Nat) (w : World) (hwd : 0 ≤ wd ∧ wd ≤ 20) (hhi : 0 ≤ hi ∧ hi ≤ 20) (hno : ¬ CutOk wd hi x y cw ch)
    (hO : Calls Try.prog 14 #[.agg #[.int .i64 k, .int .i64 d, .int .i64 wd, .int .i64 hi, .slice ca cn cc, .slice pa pn pc]] ((w.alloc (.cells #[.int .i64 k, .int .i64 d, .int .i64 wd, .int .i64 hi, .slice ca cn cc, .slice pa pn pc] 25)).alloc (.cells #[.int .i64 0, .int .i64 0, .int .i64 0, .int .i64 0, .slice none 0 0, .slice none 0 0] 25)) fun e w' => e = .returned (.bool true) ∧ Below ((w.alloc (.cells #[.int .i64 k, .int .i64 d, .int .i64 wd, .int .i64 hi, .slice ca cn cc, .slice pa pn pc] 25)).alloc (.cells #[.int .i64 0, .int .i64 0, .int .i64 0, .int .i64 0, .slice none 0 0, .slice none 0 0] 25)).heap.size ((w.alloc (.cells #[.int .i64 k, .int .i64 d, .int .i64 wd, .int .i64 hi, .slice ca cn cc, .slice pa pn pc] 25)).alloc (.cells #[.int .i64 0, .int .i64 0, .int .i64 0, .int .i64 0, .slice none 0 0, .slice none 0 0] 25)) w') :
    Calls Try.prog 21 #[.agg #[.int .i64 k, .int .i64 d, .int .i64 wd, .int .i64 hi, .slice ca cn cc, .slice pa pn pc], .int .i64 x, .int .i64 y, .int .i64 cw, .int .i64 ch] w fun e w' => e = .returned (.tuple #[.agg #[.int .i64 0, .int .i64 0, .int .i64 0, .int .i64 0, .slice none 0 0, .slice none 0 0], .bool false]) ∧ Below w.heap.size w w' := by
  have hB0 : Below w.heap.size w ((w.alloc (.cells #[.int .i64 k, .int .i64 d, .int .i64 wd, .int .i64 hi, .slice ca cn cc, .slice pa pn pc] 25)).alloc (.cells #[.int .i64 0, .int .i64 0, .int .i64 0, .int .i64 0, .slice none 0 0, .slice none 0 0] 25)) := ((Below.refl _ _).alloc (Nat.le_refl _) _).alloc (by simp) _
  have HO : Hid (Calls Try.prog 14 #[.agg #[.int .i64 k, .int .i64 d, .int .i64 wd, .int .i64 hi, .slice ca cn cc, .slice pa pn pc]] ((w.alloc (.cells #[.int .i64 k, .int .i64 d, .int .i64 wd, .int .i64 hi, .slice ca cn cc, .slice pa pn pc] 25)).alloc (.cells #[.int .i64 0, .int .i64 0, .int .i64 0, .int .i64 0, .slice none 0 0, .slice none 0 0] 25)) fun e w' => e = .returned (.bool true) ∧ Below ((w.alloc (.cells #[.int .i64 k, .int .i64 d, .int .i64 wd, .int .i64 hi, .slice ca cn cc, .slice pa pn pc] 25)).alloc (.cells #[.int .i64 0, .int .i64 0, .int .i64 0, .int .i64 0, .slice none 0 0, .slice none 0 0] 25)).heap.size ((w.alloc (.cells #[.int .i64 k, .int .i64 d, .int .i64 wd, .int .i64 hi, .slice ca cn cc, .slice pa pn pc] 25)).alloc (.cells #[.int .i64 0, .int .i64 0, .int .i64 0, .int .i64 0, .slice none 0 0, .slice none 0 0] 25)) w') := hO
  clear hO
  have HZ : Hid (((w.alloc (.cells #[.int .i64 k, .int .i64 d, .int .i64 wd, .int .i64 hi, .slice ca cn cc, .slice pa pn pc] 25)).alloc (.cells #[.int .i64 0, .int .i64 0, .int .i64 0, .int .i64 0, .slice none 0 0, .slice none 0 0] 25)).heap[w.heap.size + 1]? = some (.cells #[.int .i64 0, .int .i64 0, .int .i64 0, .int .i64 0, .slice none 0 0, .slice none 0 0] 25 (0, 0))) := heap_alloc2_new _ _ _
  have HK0 := box_kept (box_new w (.int .i64 k) (.int .i64 d) (.int .i64 wd) (.int .i64 hi) (.slice ca cn cc) (.slice pa pn pc) 25) ((Below.refl _ _).alloc (Nat.le_refl _) (.cells #[.int .i64 0, .int .i64 0, .int .i64 0, .int .i64 0, .slice none 0 0, .slice none 0 0] 25)) (by simp)
  by_cases g1 : 1 ≤ cw ∧ cw ≤ wd
  · have HL1 : Hid (∀ w : World, Calls Try.prog 47 #[.int .i64 cw, .int .i64 1, .int .i64 wd] w fun e w' => e = .returned (.bool true) ∧ w' = w) := fun w => l1In_yes _ _ _ w g1.1 g1.2
    obtain ⟨c, hc⟩ : ∃ c : Int, c = wd - cw := ⟨_, rfl⟩
    have hcw : wd - cw = c := hc.symm
    have hcb : 0 ≤ c ∧ c ≤ 20 := by omega
    by_cases g2 : 1 ≤ ch ∧ ch ≤ hi
    · have HL2 : Hid (∀ w : World, Calls Try.prog 47 #[.int .i64 ch, .int .i64 1, .int .i64 hi] w fun e w' => e = .returned (.bool true) ∧ w' = w) := fun w => l1In_yes _ _ _ w g2.1 g2.2
      obtain ⟨f, hf⟩ : ∃ f : Int, f = hi - ch := ⟨_, rfl⟩
      have hfw : hi - ch = f := hf.symm
      have hfb : 0 ≤ f ∧ f ≤ 20 := by omega
      by_cases g3 : 0 ≤ x ∧ x ≤ c
      · have HL3 : Hid (∀ w : World, Calls Try.prog 47 #[.int .i64 x, .int .i64 0, .int .i64 c] w fun e w' => e = .returned (.bool true) ∧ w' = w) := fun w => l1In_yes _ _ _ w g3.1 g3.2
        have g4 : ¬ (0 ≤ y ∧ y ≤ f) := fun q => hno ⟨g3.1, q.1, g1.1, g2.1, by omega, by omega⟩
        have HL4 : Hid (∀ w : World, Calls Try.prog 47 #[.int .i64 y, .int .i64 0, .int .i64 f] w fun e w' => e = .returned (.bool false) ∧ w' = w) := fun w => l1In_no _ _ _ w g4
        clear hno g1 g2 g3 g4 hc hf
        go_enter Try.func21, Try.ntmps21
        go_wp2_with fail
        refine HO.out.mono ?_
        rintro e w1 ⟨rfl, b1⟩
        obtain ⟨k0, k1, k2, k3, k4, k5⟩ := box_kept HK0 b1 (by simp; omega)
        have bel1 := hB0.trans (b1.mono hB0.size)
        have hz1 : w1.heap[w.heap.size + 1]? = some (.cells #[.int .i64 0, .int .i64 0, .int .i64 0, .int .i64 0, .slice none 0 0, .slice none 0 0] 25 (0, 0)) := (b1.block _ (by simp)).trans HZ.out
        clear b1 hB0 HO HZ HK0
        go_wp2_with fail
        refine (HL1.out _).mono ?_
        rintro e w9 ⟨rfl, hw9⟩; subst hw9
        go_wp2_with fail
        refine (HL2.out _).mono ?_
        rintro e w9 ⟨rfl, hw9⟩; subst hw9
        go_wp2_with fail
        refine (HL3.out _).mono ?_
        rintro e w9 ⟨rfl, hw9⟩; subst hw9
        go_wp2_with fail
        refine (HL4.out _).mono ?_
        rintro e w9 ⟨rfl, hw9⟩; subst hw9
        have hI6 : (Try.prog.info? 25).map (·.size) = some (#[Value.int .i64 0, .int .i64 0, .int .i64 0, .int .i64 0, .slice none 0 0, .slice none 0 0]).size := by kernel_rfl
        have h16 : (#[Value.int .i64 0, .int .i64 0, .int .i64 0, .int .i64 0, .slice none 0 0, .slice none 0 0]).all (·.oneCell') = true := by simp [Value.oneCell']
        go_wp2_with (refine wpList_store_row rfl 25 (.tmp 10) (.tmp 50) rfl (w.heap.size + 1) #[.int .i64 0, .int .i64 0, .int .i64 0, .int .i64 0, .slice none 0 0, .slice none 0 0] rfl rfl 25 #[.int .i64 0, .int .i64 0, .int .i64 0, .int .i64 0, .slice none 0 0, .slice none 0 0] hz1 hI6 rfl h16 ?_)
        have hs2 := setRow_heap w9 (w.heap.size + 1) _ #[.int .i64 0, .int .i64 0, .int .i64 0, .int .i64 0, .slice none 0 0, .slice none 0 0] _ _ hz1
        obtain ⟨⟨z0, z1, z2, z3, z4, z5⟩, _⟩ := box6 hs2
        refine bodyPost_ret (v := .tuple #[.agg #[.int .i64 0, .int .i64 0, .int .i64 0, .int .i64 0, .slice none 0 0, .slice none 0 0], .bool false]) (by simp [results, Try.results21, go_sem, z0, z1, z2, z3, z4, z5]) rfl ⟨rfl, ?_⟩
        exact bel1.trans ((below_setRow _ _ _).mono (by omega))
      · have HL3 : Hid (∀ w : World, Calls Try.prog 47 #[.int .i64 x, .int .i64 0, .int .i64 c] w fun e w' => e = .returned (.bool false) ∧ w' = w) := fun w => l1In_no _ _ _ w g3
        clear hno g1 g2 g3 hc hf
        go_enter Try.func21, Try.ntmps21
        go_wp2_with fail
        refine HO.out.mono ?_
        rintro e w1 ⟨rfl, b1⟩
        obtain ⟨k0, k1, k2, k3, k4, k5⟩ := box_kept HK0 b1 (by simp; omega)
        have bel1 := hB0.trans (b1.mono hB0.size)
        have hz1 : w1.heap[w.heap.size + 1]? = some (.cells #[.int .i64 0, .int .i64 0, .int .i64 0, .int .i64 0, .slice none 0 0, .slice none 0 0] 25 (0, 0)) := (b1.block _ (by simp)).trans HZ.out
        clear b1 hB0 HO HZ HK0
        go_wp2_with fail
        refine (HL1.out _).mono ?_
        rintro e w9 ⟨rfl, hw9⟩; subst hw9
        go_wp2_with fail
        refine (HL2.out _).mono ?_
        rintro e w9 ⟨rfl, hw9⟩; subst hw9
        go_wp2_with fail
        refine (HL3.out _).mono ?_
        rintro e w9 ⟨rfl, hw9⟩; subst hw9
        have hI6 : (Try.prog.info? 25).map (·.size) = some (#[Value.int .i64 0, .int .i64 0, .int .i64 0, .int .i64 0, .slice none 0 0, .slice none 0 0]).size := by kernel_rfl
        have h16 : (#[Value.int .i64 0, .int .i64 0, .int .i64 0, .int .i64 0, .slice none 0 0, .slice none 0 0]).all (·.oneCell') = true := by simp [Value.oneCell']
        go_wp2_with (refine wpList_store_row rfl 25 (.tmp 10) (.tmp 50) rfl (w.heap.size + 1) #[.int .i64 0, .int .i64 0, .int .i64 0, .int .i64 0, .slice none 0 0, .slice none 0 0] rfl rfl 25 #[.int .i64 0, .int .i64 0, .int .i64 0, .int .i64 0, .slice none 0 0, .slice none 0 0] hz1 hI6 rfl h16 ?_)
        have hs2 := setRow_heap w9 (w.heap.size + 1) _ #[.int .i64 0, .int .i64 0, .int .i64 0, .int .i64 0, .slice none 0 0, .slice none 0 0] _ _ hz1
        obtain ⟨⟨z0, z1, z2, z3, z4, z5⟩, _⟩ := box6 hs2
        refine bodyPost_ret (v := .tuple #[.agg #[.int .i64 0, .int .i64 0, .int .i64 0, .int .i64 0, .slice none 0 0, .slice none 0 0], .bool false]) (by simp [results, Try.results21, go_sem, z0, z1, z2, z3, z4, z5]) rfl ⟨rfl, ?_⟩
        exact bel1.trans ((below_setRow _ _ _).mono (by omega))
    · have HL2 : Hid (∀ w : World, Calls Try.prog 47 #[.int .i64 ch, .int .i64 1, .int .i64 hi] w fun e w' => e = .returned (.bool false) ∧ w' = w) := fun w => l1In_no _ _ _ w g2
      clear hno g1 g2 hc hcw
      go_enter Try.func21, Try.ntmps21
      go_wp2_with fail
      refine HO.out.mono ?_
      rintro e w1 ⟨rfl, b1⟩
      obtain ⟨k0, k1, k2, k3, k4, k5⟩ := box_kept HK0 b1 (by simp; omega)
      have bel1 := hB0.trans (b1.mono hB0.size)
      have hz1 : w1.heap[w.heap.size + 1]? = some (.cells #[.int .i64 0, .int .i64 0, .int .i64 0, .int .i64 0, .slice none 0 0, .slice none 0 0] 25 (0, 0)) := (b1.block _ (by simp)).trans HZ.out
      clear b1 hB0 HO HZ HK0
      go_wp2_with fail
      refine (HL1.out _).mono ?_
      rintro e w9 ⟨rfl, hw9⟩; subst hw9
      go_wp2_with fail
      refine (HL2.out _).mono ?_
      rintro e w9 ⟨rfl, hw9⟩; subst hw9
      have hI6 : (Try.prog.info? 25).map (·.size) = some (#[Value.int .i64 0, .int .i64 0, .int .i64 0, .int .i64 0, .slice none 0 0, .slice none 0 0]).size := by kernel_rfl
      have h16 : (#[Value.int .i64 0, .int .i64 0, .int .i64 0, .int .i64 0, .slice none 0 0, .slice none 0 0]).all (·.oneCell') = true := by simp [Value.oneCell']
      go_wp2_with (refine wpList_store_row rfl 25 (.tmp 10) (.tmp 50) rfl (w.heap.size + 1) #[.int .i64 0, .int .i64 0, .int .i64 0, .int .i64 0, .slice none 0 0, .slice none 0 0] rfl rfl 25 #[.int .i64 0, .int .i64 0, .int .i64 0, .int .i64 0, .slice none 0 0, .slice none 0 0] hz1 hI6 rfl h16 ?_)
      have hs2 := setRow_heap w9 (w.heap.size + 1) _ #[.int .i64 0, .int .i64 0, .int .i64 0, .int .i64 0, .slice none 0 0, .slice none 0 0] _ _ hz1
      obtain ⟨⟨z0, z1, z2, z3, z4, z5⟩, _⟩ := box6 hs2
      refine bodyPost_ret (v := .tuple #[.agg #[.int .i64 0, .int .i64 0, .int .i64 0, .int .i64 0, .slice none 0 0, .slice none 0 0], .bool false]) (by simp [results, Try.results21, go_sem, z0, z1, z2, z3, z4, z5]) rfl ⟨rfl, ?_⟩
      exact bel1.trans ((below_setRow _ _ _).mono (by omega))
  · have HL1 : Hid (∀ w : World, Calls Try.prog 47 #[.int .i64 cw, .int .i64 1, .int .i64 wd] w fun e w' => e = .returned (.bool false) ∧ w' = w) := fun w => l1In_no _ _ _ w g1
    clear hno g1
    go_enter Try.func21, Try.ntmps21
    go_wp2_with fail
    refine HO.out.mono ?_
    rintro e w1 ⟨rfl, b1⟩
    obtain ⟨k0, k1, k2, k3, k4, k5⟩ := box_kept HK0 b1 (by simp; omega)
    have bel1 := hB0.trans (b1.mono hB0.size)
    have hz1 : w1.heap[w.heap.size + 1]? = some (.cells #[.int .i64 0, .int .i64 0, .int .i64 0, .int .i64 0, .slice none 0 0, .slice none 0 0] 25 (0, 0)) := (b1.block _ (by simp)).trans HZ.out
    clear b1 hB0 HO HZ HK0
    go_wp2_with fail
    refine (HL1.out _).mono ?_
    rintro e w9 ⟨rfl, hw9⟩; subst hw9
    have hI6 : (Try.prog.info? 25).map (·.size) = some (#[Value.int .i64 0, .int .i64 0, .int .i64 0, .int .i64 0, .slice none 0 0, .slice none 0 0]).size := by kernel_rfl
    have h16 : (#[Value.int .i64 0, .int .i64 0, .int .i64 0, .int .i64 0, .slice none 0 0, .slice none 0 0]).all (·.oneCell') = true := by simp [Value.oneCell']
    go_wp2_with (refine wpList_store_row rfl 25 (.tmp 10) (.tmp 50) rfl (w.heap.size + 1) #[.int .i64 0, .int .i64 0, .int .i64 0, .int .i64 0, .slice none 0 0, .slice none 0 0] rfl rfl 25 #[.int .i64 0, .int .i64 0, .int .i64 0, .int .i64 0, .slice none 0 0, .slice none 0 0] hz1 hI6 rfl h16 ?_)
    have hs2 := setRow_heap w9 (w.heap.size + 1) _ #[.int .i64 0, .int .i64 0, .int .i64 0, .int .i64 0, .slice none 0 0, .slice none 0 0] _ _ hz1
    obtain ⟨⟨z0, z1, z2, z3, z4, z5⟩, _⟩ := box6 hs2
    refine bodyPost_ret (v := .tuple #[.agg #[.int .i64 0, .int .i64 0, .int .i64 0, .int .i64 0, .slice none 0 0, .slice none 0 0], .bool false]) (by simp [results, Try.results21, go_sem, z0, z1, z2, z3, z4, z5]) rfl ⟨rfl, ?_⟩
    exact bel1.trans ((below_setRow _ _ _).mono (by omega))

set_option linter.unusedSimpArgs false in
set_option maxHeartbeats 4000000 in
set_option maxRecDepth 20000 in
theorem spec_cut_yes (k d : Int) (Wd Hi : Nat) (ca : Option Addr) (cn cc : Nat) (pa : Option Addr) (pn pc : Nat) (X Y W H : Nat) (cs ps : List Int) (w : World) (hc : Ints w ca cs) (hcn : cs.length = cn) (hcl : cn ≤ 1048576) (hp : Ints w pa ps) (hpn : ps.length = pn) (hW : Wd ≤ 20) (hH : Hi ≤ 20) (hm : pn = Wd * Hi) (hpc : pn ≤ pc) (hXW : X + W ≤ Wd) (hYH : Y + H ≤ Hi) (hW1 : 1 ≤ W) (hH1 : 1 ≤ H)
    (hO : Calls Try.prog 14 #[.agg #[.int .i64 k, .int .i64 d, .int .i64 (Wd : Int), .int .i64 (Hi : Int), .slice ca cn cc, .slice pa pn pc]] ((w.alloc (.cells #[.int .i64 k, .int .i64 d, .int .i64 (Wd : Int), .int .i64 (Hi : Int), .slice ca cn cc, .slice pa pn pc] 25)).alloc (.cells #[.int .i64 0, .int .i64 0, .int .i64 0, .int .i64 0, .slice none 0 0, .slice none 0 0] 25)) fun e w' => e = .returned (.bool true) ∧ Below ((w.alloc (.cells #[.int .i64 k, .int .i64 d, .int .i64 (Wd : Int), .int .i64 (Hi : Int), .slice ca cn cc, .slice pa pn pc] 25)).alloc (.cells #[.int .i64 0, .int .i64 0, .int .i64 0, .int .i64 0, .slice none 0 0, .slice none 0 0] 25)).heap.size ((w.alloc (.cells #[.int .i64 k, .int .i64 d, .int .i64 (Wd : Int), .int .i64 (Hi : Int), .slice ca cn cc, .slice pa pn pc] 25)).alloc (.cells #[.int .i64 0, .int .i64 0, .int .i64 0, .int .i64 0, .slice none 0 0, .slice none 0 0] 25)) w') :
    Calls Try.prog 21 #[.agg #[.int .i64 k, .int .i64 d, .int .i64 (Wd : Int), .int .i64 (Hi : Int), .slice ca cn cc, .slice pa pn pc], .int .i64 (X : Int), .int .i64 (Y : Int), .int .i64 (W : Int), .int .i64 (H : Int)] w fun e w' =>
      (∃ x cx y cy, e = .returned (.tuple #[.agg #[.int .i64 k, .int .i64 d, .int .i64 (W : Int), .int .i64 (H : Int), .slice x cn cx, .slice y (W * H) cy], .bool true]) ∧ Ints w' x cs ∧ Ints w' y (upto (ptF W (cutF Wd X Y ps)) (W * H))) ∧ Below w.heap.size w w' := by
  have hB0 : Below w.heap.size w ((w.alloc (.cells #[.int .i64 k, .int .i64 d, .int .i64 (Wd : Int), .int .i64 (Hi : Int), .slice ca cn cc, .slice pa pn pc] 25)).alloc (.cells #[.int .i64 0, .int .i64 0, .int .i64 0, .int .i64 0, .slice none 0 0, .slice none 0 0] 25)) := ((Below.refl _ _).alloc (Nat.le_refl _) _).alloc (by simp) _
  have HO : Hid (Calls Try.prog 14 #[.agg #[.int .i64 k, .int .i64 d, .int .i64 (Wd : Int), .int .i64 (Hi : Int), .slice ca cn cc, .slice pa pn pc]] ((w.alloc (.cells #[.int .i64 k, .int .i64 d, .int .i64 (Wd : Int), .int .i64 (Hi : Int), .slice ca cn cc, .slice pa pn pc] 25)).alloc (.cells #[.int .i64 0, .int .i64 0, .int .i64 0, .int .i64 0, .slice none 0 0, .slice none 0 0] 25)) fun e w' => e = .returned (.bool true) ∧ Below ((w.alloc (.cells #[.int .i64 k, .int .i64 d, .int .i64 (Wd : Int), .int .i64 (Hi : Int), .slice ca cn cc, .slice pa pn pc] 25)).alloc (.cells #[.int .i64 0, .int .i64 0, .int .i64 0, .int .i64 0, .slice none 0 0, .slice none 0 0] 25)).heap.size ((w.alloc (.cells #[.int .i64 k, .int .i64 d, .int .i64 (Wd : Int), .int .i64 (Hi : Int), .slice ca cn cc, .slice pa pn pc] 25)).alloc (.cells #[.int .i64 0, .int .i64 0, .int .i64 0, .int .i64 0, .slice none 0 0, .slice none 0 0] 25)) w') := hO
  clear hO
  have HZ : Hid (((w.alloc (.cells #[.int .i64 k, .int .i64 d, .int .i64 (Wd : Int), .int .i64 (Hi : Int), .slice ca cn cc, .slice pa pn pc] 25)).alloc (.cells #[.int .i64 0, .int .i64 0, .int .i64 0, .int .i64 0, .slice none 0 0, .slice none 0 0] 25)).heap[w.heap.size + 1]? = some (.cells #[.int .i64 0, .int .i64 0, .int .i64 0, .int .i64 0, .slice none 0 0, .slice none 0 0] 25 (0, 0))) := heap_alloc2_new _ _ _
  have HBL : Hid (∀ w', Below w.heap.size w w' → Calls Try.prog 40 #[.agg #[.int .i64 k, .int .i64 d, .int .i64 (Wd : Int), .int .i64 (Hi : Int), .slice ca cn cc, .slice pa pn pc], .int .i64 (W : Int), .int .i64 (H : Int)] w' fun e w'' =>
      (∃ x cx, e = .returned (.agg #[.int .i64 k, .int .i64 d, .int .i64 (W : Int), .int .i64 (H : Int), .slice x cn cx, .slice none 0 0]) ∧ Owns w'' w'.heap.size x cs) ∧ Below w'.heap.size w' w'') :=
    fun w' b => blank_any k d _ _ ca cn cc pa pn pc _ _ cs w' (hc.kept b) hcn hcl
  have HIP : Hid (∀ w', Below w.heap.size w w' → Ints w' pa ps) := fun w' b => hp.kept b
  have HPN : Hid (ps.length = pn ∧ pn = Wd * Hi ∧ X + W ≤ Wd ∧ Y + H ≤ Hi) := ⟨hpn, hm, hXW, hYH⟩
  have HK0 := box_kept (box_new w (.int .i64 k) (.int .i64 d) (.int .i64 (Wd : Int)) (.int .i64 (Hi : Int)) (.slice ca cn cc) (.slice pa pn pc) 25) ((Below.refl _ _).alloc (Nat.le_refl _) (.cells #[.int .i64 0, .int .i64 0, .int .i64 0, .int .i64 0, .slice none 0 0, .slice none 0 0] 25)) (by simp)
  obtain ⟨c, hcc⟩ : ∃ c : Nat, c = Wd - W := ⟨_, rfl⟩
  obtain ⟨f, hff⟩ : ∃ f : Nat, f = Hi - H := ⟨_, rfl⟩
  have hcw : (Wd : Int) - (W : Int) = (c : Int) := by omega
  have hfw : (Hi : Int) - (H : Int) = (f : Int) := by omega
  have HL1 : Hid (∀ w : World, Calls Try.prog 47 #[.int .i64 (W : Int), .int .i64 1, .int .i64 (Wd : Int)] w fun e w' => e = .returned (.bool true) ∧ w' = w) := fun w => l1In_yes _ _ _ w (by omega) (by omega)
  have HL2 : Hid (∀ w : World, Calls Try.prog 47 #[.int .i64 (H : Int), .int .i64 1, .int .i64 (Hi : Int)] w fun e w' => e = .returned (.bool true) ∧ w' = w) := fun w => l1In_yes _ _ _ w (by omega) (by omega)
  have HL3 : Hid (∀ w : World, Calls Try.prog 47 #[.int .i64 (X : Int), .int .i64 0, .int .i64 (c : Int)] w fun e w' => e = .returned (.bool true) ∧ w' = w) := fun w => l1In_yes _ _ _ w (by omega) (by omega)
  have HL4 : Hid (∀ w : World, Calls Try.prog 47 #[.int .i64 (Y : Int), .int .i64 0, .int .i64 (f : Int)] w fun e w' => e = .returned (.bool true) ∧ w' = w) := fun w => l1In_yes _ _ _ w (by omega) (by omega)
  have hcb : c ≤ 20 := by omega
  have hfb : f ≤ 20 := by omega
  have hX20 : X ≤ 20 := by omega
  have hY20 : Y ≤ 20 := by omega
  have hWW : W ≤ 20 := by omega
  have hHH : H ≤ 20 := by omega
  clear hc hcn hcl hp hpn hm hcc hff hXW hYH
  go_enter Try.func21, Try.ntmps21
  go_wp2_with fail
  refine HO.out.mono ?_
  rintro e w1 ⟨rfl, b1⟩
  obtain ⟨k0, k1, k2, k3, k4, k5⟩ := box_kept HK0 b1 (by simp; omega)
  have bel1 := hB0.trans (b1.mono hB0.size)
  have hlt1 : w.heap.size + 1 < w1.heap.size := Nat.lt_of_lt_of_le (by simp) b1.size
  have HZ1 : Hid (w1.heap[w.heap.size + 1]? = some (.cells #[.int .i64 0, .int .i64 0, .int .i64 0, .int .i64 0, .slice none 0 0, .slice none 0 0] 25 (0, 0))) := (b1.block _ (by simp)).trans HZ.out
  clear b1 hB0 HO HZ HK0
  go_wp2_with fail
  refine (HL1.out _).mono ?_
  rintro e w9 ⟨rfl, hw9⟩; replace hw9 := hw9.symm; subst hw9
  go_wp2_with fail
  refine (HL2.out _).mono ?_
  rintro e w9 ⟨rfl, hw9⟩; replace hw9 := hw9.symm; subst hw9
  go_wp2_with fail
  refine (HL3.out _).mono ?_
  rintro e w9 ⟨rfl, hw9⟩; replace hw9 := hw9.symm; subst hw9
  go_wp2_with fail
  refine (HL4.out _).mono ?_
  rintro e w9 ⟨rfl, hw9⟩; replace hw9 := hw9.symm; subst hw9
  clear HL1 HL2 HL3 HL4 hcw hfw
  go_wp2_with fail
  refine (HBL.out w1 bel1).mono ?_
  rintro e w2 ⟨⟨x, cx, rfl, hX⟩, b2⟩
  obtain ⟨j0, j1, j2, j3, j4, j5⟩ := box_kept ⟨k0, k1, k2, k3, k4, k5⟩ b2 (by omega)
  have bel2 := bel1.trans (b2.mono bel1.size)
  have hlt2 : w.heap.size + 1 < w2.heap.size := Nat.lt_of_lt_of_le hlt1 b2.size
  have HZ2 : Hid (w2.heap[w.heap.size + 1]? = some (.cells #[.int .i64 0, .int .i64 0, .int .i64 0, .int .i64 0, .slice none 0 0, .slice none 0 0] 25 (0, 0))) := (b2.block _ hlt1).trans HZ1.out
  have HX : Hid (Owns w2 (w.heap.size + 1 + 1) x cs) := hX.lower hlt1
  clear b2 bel1 HZ1 hX k0 k1 k2 k3 k4 k5 HBL hlt1
  obtain ⟨l0, l1, l2, l3, l4, l5⟩ := box_kept ⟨j0, j1, j2, j3, j4, j5⟩ ((Below.refl _ w2).alloc (Nat.le_refl _) (.cells #[.int .i64 k, .int .i64 d, .int .i64 (W : Int), .int .i64 (H : Int), .slice x cn cx, .slice none 0 0] 25)) (by omega)
  have hN0 := box6 (heap_alloc_new w2 (.cells #[.int .i64 k, .int .i64 d, .int .i64 (W : Int), .int .i64 (H : Int), .slice x cn cx, .slice none 0 0] 25))
  have bel3 : Below w.heap.size w (w2.alloc (.cells #[.int .i64 k, .int .i64 d, .int .i64 (W : Int), .int .i64 (H : Int), .slice x cn cx, .slice none 0 0] 25)) := bel2.alloc bel2.size _
  have HZ3 : Hid ((w2.alloc (.cells #[.int .i64 k, .int .i64 d, .int .i64 (W : Int), .int .i64 (H : Int), .slice x cn cx, .slice none 0 0] 25)).heap[w.heap.size + 1]? = some (.cells #[.int .i64 0, .int .i64 0, .int .i64 0, .int .i64 0, .slice none 0 0, .slice none 0 0] 25 (0, 0))) := (heap_alloc_old _ _ _ hlt2).trans HZ2.out
  have HE : Hid (OwnI (w2.alloc (.cells #[.int .i64 k, .int .i64 d, .int .i64 (W : Int), .int .i64 (H : Int), .slice x cn cx, .slice none 0 0] 25)) (w2.heap.size + 1) (.slice none 0 0) 0 []) := World.ownsRow_nil _ _ _ _
  clear bel2 HZ2 j0 j1 j2 j3 j4 j5
  go_wp2_with fail
  go_loopw [13] (fun i wr => ∃ (j : Nat) (v : Value), j ≤ H ∧ i = .int .i64 (j : Int) ∧ OwnI wr (w2.heap.size + 1) v (j * W) (upto (ptF W (cutF Wd X Y ps)) (j * W)) ∧ wr.cell? ⟨w2.heap.size, 5, none⟩ = some v ∧ wr.frozen? ⟨w2.heap.size, 5, none⟩ = false
      ∧ (wr.cell? ⟨w2.heap.size, 0, none⟩ = some (.int .i64 k) ∧ wr.cell? ⟨w2.heap.size, 1, none⟩ = some (.int .i64 d) ∧ wr.cell? ⟨w2.heap.size, 2, none⟩ = some (.int .i64 (W : Int)) ∧ wr.cell? ⟨w2.heap.size, 3, none⟩ = some (.int .i64 (H : Int)) ∧ wr.cell? ⟨w2.heap.size, 4, none⟩ = some (.slice x cn cx))
      ∧ Below w2.heap.size (w2.alloc (.cells #[.int .i64 k, .int .i64 d, .int .i64 (W : Int), .int .i64 (H : Int), .slice x cn cx, .slice none 0 0] 25)) wr) (fun i _ => H - (intOf i).toNat)
  case atStart => exact ⟨0, .slice none 0 0, by omega, rfl, by simpa [upto] using HE.out, hN0.1.2.2.2.2.2, hN0.2.2.2.2.2.2, ⟨hN0.1.1, hN0.1.2.1, hN0.1.2.2.1, hN0.1.2.2.2.1, hN0.1.2.2.2.2.1⟩, Below.refl _ _⟩
  case round =>
    obtain ⟨j, v, hjH, rfl, hO, hv, hvf, hcells, hB⟩ := hrel
    clear hN0 HE
    have m2 : wr.cell? ⟨w.heap.size, 2, none⟩ = some (.int .i64 (Wd : Int)) := (hB.cell (p := ⟨w.heap.size, 2, none⟩) (show w.heap.size < w2.heap.size by omega)).trans l2
    have m5 : wr.cell? ⟨w.heap.size, 5, none⟩ = some (.slice pa pn pc) := (hB.cell (p := ⟨w.heap.size, 5, none⟩) (show w.heap.size < w2.heap.size by omega)).trans l5
    by_cases hr : j = H
    · subst hr
      have hz : wr.heap[w.heap.size + 1]? = some (.cells #[.int .i64 0, .int .i64 0, .int .i64 0, .int .i64 0, .slice none 0 0, .slice none 0 0] 25 (0, 0)) := (hB.block _ hlt2).trans HZ3.out
      obtain ⟨c0, c1, c2, c3, c4⟩ := hcells
      obtain ⟨y, cy, rfl, hOy⟩ := hO.owns
      have bw : Below w2.heap.size w2 wr := ((Below.refl _ w2).alloc (Nat.le_refl _) _).trans hB
      have HOX : Hid (Owns wr (w.heap.size + 1 + 1) x cs) := HX.out.kept bw
      have HOY : Hid (Owns wr (w2.heap.size + 1) y (upto (ptF W (cutF Wd X Y ps)) (j * W))) := hOy
      have HBR : Hid (Below w.heap.size w wr) := bel3.trans (hB.mono (show w.heap.size ≤ w2.heap.size by omega))
      have hI6 : (Try.prog.info? 25).map (·.size) = some (#[Value.int .i64 k, .int .i64 d, .int .i64 (W : Int), .int .i64 (j : Int), .slice x cn cx, .slice y (j * W) cy]).size := by kernel_rfl
      have h16 : (#[Value.int .i64 k, .int .i64 d, .int .i64 (W : Int), .int .i64 (j : Int), .slice x cn cx, .slice y (j * W) cy]).all (·.oneCell') = true := by simp [Value.oneCell']
      have hlow : w.heap.size + 1 < w2.heap.size := hlt2
      have hlt' : ¬ (j : Int) < (j : Int) := by omega
      clear hO hOy bw hB HX HZ3 HIP HPN hW hH hpc hW1 l0 l1 l2 l3 l4 l5 m2 m5
      go_wp2_with (refine wpList_store_row rfl 25 (.tmp 10) (.tmp 79) rfl (w.heap.size + 1) #[.int .i64 k, .int .i64 d, .int .i64 (W : Int), .int .i64 (j : Int), .slice x cn cx, .slice y (j * W) cy] rfl rfl 25 #[.int .i64 0, .int .i64 0, .int .i64 0, .int .i64 0, .slice none 0 0, .slice none 0 0] hz hI6 rfl h16 ?_)
      have hs2 := setRow_heap wr (w.heap.size + 1) _ #[.int .i64 k, .int .i64 d, .int .i64 (W : Int), .int .i64 (j : Int), .slice x cn cx, .slice y (j * W) cy] _ _ hz
      obtain ⟨⟨z0, z1, z2, z3, z4, z5⟩, _⟩ := box6 hs2
      refine bodyPost_ret (v := .tuple #[.agg #[.int .i64 k, .int .i64 d, .int .i64 (W : Int), .int .i64 (j : Int), .slice x cn cx, .slice y (j * W) cy], .bool true]) (by simp [results, Try.results21, go_sem, z0, z1, z2, z3, z4, z5]) rfl ?_
      rw [Nat.mul_comm W j]
      refine ⟨⟨x, cx, y, ⟨cy, rfl⟩, (HOX.out.row (by omega) _).ints, ?_⟩, ?_⟩
      · exact (HOY.out.row (by omega) _).ints
      · exact HBR.out.trans ((below_setRow _ _ _).mono (by omega))
    · have hjl : j < H := by omega
      have hji : (j : Int) < (H : Int) := by omega
      obtain ⟨Q, hQ⟩ : ∃ Q, Q = Y + j := ⟨_, rfl⟩
      obtain ⟨P0, hP0⟩ : ∃ P0, P0 = Q * Wd := ⟨_, rfl⟩
      obtain ⟨P1, hP1⟩ : ∃ P1, P1 = P0 + X := ⟨_, rfl⟩
      obtain ⟨P2, hP2⟩ : ∃ P2, P2 = P1 + W := ⟨_, rfl⟩
      have hQ1 : (Q + 1) * Wd ≤ Hi * Wd := Nat.mul_le_mul_right _ (by have := HPN.out.2.2.2; omega)
      rw [Nat.add_mul, Nat.one_mul, ← hP0, Nat.mul_comm Hi Wd, ← HPN.out.2.1] at hQ1
      have hPn : P2 ≤ pn := by have := HPN.out.2.2.1; omega
      have hPs : pn ≤ 20 * 20 := by rw [HPN.out.2.1]; exact Nat.mul_le_mul hW hH
      have e0 : (Y : Int) + (j : Int) = (Q : Int) := by omega
      have e1 : (Q : Int) * (Wd : Int) = (P0 : Int) := by rw [hP0]; simp
      have e2 : (P0 : Int) + (X : Int) = (P1 : Int) := by omega
      have e3 : (P1 : Int) + (W : Int) = (P2 : Int) := by omega
      have w0' := wrap_i64_nat P0 (by omega)
      have w1' := wrap_i64_nat P1 (by omega)
      have w2' := wrap_i64_nat P2 (by omega)
      have w3' := wrap_i64_nat Q (by omega)
      have belr : Below w.heap.size w wr := bel3.trans (hB.mono (show w.heap.size ≤ w2.heap.size by omega))
      have hIr := HIP.out wr belr
      have hpa : ∃ b off, pa = some ⟨b, off, none⟩ := by
        rcases hIr with e | ⟨b, off, e, _⟩
        · have := HPN.out.1; rw [e] at this; simp at this; omega
        · exact ⟨b, off, e⟩
      obtain ⟨b, off, rfl⟩ := hpa
      have HSEG : Hid (Ints wr (some ⟨b, off + P1, none⟩) (seg ps P1 W)) := seg_ints hIr (by rw [HPN.out.1]; omega)
      have hrl := World.ownsRow.lt hO
      have hjw : j * W + W ≤ 20 * 20 := by
        have h1 : (j + 1) * W ≤ 20 * 20 := Nat.mul_le_mul (by omega) (by omega)
        rw [Nat.add_mul, Nat.one_mul] at h1; exact h1
      have i7 : ¬ pc = P1 := by omega
      have i8 : ¬ (P1 = pc) := by omega
      clear hIr
      have i1 : (P1 : Int) ≤ (P2 : Int) := by omega
      have i2 : (P2 : Int) ≤ (pc : Int) := by omega
      have i3 : P2 - P1 = W := by omega
      have i4 : (0 : Int) ≤ (P1 : Int) := by omega
      have i5 : P1 ≤ P2 := by omega
      have i6 : P2 ≤ pc := by omega
      have hP1b : P1 ≤ 400 := by omega
      have hP0b : P0 ≤ 400 := by omega
      have hQb : Q ≤ 40 := by omega
      have HQ : Hid (P1 = (Y + j) * Wd + X) := by show _ = _; rw [hP1, hP0, hQ]
      clear hP0 hP1 hP2 hQ hQ1
      go_wp2_with fail
      refine wp_region_held_drew (S := fun w' => w'.cell? ⟨w.heap.size, 5, none⟩ = some (.slice (some ⟨b, off, none⟩) pn pc)) (by kernel_rfl) m5 (fun hHeld => ?_)
      refine wpAnyH_take (i := 0) (v := .pointer (some ⟨w2.heap.size, 5, none⟩)) rfl (by kernel_rfl) (by kernel_rfl) (by kernel_rfl) (fun _ _ _ h => h) (Or.inl ⟨by rfl, ?_⟩) hHeld ?_
      · intro w' hSw
        have s5 := hSw
        go_simp
      try simp only [Act.put, List.setIfInBounds_toArray, List.set_cons_zero, List.set_cons_succ]
      refine wpAnyH_take (i := 2) (v := .pointer (some ⟨w.heap.size, 5, none⟩)) rfl (by kernel_rfl) (by kernel_rfl) (by kernel_rfl) (fun _ _ _ h => h) (Or.inl ⟨by rfl, ?_⟩) hHeld ?_
      · intro w' hSw
        have s5 := hSw
        go_simp
      try simp only [Act.put, List.setIfInBounds_toArray, List.set_cons_zero, List.set_cons_succ]
      refine wpAnyH_take (i := 3) (v := .slice (some ⟨b, off, none⟩) pn pc) rfl (by kernel_rfl) (by kernel_rfl) (by kernel_rfl) (fun _ _ _ h => h) (Or.inl ⟨by rfl, ?_⟩) hHeld ?_
      · intro w' hSw
        have s5 := hSw
        go_simp
      try simp only [Act.put, List.setIfInBounds_toArray, List.set_cons_zero, List.set_cons_succ]
      refine wpAnyH_take (i := 4) (v := .int .i64 (P1 : Int)) rfl (by kernel_rfl) (by kernel_rfl) (by kernel_rfl) (fun _ _ _ h => h) (Or.inl ⟨by rfl, ?_⟩) hHeld ?_
      · intro w' hSw
        have s5 := hSw
        go_simp
      try simp only [Act.put, List.setIfInBounds_toArray, List.set_cons_zero, List.set_cons_succ]
      refine wpAnyH_take (i := 5) (v := .int .i64 (P1 : Int)) rfl (by kernel_rfl) (by kernel_rfl) (by kernel_rfl) (fun _ _ _ h => h) (Or.inl ⟨by rfl, ?_⟩) hHeld ?_
      · intro w' hSw
        have s5 := hSw
        go_simp
      try simp only [Act.put, List.setIfInBounds_toArray, List.set_cons_zero, List.set_cons_succ]
      refine wpAnyH_take (i := 6) (v := .int .i64 (W : Int)) rfl (by kernel_rfl) (by kernel_rfl) (by kernel_rfl) (fun _ _ _ h => h) (Or.inl ⟨by rfl, ?_⟩) hHeld ?_
      · intro w' hSw
        have s5 := hSw
        go_simp
      try simp only [Act.put, List.setIfInBounds_toArray, List.set_cons_zero, List.set_cons_succ]
      refine wpAnyH_take (i := 7) (v := .int .i64 (P2 : Int)) rfl (by kernel_rfl) (by kernel_rfl) (by kernel_rfl) (fun _ _ _ h => h) (Or.inl ⟨by rfl, ?_⟩) hHeld ?_
      · intro w' hSw
        have s5 := hSw
        go_simp
      try simp only [Act.put, List.setIfInBounds_toArray, List.set_cons_zero, List.set_cons_succ]
      refine wpAnyH_take (i := 8) (v := .slice (some ⟨b, off + P1, none⟩) W (pc - P1)) rfl (by kernel_rfl) (by kernel_rfl) (by kernel_rfl) (fun _ _ _ h => h) (Or.inl ⟨by rfl, ?_⟩) hHeld ?_
      · intro w' hSw
        have s5 := hSw
        go_simp
      try simp only [Act.put, List.setIfInBounds_toArray, List.set_cons_zero, List.set_cons_succ]
      refine wpAnyH_ready (rs := [1]) (by kernel_rfl) (by simp) ?_
      refine AllReadyH.cons rfl (fun K hK => ?_) AllReadyH.nil
      go_simp
      refine hK.out _ _ hHeld (fun hHeld => ?_)
      clear hK K
      try simp only [Act.put, List.setIfInBounds_toArray, List.set_cons_zero, List.set_cons_succ]
      refine wpAnyH_ready (rs := [9]) (by kernel_rfl) (by simp) ?_
      refine AllReadyH.cons rfl (fun K hK => ?_) AllReadyH.nil
      refine step_append_ints (by rfl) _ _ (by rfl) (w2.heap.size + 1) v (j * W) _ (by rfl) (show OwnI _ _ _ _ _ from hO) (some ⟨b, off + P1, none⟩) W (pc - P1) (seg ps P1 W) (by rfl) (show Ints _ _ _ from HSEG.out) (seg_len _ _ _) (by omega) (by have := hB.size; simp at this; exact this) ?_
      intro y cy w4 hO4 hG4
      simp only [List.getElem_toArray, List.getElem_cons_succ, List.getElem_cons_zero, Act.put, List.setIfInBounds_toArray, List.set_cons_zero, List.set_cons_succ]
      have hltr : w2.heap.size < wr.heap.size := by have := hB.size; simp at this; omega
      have hfar : ∀ c, c ≤ w2.heap.size → some c ≠ v.ownBlock := fun c hc e => absurd (hrl c e.symm).1 (by omega)
      have g1 : w4.heap[w.heap.size]? = wr.heap[w.heap.size]? := hG4.block _ (show w.heap.size < wr.heap.size by omega) (hfar _ (by omega))
      have g2 : w4.heap[w2.heap.size]? = wr.heap[w2.heap.size]? := hG4.block _ (show w2.heap.size < wr.heap.size by omega) (hfar _ (by omega))
      have n5 : w4.cell? ⟨w.heap.size, 5, none⟩ = some (.slice (some ⟨b, off, none⟩) pn pc) := (World.cell?_of_block (w := wr) (a := ⟨w.heap.size, 5, none⟩) g1).trans m5
      have nv : w4.cell? ⟨w2.heap.size, 5, none⟩ = some v := (World.cell?_of_block (w := wr) (a := ⟨w2.heap.size, 5, none⟩) g2).trans hv
      have nf : w4.frozen? ⟨w2.heap.size, 5, none⟩ = false := (World.frozen?_of_block (w := wr) (a := ⟨w2.heap.size, 5, none⟩) g2).trans hvf
      have hlt4 : w2.heap.size < w4.heap.size := Nat.lt_of_lt_of_le hltr hG4.size
      have HC4 : Hid (w4.cell? ⟨w2.heap.size, 0, none⟩ = some (.int .i64 k) ∧ w4.cell? ⟨w2.heap.size, 1, none⟩ = some (.int .i64 d) ∧ w4.cell? ⟨w2.heap.size, 2, none⟩ = some (.int .i64 (W : Int)) ∧ w4.cell? ⟨w2.heap.size, 3, none⟩ = some (.int .i64 (H : Int)) ∧ w4.cell? ⟨w2.heap.size, 4, none⟩ = some (.slice x cn cx)) :=
        ⟨(World.cell?_of_block (w := wr) (a := ⟨w2.heap.size, 0, none⟩) g2).trans hcells.1, (World.cell?_of_block (w := wr) (a := ⟨w2.heap.size, 1, none⟩) g2).trans hcells.2.1, (World.cell?_of_block (w := wr) (a := ⟨w2.heap.size, 2, none⟩) g2).trans hcells.2.2.1, (World.cell?_of_block (w := wr) (a := ⟨w2.heap.size, 3, none⟩) g2).trans hcells.2.2.2.1, (World.cell?_of_block (w := wr) (a := ⟨w2.heap.size, 4, none⟩) g2).trans hcells.2.2.2.2⟩
      have HB4 : Hid (Below w2.heap.size (w2.alloc (.cells #[.int .i64 k, .int .i64 d, .int .i64 (W : Int), .int .i64 (H : Int), .slice x cn cx, .slice none 0 0] 25)) w4) := (hB.drew).grown hG4 (show w2.heap.size ≤ wr.heap.size by omega) (fun c hc => by have := (hrl c hc).1; omega)
      refine hK.out _ _ n5 (fun hHeld => ?_)
      clear hK K
      refine wpAnyH_take (i := 10) (v := .pointer (some ⟨w2.heap.size, 5, none⟩)) rfl (by kernel_rfl) (by kernel_rfl) (by kernel_rfl) (fun _ _ _ h => h) (Or.inl ⟨by rfl, ?_⟩) hHeld ?_
      · intro w' hSw
        have s5 := hSw
        go_simp
      try simp only [Act.put, List.setIfInBounds_toArray, List.set_cons_zero, List.set_cons_succ]
      refine wpAnyH_ready (rs := [11]) (by kernel_rfl) (by simp) ?_
      refine AllReadyH.cons rfl (fun K hK => ?_) AllReadyH.nil
      go_simp
      have ne5 : ∀ i, (⟨w2.heap.size, 5, none⟩ : Addr) ≠ ⟨w.heap.size, i, none⟩ := fun i e => by have := congrArg Addr.block e; simp at this; omega
      refine hK.out _ _ ((World.cell?_setCell_other _ _ _ _ (ne5 5)).trans n5) (fun hHeld => ?_)
      clear hK K
      refine wpAnyH_done (by kernel_rfl) ?_ _
      have nex : ∀ i, i ≠ 5 → (⟨w2.heap.size, 5, none⟩ : Addr) ≠ ⟨w2.heap.size, i, none⟩ := fun i h e => by have := congrArg Addr.off e; simp at this; omega
      have HO5 : Hid (OwnI (w4.setCell ⟨w2.heap.size, 5, none⟩ (.slice y (j * W + W) cy)) (w2.heap.size + 1) (.slice y (j * W + W) cy) ((j + 1) * W) (upto (ptF W (cutF Wd X Y ps)) ((j + 1) * W))) := by
        have h := hO4
        rw [HQ.out, ← cut_rows Wd X Y W ps j] at h
        have e : j * W + W = (j + 1) * W := by rw [Nat.add_mul, Nat.one_mul]
        rw [e] at h ⊢
        exact ownsRow_setCell_below h (a := ⟨w2.heap.size, 5, none⟩) (show w2.heap.size < w2.heap.size + 1 by omega) _
      have HC5 : Hid ((w4.setCell ⟨w2.heap.size, 5, none⟩ (.slice y (j * W + W) cy)).cell? ⟨w2.heap.size, 5, none⟩ = some (.slice y (j * W + W) cy) ∧ (w4.setCell ⟨w2.heap.size, 5, none⟩ (.slice y (j * W + W) cy)).frozen? ⟨w2.heap.size, 5, none⟩ = false) := ⟨World.cell?_setCell_same _ _ _ nv, by rw [World.frozen?_setCell]; exact nf⟩
      have HC6 : Hid ((w4.setCell ⟨w2.heap.size, 5, none⟩ (.slice y (j * W + W) cy)).cell? ⟨w2.heap.size, 0, none⟩ = some (.int .i64 k) ∧ (w4.setCell ⟨w2.heap.size, 5, none⟩ (.slice y (j * W + W) cy)).cell? ⟨w2.heap.size, 1, none⟩ = some (.int .i64 d) ∧ (w4.setCell ⟨w2.heap.size, 5, none⟩ (.slice y (j * W + W) cy)).cell? ⟨w2.heap.size, 2, none⟩ = some (.int .i64 (W : Int)) ∧ (w4.setCell ⟨w2.heap.size, 5, none⟩ (.slice y (j * W + W) cy)).cell? ⟨w2.heap.size, 3, none⟩ = some (.int .i64 (H : Int)) ∧ (w4.setCell ⟨w2.heap.size, 5, none⟩ (.slice y (j * W + W) cy)).cell? ⟨w2.heap.size, 4, none⟩ = some (.slice x cn cx)) := ⟨(World.cell?_setCell_other _ _ _ _ (nex 0 (by omega))).trans HC4.out.1, (World.cell?_setCell_other _ _ _ _ (nex 1 (by omega))).trans HC4.out.2.1, (World.cell?_setCell_other _ _ _ _ (nex 2 (by omega))).trans HC4.out.2.2.1, (World.cell?_setCell_other _ _ _ _ (nex 3 (by omega))).trans HC4.out.2.2.2.1, (World.cell?_setCell_other _ _ _ _ (nex 4 (by omega))).trans HC4.out.2.2.2.2⟩
      have HB5 : Hid (Below w2.heap.size (w2.alloc (.cells #[.int .i64 k, .int .i64 d, .int .i64 (W : Int), .int .i64 (H : Int), .slice x cn cx, .slice none 0 0] 25)) (w4.setCell ⟨w2.heap.size, 5, none⟩ (.slice y (j * W + W) cy))) := HB4.out.setCell (p := ⟨w2.heap.size, 5, none⟩) (Nat.le_refl _) _
      clear hHeld HB4 HC4 hO4 hG4 n5 nv nf g1 g2 hfar hrl hcells hO hB hv hvf m2 m5 HSEG ne5 nex
      go_wp2_with fail
      go_roundw
      case rel => exact ⟨j + 1, .slice y (j * W + W) cy, by omega, by go_num, HO5.out, HC5.out.1, HC5.out.2, HC6.out, HB5.out⟩
      case measure => simp [intOf]; try omega
end Go.Proofs.Ytgeepemhmkoknaa
