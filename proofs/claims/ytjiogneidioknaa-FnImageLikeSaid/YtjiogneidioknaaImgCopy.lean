/- A copy of a picture: l14Copy. -/
import Derived.Test.YtjiogneidioknaaImgBox
import Derived.Deep.DeepCutAuto
namespace Go.Proofs.Ytjiogneidioknaa
open Go.RowKit

/-- two lists of one's own, the second one made when the first one stood -/
def Two2 (w' : World) (lo : Nat) (v4 : Value) (n : Nat) (cs : List Int) (v5 : Value) (m : Nat) (ps : List Int) : Prop :=
  ∃ wm : World, OwnI wm lo v4 n cs ∧ OwnI w' wm.heap.size v5 m ps ∧ lo ≤ wm.heap.size ∧ wm.heap.size ≤ w'.heap.size ∧ ∀ j, j < wm.heap.size → lo ≤ j → w'.heap[j]? = wm.heap[j]?
def CopyOut (lo : Nat) (k d wd hi : Int) (n : Nat) (cs : List Int) (m : Nat) (ps : List Int) (e : Ending) (w' : World) : Prop :=
  ∃ x cx y cy, e = .returned (.agg #[.int .i64 k, .int .i64 d, .int .i64 wd, .int .i64 hi, .slice x n cx, .slice y m cy]) ∧ Two2 w' lo (.slice x n cx) n cs (.slice y m cy) m ps

set_option maxHeartbeats 2000000 in
set_option maxRecDepth 20000 in
theorem l14Copy_any (k d wd hi : Int) (ca : Option Addr) (cn cc : Nat) (pa : Option Addr) (pn pc : Nat) (cs ps : List Int) (w : World) (hc : Ints w ca cs) (hcn : cs.length = cn) (hcl : cn ≤ 1048576) (hp : Ints w pa ps) (hpn : ps.length = pn) (hpl : pn ≤ 1048576) :
    Calls Try.prog 41 #[.agg #[.int .i64 k, .int .i64 d, .int .i64 wd, .int .i64 hi, .slice ca cn cc, .slice pa pn pc]] w fun e w' => CopyOut (w.heap.size + 2) k d wd hi cn cs pn ps e w' ∧ Below w.heap.size w w' := by
  obtain ⟨W0, hW0⟩ : ∃ W0, W0 = ((w.alloc (.cells #[.int .i64 k, .int .i64 d, .int .i64 wd, .int .i64 hi, .slice ca cn cc, .slice pa pn pc] 26)).alloc (.cells #[.int .i64 0, .int .i64 0, .int .i64 0, .int .i64 0, .slice none 0 0, .slice none 0 0] 26)) := ⟨_, rfl⟩
  have hB0 : Below w.heap.size w W0 := by rw [hW0]; exact ((Below.refl _ _).alloc (Nat.le_refl _) _).alloc (by simp) _
  have hs0 : W0.heap.size = w.heap.size + 2 := by rw [hW0]; simp
  have HZ : Hid (W0.heap[w.heap.size + 1]? = some (.cells #[.int .i64 0, .int .i64 0, .int .i64 0, .int .i64 0, .slice none 0 0, .slice none 0 0] 26 (0, 0))) := by rw [hW0]; exact heap_alloc2_new _ _ _
  have HM : Hid (W0.heap[w.heap.size]? = some (.cells #[.int .i64 k, .int .i64 d, .int .i64 wd, .int .i64 hi, .slice ca cn cc, .slice pa pn pc] 26 (0, 0))) := by
    rw [hW0]; exact (heap_alloc_old _ _ (by simp)).trans (heap_alloc_new _ _)
  have HI : Hid (Ints (W0.alloc (.cells #[] 3)) ca cs) := (hc.kept hB0).kept ((Below.refl _ _).alloc (Nat.le_refl _) _)
  have HE : Hid (OwnI (W0.alloc (.cells #[] 3)) W0.heap.size (.slice (some ⟨W0.heap.size, 0, none⟩) 0 0) 0 []) := ownI_none W0
  have HPI : Hid (∀ w', Below w.heap.size w w' → Ints w' pa ps) := fun w' b => hp.kept b
  have HCN : Hid (cs.length = cn ∧ ps.length = pn) := ⟨hcn, hpn⟩
  have HB : Hid (Below w.heap.size w W0) := hB0
  have HS0 : Hid (W0.heap.size = w.heap.size + 2) := hs0
  have hlt0 : w.heap.size + 1 < W0.heap.size := by omega
  clear hs0 hc hcn hB0 hp hpn
  go_enter Try.func41, Try.ntmps41
  go_upto_region 1 with fail
  rw [← hW0]
  clear hW0
  obtain ⟨⟨z0, z1, z2, z3, z4, z5⟩, y0, y1, y2, y3, y4, y5⟩ := box6 ((heap_alloc_old W0 (.cells #[] 3) (show w.heap.size < W0.heap.size by omega)).trans HM.out)
  go_wp2_with (at_builtin; refine wpList_append_ints (by rfl) _ _ (by rfl) W0.heap.size _ 0 [] (by rfl) (show OwnI _ _ _ _ _ from HE.out) ca cn cc cs (by rfl) (show Ints _ _ _ from HI.out) HCN.out.1 (by omega) (by simp) ?_)
  intro x cx w2 hO2 hG2
  have hb2 : Below W0.heap.size W0 w2 := ((Below.refl _ W0).alloc (Nat.le_refl _) _).grown hG2 (by simp) (fun c hc => by have hc2 : some W0.heap.size = some c := hc; cases hc2; exact Nat.le_refl _)
  have hM2 : w2.heap[w.heap.size]? = some (.cells #[.int .i64 k, .int .i64 d, .int .i64 wd, .int .i64 hi, .slice ca cn cc, .slice pa pn pc] 26 (0, 0)) := (hb2.block _ (by omega)).trans HM.out
  have HZ2 : Hid (w2.heap[w.heap.size + 1]? = some (.cells #[.int .i64 0, .int .i64 0, .int .i64 0, .int .i64 0, .slice none 0 0, .slice none 0 0] 26 (0, 0))) := (hb2.block _ (by omega)).trans HZ.out
  obtain ⟨W3, hW3⟩ : ∃ W3, W3 = w2.setCell ⟨w.heap.size, 4, none⟩ (.slice x cn cx) := ⟨_, rfl⟩
  have HM3 : Hid (W3.heap[w.heap.size]? = some (.cells #[.int .i64 k, .int .i64 d, .int .i64 wd, .int .i64 hi, .slice x cn cx, .slice pa pn pc] 26 (0, 0))) := by rw [hW3]; exact setCell_block hM2 _
  have HZ3 : Hid (W3.heap[w.heap.size + 1]? = some (.cells #[.int .i64 0, .int .i64 0, .int .i64 0, .int .i64 0, .slice none 0 0, .slice none 0 0] 26 (0, 0))) := by
    rw [hW3]; exact (Below.heap_setCell w2 ⟨w.heap.size, 4, none⟩ _ _ (by show w.heap.size + 1 ≠ w.heap.size; omega)).trans HZ2.out
  have HO3 : Hid (OwnI W3 (w.heap.size + 2) (.slice x cn cx) cn cs) := by
    rw [hW3, ← HS0.out]; exact OwnI.set (M := w.heap.size) (show OwnI w2 W0.heap.size (.slice x cn cx) cn cs from hO2) (by omega)
  have HB3 : Hid (Below w.heap.size w W3) := by
    rw [hW3]; exact (HB.out.trans (hb2.mono HB.out.size)).setCell (p := ⟨w.heap.size, 4, none⟩) (Nat.le_refl _) _
  have hs3 : w.heap.size + 2 ≤ W3.heap.size := by rw [hW3]; have := hb2.size; simp; omega
  clear z0 z1 z2 z3 z4 z5 y0 y1 y2 y3 y4 y5 hO2 hG2 hb2 HZ2 HM HE HI
  obtain ⟨⟨z0, z1, z2, z3, z4, z5⟩, y0, y1, y2, y3, y4, y5⟩ := box6 hM2
  go_upto_region 2 with fail
  clear z0 z1 z2 z3 z4 z5 y0 y1 y2 y3 y4 y5
  rw [← hW3]
  clear hW3 hM2
  have HI4 : Hid (Ints (W3.alloc (.cells #[] 3)) pa ps) := HPI.out _ (HB3.out.alloc HB3.out.size _)
  have HE4 : Hid (OwnI (W3.alloc (.cells #[] 3)) W3.heap.size (.slice (some ⟨W3.heap.size, 0, none⟩) 0 0) 0 []) := ownI_none W3
  obtain ⟨⟨z0, z1, z2, z3, z4, z5⟩, y0, y1, y2, y3, y4, y5⟩ := box6 ((heap_alloc_old W3 (.cells #[] 3) (show w.heap.size < W3.heap.size by omega)).trans HM3.out)
  go_wp2_with (at_builtin; refine wpList_append_ints (by rfl) _ _ (by rfl) W3.heap.size _ 0 [] (by rfl) (show OwnI _ _ _ _ _ from HE4.out) pa pn pc ps (by rfl) (show Ints _ _ _ from HI4.out) HCN.out.2 (by omega) (by simp) ?_)
  intro y cy w5 hO5 hG5
  have hb5 : Below W3.heap.size W3 w5 := ((Below.refl _ W3).alloc (Nat.le_refl _) _).grown hG5 (by simp) (fun c hc => by have hc2 : some W3.heap.size = some c := hc; cases hc2; exact Nat.le_refl _)
  have hM5 : w5.heap[w.heap.size]? = some (.cells #[.int .i64 k, .int .i64 d, .int .i64 wd, .int .i64 hi, .slice x cn cx, .slice pa pn pc] 26 (0, 0)) := (hb5.block _ (by omega)).trans HM3.out
  have hZ5 : w5.heap[w.heap.size + 1]? = some (.cells #[.int .i64 0, .int .i64 0, .int .i64 0, .int .i64 0, .slice none 0 0, .slice none 0 0] 26 (0, 0)) := (hb5.block _ (by omega)).trans HZ3.out
  clear z0 z1 z2 z3 z4 z5 y0 y1 y2 y3 y4 y5 HI4 HE4 hG5
  obtain ⟨⟨z0, z1, z2, z3, z4, z5⟩, y0, y1, y2, y3, y4, y5⟩ := box6 hM5
  have HO5 : Hid (OwnI w5 W3.heap.size (.slice y pn cy) pn ps) := hO5
  have HB5 : Hid (Below W3.heap.size W3 w5) := hb5
  obtain ⟨W6, hW6⟩ : ∃ W6, W6 = w5.setCell ⟨w.heap.size, 5, none⟩ (.slice y pn cy) := ⟨_, rfl⟩
  have HM6 : Hid (W6.heap[w.heap.size]? = some (.cells #[.int .i64 k, .int .i64 d, .int .i64 wd, .int .i64 hi, .slice x cn cx, .slice y pn cy] 26 (0, 0))) := by rw [hW6]; exact setCell_block hM5 _
  have hZ6 : W6.heap[w.heap.size + 1]? = some (.cells #[.int .i64 0, .int .i64 0, .int .i64 0, .int .i64 0, .slice none 0 0, .slice none 0 0] 26 (0, 0)) := by
    rw [hW6]; exact (Below.heap_setCell w5 ⟨w.heap.size, 5, none⟩ _ _ (by show w.heap.size + 1 ≠ w.heap.size; omega)).trans hZ5
  have HB6 : Hid (Below w.heap.size w W6) := by
    rw [hW6]; exact (HB3.out.trans (hb5.mono HB3.out.size)).setCell (p := ⟨w.heap.size, 5, none⟩) (Nat.le_refl _) _
  have HT6 : Hid (OwnI W6 W3.heap.size (.slice y pn cy) pn ps ∧ W3.heap.size ≤ W6.heap.size ∧ ∀ j, j < W3.heap.size → w.heap.size + 2 ≤ j → W6.heap[j]? = W3.heap[j]?) := by
    rw [hW6]
    refine ⟨OwnI.set (M := w.heap.size) HO5.out (by omega), by have := hb5.size; simpa using this, fun j hj h2 => ?_⟩
    exact (Below.heap_setCell w5 ⟨w.heap.size, 5, none⟩ _ _ (by show j ≠ w.heap.size; omega)).trans (hb5.block _ hj)
  clear hO5 hb5 hM5 hZ5
  go_upto_region 3 with fail
  clear z0 z1 z2 z3 z4 z5 y0 y1 y2 y3 y4 y5
  rw [← hW6]
  clear hW6
  obtain ⟨⟨z0, z1, z2, z3, z4, z5⟩, y0, y1, y2, y3, y4, y5⟩ := box6 HM6.out
  have hI6 : (Try.prog.info? 26).map (·.size) = some (#[Value.int .i64 k, .int .i64 d, .int .i64 wd, .int .i64 hi, .slice x cn cx, .slice y pn cy]).size := by kernel_rfl
  have h16 : (#[Value.int .i64 k, .int .i64 d, .int .i64 wd, .int .i64 hi, .slice x cn cx, .slice y pn cy]).all (·.oneCell') = true := by simp [Value.oneCell']
  go_wp2_with (refine wpList_store_row rfl 26 (.tmp 2) (.tmp 13) rfl (w.heap.size + 1) #[.int .i64 k, .int .i64 d, .int .i64 wd, .int .i64 hi, .slice x cn cx, .slice y pn cy] rfl rfl 26 #[.int .i64 0, .int .i64 0, .int .i64 0, .int .i64 0, .slice none 0 0, .slice none 0 0] hZ6 hI6 rfl h16 ?_)
  have hs2 := setRow_heap W6 (w.heap.size + 1) _ #[.int .i64 k, .int .i64 d, .int .i64 wd, .int .i64 hi, .slice x cn cx, .slice y pn cy] _ _ hZ6
  refine bodyPost_ret_by (results_cell_row (p := 2) (ty := 26) (by kernel_rfl) _ _ (w.heap.size + 1) 26 _ (0, 0) _ rfl hs2 Try.underlying26 rfl (by kernel_rfl)) rfl ⟨⟨x, cx, y, cy, rfl, W3, HO3.out, OwnI.row (M := w.heap.size + 1) HT6.out.1 (by omega) _, hs3, by have := HT6.out.2.1; simpa using this, fun j hj h2 => (setRow_other W6 (w.heap.size + 1) j _ (by omega)).trans (HT6.out.2.2 j hj h2)⟩, ?_⟩
  exact HB6.out.trans ((below_setRow _ _ _).mono (by omega))
end Go.Proofs.Ytjiogneidioknaa
