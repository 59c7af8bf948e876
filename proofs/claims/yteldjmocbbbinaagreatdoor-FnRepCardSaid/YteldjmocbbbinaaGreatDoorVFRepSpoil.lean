/- The draw of a picture that is spoilt: l14Spoil. -/
import Derived.Deep.DeepCutAuto
import Derived.Deep.CutBlock
import Derived.Test.YteldjmocbbbinaaGreatDoorKFRepx0
namespace Go.Proofs.YteldjmocbbbinaaGreatDoor
open Go.RowKit

theorem tab_cell {w : World} {b v : Nat} {arr : Array Value} {t : TypeId} {x : Value} (h : w.heap[b]? = some (.cells arr t (0, 0))) (hx : arr[v]? = some x) : w.cell? ⟨b, v, none⟩ = some x := by
  rw [cell_of_row w b v arr t (0, 0) h]; exact hx
theorem tab3 (a b c : Int) (v : Nat) (hv : v < 3) : ∃ z : Int, (#[Value.int .i64 a, .int .i64 b, .int .i64 c])[v]? = some (.int .i64 z) ∧ (z = a ∨ z = b ∨ z = c) := by
  rcases (show v = 0 ∨ v = 1 ∨ v = 2 by omega) with rfl | rfl | rfl
  · exact ⟨a, rfl, .inl rfl⟩
  · exact ⟨b, rfl, .inr (.inl rfl)⟩
  · exact ⟨c, rfl, .inr (.inr rfl)⟩
theorem tab2 (a b : Int) (v : Nat) (hv : v < 2) : ∃ z : Int, (#[Value.int .i64 a, .int .i64 b])[v]? = some (.int .i64 z) ∧ (z = a ∨ z = b) := by
  rcases (show v = 0 ∨ v = 1 by omega) with rfl | rfl
  · exact ⟨a, rfl, .inl rfl⟩
  · exact ⟨b, rfl, .inr rfl⟩
theorem own_addr {w : World} {lo n c : Nat} {a : Option Addr} {zs : List Int} (h : OwnI w lo (.slice a n c) n zs) (hn : 0 < n) : ∃ g, a = some ⟨g, 0, none⟩ := by
  obtain ⟨ao, cap, e, hO⟩ := h.owns
  cases e
  rcases hO with e | ⟨g, rfl, _⟩
  · have := h.len; rw [e] at this; simp at this; omega
  · exact ⟨g, rfl⟩
theorem own_cell {w : World} {lo n c g j : Nat} {zs : List Int} (h : OwnI w lo (.slice (some ⟨g, 0, none⟩) n c) n zs) (hj : j < n) : (∃ x : Int, w.cell? ⟨g, j, none⟩ = some (.int .i64 x)) ∧ w.frozen? ⟨g, j, none⟩ = false := by
  have hl := h.len
  refine ⟨⟨zs[j]'(by omega), ?_⟩, World.ownsRow.frozenAt h j⟩
  exact (World.ownsRow.cellAt h j (by omega)).trans (intsV_get zs j (by omega))
theorem IntsFrom.lower {w : World} {lo lo' : Nat} {a : Option Addr} {zs : List Int} (h : IntsFrom w lo a zs) (hl : lo' ≤ lo) : IntsFrom w lo' a zs := by
  rcases h with e | ⟨b, off, rfl, h1, h2, h3⟩
  · exact .inl e
  · exact .inr ⟨b, off, rfl, by omega, h2, h3⟩
theorem FX.out {w wc : World} {B X q n m c cc p : Nat} {k d wd hi : Int} {a b : Option Addr} {cs ps : List Int} (h : FX w wc B X q k d wd hi a n c cs b m cc ps) (hq : q ≤ p + 5) :
    AnyOut w.heap.size (.returned (.agg #[.int .i64 k, .int .i64 d, .int .i64 wd, .int .i64 hi, .slice a n c, .slice b m cc])) (wc.setRow (w.heap.size + 1) #[.int .i64 k, .int .i64 d, .int .i64 wd, .int .i64 hi, .slice a n c, .slice b m cc]) ∧
    (∃ q, q ≤ p + 5 ∧ RdAt (wc.setRow (w.heap.size + 1) #[.int .i64 k, .int .i64 d, .int .i64 wd, .int .i64 hi, .slice a n c, .slice b m cc]) B q) ∧ Only B w (wc.setRow (w.heap.size + 1) #[.int .i64 k, .int .i64 d, .int .i64 wd, .int .i64 hi, .slice a n c, .slice b m cc]) :=
  ⟨⟨k, d, wd, hi, a, n, c, cs, b, m, cc, ps, rfl, (h.i4.row (by omega) _).lower (by omega), h.l4.1, h.l4.2.1, h.l4.2.2, (h.i5.row (by omega) _).lower (by omega), h.l5.1, h.l5.2.1, h.l5.2.2, h.bd⟩,
   ⟨q, hq, h.rd.kept ((below_setRow _ _ _).mono (by have := h.lt; omega))⟩, h.only.grown h.lt ((below_setRow _ _ _).mono (by omega))⟩

theorem SX.start {w w1 : World} {B p lo cn cx pn cy : Nat} {k d wd hi : Int} {x y : Option Addr} {cs ps : List Int} (hr : RdAt w1 B p) (ho : Only B w w1) (hB : B < w.heap.size) (hres : w1.heap[w.heap.size + 1]? = some (.cells #[.int .i64 0, .int .i64 0, .int .i64 0, .int .i64 0, .slice none 0 0, .slice none 0 0] 25 (0, 0))) (hlo : w.heap.size + 2 ≤ lo) (hT : Two2 w1 lo (.slice x cn cx) cn cs (.slice y pn cy) pn ps) :
    SX w (w1.alloc (.cells #[.int .i64 k, .int .i64 d, .int .i64 wd, .int .i64 hi, .slice x cn cx, .slice y pn cy] 25)) B w1.heap.size p k d wd hi (.slice x cn cx) cn cs (.slice y pn cy) pn ps := by
  obtain ⟨wm, h4, h5, hlm, hmw, hsame⟩ := hT
  have o4 : OwnI w1 lo (.slice x cn cx) cn cs := h4.same (fun j hj hB => hsame j hj hB)
  have hl4 : ∀ g, (Value.slice x cn cx).ownBlock = some g → g < wm.heap.size := fun g e => (World.ownsRow.lt (show World.ownsRow _ _ _ _ _ _ _ from h4) g e).2
  have hl5 : ∀ g, (Value.slice y pn cy).ownBlock = some g → wm.heap.size ≤ g ∧ g < w1.heap.size := fun g e => World.ownsRow.lt (show World.ownsRow _ _ _ _ _ _ _ from h5) g e
  refine ⟨hr.alloc _, ho.alloc hr.lt _, (heap_alloc_old _ _ (lt_of_block hres)).trans hres, heap_alloc_new _ _, hB, by omega, (o4.lower hlo).old _, (h5.lower (by omega)).old _, fun e => by have := hl4 _ e; omega, fun e => by have := (hl5 _ e).2; omega, fun g e e5 => by have := hl4 _ e; have := (hl5 _ e5).1; omega⟩

set_option linter.unusedSimpArgs false in
set_option maxHeartbeats 8000000 in
set_option maxRecDepth 20000 in
theorem l14Spoil_any (B p k d wd hi : Nat) (ca : Option Addr) (cn cc : Nat) (pa : Option Addr) (pn pc : Nat) (cs ps : List Int) (w : World) (hr : RdAt w B p) (hp : p ≤ 1000000) (hc : Ints w ca cs) (hcn : cs.length = cn) (hcl : cn ≤ 256) (hpi : Ints w pa ps) (hpn : ps.length = pn) (hp1 : 1 ≤ pn) (hpl : pn ≤ 400) (hk : 1 ≤ k ∧ k ≤ 4) (hd : d ≤ 32) (hwd : wd ≤ 20) (hhi : hi ≤ 20) :
    Calls Tryz.prog 41 #[.pointer (some ⟨B, 0, none⟩), .agg #[.int .i64 (k : Int), .int .i64 (d : Int), .int .i64 (wd : Int), .int .i64 (hi : Int), .slice ca cn cc, .slice pa pn pc]] w fun e w' => AnyOut w.heap.size e w' ∧ (∃ q, q ≤ p + 5 ∧ RdAt w' B q) ∧ Only B w w' := by
  obtain ⟨W0, hW0⟩ : ∃ W0, W0 = ((w.alloc (.cells #[.int .i64 (k : Int), .int .i64 (d : Int), .int .i64 (wd : Int), .int .i64 (hi : Int), .slice ca cn cc, .slice pa pn pc] 25)).alloc (.cells #[.int .i64 0, .int .i64 0, .int .i64 0, .int .i64 0, .slice none 0 0, .slice none 0 0] 25)) := ⟨_, rfl⟩
  have hlt := hr.lt
  have hs0 : W0.heap.size = w.heap.size + 2 := by rw [hW0]; simp
  have hB0 : Below w.heap.size w W0 := by rw [hW0]; exact ((Below.refl _ _).alloc (Nat.le_refl _) _).alloc (by simp) _
  have HZ : Hid (W0.heap[w.heap.size + 1]? = some (.cells #[.int .i64 0, .int .i64 0, .int .i64 0, .int .i64 0, .slice none 0 0, .slice none 0 0] 25 (0, 0))) := by rw [hW0]; exact heap_alloc2_new _ _ _
  have HM : Hid (W0.heap[w.heap.size]? = some (.cells #[.int .i64 (k : Int), .int .i64 (d : Int), .int .i64 (wd : Int), .int .i64 (hi : Int), .slice ca cn cc, .slice pa pn pc] 25 (0, 0))) := by
    rw [hW0]; exact (heap_alloc_old _ _ (by simp)).trans (heap_alloc_new _ _)
  have HR0 : Hid (RdAt W0 B p) := by rw [hW0]; exact (hr.alloc _).alloc _
  have HO0 : Hid (Only B w W0) := by rw [hW0]; exact ((Only.refl B w).alloc hlt _).alloc (by simp; omega) _
  have HCP : Hid (Calls Tryz.prog 61 #[.agg #[.int .i64 (k : Int), .int .i64 (d : Int), .int .i64 (wd : Int), .int .i64 (hi : Int), .slice ca cn cc, .slice pa pn pc]] W0 fun e w' => CopyOut (W0.heap.size + 2) (k : Int) (d : Int) (wd : Int) (hi : Int) cn cs pn ps e w' ∧ Below W0.heap.size W0 w') :=
    l14Copy_any _ _ _ _ ca cn cc pa pn pc cs ps W0 (hc.kept hB0) hcn (by omega) (hpi.kept hB0) hpn (by omega)
  clear hr hc hcn hpi hpn hB0
  go_enter Tryz.func41, Tryz.ntmps41
  go_upto_region 1 with fail
  rw [← hW0]
  clear hW0
  obtain ⟨⟨z0, z1, z2, z3, z4, z5⟩, y0, y1, y2, y3, y4, y5⟩ := box6 HM.out
  go_wp2_with fail
  refine HCP.out.mono ?_
  rintro e w1 ⟨⟨x, cx, y, cy, rfl, hT⟩, b1⟩
  have hsz1 := b1.size
  have HS0 : Hid (SX w (w1.alloc (.cells #[.int .i64 (k : Int), .int .i64 (d : Int), .int .i64 (wd : Int), .int .i64 (hi : Int), .slice x cn cx, .slice y pn cy] 25)) B w1.heap.size p (k : Int) (d : Int) (wd : Int) (hi : Int) (.slice x cn cx) cn cs (.slice y pn cy) pn ps) :=
    SX.start (HR0.out.kept (b1.mono (by omega))) (HO0.out.grown hlt (b1.mono (by omega))) hlt ((b1.block _ (by omega)).trans HZ.out) (by omega) hT
  clear z0 z1 z2 z3 z4 z5 y0 y1 y2 y3 y4 y5 HCP HR0 HO0 HZ HM hT b1 hsz1 hs0
  go_wp2_with fail
  refine (pick_named B p _ _ HS0.out.rd (by omega) (by omega) (by omega)).mono ?_
  rintro e w2 ⟨v8, rfl, hv8, hR2, hO2, hs2⟩
  have HS : Hid (SX w w2 B w1.heap.size (p + 1) (k : Int) (d : Int) (wd : Int) (hi : Int) (.slice x cn cx) cn cs (.slice y pn cy) pn ps) := HS0.out.pick hR2 hO2
  clear HS0 hR2 hO2 hs2
  generalize w1.heap.size = X at *
  rcases (show v8 = 0 ∨ v8 = 1 ∨ v8 = 2 ∨ v8 = 3 ∨ v8 = 4 ∨ v8 = 5 ∨ v8 = 6 ∨ v8 = 7 by omega) with rfl | rfl | rfl | rfl | rfl | rfl | rfl | rfl
  · obtain ⟨r, hr4⟩ : ∃ r : Nat, r = k % 4 := ⟨_, rfl⟩
    have e1 : (k : Int) % 4 = (r : Int) := by omega
    have e1' : (k : Int).tmod 4 = (r : Int) := by rw [Int.tmod_eq_emod_of_nonneg (by omega)]; exact e1
    have hrb : r ≤ 3 := by omega
    clear hr4
    obtain ⟨s, hs4⟩ : ∃ s : Nat, s = r + 1 := ⟨_, rfl⟩
    have e2 : (1 : Int) + (r : Int) = (s : Int) := by omega
    have e3 := wrap_i64_nat s (by omega)
    have e4 := wrap_i64_nat r (by omega)
    have hsb : s ≤ 4 := by omega
    clear hs4
    go_wp2_with fail
    refine wp_region_held_drew (S := fun _ => True) (by kernel_rfl) trivial (fun _ => ?_)
    have SD : Hid (SX w w2.drew B X (p + 1) (k : Int) (d : Int) (wd : Int) (hi : Int) (.slice x cn cx) cn cs (.slice y pn cy) pn ps) := HS.out.drew
    generalize w2.drew = wd0 at *
    refine wpAnyH_take (i := 0) (v := .pointer (some ⟨X, 0, none⟩)) rfl (by kernel_rfl) (by kernel_rfl) (by kernel_rfl) (fun _ _ _ h => h) (Or.inl ⟨by rfl, ?_⟩) trivial ?_
    · intro w' _
      go_simp
    try simp only [Act.put, List.setIfInBounds_toArray, List.set_cons_zero, List.set_cons_succ]
    refine wpAnyH_take (i := 5) (v := .pointer (some ⟨B, 0, none⟩)) rfl (by kernel_rfl) (by kernel_rfl) (by kernel_rfl) (fun _ _ _ h => h) (Or.inl ⟨by rfl, ?_⟩) trivial ?_
    · intro w' _
      go_simp
    try simp only [Act.put, List.setIfInBounds_toArray, List.set_cons_zero, List.set_cons_succ]
    refine wpAnyH_ready (rs := [1, 6]) (by kernel_rfl) (by simp) ?_
    refine AllReadyH.cons rfl (fun K hK => ?_) (AllReadyH.cons rfl (fun K hK => ?_) AllReadyH.nil)
    · have cl := (box6 SD.out.box).1.1
      go_simp
      refine hK.out _ _ trivial (fun _ => ?_)
      clear hK K
      try simp only [Act.put, List.setIfInBounds_toArray, List.set_cons_zero, List.set_cons_succ]
      clear cl
      refine wpAnyH_take (i := 2) (v := .int .i64 (r : Int)) rfl (by kernel_rfl) (by kernel_rfl) (by kernel_rfl) (fun _ _ _ h => h) (Or.inl ⟨by rfl, ?_⟩) trivial ?_
      · intro w' _
        go_simp
      try simp only [Act.put, List.setIfInBounds_toArray, List.set_cons_zero, List.set_cons_succ]
      refine wpAnyH_take (i := 3) (v := .int .i64 (s : Int)) rfl (by kernel_rfl) (by kernel_rfl) (by kernel_rfl) (fun _ _ _ h => h) (Or.inl ⟨by rfl, ?_⟩) trivial ?_
      · intro w' _
        go_simp
      try simp only [Act.put, List.setIfInBounds_toArray, List.set_cons_zero, List.set_cons_succ]
      refine wpAnyH_ready (rs := [4, 6]) (by kernel_rfl) (by simp) ?_
      refine AllReadyH.cons rfl (fun K hK => ?_) (AllReadyH.cons rfl (fun K hK => ?_) AllReadyH.nil)
      · have SB : Hid (SX w (wd0.alloc (.cells #[.int .i64 0, .int .i64 5, .int .i64 (s : Int)] 3)) B X (p + 1) (k : Int) (d : Int) (wd : Int) (hi : Int) (.slice x cn cx) cn cs (.slice y pn cy) pn ps) := SD.out.alloc _
        have HT : Hid ((wd0.alloc (.cells #[.int .i64 0, .int .i64 5, .int .i64 (s : Int)] 3)).heap[wd0.heap.size]? = some (.cells #[.int .i64 0, .int .i64 5, .int .i64 (s : Int)] 3 (0, 0))) := heap_alloc_new _ _
        have HB : Hid (w.heap.size ≤ wd0.heap.size) := SD.out.only.below.size
        go_simp
        refine hK.out _ _ trivial (fun _ => ?_)
        clear hK K
        try simp only [Act.put, List.setIfInBounds_toArray, List.set_cons_zero, List.set_cons_succ]
        generalize wd0.alloc (.cells #[.int .i64 0, .int .i64 5, .int .i64 (s : Int)] 3) = wb at *
        refine wpAnyH_ready (rs := [6]) (by kernel_rfl) (by simp) ?_
        refine AllReadyH.cons rfl (fun K hK => ?_) AllReadyH.nil
        go_simp
        refine (pick_named B (p + 1) _ _ SB.out.rd (by omega) (by omega) (by omega)).mono ?_
        rintro e wy ⟨v, rfl, hv0, hRy, hOy, hsy⟩
        have hv : v < 3 := by omega
        have SY : Hid (SX w wy B X (p + 1 + 1) (k : Int) (d : Int) (wd : Int) (hi : Int) (.slice x cn cx) cn cs (.slice y pn cy) pn ps) := SB.out.pick hRy hOy
        have HT : Hid (wy.heap[wd0.heap.size]? = some (.cells #[.int .i64 0, .int .i64 5, .int .i64 (s : Int)] 3 (0, 0))) := (hOy.rest _ (lt_of_block HT.out) (by have := SB.out.lt; have := SB.out.only.below.size; have := HB.out; omega)).trans HT.out
        clear hRy hOy hsy hv0
        go_wp2_with fail
        refine hK.out _ _ trivial (fun _ => ?_)
        clear hK K
        try simp only [Act.put, List.setIfInBounds_toArray, List.set_cons_zero, List.set_cons_succ]
        obtain ⟨z, hz, hzb⟩ := tab3 0 5 (s : Int) v hv
        have ct := tab_cell HT.out hz
        refine wpAnyH_take (i := 7) (v := .pointer (some ⟨wd0.heap.size, v, none⟩)) rfl (by kernel_rfl) (by kernel_rfl) (by kernel_rfl) (fun _ _ _ h => h) (Or.inl ⟨by rfl, ?_⟩) trivial ?_
        · intro w' _
          go_simp
          try (intro hbad; exfalso; omega)
        try simp only [Act.put, List.setIfInBounds_toArray, List.set_cons_zero, List.set_cons_succ]
        refine wpAnyH_ready (rs := [8]) (by kernel_rfl) (by simp) ?_
        refine AllReadyH.cons rfl (fun K hK => ?_) AllReadyH.nil
        go_simp
        refine hK.out _ _ trivial (fun _ => ?_)
        clear hK K
        try simp only [Act.put, List.setIfInBounds_toArray, List.set_cons_zero, List.set_cons_succ]
        refine wpAnyH_take (i := 9) (v := .pointer (some ⟨X, 0, none⟩)) rfl (by kernel_rfl) (by kernel_rfl) (by kernel_rfl) (fun _ _ _ h => h) (Or.inl ⟨by rfl, ?_⟩) trivial ?_
        · intro w' _
          go_simp
        try simp only [Act.put, List.setIfInBounds_toArray, List.set_cons_zero, List.set_cons_succ]
        refine wpAnyH_ready (rs := [10]) (by kernel_rfl) (by simp) ?_
        refine AllReadyH.cons rfl (fun K hK => ?_) AllReadyH.nil
        obtain ⟨⟨z0, z1, z2, z3, z4, z5⟩, y0, y1, y2, y3, y4, y5⟩ := box6 SY.out.box
        go_simp
        refine hK.out _ _ trivial (fun _ => ?_)
        clear hK K
        try simp only [Act.put, List.setIfInBounds_toArray, List.set_cons_zero, List.set_cons_succ]
        refine wpAnyH_done (by kernel_rfl) ?_ _
        have hzb2 : 0 ≤ z ∧ z ≤ 100 := by omega
        go_upto_region 21 with fail
        obtain ⟨Wf, hWf⟩ : ∃ Wf, Wf = wy.setCell ⟨X, 0, none⟩ (.int .i64 z) := ⟨_, rfl⟩
        have HF : Hid (FX w Wf B X (p + 1 + 1) z (d : Int) (wd : Int) (hi : Int) x cn cx cs y pn cy ps) := by
          show FX _ _ _ _ _ _ _ _ _ _ _ _ _ _ _ _ _
          rw [hWf]; exact (SY.out.setn 0 (.int .i64 z) rfl).fx (by omega) (by omega) (by omega)
        rw [← hWf]
        clear hWf
        try clear HF0
        try clear z0 z1 z2 z3 z4 z5 y0 y1 y2 y3 y4 y5
        obtain ⟨⟨z0, z1, z2, z3, z4, z5⟩, y0, y1, y2, y3, y4, y5⟩ := box6 HF.out.box
        have hres := HF.out.res
        have hI6 : (Tryz.prog.info? 25).map (·.size) = some (#[.int .i64 z, .int .i64 (d : Int), .int .i64 (wd : Int), .int .i64 (hi : Int), .slice x cn cx, .slice y pn cy] : Array Value).size := by kernel_rfl
        have h16 : (#[.int .i64 z, .int .i64 (d : Int), .int .i64 (wd : Int), .int .i64 (hi : Int), .slice x cn cx, .slice y pn cy] : Array Value).all (·.oneCell') = true := by simp [Value.oneCell']
        go_wp2_with (refine wpList_store_row rfl 25 (.tmp 4) (.tmp 87) rfl (w.heap.size + 1) #[.int .i64 z, .int .i64 (d : Int), .int .i64 (wd : Int), .int .i64 (hi : Int), .slice x cn cx, .slice y pn cy] rfl rfl 25 #[.int .i64 0, .int .i64 0, .int .i64 0, .int .i64 0, .slice none 0 0, .slice none 0 0] hres hI6 rfl h16 ?_)
        have hs2 := setRow_heap Wf (w.heap.size + 1) _ #[.int .i64 z, .int .i64 (d : Int), .int .i64 (wd : Int), .int .i64 (hi : Int), .slice x cn cx, .slice y pn cy] _ _ hres
        exact bodyPost_ret_by (results_cell_row (p := 4) (ty := 25) (by kernel_rfl) _ _ (w.heap.size + 1) 25 _ (0, 0) _ rfl hs2 Tryz.underlying25 rfl (by kernel_rfl)) rfl (HF.out.out (by omega))
      · go_simp
        refine (pick_named B (p + 1) _ _ SD.out.rd (by omega) (by omega) (by omega)).mono ?_
        rintro e wy ⟨v, rfl, hv0, hRy, hOy, hsy⟩
        have hv : v < 3 := by omega
        have SY : Hid (SX w wy B X (p + 1 + 1) (k : Int) (d : Int) (wd : Int) (hi : Int) (.slice x cn cx) cn cs (.slice y pn cy) pn ps) := SD.out.pick hRy hOy
        clear hRy hOy hsy hv0
        go_wp2_with fail
        refine hK.out _ _ trivial (fun _ => ?_)
        clear hK K
        try simp only [Act.put, List.setIfInBounds_toArray, List.set_cons_zero, List.set_cons_succ]
        refine wpAnyH_ready (rs := [4]) (by kernel_rfl) (by simp) ?_
        refine AllReadyH.cons rfl (fun K hK => ?_) AllReadyH.nil
        have SB : Hid (SX w (wy.alloc (.cells #[.int .i64 0, .int .i64 5, .int .i64 (s : Int)] 3)) B X (p + 1 + 1) (k : Int) (d : Int) (wd : Int) (hi : Int) (.slice x cn cx) cn cs (.slice y pn cy) pn ps) := SY.out.alloc _
        have HT : Hid ((wy.alloc (.cells #[.int .i64 0, .int .i64 5, .int .i64 (s : Int)] 3)).heap[wy.heap.size]? = some (.cells #[.int .i64 0, .int .i64 5, .int .i64 (s : Int)] 3 (0, 0))) := heap_alloc_new _ _
        have HB : Hid (w.heap.size ≤ wy.heap.size) := SY.out.only.below.size
        go_simp
        refine hK.out _ _ trivial (fun _ => ?_)
        clear hK K
        try simp only [Act.put, List.setIfInBounds_toArray, List.set_cons_zero, List.set_cons_succ]
        generalize wy.alloc (.cells #[.int .i64 0, .int .i64 5, .int .i64 (s : Int)] 3) = wb at *
        obtain ⟨z, hz, hzb⟩ := tab3 0 5 (s : Int) v hv
        have ct := tab_cell HT.out hz
        refine wpAnyH_take (i := 7) (v := .pointer (some ⟨wy.heap.size, v, none⟩)) rfl (by kernel_rfl) (by kernel_rfl) (by kernel_rfl) (fun _ _ _ h => h) (Or.inl ⟨by rfl, ?_⟩) trivial ?_
        · intro w' _
          go_simp
          try (intro hbad; exfalso; omega)
        try simp only [Act.put, List.setIfInBounds_toArray, List.set_cons_zero, List.set_cons_succ]
        refine wpAnyH_ready (rs := [8]) (by kernel_rfl) (by simp) ?_
        refine AllReadyH.cons rfl (fun K hK => ?_) AllReadyH.nil
        go_simp
        refine hK.out _ _ trivial (fun _ => ?_)
        clear hK K
        try simp only [Act.put, List.setIfInBounds_toArray, List.set_cons_zero, List.set_cons_succ]
        refine wpAnyH_take (i := 9) (v := .pointer (some ⟨X, 0, none⟩)) rfl (by kernel_rfl) (by kernel_rfl) (by kernel_rfl) (fun _ _ _ h => h) (Or.inl ⟨by rfl, ?_⟩) trivial ?_
        · intro w' _
          go_simp
        try simp only [Act.put, List.setIfInBounds_toArray, List.set_cons_zero, List.set_cons_succ]
        refine wpAnyH_ready (rs := [10]) (by kernel_rfl) (by simp) ?_
        refine AllReadyH.cons rfl (fun K hK => ?_) AllReadyH.nil
        obtain ⟨⟨z0, z1, z2, z3, z4, z5⟩, y0, y1, y2, y3, y4, y5⟩ := box6 SB.out.box
        go_simp
        refine hK.out _ _ trivial (fun _ => ?_)
        clear hK K
        try simp only [Act.put, List.setIfInBounds_toArray, List.set_cons_zero, List.set_cons_succ]
        refine wpAnyH_done (by kernel_rfl) ?_ _
        have hzb2 : 0 ≤ z ∧ z ≤ 100 := by omega
        go_upto_region 21 with fail
        obtain ⟨Wf, hWf⟩ : ∃ Wf, Wf = wb.setCell ⟨X, 0, none⟩ (.int .i64 z) := ⟨_, rfl⟩
        have HF : Hid (FX w Wf B X (p + 1 + 1) z (d : Int) (wd : Int) (hi : Int) x cn cx cs y pn cy ps) := by
          show FX _ _ _ _ _ _ _ _ _ _ _ _ _ _ _ _ _
          rw [hWf]; exact (SB.out.setn 0 (.int .i64 z) rfl).fx (by omega) (by omega) (by omega)
        rw [← hWf]
        clear hWf
        try clear HF0
        try clear z0 z1 z2 z3 z4 z5 y0 y1 y2 y3 y4 y5
        obtain ⟨⟨z0, z1, z2, z3, z4, z5⟩, y0, y1, y2, y3, y4, y5⟩ := box6 HF.out.box
        have hres := HF.out.res
        have hI6 : (Tryz.prog.info? 25).map (·.size) = some (#[.int .i64 z, .int .i64 (d : Int), .int .i64 (wd : Int), .int .i64 (hi : Int), .slice x cn cx, .slice y pn cy] : Array Value).size := by kernel_rfl
        have h16 : (#[.int .i64 z, .int .i64 (d : Int), .int .i64 (wd : Int), .int .i64 (hi : Int), .slice x cn cx, .slice y pn cy] : Array Value).all (·.oneCell') = true := by simp [Value.oneCell']
        go_wp2_with (refine wpList_store_row rfl 25 (.tmp 4) (.tmp 87) rfl (w.heap.size + 1) #[.int .i64 z, .int .i64 (d : Int), .int .i64 (wd : Int), .int .i64 (hi : Int), .slice x cn cx, .slice y pn cy] rfl rfl 25 #[.int .i64 0, .int .i64 0, .int .i64 0, .int .i64 0, .slice none 0 0, .slice none 0 0] hres hI6 rfl h16 ?_)
        have hs2 := setRow_heap Wf (w.heap.size + 1) _ #[.int .i64 z, .int .i64 (d : Int), .int .i64 (wd : Int), .int .i64 (hi : Int), .slice x cn cx, .slice y pn cy] _ _ hres
        exact bodyPost_ret_by (results_cell_row (p := 4) (ty := 25) (by kernel_rfl) _ _ (w.heap.size + 1) 25 _ (0, 0) _ rfl hs2 Tryz.underlying25 rfl (by kernel_rfl)) rfl (HF.out.out (by omega))
    · go_simp
      refine (pick_named B (p + 1) _ _ SD.out.rd (by omega) (by omega) (by omega)).mono ?_
      rintro e wy ⟨v, rfl, hv0, hRy, hOy, hsy⟩
      have hv : v < 3 := by omega
      have SY : Hid (SX w wy B X (p + 1 + 1) (k : Int) (d : Int) (wd : Int) (hi : Int) (.slice x cn cx) cn cs (.slice y pn cy) pn ps) := SD.out.pick hRy hOy
      clear hRy hOy hsy hv0
      go_wp2_with fail
      refine hK.out _ _ trivial (fun _ => ?_)
      clear hK K
      try simp only [Act.put, List.setIfInBounds_toArray, List.set_cons_zero, List.set_cons_succ]
      refine wpAnyH_ready (rs := [1]) (by kernel_rfl) (by simp) ?_
      refine AllReadyH.cons rfl (fun K hK => ?_) AllReadyH.nil
      have cl := (box6 SY.out.box).1.1
      go_simp
      refine hK.out _ _ trivial (fun _ => ?_)
      clear hK K
      try simp only [Act.put, List.setIfInBounds_toArray, List.set_cons_zero, List.set_cons_succ]
      clear cl
      refine wpAnyH_take (i := 2) (v := .int .i64 (r : Int)) rfl (by kernel_rfl) (by kernel_rfl) (by kernel_rfl) (fun _ _ _ h => h) (Or.inl ⟨by rfl, ?_⟩) trivial ?_
      · intro w' _
        go_simp
      try simp only [Act.put, List.setIfInBounds_toArray, List.set_cons_zero, List.set_cons_succ]
      refine wpAnyH_take (i := 3) (v := .int .i64 (s : Int)) rfl (by kernel_rfl) (by kernel_rfl) (by kernel_rfl) (fun _ _ _ h => h) (Or.inl ⟨by rfl, ?_⟩) trivial ?_
      · intro w' _
        go_simp
      try simp only [Act.put, List.setIfInBounds_toArray, List.set_cons_zero, List.set_cons_succ]
      refine wpAnyH_ready (rs := [4]) (by kernel_rfl) (by simp) ?_
      refine AllReadyH.cons rfl (fun K hK => ?_) AllReadyH.nil
      have SB : Hid (SX w (wy.alloc (.cells #[.int .i64 0, .int .i64 5, .int .i64 (s : Int)] 3)) B X (p + 1 + 1) (k : Int) (d : Int) (wd : Int) (hi : Int) (.slice x cn cx) cn cs (.slice y pn cy) pn ps) := SY.out.alloc _
      have HT : Hid ((wy.alloc (.cells #[.int .i64 0, .int .i64 5, .int .i64 (s : Int)] 3)).heap[wy.heap.size]? = some (.cells #[.int .i64 0, .int .i64 5, .int .i64 (s : Int)] 3 (0, 0))) := heap_alloc_new _ _
      have HB : Hid (w.heap.size ≤ wy.heap.size) := SY.out.only.below.size
      go_simp
      refine hK.out _ _ trivial (fun _ => ?_)
      clear hK K
      try simp only [Act.put, List.setIfInBounds_toArray, List.set_cons_zero, List.set_cons_succ]
      generalize wy.alloc (.cells #[.int .i64 0, .int .i64 5, .int .i64 (s : Int)] 3) = wb at *
      obtain ⟨z, hz, hzb⟩ := tab3 0 5 (s : Int) v hv
      have ct := tab_cell HT.out hz
      refine wpAnyH_take (i := 7) (v := .pointer (some ⟨wy.heap.size, v, none⟩)) rfl (by kernel_rfl) (by kernel_rfl) (by kernel_rfl) (fun _ _ _ h => h) (Or.inl ⟨by rfl, ?_⟩) trivial ?_
      · intro w' _
        go_simp
        try (intro hbad; exfalso; omega)
      try simp only [Act.put, List.setIfInBounds_toArray, List.set_cons_zero, List.set_cons_succ]
      refine wpAnyH_ready (rs := [8]) (by kernel_rfl) (by simp) ?_
      refine AllReadyH.cons rfl (fun K hK => ?_) AllReadyH.nil
      go_simp
      refine hK.out _ _ trivial (fun _ => ?_)
      clear hK K
      try simp only [Act.put, List.setIfInBounds_toArray, List.set_cons_zero, List.set_cons_succ]
      refine wpAnyH_take (i := 9) (v := .pointer (some ⟨X, 0, none⟩)) rfl (by kernel_rfl) (by kernel_rfl) (by kernel_rfl) (fun _ _ _ h => h) (Or.inl ⟨by rfl, ?_⟩) trivial ?_
      · intro w' _
        go_simp
      try simp only [Act.put, List.setIfInBounds_toArray, List.set_cons_zero, List.set_cons_succ]
      refine wpAnyH_ready (rs := [10]) (by kernel_rfl) (by simp) ?_
      refine AllReadyH.cons rfl (fun K hK => ?_) AllReadyH.nil
      obtain ⟨⟨z0, z1, z2, z3, z4, z5⟩, y0, y1, y2, y3, y4, y5⟩ := box6 SB.out.box
      go_simp
      refine hK.out _ _ trivial (fun _ => ?_)
      clear hK K
      try simp only [Act.put, List.setIfInBounds_toArray, List.set_cons_zero, List.set_cons_succ]
      refine wpAnyH_done (by kernel_rfl) ?_ _
      have hzb2 : 0 ≤ z ∧ z ≤ 100 := by omega
      go_upto_region 21 with fail
      obtain ⟨Wf, hWf⟩ : ∃ Wf, Wf = wb.setCell ⟨X, 0, none⟩ (.int .i64 z) := ⟨_, rfl⟩
      have HF : Hid (FX w Wf B X (p + 1 + 1) z (d : Int) (wd : Int) (hi : Int) x cn cx cs y pn cy ps) := by
        show FX _ _ _ _ _ _ _ _ _ _ _ _ _ _ _ _ _
        rw [hWf]; exact (SB.out.setn 0 (.int .i64 z) rfl).fx (by omega) (by omega) (by omega)
      rw [← hWf]
      clear hWf
      try clear HF0
      try clear z0 z1 z2 z3 z4 z5 y0 y1 y2 y3 y4 y5
      obtain ⟨⟨z0, z1, z2, z3, z4, z5⟩, y0, y1, y2, y3, y4, y5⟩ := box6 HF.out.box
      have hres := HF.out.res
      have hI6 : (Tryz.prog.info? 25).map (·.size) = some (#[.int .i64 z, .int .i64 (d : Int), .int .i64 (wd : Int), .int .i64 (hi : Int), .slice x cn cx, .slice y pn cy] : Array Value).size := by kernel_rfl
      have h16 : (#[.int .i64 z, .int .i64 (d : Int), .int .i64 (wd : Int), .int .i64 (hi : Int), .slice x cn cx, .slice y pn cy] : Array Value).all (·.oneCell') = true := by simp [Value.oneCell']
      go_wp2_with (refine wpList_store_row rfl 25 (.tmp 4) (.tmp 87) rfl (w.heap.size + 1) #[.int .i64 z, .int .i64 (d : Int), .int .i64 (wd : Int), .int .i64 (hi : Int), .slice x cn cx, .slice y pn cy] rfl rfl 25 #[.int .i64 0, .int .i64 0, .int .i64 0, .int .i64 0, .slice none 0 0, .slice none 0 0] hres hI6 rfl h16 ?_)
      have hs2 := setRow_heap Wf (w.heap.size + 1) _ #[.int .i64 z, .int .i64 (d : Int), .int .i64 (wd : Int), .int .i64 (hi : Int), .slice x cn cx, .slice y pn cy] _ _ hres
      exact bodyPost_ret_by (results_cell_row (p := 4) (ty := 25) (by kernel_rfl) _ _ (w.heap.size + 1) 25 _ (0, 0) _ rfl hs2 Tryz.underlying25 rfl (by kernel_rfl)) rfl (HF.out.out (by omega))
  · have SB : Hid (SX w (w2.alloc (.cells #[.int .i64 0, .int .i64 3, .int .i64 16] 3)) B X (p + 1) (k : Int) (d : Int) (wd : Int) (hi : Int) (.slice x cn cx) cn cs (.slice y pn cy) pn ps) := HS.out.alloc _
    have HT : Hid ((w2.alloc (.cells #[.int .i64 0, .int .i64 3, .int .i64 16] 3)).heap[w2.heap.size]? = some (.cells #[.int .i64 0, .int .i64 3, .int .i64 16] 3 (0, 0))) := heap_alloc_new _ _
    have HB : Hid (w.heap.size ≤ w2.heap.size) := HS.out.only.below.size
    go_wp2_with fail
    refine (pick_named B (p + 1) _ _ SB.out.rd (by omega) (by omega) (by omega)).mono ?_
    rintro e wy ⟨v, rfl, hv0, hRy, hOy, hsy⟩
    have hv : v < 3 := by omega
    have SY : Hid (SX w wy B X (p + 1 + 1) (k : Int) (d : Int) (wd : Int) (hi : Int) (.slice x cn cx) cn cs (.slice y pn cy) pn ps) := SB.out.pick hRy hOy
    have HT2 : Hid (wy.heap[w2.heap.size]? = some (.cells #[.int .i64 0, .int .i64 3, .int .i64 16] 3 (0, 0))) := (hOy.rest _ (lt_of_block HT.out) (by have := SB.out.lt; have := HB.out; omega)).trans HT.out
    clear hRy hOy hsy hv0
    obtain ⟨z, hz, hzb⟩ := tab3 0 3 16 v hv
    have ct := tab_cell HT2.out hz
    obtain ⟨⟨z0, z1, z2, z3, z4, z5⟩, y0, y1, y2, y3, y4, y5⟩ := box6 SY.out.box
    go_upto_region 21 with fail
    obtain ⟨Wf, hWf⟩ : ∃ Wf, Wf = wy.setCell ⟨X, 1, none⟩ (.int .i64 z) := ⟨_, rfl⟩
    have HF : Hid (FX w Wf B X (p + 1 + 1) (k : Int) z (wd : Int) (hi : Int) x cn cx cs y pn cy ps) := by
      show FX _ _ _ _ _ _ _ _ _ _ _ _ _ _ _ _ _
      rw [hWf]; exact (SY.out.setn 1 (.int .i64 z) rfl).fx (by omega) (by omega) (by omega)
    rw [← hWf]
    clear hWf
    try clear HF0
    try clear z0 z1 z2 z3 z4 z5 y0 y1 y2 y3 y4 y5
    obtain ⟨⟨z0, z1, z2, z3, z4, z5⟩, y0, y1, y2, y3, y4, y5⟩ := box6 HF.out.box
    have hres := HF.out.res
    have hI6 : (Tryz.prog.info? 25).map (·.size) = some (#[.int .i64 (k : Int), .int .i64 z, .int .i64 (wd : Int), .int .i64 (hi : Int), .slice x cn cx, .slice y pn cy] : Array Value).size := by kernel_rfl
    have h16 : (#[.int .i64 (k : Int), .int .i64 z, .int .i64 (wd : Int), .int .i64 (hi : Int), .slice x cn cx, .slice y pn cy] : Array Value).all (·.oneCell') = true := by simp [Value.oneCell']
    go_wp2_with (refine wpList_store_row rfl 25 (.tmp 4) (.tmp 87) rfl (w.heap.size + 1) #[.int .i64 (k : Int), .int .i64 z, .int .i64 (wd : Int), .int .i64 (hi : Int), .slice x cn cx, .slice y pn cy] rfl rfl 25 #[.int .i64 0, .int .i64 0, .int .i64 0, .int .i64 0, .slice none 0 0, .slice none 0 0] hres hI6 rfl h16 ?_)
    have hs2 := setRow_heap Wf (w.heap.size + 1) _ #[.int .i64 (k : Int), .int .i64 z, .int .i64 (wd : Int), .int .i64 (hi : Int), .slice x cn cx, .slice y pn cy] _ _ hres
    exact bodyPost_ret_by (results_cell_row (p := 4) (ty := 25) (by kernel_rfl) _ _ (w.heap.size + 1) 25 _ (0, 0) _ rfl hs2 Tryz.underlying25 rfl (by kernel_rfl)) rfl (HF.out.out (by omega))
  · obtain ⟨s, hs4⟩ : ∃ s : Nat, s = wd + 1 := ⟨_, rfl⟩
    have e2 : (wd : Int) + 1 = (s : Int) := by omega
    have e3 := wrap_i64_nat s (by omega)
    have hsb : s ≤ 21 := by omega
    clear hs4
    go_wp2_with fail
    refine wp_region_held_drew (S := fun _ => True) (by kernel_rfl) trivial (fun _ => ?_)
    have SD : Hid (SX w w2.drew B X (p + 1) (k : Int) (d : Int) (wd : Int) (hi : Int) (.slice x cn cx) cn cs (.slice y pn cy) pn ps) := HS.out.drew
    generalize w2.drew = wd0 at *
    refine wpAnyH_take (i := 0) (v := .pointer (some ⟨X, 2, none⟩)) rfl (by kernel_rfl) (by kernel_rfl) (by kernel_rfl) (fun _ _ _ h => h) (Or.inl ⟨by rfl, ?_⟩) trivial ?_
    · intro w' _
      go_simp
    try simp only [Act.put, List.setIfInBounds_toArray, List.set_cons_zero, List.set_cons_succ]
    refine wpAnyH_take (i := 4) (v := .pointer (some ⟨B, 0, none⟩)) rfl (by kernel_rfl) (by kernel_rfl) (by kernel_rfl) (fun _ _ _ h => h) (Or.inl ⟨by rfl, ?_⟩) trivial ?_
    · intro w' _
      go_simp
    try simp only [Act.put, List.setIfInBounds_toArray, List.set_cons_zero, List.set_cons_succ]
    refine wpAnyH_ready (rs := [1, 5]) (by kernel_rfl) (by simp) ?_
    refine AllReadyH.cons rfl (fun K hK => ?_) (AllReadyH.cons rfl (fun K hK => ?_) AllReadyH.nil)
    · have cl := (box6 SD.out.box).1.2.2.1
      go_simp
      refine hK.out _ _ trivial (fun _ => ?_)
      clear hK K
      try simp only [Act.put, List.setIfInBounds_toArray, List.set_cons_zero, List.set_cons_succ]
      clear cl
      refine wpAnyH_take (i := 2) (v := .int .i64 (s : Int)) rfl (by kernel_rfl) (by kernel_rfl) (by kernel_rfl) (fun _ _ _ h => h) (Or.inl ⟨by rfl, ?_⟩) trivial ?_
      · intro w' _
        go_simp
      try simp only [Act.put, List.setIfInBounds_toArray, List.set_cons_zero, List.set_cons_succ]
      refine wpAnyH_ready (rs := [3, 5]) (by kernel_rfl) (by simp) ?_
      refine AllReadyH.cons rfl (fun K hK => ?_) (AllReadyH.cons rfl (fun K hK => ?_) AllReadyH.nil)
      · have SB : Hid (SX w (wd0.alloc (.cells #[.int .i64 0, .int .i64 (s : Int), .int .i64 21] 3)) B X (p + 1) (k : Int) (d : Int) (wd : Int) (hi : Int) (.slice x cn cx) cn cs (.slice y pn cy) pn ps) := SD.out.alloc _
        have HT : Hid ((wd0.alloc (.cells #[.int .i64 0, .int .i64 (s : Int), .int .i64 21] 3)).heap[wd0.heap.size]? = some (.cells #[.int .i64 0, .int .i64 (s : Int), .int .i64 21] 3 (0, 0))) := heap_alloc_new _ _
        have HB : Hid (w.heap.size ≤ wd0.heap.size) := SD.out.only.below.size
        go_simp
        refine hK.out _ _ trivial (fun _ => ?_)
        clear hK K
        try simp only [Act.put, List.setIfInBounds_toArray, List.set_cons_zero, List.set_cons_succ]
        generalize wd0.alloc (.cells #[.int .i64 0, .int .i64 (s : Int), .int .i64 21] 3) = wb at *
        refine wpAnyH_ready (rs := [5]) (by kernel_rfl) (by simp) ?_
        refine AllReadyH.cons rfl (fun K hK => ?_) AllReadyH.nil
        go_simp
        refine (pick_named B (p + 1) _ _ SB.out.rd (by omega) (by omega) (by omega)).mono ?_
        rintro e wy ⟨v, rfl, hv0, hRy, hOy, hsy⟩
        have hv : v < 3 := by omega
        have SY : Hid (SX w wy B X (p + 1 + 1) (k : Int) (d : Int) (wd : Int) (hi : Int) (.slice x cn cx) cn cs (.slice y pn cy) pn ps) := SB.out.pick hRy hOy
        have HT : Hid (wy.heap[wd0.heap.size]? = some (.cells #[.int .i64 0, .int .i64 (s : Int), .int .i64 21] 3 (0, 0))) := (hOy.rest _ (lt_of_block HT.out) (by have := SB.out.lt; have := SB.out.only.below.size; have := HB.out; omega)).trans HT.out
        clear hRy hOy hsy hv0
        go_wp2_with fail
        refine hK.out _ _ trivial (fun _ => ?_)
        clear hK K
        try simp only [Act.put, List.setIfInBounds_toArray, List.set_cons_zero, List.set_cons_succ]
        obtain ⟨z, hz, hzb⟩ := tab3 0 (s : Int) 21 v hv
        have ct := tab_cell HT.out hz
        refine wpAnyH_take (i := 6) (v := .pointer (some ⟨wd0.heap.size, v, none⟩)) rfl (by kernel_rfl) (by kernel_rfl) (by kernel_rfl) (fun _ _ _ h => h) (Or.inl ⟨by rfl, ?_⟩) trivial ?_
        · intro w' _
          go_simp
          try (intro hbad; exfalso; omega)
        try simp only [Act.put, List.setIfInBounds_toArray, List.set_cons_zero, List.set_cons_succ]
        refine wpAnyH_ready (rs := [7]) (by kernel_rfl) (by simp) ?_
        refine AllReadyH.cons rfl (fun K hK => ?_) AllReadyH.nil
        go_simp
        refine hK.out _ _ trivial (fun _ => ?_)
        clear hK K
        try simp only [Act.put, List.setIfInBounds_toArray, List.set_cons_zero, List.set_cons_succ]
        refine wpAnyH_take (i := 8) (v := .pointer (some ⟨X, 2, none⟩)) rfl (by kernel_rfl) (by kernel_rfl) (by kernel_rfl) (fun _ _ _ h => h) (Or.inl ⟨by rfl, ?_⟩) trivial ?_
        · intro w' _
          go_simp
        try simp only [Act.put, List.setIfInBounds_toArray, List.set_cons_zero, List.set_cons_succ]
        refine wpAnyH_ready (rs := [9]) (by kernel_rfl) (by simp) ?_
        refine AllReadyH.cons rfl (fun K hK => ?_) AllReadyH.nil
        obtain ⟨⟨z0, z1, z2, z3, z4, z5⟩, y0, y1, y2, y3, y4, y5⟩ := box6 SY.out.box
        go_simp
        refine hK.out _ _ trivial (fun _ => ?_)
        clear hK K
        try simp only [Act.put, List.setIfInBounds_toArray, List.set_cons_zero, List.set_cons_succ]
        refine wpAnyH_done (by kernel_rfl) ?_ _
        have hzb2 : 0 ≤ z ∧ z ≤ 100 := by omega
        go_upto_region 21 with fail
        obtain ⟨Wf, hWf⟩ : ∃ Wf, Wf = wy.setCell ⟨X, 2, none⟩ (.int .i64 z) := ⟨_, rfl⟩
        have HF : Hid (FX w Wf B X (p + 1 + 1) (k : Int) (d : Int) z (hi : Int) x cn cx cs y pn cy ps) := by
          show FX _ _ _ _ _ _ _ _ _ _ _ _ _ _ _ _ _
          rw [hWf]; exact (SY.out.setn 2 (.int .i64 z) rfl).fx (by omega) (by omega) (by omega)
        rw [← hWf]
        clear hWf
        try clear HF0
        try clear z0 z1 z2 z3 z4 z5 y0 y1 y2 y3 y4 y5
        obtain ⟨⟨z0, z1, z2, z3, z4, z5⟩, y0, y1, y2, y3, y4, y5⟩ := box6 HF.out.box
        have hres := HF.out.res
        have hI6 : (Tryz.prog.info? 25).map (·.size) = some (#[.int .i64 (k : Int), .int .i64 (d : Int), .int .i64 z, .int .i64 (hi : Int), .slice x cn cx, .slice y pn cy] : Array Value).size := by kernel_rfl
        have h16 : (#[.int .i64 (k : Int), .int .i64 (d : Int), .int .i64 z, .int .i64 (hi : Int), .slice x cn cx, .slice y pn cy] : Array Value).all (·.oneCell') = true := by simp [Value.oneCell']
        go_wp2_with (refine wpList_store_row rfl 25 (.tmp 4) (.tmp 87) rfl (w.heap.size + 1) #[.int .i64 (k : Int), .int .i64 (d : Int), .int .i64 z, .int .i64 (hi : Int), .slice x cn cx, .slice y pn cy] rfl rfl 25 #[.int .i64 0, .int .i64 0, .int .i64 0, .int .i64 0, .slice none 0 0, .slice none 0 0] hres hI6 rfl h16 ?_)
        have hs2 := setRow_heap Wf (w.heap.size + 1) _ #[.int .i64 (k : Int), .int .i64 (d : Int), .int .i64 z, .int .i64 (hi : Int), .slice x cn cx, .slice y pn cy] _ _ hres
        exact bodyPost_ret_by (results_cell_row (p := 4) (ty := 25) (by kernel_rfl) _ _ (w.heap.size + 1) 25 _ (0, 0) _ rfl hs2 Tryz.underlying25 rfl (by kernel_rfl)) rfl (HF.out.out (by omega))
      · go_simp
        refine (pick_named B (p + 1) _ _ SD.out.rd (by omega) (by omega) (by omega)).mono ?_
        rintro e wy ⟨v, rfl, hv0, hRy, hOy, hsy⟩
        have hv : v < 3 := by omega
        have SY : Hid (SX w wy B X (p + 1 + 1) (k : Int) (d : Int) (wd : Int) (hi : Int) (.slice x cn cx) cn cs (.slice y pn cy) pn ps) := SD.out.pick hRy hOy
        clear hRy hOy hsy hv0
        go_wp2_with fail
        refine hK.out _ _ trivial (fun _ => ?_)
        clear hK K
        try simp only [Act.put, List.setIfInBounds_toArray, List.set_cons_zero, List.set_cons_succ]
        refine wpAnyH_ready (rs := [3]) (by kernel_rfl) (by simp) ?_
        refine AllReadyH.cons rfl (fun K hK => ?_) AllReadyH.nil
        have SB : Hid (SX w (wy.alloc (.cells #[.int .i64 0, .int .i64 (s : Int), .int .i64 21] 3)) B X (p + 1 + 1) (k : Int) (d : Int) (wd : Int) (hi : Int) (.slice x cn cx) cn cs (.slice y pn cy) pn ps) := SY.out.alloc _
        have HT : Hid ((wy.alloc (.cells #[.int .i64 0, .int .i64 (s : Int), .int .i64 21] 3)).heap[wy.heap.size]? = some (.cells #[.int .i64 0, .int .i64 (s : Int), .int .i64 21] 3 (0, 0))) := heap_alloc_new _ _
        have HB : Hid (w.heap.size ≤ wy.heap.size) := SY.out.only.below.size
        go_simp
        refine hK.out _ _ trivial (fun _ => ?_)
        clear hK K
        try simp only [Act.put, List.setIfInBounds_toArray, List.set_cons_zero, List.set_cons_succ]
        generalize wy.alloc (.cells #[.int .i64 0, .int .i64 (s : Int), .int .i64 21] 3) = wb at *
        obtain ⟨z, hz, hzb⟩ := tab3 0 (s : Int) 21 v hv
        have ct := tab_cell HT.out hz
        refine wpAnyH_take (i := 6) (v := .pointer (some ⟨wy.heap.size, v, none⟩)) rfl (by kernel_rfl) (by kernel_rfl) (by kernel_rfl) (fun _ _ _ h => h) (Or.inl ⟨by rfl, ?_⟩) trivial ?_
        · intro w' _
          go_simp
          try (intro hbad; exfalso; omega)
        try simp only [Act.put, List.setIfInBounds_toArray, List.set_cons_zero, List.set_cons_succ]
        refine wpAnyH_ready (rs := [7]) (by kernel_rfl) (by simp) ?_
        refine AllReadyH.cons rfl (fun K hK => ?_) AllReadyH.nil
        go_simp
        refine hK.out _ _ trivial (fun _ => ?_)
        clear hK K
        try simp only [Act.put, List.setIfInBounds_toArray, List.set_cons_zero, List.set_cons_succ]
        refine wpAnyH_take (i := 8) (v := .pointer (some ⟨X, 2, none⟩)) rfl (by kernel_rfl) (by kernel_rfl) (by kernel_rfl) (fun _ _ _ h => h) (Or.inl ⟨by rfl, ?_⟩) trivial ?_
        · intro w' _
          go_simp
        try simp only [Act.put, List.setIfInBounds_toArray, List.set_cons_zero, List.set_cons_succ]
        refine wpAnyH_ready (rs := [9]) (by kernel_rfl) (by simp) ?_
        refine AllReadyH.cons rfl (fun K hK => ?_) AllReadyH.nil
        obtain ⟨⟨z0, z1, z2, z3, z4, z5⟩, y0, y1, y2, y3, y4, y5⟩ := box6 SB.out.box
        go_simp
        refine hK.out _ _ trivial (fun _ => ?_)
        clear hK K
        try simp only [Act.put, List.setIfInBounds_toArray, List.set_cons_zero, List.set_cons_succ]
        refine wpAnyH_done (by kernel_rfl) ?_ _
        have hzb2 : 0 ≤ z ∧ z ≤ 100 := by omega
        go_upto_region 21 with fail
        obtain ⟨Wf, hWf⟩ : ∃ Wf, Wf = wb.setCell ⟨X, 2, none⟩ (.int .i64 z) := ⟨_, rfl⟩
        have HF : Hid (FX w Wf B X (p + 1 + 1) (k : Int) (d : Int) z (hi : Int) x cn cx cs y pn cy ps) := by
          show FX _ _ _ _ _ _ _ _ _ _ _ _ _ _ _ _ _
          rw [hWf]; exact (SB.out.setn 2 (.int .i64 z) rfl).fx (by omega) (by omega) (by omega)
        rw [← hWf]
        clear hWf
        try clear HF0
        try clear z0 z1 z2 z3 z4 z5 y0 y1 y2 y3 y4 y5
        obtain ⟨⟨z0, z1, z2, z3, z4, z5⟩, y0, y1, y2, y3, y4, y5⟩ := box6 HF.out.box
        have hres := HF.out.res
        have hI6 : (Tryz.prog.info? 25).map (·.size) = some (#[.int .i64 (k : Int), .int .i64 (d : Int), .int .i64 z, .int .i64 (hi : Int), .slice x cn cx, .slice y pn cy] : Array Value).size := by kernel_rfl
        have h16 : (#[.int .i64 (k : Int), .int .i64 (d : Int), .int .i64 z, .int .i64 (hi : Int), .slice x cn cx, .slice y pn cy] : Array Value).all (·.oneCell') = true := by simp [Value.oneCell']
        go_wp2_with (refine wpList_store_row rfl 25 (.tmp 4) (.tmp 87) rfl (w.heap.size + 1) #[.int .i64 (k : Int), .int .i64 (d : Int), .int .i64 z, .int .i64 (hi : Int), .slice x cn cx, .slice y pn cy] rfl rfl 25 #[.int .i64 0, .int .i64 0, .int .i64 0, .int .i64 0, .slice none 0 0, .slice none 0 0] hres hI6 rfl h16 ?_)
        have hs2 := setRow_heap Wf (w.heap.size + 1) _ #[.int .i64 (k : Int), .int .i64 (d : Int), .int .i64 z, .int .i64 (hi : Int), .slice x cn cx, .slice y pn cy] _ _ hres
        exact bodyPost_ret_by (results_cell_row (p := 4) (ty := 25) (by kernel_rfl) _ _ (w.heap.size + 1) 25 _ (0, 0) _ rfl hs2 Tryz.underlying25 rfl (by kernel_rfl)) rfl (HF.out.out (by omega))
    · go_simp
      refine (pick_named B (p + 1) _ _ SD.out.rd (by omega) (by omega) (by omega)).mono ?_
      rintro e wy ⟨v, rfl, hv0, hRy, hOy, hsy⟩
      have hv : v < 3 := by omega
      have SY : Hid (SX w wy B X (p + 1 + 1) (k : Int) (d : Int) (wd : Int) (hi : Int) (.slice x cn cx) cn cs (.slice y pn cy) pn ps) := SD.out.pick hRy hOy
      clear hRy hOy hsy hv0
      go_wp2_with fail
      refine hK.out _ _ trivial (fun _ => ?_)
      clear hK K
      try simp only [Act.put, List.setIfInBounds_toArray, List.set_cons_zero, List.set_cons_succ]
      refine wpAnyH_ready (rs := [1]) (by kernel_rfl) (by simp) ?_
      refine AllReadyH.cons rfl (fun K hK => ?_) AllReadyH.nil
      have cl := (box6 SY.out.box).1.2.2.1
      go_simp
      refine hK.out _ _ trivial (fun _ => ?_)
      clear hK K
      try simp only [Act.put, List.setIfInBounds_toArray, List.set_cons_zero, List.set_cons_succ]
      clear cl
      refine wpAnyH_take (i := 2) (v := .int .i64 (s : Int)) rfl (by kernel_rfl) (by kernel_rfl) (by kernel_rfl) (fun _ _ _ h => h) (Or.inl ⟨by rfl, ?_⟩) trivial ?_
      · intro w' _
        go_simp
      try simp only [Act.put, List.setIfInBounds_toArray, List.set_cons_zero, List.set_cons_succ]
      refine wpAnyH_ready (rs := [3]) (by kernel_rfl) (by simp) ?_
      refine AllReadyH.cons rfl (fun K hK => ?_) AllReadyH.nil
      have SB : Hid (SX w (wy.alloc (.cells #[.int .i64 0, .int .i64 (s : Int), .int .i64 21] 3)) B X (p + 1 + 1) (k : Int) (d : Int) (wd : Int) (hi : Int) (.slice x cn cx) cn cs (.slice y pn cy) pn ps) := SY.out.alloc _
      have HT : Hid ((wy.alloc (.cells #[.int .i64 0, .int .i64 (s : Int), .int .i64 21] 3)).heap[wy.heap.size]? = some (.cells #[.int .i64 0, .int .i64 (s : Int), .int .i64 21] 3 (0, 0))) := heap_alloc_new _ _
      have HB : Hid (w.heap.size ≤ wy.heap.size) := SY.out.only.below.size
      go_simp
      refine hK.out _ _ trivial (fun _ => ?_)
      clear hK K
      try simp only [Act.put, List.setIfInBounds_toArray, List.set_cons_zero, List.set_cons_succ]
      generalize wy.alloc (.cells #[.int .i64 0, .int .i64 (s : Int), .int .i64 21] 3) = wb at *
      obtain ⟨z, hz, hzb⟩ := tab3 0 (s : Int) 21 v hv
      have ct := tab_cell HT.out hz
      refine wpAnyH_take (i := 6) (v := .pointer (some ⟨wy.heap.size, v, none⟩)) rfl (by kernel_rfl) (by kernel_rfl) (by kernel_rfl) (fun _ _ _ h => h) (Or.inl ⟨by rfl, ?_⟩) trivial ?_
      · intro w' _
        go_simp
        try (intro hbad; exfalso; omega)
      try simp only [Act.put, List.setIfInBounds_toArray, List.set_cons_zero, List.set_cons_succ]
      refine wpAnyH_ready (rs := [7]) (by kernel_rfl) (by simp) ?_
      refine AllReadyH.cons rfl (fun K hK => ?_) AllReadyH.nil
      go_simp
      refine hK.out _ _ trivial (fun _ => ?_)
      clear hK K
      try simp only [Act.put, List.setIfInBounds_toArray, List.set_cons_zero, List.set_cons_succ]
      refine wpAnyH_take (i := 8) (v := .pointer (some ⟨X, 2, none⟩)) rfl (by kernel_rfl) (by kernel_rfl) (by kernel_rfl) (fun _ _ _ h => h) (Or.inl ⟨by rfl, ?_⟩) trivial ?_
      · intro w' _
        go_simp
      try simp only [Act.put, List.setIfInBounds_toArray, List.set_cons_zero, List.set_cons_succ]
      refine wpAnyH_ready (rs := [9]) (by kernel_rfl) (by simp) ?_
      refine AllReadyH.cons rfl (fun K hK => ?_) AllReadyH.nil
      obtain ⟨⟨z0, z1, z2, z3, z4, z5⟩, y0, y1, y2, y3, y4, y5⟩ := box6 SB.out.box
      go_simp
      refine hK.out _ _ trivial (fun _ => ?_)
      clear hK K
      try simp only [Act.put, List.setIfInBounds_toArray, List.set_cons_zero, List.set_cons_succ]
      refine wpAnyH_done (by kernel_rfl) ?_ _
      have hzb2 : 0 ≤ z ∧ z ≤ 100 := by omega
      go_upto_region 21 with fail
      obtain ⟨Wf, hWf⟩ : ∃ Wf, Wf = wb.setCell ⟨X, 2, none⟩ (.int .i64 z) := ⟨_, rfl⟩
      have HF : Hid (FX w Wf B X (p + 1 + 1) (k : Int) (d : Int) z (hi : Int) x cn cx cs y pn cy ps) := by
        show FX _ _ _ _ _ _ _ _ _ _ _ _ _ _ _ _ _
        rw [hWf]; exact (SB.out.setn 2 (.int .i64 z) rfl).fx (by omega) (by omega) (by omega)
      rw [← hWf]
      clear hWf
      try clear HF0
      try clear z0 z1 z2 z3 z4 z5 y0 y1 y2 y3 y4 y5
      obtain ⟨⟨z0, z1, z2, z3, z4, z5⟩, y0, y1, y2, y3, y4, y5⟩ := box6 HF.out.box
      have hres := HF.out.res
      have hI6 : (Tryz.prog.info? 25).map (·.size) = some (#[.int .i64 (k : Int), .int .i64 (d : Int), .int .i64 z, .int .i64 (hi : Int), .slice x cn cx, .slice y pn cy] : Array Value).size := by kernel_rfl
      have h16 : (#[.int .i64 (k : Int), .int .i64 (d : Int), .int .i64 z, .int .i64 (hi : Int), .slice x cn cx, .slice y pn cy] : Array Value).all (·.oneCell') = true := by simp [Value.oneCell']
      go_wp2_with (refine wpList_store_row rfl 25 (.tmp 4) (.tmp 87) rfl (w.heap.size + 1) #[.int .i64 (k : Int), .int .i64 (d : Int), .int .i64 z, .int .i64 (hi : Int), .slice x cn cx, .slice y pn cy] rfl rfl 25 #[.int .i64 0, .int .i64 0, .int .i64 0, .int .i64 0, .slice none 0 0, .slice none 0 0] hres hI6 rfl h16 ?_)
      have hs2 := setRow_heap Wf (w.heap.size + 1) _ #[.int .i64 (k : Int), .int .i64 (d : Int), .int .i64 z, .int .i64 (hi : Int), .slice x cn cx, .slice y pn cy] _ _ hres
      exact bodyPost_ret_by (results_cell_row (p := 4) (ty := 25) (by kernel_rfl) _ _ (w.heap.size + 1) 25 _ (0, 0) _ rfl hs2 Tryz.underlying25 rfl (by kernel_rfl)) rfl (HF.out.out (by omega))
  · obtain ⟨pm, rfl⟩ : ∃ pm, pn = pm + 1 := ⟨pn - 1, by omega⟩
    obtain ⟨g, rfl, hcy, hFX⟩ := HS.out.tail (by omega) (by omega) (by omega)
    have hcy1 : (1 : Int) ≤ (cy : Int) := by omega
    obtain ⟨⟨z0, z1, z2, z3, z4, z5⟩, y0, y1, y2, y3, y4, y5⟩ := box6 HS.out.box
    have HF0 : Hid (FX _ _ _ _ _ _ _ _ _ _ _ _ _ _ _ _ _) := hFX
    clear hFX
    go_upto_region 21 with fail
    obtain ⟨Wf, hWf⟩ : ∃ Wf, Wf = w2.setCell ⟨X, 5, none⟩ (.slice (if cy = 1 then some ⟨g, 0, none⟩ else some ⟨g, 1, none⟩) pm (cy - 1)) := ⟨_, rfl⟩
    have HF : Hid (FX w Wf B X (p + 1) (k : Int) (d : Int) (wd : Int) (hi : Int) x cn cx cs (if cy = 1 then some ⟨g, 0, none⟩ else some ⟨g, 1, none⟩) pm (cy - 1) ps.tail) := by
      show FX _ _ _ _ _ _ _ _ _ _ _ _ _ _ _ _ _
      rw [hWf]; exact HF0.out
    rw [← hWf]
    clear hWf
    try clear HF0
    generalize (if cy = 1 then some ⟨g, 0, none⟩ else some ⟨g, 1, none⟩ : Option Addr) = b5 at *
    generalize cy - 1 = c5 at *
    try clear z0 z1 z2 z3 z4 z5 y0 y1 y2 y3 y4 y5
    obtain ⟨⟨z0, z1, z2, z3, z4, z5⟩, y0, y1, y2, y3, y4, y5⟩ := box6 HF.out.box
    have hres := HF.out.res
    have hI6 : (Tryz.prog.info? 25).map (·.size) = some (#[.int .i64 (k : Int), .int .i64 (d : Int), .int .i64 (wd : Int), .int .i64 (hi : Int), .slice x cn cx, .slice b5 pm c5] : Array Value).size := by kernel_rfl
    have h16 : (#[.int .i64 (k : Int), .int .i64 (d : Int), .int .i64 (wd : Int), .int .i64 (hi : Int), .slice x cn cx, .slice b5 pm c5] : Array Value).all (·.oneCell') = true := by simp [Value.oneCell']
    go_wp2_with (refine wpList_store_row rfl 25 (.tmp 4) (.tmp 87) rfl (w.heap.size + 1) #[.int .i64 (k : Int), .int .i64 (d : Int), .int .i64 (wd : Int), .int .i64 (hi : Int), .slice x cn cx, .slice b5 pm c5] rfl rfl 25 #[.int .i64 0, .int .i64 0, .int .i64 0, .int .i64 0, .slice none 0 0, .slice none 0 0] hres hI6 rfl h16 ?_)
    have hs2 := setRow_heap Wf (w.heap.size + 1) _ #[.int .i64 (k : Int), .int .i64 (d : Int), .int .i64 (wd : Int), .int .i64 (hi : Int), .slice x cn cx, .slice b5 pm c5] _ _ hres
    exact bodyPost_ret_by (results_cell_row (p := 4) (ty := 25) (by kernel_rfl) _ _ (w.heap.size + 1) 25 _ (0, 0) _ rfl hs2 Tryz.underlying25 rfl (by kernel_rfl)) rfl (HF.out.out (by omega))
  · obtain ⟨g, rfl⟩ := own_addr HS.out.o5 (by omega)
    have hpi : (0 : Int) < (pn : Int) := by omega
    go_wp2_with fail
    refine wp_region_held_drew (S := fun w' => w'.cell? ⟨X, 5, none⟩ = some (.slice (some ⟨g, 0, none⟩) pn cy)) (by kernel_rfl) ((box6 HS.out.box).1.2.2.2.2.2) (fun hSw => ?_)
    have SD : Hid (SX w w2.drew B X (p + 1) (k : Int) (d : Int) (wd : Int) (hi : Int) (.slice x cn cx) cn cs (.slice (some ⟨g, 0, none⟩) pn cy) pn ps) := HS.out.drew
    generalize w2.drew = wd0 at *
    refine wpAnyH_take (i := 0) (v := .pointer (some ⟨X, 5, none⟩)) rfl (by kernel_rfl) (by kernel_rfl) (by kernel_rfl) (fun _ _ _ h => h) (Or.inl ⟨by rfl, ?_⟩) (by assumption) ?_
    · intro w' hS'
      go_simp
    try simp only [Act.put, List.setIfInBounds_toArray, List.set_cons_zero, List.set_cons_succ]
    refine wpAnyH_take (i := 1) (v := (.slice (some ⟨g, 0, none⟩) pn cy)) rfl (by kernel_rfl) (by kernel_rfl) (by kernel_rfl) (fun _ _ _ h => h) (Or.inl ⟨by rfl, ?_⟩) (by assumption) ?_
    · intro w' hS'
      go_simp
    try simp only [Act.put, List.setIfInBounds_toArray, List.set_cons_zero, List.set_cons_succ]
    refine wpAnyH_take (i := 2) (v := .pointer (some ⟨B, 0, none⟩)) rfl (by kernel_rfl) (by kernel_rfl) (by kernel_rfl) (fun _ _ _ h => h) (Or.inl ⟨by rfl, ?_⟩) (by assumption) ?_
    · intro w' hS'
      go_simp
    try simp only [Act.put, List.setIfInBounds_toArray, List.set_cons_zero, List.set_cons_succ]
    refine wpAnyH_take (i := 3) (v := .pointer (some ⟨X, 5, none⟩)) rfl (by kernel_rfl) (by kernel_rfl) (by kernel_rfl) (fun _ _ _ h => h) (Or.inl ⟨by rfl, ?_⟩) (by assumption) ?_
    · intro w' hS'
      go_simp
    try simp only [Act.put, List.setIfInBounds_toArray, List.set_cons_zero, List.set_cons_succ]
    refine wpAnyH_take (i := 4) (v := (.slice (some ⟨g, 0, none⟩) pn cy)) rfl (by kernel_rfl) (by kernel_rfl) (by kernel_rfl) (fun _ _ _ h => h) (Or.inl ⟨by rfl, ?_⟩) (by assumption) ?_
    · intro w' hS'
      go_simp
    try simp only [Act.put, List.setIfInBounds_toArray, List.set_cons_zero, List.set_cons_succ]
    refine wpAnyH_take (i := 5) (v := .int .i64 (pn : Int)) rfl (by kernel_rfl) (by kernel_rfl) (by kernel_rfl) (fun _ _ _ h => h) (Or.inl ⟨by rfl, ?_⟩) (by assumption) ?_
    · intro w' hS'
      go_simp
    try simp only [Act.put, List.setIfInBounds_toArray, List.set_cons_zero, List.set_cons_succ]
    refine wpAnyH_take (i := 8) (v := .pointer (some ⟨B, 0, none⟩)) rfl (by kernel_rfl) (by kernel_rfl) (by kernel_rfl) (fun _ _ _ h => h) (Or.inl ⟨by rfl, ?_⟩) (by assumption) ?_
    · intro w' hS'
      go_simp
    try simp only [Act.put, List.setIfInBounds_toArray, List.set_cons_zero, List.set_cons_succ]
    refine wpAnyH_ready (rs := [6, 7]) (by kernel_rfl) (by simp) ?_
    refine AllReadyH.cons rfl (fun K hK => ?_) (AllReadyH.cons rfl (fun K hK => ?_) AllReadyH.nil)
    · go_simp
      refine (pick_named B (p + 1) _ _ SD.out.rd (by omega) (by omega) (by omega)).mono ?_
      rintro e wy1 ⟨v1, rfl, hv0, hRy, hOy, hsy⟩
      have hv1 : v1 < pn := by omega
      have SY1 : Hid (SX w wy1 B X (p + 1 + 1) (k : Int) (d : Int) (wd : Int) (hi : Int) (.slice x cn cx) cn cs (.slice (some ⟨g, 0, none⟩) pn cy) pn ps) := SD.out.pick hRy hOy
      clear hRy hOy hsy hv0
      go_wp2_with fail
      refine hK.out _ _ (box6 SY1.out.box).1.2.2.2.2.2 (fun hSw => ?_)
      clear hK K
      try simp only [Act.put, List.setIfInBounds_toArray, List.set_cons_zero, List.set_cons_succ]
      refine wpAnyH_ready (rs := [7, 9]) (by kernel_rfl) (by simp) ?_
      refine AllReadyH.cons rfl (fun K hK => ?_) (AllReadyH.cons rfl (fun K hK => ?_) AllReadyH.nil)
      · have SB : Hid (SX w (wy1.alloc (.cells #[.int .i64 (-1), .int .i64 4294967296] 3)) B X (p + 1 + 1) (k : Int) (d : Int) (wd : Int) (hi : Int) (.slice x cn cx) cn cs (.slice (some ⟨g, 0, none⟩) pn cy) pn ps) := SY1.out.alloc _
        have HT : Hid ((wy1.alloc (.cells #[.int .i64 (-1), .int .i64 4294967296] 3)).heap[wy1.heap.size]? = some (.cells #[.int .i64 (-1), .int .i64 4294967296] 3 (0, 0))) := heap_alloc_new _ _
        have HB : Hid (w.heap.size ≤ wy1.heap.size) := SY1.out.only.below.size
        go_simp
        refine hK.out _ _ (box6 SB.out.box).1.2.2.2.2.2 (fun hSw => ?_)
        clear hK K
        try simp only [Act.put, List.setIfInBounds_toArray, List.set_cons_zero, List.set_cons_succ]
        generalize wy1.alloc (.cells #[.int .i64 (-1), .int .i64 4294967296] 3) = wb at *
        refine wpAnyH_ready (rs := [9]) (by kernel_rfl) (by simp) ?_
        refine AllReadyH.cons rfl (fun K hK => ?_) AllReadyH.nil
        go_simp
        refine (pick_named B (p + 1 + 1) _ _ SB.out.rd (by omega) (by omega) (by omega)).mono ?_
        rintro e wy2 ⟨v2, rfl, hv0, hRy, hOy, hsy⟩
        have hv2 : v2 < 2 := by omega
        have SY2 : Hid (SX w wy2 B X (p + 1 + 1 + 1) (k : Int) (d : Int) (wd : Int) (hi : Int) (.slice x cn cx) cn cs (.slice (some ⟨g, 0, none⟩) pn cy) pn ps) := SB.out.pick hRy hOy
        have HT : Hid (wy2.heap[wy1.heap.size]? = some (.cells #[.int .i64 (-1), .int .i64 4294967296] 3 (0, 0))) := (hOy.rest _ (lt_of_block HT.out) (by have := SB.out.lt; have := HB.out; omega)).trans HT.out
        clear hRy hOy hsy hv0
        go_wp2_with fail
        refine hK.out _ _ (box6 SY2.out.box).1.2.2.2.2.2 (fun hSw => ?_)
        clear hK K
        try simp only [Act.put, List.setIfInBounds_toArray, List.set_cons_zero, List.set_cons_succ]
        obtain ⟨z, hz, hzb⟩ := tab2 (-1) 4294967296 v2 hv2
        have ct := tab_cell HT.out hz
        refine wpAnyH_take (i := 10) (v := .pointer (some ⟨wy1.heap.size, v2, none⟩)) rfl (by kernel_rfl) (by kernel_rfl) (by kernel_rfl) (fun _ _ _ h => h) (Or.inl ⟨by rfl, ?_⟩) (by assumption) ?_
        · intro w' _
          go_simp
          try (intro hbad; exfalso; omega)
        try simp only [Act.put, List.setIfInBounds_toArray, List.set_cons_zero, List.set_cons_succ]
        refine wpAnyH_ready (rs := [11]) (by kernel_rfl) (by simp) ?_
        refine AllReadyH.cons rfl (fun K hK => ?_) AllReadyH.nil
        go_simp
        refine hK.out _ _ (box6 SY2.out.box).1.2.2.2.2.2 (fun hSw => ?_)
        clear hK K
        try simp only [Act.put, List.setIfInBounds_toArray, List.set_cons_zero, List.set_cons_succ]
        refine wpAnyH_take (i := 12) (v := .pointer (some ⟨g, v1, none⟩)) rfl (by kernel_rfl) (by kernel_rfl) (by kernel_rfl) (fun _ _ _ h => h) (Or.inl ⟨by rfl, ?_⟩) (by assumption) ?_
        · intro w' _
          go_simp
          try (intro hbad; exfalso; omega)
        try simp only [Act.put, List.setIfInBounds_toArray, List.set_cons_zero, List.set_cons_succ]
        refine wpAnyH_ready (rs := [13]) (by kernel_rfl) (by simp) ?_
        refine AllReadyH.cons rfl (fun K hK => ?_) AllReadyH.nil
        obtain ⟨⟨xo, cg⟩, cf⟩ := own_cell SY2.out.o5 hv1
        go_simp
        refine hK.out _ _ ((box6 (SY2.out.put (j := v1) (x := z)).box).1.2.2.2.2.2) (fun hSw => ?_)
        clear hK K
        try simp only [Act.put, List.setIfInBounds_toArray, List.set_cons_zero, List.set_cons_succ]
        refine wpAnyH_done (by kernel_rfl) ?_ _
        go_upto_region 21 with fail
        obtain ⟨Wf, hWf⟩ : ∃ Wf, Wf = wy2.setCell ⟨g, v1, none⟩ (.int .i64 z) := ⟨_, rfl⟩
        have HF : Hid (FX w Wf B X (p + 1 + 1 + 1) (k : Int) (d : Int) (wd : Int) (hi : Int) x cn cx cs (some ⟨g, 0, none⟩) pn cy (ps.set v1 z)) := by
          show FX _ _ _ _ _ _ _ _ _ _ _ _ _ _ _ _ _
          rw [hWf]; exact (SY2.out.put (j := v1) (x := z)).fx (by omega) (by omega) (by omega)
        rw [← hWf]
        clear hWf
        try clear HF0
        try clear z0 z1 z2 z3 z4 z5 y0 y1 y2 y3 y4 y5
        obtain ⟨⟨z0, z1, z2, z3, z4, z5⟩, y0, y1, y2, y3, y4, y5⟩ := box6 HF.out.box
        have hres := HF.out.res
        have hI6 : (Tryz.prog.info? 25).map (·.size) = some (#[.int .i64 (k : Int), .int .i64 (d : Int), .int .i64 (wd : Int), .int .i64 (hi : Int), .slice x cn cx, .slice (some ⟨g, 0, none⟩) pn cy] : Array Value).size := by kernel_rfl
        have h16 : (#[.int .i64 (k : Int), .int .i64 (d : Int), .int .i64 (wd : Int), .int .i64 (hi : Int), .slice x cn cx, .slice (some ⟨g, 0, none⟩) pn cy] : Array Value).all (·.oneCell') = true := by simp [Value.oneCell']
        go_wp2_with (refine wpList_store_row rfl 25 (.tmp 4) (.tmp 87) rfl (w.heap.size + 1) #[.int .i64 (k : Int), .int .i64 (d : Int), .int .i64 (wd : Int), .int .i64 (hi : Int), .slice x cn cx, .slice (some ⟨g, 0, none⟩) pn cy] rfl rfl 25 #[.int .i64 0, .int .i64 0, .int .i64 0, .int .i64 0, .slice none 0 0, .slice none 0 0] hres hI6 rfl h16 ?_)
        have hs2 := setRow_heap Wf (w.heap.size + 1) _ #[.int .i64 (k : Int), .int .i64 (d : Int), .int .i64 (wd : Int), .int .i64 (hi : Int), .slice x cn cx, .slice (some ⟨g, 0, none⟩) pn cy] _ _ hres
        exact bodyPost_ret_by (results_cell_row (p := 4) (ty := 25) (by kernel_rfl) _ _ (w.heap.size + 1) 25 _ (0, 0) _ rfl hs2 Tryz.underlying25 rfl (by kernel_rfl)) rfl (HF.out.out (by omega))
      · go_simp
        refine (pick_named B (p + 1 + 1) _ _ SY1.out.rd (by omega) (by omega) (by omega)).mono ?_
        rintro e wy2 ⟨v2, rfl, hv0, hRy, hOy, hsy⟩
        have hv2 : v2 < 2 := by omega
        have SY2 : Hid (SX w wy2 B X (p + 1 + 1 + 1) (k : Int) (d : Int) (wd : Int) (hi : Int) (.slice x cn cx) cn cs (.slice (some ⟨g, 0, none⟩) pn cy) pn ps) := SY1.out.pick hRy hOy
        clear hRy hOy hsy hv0
        go_wp2_with fail
        refine hK.out _ _ (box6 SY2.out.box).1.2.2.2.2.2 (fun hSw => ?_)
        clear hK K
        try simp only [Act.put, List.setIfInBounds_toArray, List.set_cons_zero, List.set_cons_succ]
        refine wpAnyH_ready (rs := [7]) (by kernel_rfl) (by simp) ?_
        refine AllReadyH.cons rfl (fun K hK => ?_) AllReadyH.nil
        have SB : Hid (SX w (wy2.alloc (.cells #[.int .i64 (-1), .int .i64 4294967296] 3)) B X (p + 1 + 1 + 1) (k : Int) (d : Int) (wd : Int) (hi : Int) (.slice x cn cx) cn cs (.slice (some ⟨g, 0, none⟩) pn cy) pn ps) := SY2.out.alloc _
        have HT : Hid ((wy2.alloc (.cells #[.int .i64 (-1), .int .i64 4294967296] 3)).heap[wy2.heap.size]? = some (.cells #[.int .i64 (-1), .int .i64 4294967296] 3 (0, 0))) := heap_alloc_new _ _
        have HB : Hid (w.heap.size ≤ wy2.heap.size) := SY2.out.only.below.size
        go_simp
        refine hK.out _ _ (box6 SB.out.box).1.2.2.2.2.2 (fun hSw => ?_)
        clear hK K
        try simp only [Act.put, List.setIfInBounds_toArray, List.set_cons_zero, List.set_cons_succ]
        generalize wy2.alloc (.cells #[.int .i64 (-1), .int .i64 4294967296] 3) = wb at *
        obtain ⟨z, hz, hzb⟩ := tab2 (-1) 4294967296 v2 hv2
        have ct := tab_cell HT.out hz
        refine wpAnyH_take (i := 10) (v := .pointer (some ⟨wy2.heap.size, v2, none⟩)) rfl (by kernel_rfl) (by kernel_rfl) (by kernel_rfl) (fun _ _ _ h => h) (Or.inl ⟨by rfl, ?_⟩) (by assumption) ?_
        · intro w' _
          go_simp
          try (intro hbad; exfalso; omega)
        try simp only [Act.put, List.setIfInBounds_toArray, List.set_cons_zero, List.set_cons_succ]
        refine wpAnyH_ready (rs := [11]) (by kernel_rfl) (by simp) ?_
        refine AllReadyH.cons rfl (fun K hK => ?_) AllReadyH.nil
        go_simp
        refine hK.out _ _ (box6 SB.out.box).1.2.2.2.2.2 (fun hSw => ?_)
        clear hK K
        try simp only [Act.put, List.setIfInBounds_toArray, List.set_cons_zero, List.set_cons_succ]
        refine wpAnyH_take (i := 12) (v := .pointer (some ⟨g, v1, none⟩)) rfl (by kernel_rfl) (by kernel_rfl) (by kernel_rfl) (fun _ _ _ h => h) (Or.inl ⟨by rfl, ?_⟩) (by assumption) ?_
        · intro w' _
          go_simp
          try (intro hbad; exfalso; omega)
        try simp only [Act.put, List.setIfInBounds_toArray, List.set_cons_zero, List.set_cons_succ]
        refine wpAnyH_ready (rs := [13]) (by kernel_rfl) (by simp) ?_
        refine AllReadyH.cons rfl (fun K hK => ?_) AllReadyH.nil
        obtain ⟨⟨xo, cg⟩, cf⟩ := own_cell SB.out.o5 hv1
        go_simp
        refine hK.out _ _ ((box6 (SB.out.put (j := v1) (x := z)).box).1.2.2.2.2.2) (fun hSw => ?_)
        clear hK K
        try simp only [Act.put, List.setIfInBounds_toArray, List.set_cons_zero, List.set_cons_succ]
        refine wpAnyH_done (by kernel_rfl) ?_ _
        go_upto_region 21 with fail
        obtain ⟨Wf, hWf⟩ : ∃ Wf, Wf = wb.setCell ⟨g, v1, none⟩ (.int .i64 z) := ⟨_, rfl⟩
        have HF : Hid (FX w Wf B X (p + 1 + 1 + 1) (k : Int) (d : Int) (wd : Int) (hi : Int) x cn cx cs (some ⟨g, 0, none⟩) pn cy (ps.set v1 z)) := by
          show FX _ _ _ _ _ _ _ _ _ _ _ _ _ _ _ _ _
          rw [hWf]; exact (SB.out.put (j := v1) (x := z)).fx (by omega) (by omega) (by omega)
        rw [← hWf]
        clear hWf
        try clear HF0
        try clear z0 z1 z2 z3 z4 z5 y0 y1 y2 y3 y4 y5
        obtain ⟨⟨z0, z1, z2, z3, z4, z5⟩, y0, y1, y2, y3, y4, y5⟩ := box6 HF.out.box
        have hres := HF.out.res
        have hI6 : (Tryz.prog.info? 25).map (·.size) = some (#[.int .i64 (k : Int), .int .i64 (d : Int), .int .i64 (wd : Int), .int .i64 (hi : Int), .slice x cn cx, .slice (some ⟨g, 0, none⟩) pn cy] : Array Value).size := by kernel_rfl
        have h16 : (#[.int .i64 (k : Int), .int .i64 (d : Int), .int .i64 (wd : Int), .int .i64 (hi : Int), .slice x cn cx, .slice (some ⟨g, 0, none⟩) pn cy] : Array Value).all (·.oneCell') = true := by simp [Value.oneCell']
        go_wp2_with (refine wpList_store_row rfl 25 (.tmp 4) (.tmp 87) rfl (w.heap.size + 1) #[.int .i64 (k : Int), .int .i64 (d : Int), .int .i64 (wd : Int), .int .i64 (hi : Int), .slice x cn cx, .slice (some ⟨g, 0, none⟩) pn cy] rfl rfl 25 #[.int .i64 0, .int .i64 0, .int .i64 0, .int .i64 0, .slice none 0 0, .slice none 0 0] hres hI6 rfl h16 ?_)
        have hs2 := setRow_heap Wf (w.heap.size + 1) _ #[.int .i64 (k : Int), .int .i64 (d : Int), .int .i64 (wd : Int), .int .i64 (hi : Int), .slice x cn cx, .slice (some ⟨g, 0, none⟩) pn cy] _ _ hres
        exact bodyPost_ret_by (results_cell_row (p := 4) (ty := 25) (by kernel_rfl) _ _ (w.heap.size + 1) 25 _ (0, 0) _ rfl hs2 Tryz.underlying25 rfl (by kernel_rfl)) rfl (HF.out.out (by omega))
    · have SB : Hid (SX w (wd0.alloc (.cells #[.int .i64 (-1), .int .i64 4294967296] 3)) B X (p + 1) (k : Int) (d : Int) (wd : Int) (hi : Int) (.slice x cn cx) cn cs (.slice (some ⟨g, 0, none⟩) pn cy) pn ps) := SD.out.alloc _
      have HT : Hid ((wd0.alloc (.cells #[.int .i64 (-1), .int .i64 4294967296] 3)).heap[wd0.heap.size]? = some (.cells #[.int .i64 (-1), .int .i64 4294967296] 3 (0, 0))) := heap_alloc_new _ _
      have HB : Hid (w.heap.size ≤ wd0.heap.size) := SD.out.only.below.size
      go_simp
      refine hK.out _ _ (box6 SB.out.box).1.2.2.2.2.2 (fun hSw => ?_)
      clear hK K
      try simp only [Act.put, List.setIfInBounds_toArray, List.set_cons_zero, List.set_cons_succ]
      generalize wd0.alloc (.cells #[.int .i64 (-1), .int .i64 4294967296] 3) = wb at *
      refine wpAnyH_ready (rs := [6]) (by kernel_rfl) (by simp) ?_
      refine AllReadyH.cons rfl (fun K hK => ?_) AllReadyH.nil
      go_simp
      refine (pick_named B (p + 1) _ _ SB.out.rd (by omega) (by omega) (by omega)).mono ?_
      rintro e wy1 ⟨v1, rfl, hv0, hRy, hOy, hsy⟩
      have hv1 : v1 < pn := by omega
      have SY1 : Hid (SX w wy1 B X (p + 1 + 1) (k : Int) (d : Int) (wd : Int) (hi : Int) (.slice x cn cx) cn cs (.slice (some ⟨g, 0, none⟩) pn cy) pn ps) := SB.out.pick hRy hOy
      have HT : Hid (wy1.heap[wd0.heap.size]? = some (.cells #[.int .i64 (-1), .int .i64 4294967296] 3 (0, 0))) := (hOy.rest _ (lt_of_block HT.out) (by have := SB.out.lt; have := HB.out; omega)).trans HT.out
      clear hRy hOy hsy hv0
      go_wp2_with fail
      refine hK.out _ _ (box6 SY1.out.box).1.2.2.2.2.2 (fun hSw => ?_)
      clear hK K
      try simp only [Act.put, List.setIfInBounds_toArray, List.set_cons_zero, List.set_cons_succ]
      refine wpAnyH_ready (rs := [9]) (by kernel_rfl) (by simp) ?_
      refine AllReadyH.cons rfl (fun K hK => ?_) AllReadyH.nil
      go_simp
      refine (pick_named B (p + 1 + 1) _ _ SY1.out.rd (by omega) (by omega) (by omega)).mono ?_
      rintro e wy2 ⟨v2, rfl, hv0, hRy, hOy, hsy⟩
      have hv2 : v2 < 2 := by omega
      have SY2 : Hid (SX w wy2 B X (p + 1 + 1 + 1) (k : Int) (d : Int) (wd : Int) (hi : Int) (.slice x cn cx) cn cs (.slice (some ⟨g, 0, none⟩) pn cy) pn ps) := SY1.out.pick hRy hOy
      have HT : Hid (wy2.heap[wd0.heap.size]? = some (.cells #[.int .i64 (-1), .int .i64 4294967296] 3 (0, 0))) := (hOy.rest _ (lt_of_block HT.out) (by have := SY1.out.lt; have := HB.out; omega)).trans HT.out
      clear hRy hOy hsy hv0
      go_wp2_with fail
      refine hK.out _ _ (box6 SY2.out.box).1.2.2.2.2.2 (fun hSw => ?_)
      clear hK K
      try simp only [Act.put, List.setIfInBounds_toArray, List.set_cons_zero, List.set_cons_succ]
      obtain ⟨z, hz, hzb⟩ := tab2 (-1) 4294967296 v2 hv2
      have ct := tab_cell HT.out hz
      refine wpAnyH_take (i := 10) (v := .pointer (some ⟨wd0.heap.size, v2, none⟩)) rfl (by kernel_rfl) (by kernel_rfl) (by kernel_rfl) (fun _ _ _ h => h) (Or.inl ⟨by rfl, ?_⟩) (by assumption) ?_
      · intro w' _
        go_simp
        try (intro hbad; exfalso; omega)
      try simp only [Act.put, List.setIfInBounds_toArray, List.set_cons_zero, List.set_cons_succ]
      refine wpAnyH_ready (rs := [11]) (by kernel_rfl) (by simp) ?_
      refine AllReadyH.cons rfl (fun K hK => ?_) AllReadyH.nil
      go_simp
      refine hK.out _ _ (box6 SY2.out.box).1.2.2.2.2.2 (fun hSw => ?_)
      clear hK K
      try simp only [Act.put, List.setIfInBounds_toArray, List.set_cons_zero, List.set_cons_succ]
      refine wpAnyH_take (i := 12) (v := .pointer (some ⟨g, v1, none⟩)) rfl (by kernel_rfl) (by kernel_rfl) (by kernel_rfl) (fun _ _ _ h => h) (Or.inl ⟨by rfl, ?_⟩) (by assumption) ?_
      · intro w' _
        go_simp
        try (intro hbad; exfalso; omega)
      try simp only [Act.put, List.setIfInBounds_toArray, List.set_cons_zero, List.set_cons_succ]
      refine wpAnyH_ready (rs := [13]) (by kernel_rfl) (by simp) ?_
      refine AllReadyH.cons rfl (fun K hK => ?_) AllReadyH.nil
      obtain ⟨⟨xo, cg⟩, cf⟩ := own_cell SY2.out.o5 hv1
      go_simp
      refine hK.out _ _ ((box6 (SY2.out.put (j := v1) (x := z)).box).1.2.2.2.2.2) (fun hSw => ?_)
      clear hK K
      try simp only [Act.put, List.setIfInBounds_toArray, List.set_cons_zero, List.set_cons_succ]
      refine wpAnyH_done (by kernel_rfl) ?_ _
      go_upto_region 21 with fail
      obtain ⟨Wf, hWf⟩ : ∃ Wf, Wf = wy2.setCell ⟨g, v1, none⟩ (.int .i64 z) := ⟨_, rfl⟩
      have HF : Hid (FX w Wf B X (p + 1 + 1 + 1) (k : Int) (d : Int) (wd : Int) (hi : Int) x cn cx cs (some ⟨g, 0, none⟩) pn cy (ps.set v1 z)) := by
        show FX _ _ _ _ _ _ _ _ _ _ _ _ _ _ _ _ _
        rw [hWf]; exact (SY2.out.put (j := v1) (x := z)).fx (by omega) (by omega) (by omega)
      rw [← hWf]
      clear hWf
      try clear HF0
      try clear z0 z1 z2 z3 z4 z5 y0 y1 y2 y3 y4 y5
      obtain ⟨⟨z0, z1, z2, z3, z4, z5⟩, y0, y1, y2, y3, y4, y5⟩ := box6 HF.out.box
      have hres := HF.out.res
      have hI6 : (Tryz.prog.info? 25).map (·.size) = some (#[.int .i64 (k : Int), .int .i64 (d : Int), .int .i64 (wd : Int), .int .i64 (hi : Int), .slice x cn cx, .slice (some ⟨g, 0, none⟩) pn cy] : Array Value).size := by kernel_rfl
      have h16 : (#[.int .i64 (k : Int), .int .i64 (d : Int), .int .i64 (wd : Int), .int .i64 (hi : Int), .slice x cn cx, .slice (some ⟨g, 0, none⟩) pn cy] : Array Value).all (·.oneCell') = true := by simp [Value.oneCell']
      go_wp2_with (refine wpList_store_row rfl 25 (.tmp 4) (.tmp 87) rfl (w.heap.size + 1) #[.int .i64 (k : Int), .int .i64 (d : Int), .int .i64 (wd : Int), .int .i64 (hi : Int), .slice x cn cx, .slice (some ⟨g, 0, none⟩) pn cy] rfl rfl 25 #[.int .i64 0, .int .i64 0, .int .i64 0, .int .i64 0, .slice none 0 0, .slice none 0 0] hres hI6 rfl h16 ?_)
      have hs2 := setRow_heap Wf (w.heap.size + 1) _ #[.int .i64 (k : Int), .int .i64 (d : Int), .int .i64 (wd : Int), .int .i64 (hi : Int), .slice x cn cx, .slice (some ⟨g, 0, none⟩) pn cy] _ _ hres
      exact bodyPost_ret_by (results_cell_row (p := 4) (ty := 25) (by kernel_rfl) _ _ (w.heap.size + 1) 25 _ (0, 0) _ rfl hs2 Tryz.underlying25 rfl (by kernel_rfl)) rfl (HF.out.out (by omega))
  · go_wp2_with fail
    refine wp_region_held_drew (S := fun _ => True) (by kernel_rfl) trivial (fun _ => ?_)
    have SD : Hid (SX w w2.drew B X (p + 1) (k : Int) (d : Int) (wd : Int) (hi : Int) (.slice x cn cx) cn cs (.slice y pn cy) pn ps) := HS.out.drew
    generalize w2.drew = wd0 at *
    refine wpAnyH_take (i := 0) (v := .pointer (some ⟨X, 4, none⟩)) rfl (by kernel_rfl) (by kernel_rfl) (by kernel_rfl) (fun _ _ _ h => h) (Or.inl ⟨by rfl, ?_⟩) trivial ?_
    · intro w' _
      go_simp
    try simp only [Act.put, List.setIfInBounds_toArray, List.set_cons_zero, List.set_cons_succ]
    refine wpAnyH_take (i := 3) (v := .pointer (some ⟨B, 0, none⟩)) rfl (by kernel_rfl) (by kernel_rfl) (by kernel_rfl) (fun _ _ _ h => h) (Or.inl ⟨by rfl, ?_⟩) trivial ?_
    · intro w' _
      go_simp
    try simp only [Act.put, List.setIfInBounds_toArray, List.set_cons_zero, List.set_cons_succ]
    refine wpAnyH_ready (rs := [1, 2, 4]) (by kernel_rfl) (by simp) ?_
    refine AllReadyH.cons rfl (fun K hK => ?_) (AllReadyH.cons rfl (fun K hK => ?_) (AllReadyH.cons rfl (fun K hK => ?_) AllReadyH.nil))
    · have cl := (box6 SD.out.box).1.2.2.2.2.1
      go_simp
      refine hK.out _ _ trivial (fun _ => ?_)
      clear hK K
      try simp only [Act.put, List.setIfInBounds_toArray, List.set_cons_zero, List.set_cons_succ]
      clear cl
      refine wpAnyH_ready (rs := [2, 4]) (by kernel_rfl) (by simp) ?_
      refine AllReadyH.cons rfl (fun K hK => ?_) (AllReadyH.cons rfl (fun K hK => ?_) AllReadyH.nil)
      · have SB : Hid (SX w (wd0.alloc (.cells #[.int .i64 (-1), .int .i64 16777216, .int .i64 5] 3)) B X (p + 1) (k : Int) (d : Int) (wd : Int) (hi : Int) (.slice x cn cx) cn cs (.slice y pn cy) pn ps) := SD.out.alloc _
        have HT : Hid ((wd0.alloc (.cells #[.int .i64 (-1), .int .i64 16777216, .int .i64 5] 3)).heap[wd0.heap.size]? = some (.cells #[.int .i64 (-1), .int .i64 16777216, .int .i64 5] 3 (0, 0))) := heap_alloc_new _ _
        have HB : Hid (w.heap.size ≤ wd0.heap.size) := SD.out.only.below.size
        go_simp
        refine hK.out _ _ trivial (fun _ => ?_)
        clear hK K
        try simp only [Act.put, List.setIfInBounds_toArray, List.set_cons_zero, List.set_cons_succ]
        generalize wd0.alloc (.cells #[.int .i64 (-1), .int .i64 16777216, .int .i64 5] 3) = wb at *
        refine wpAnyH_ready (rs := [4]) (by kernel_rfl) (by simp) ?_
        refine AllReadyH.cons rfl (fun K hK => ?_) AllReadyH.nil
        go_simp
        refine (pick_named B (p + 1) _ _ SB.out.rd (by omega) (by omega) (by omega)).mono ?_
        rintro e wy ⟨v, rfl, hv0, hRy, hOy, hsy⟩
        have hv : v < 3 := by omega
        have SY : Hid (SX w wy B X (p + 1 + 1) (k : Int) (d : Int) (wd : Int) (hi : Int) (.slice x cn cx) cn cs (.slice y pn cy) pn ps) := SB.out.pick hRy hOy
        have HT : Hid (wy.heap[wd0.heap.size]? = some (.cells #[.int .i64 (-1), .int .i64 16777216, .int .i64 5] 3 (0, 0))) := (hOy.rest _ (lt_of_block HT.out) (by have := SB.out.lt; have := HB.out; omega)).trans HT.out
        clear hRy hOy hsy hv0
        go_wp2_with fail
        refine hK.out _ _ trivial (fun _ => ?_)
        clear hK K
        try simp only [Act.put, List.setIfInBounds_toArray, List.set_cons_zero, List.set_cons_succ]
        obtain ⟨z, hz, hzb⟩ := tab3 (-1) 16777216 5 v hv
        have ct := tab_cell HT.out hz
        refine wpAnyH_take (i := 5) (v := .pointer (some ⟨wd0.heap.size, v, none⟩)) rfl (by kernel_rfl) (by kernel_rfl) (by kernel_rfl) (fun _ _ _ h => h) (Or.inl ⟨by rfl, ?_⟩) trivial ?_
        · intro w' _
          go_simp
          try (intro hbad; exfalso; omega)
        try simp only [Act.put, List.setIfInBounds_toArray, List.set_cons_zero, List.set_cons_succ]
        refine wpAnyH_ready (rs := [6]) (by kernel_rfl) (by simp) ?_
        refine AllReadyH.cons rfl (fun K hK => ?_) AllReadyH.nil
        go_simp
        refine hK.out _ _ trivial (fun _ => ?_)
        clear hK K
        try simp only [Act.put, List.setIfInBounds_toArray, List.set_cons_zero, List.set_cons_succ]
        refine wpAnyH_ready (rs := [7]) (by kernel_rfl) (by simp) ?_
        refine AllReadyH.cons rfl (fun K hK => ?_) AllReadyH.nil
        have SZ : Hid (SX w (wy.alloc (.cells #[.int .i64 z] 3)) B X (p + 1 + 1) (k : Int) (d : Int) (wd : Int) (hi : Int) (.slice x cn cx) cn cs (.slice y pn cy) pn ps) := SY.out.alloc _
        go_simp
        refine hK.out _ _ trivial (fun _ => ?_)
        clear hK K
        try simp only [Act.put, List.setIfInBounds_toArray, List.set_cons_zero, List.set_cons_succ]
        refine wpAnyH_ready (rs := [8]) (by kernel_rfl) (by simp) ?_
        refine AllReadyH.cons rfl (fun K hK => ?_) AllReadyH.nil
        refine step_app1 wy (by rfl) _ _ (by rfl) (w.heap.size + 2) (.slice x cn cx) cn cs z (by rfl) SY.out.o4 (by rfl) (by omega) (by have := lt_of_block SY.out.box; have := SY.out.hX; omega) ?_
        intro g cap w4 hown4 hgrow
        simp only [List.getElem_toArray, List.getElem_cons_succ, List.getElem_cons_zero, Act.put, List.setIfInBounds_toArray, List.set_cons_zero, List.set_cons_succ]
        obtain ⟨hb4, hS4⟩ := SY.out.more hown4 hgrow
        have HS4 : Hid (SX _ _ _ _ _ _ _ _ _ _ _ _ _ _ _) := hS4
        clear hown4 hgrow hS4
        obtain ⟨⟨z0, z1, z2, z3, z4, z5⟩, y0, y1, y2, y3, y4, y5⟩ := box6 hb4
        clear hb4
        refine hK.out _ _ trivial (fun _ => ?_)
        clear hK K
        try simp only [Act.put, List.setIfInBounds_toArray, List.set_cons_zero, List.set_cons_succ]
        refine wpAnyH_take (i := 9) (v := .pointer (some ⟨X, 4, none⟩)) rfl (by kernel_rfl) (by kernel_rfl) (by kernel_rfl) (fun _ _ _ h => h) (Or.inl ⟨by rfl, ?_⟩) trivial ?_
        · intro w' _
          go_simp
        try simp only [Act.put, List.setIfInBounds_toArray, List.set_cons_zero, List.set_cons_succ]
        refine wpAnyH_ready (rs := [10]) (by kernel_rfl) (by simp) ?_
        refine AllReadyH.cons rfl (fun K hK => ?_) AllReadyH.nil
        go_simp
        refine hK.out _ _ trivial (fun _ => ?_)
        clear hK K
        try simp only [Act.put, List.setIfInBounds_toArray, List.set_cons_zero, List.set_cons_succ]
        refine wpAnyH_done (by kernel_rfl) ?_ _
        go_upto_region 21 with fail
        obtain ⟨Wf, hWf⟩ : ∃ Wf, Wf = w4.setCell ⟨X, 4, none⟩ (.slice (some ⟨g, 0, none⟩) (cn + 1) cap) := ⟨_, rfl⟩
        have HF : Hid (FX w Wf B X (p + 1 + 1) (k : Int) (d : Int) (wd : Int) (hi : Int) (some ⟨g, 0, none⟩) (cn + 1) cap (cs ++ [z]) y pn cy ps) := by
          show FX _ _ _ _ _ _ _ _ _ _ _ _ _ _ _ _ _
          rw [hWf]; exact HS4.out.fx (by omega) (by omega) (by omega)
        rw [← hWf]
        clear hWf
        try clear HF0
        try clear z0 z1 z2 z3 z4 z5 y0 y1 y2 y3 y4 y5
        obtain ⟨⟨z0, z1, z2, z3, z4, z5⟩, y0, y1, y2, y3, y4, y5⟩ := box6 HF.out.box
        have hres := HF.out.res
        have hI6 : (Tryz.prog.info? 25).map (·.size) = some (#[.int .i64 (k : Int), .int .i64 (d : Int), .int .i64 (wd : Int), .int .i64 (hi : Int), .slice (some ⟨g, 0, none⟩) (cn + 1) cap, .slice y pn cy] : Array Value).size := by kernel_rfl
        have h16 : (#[.int .i64 (k : Int), .int .i64 (d : Int), .int .i64 (wd : Int), .int .i64 (hi : Int), .slice (some ⟨g, 0, none⟩) (cn + 1) cap, .slice y pn cy] : Array Value).all (·.oneCell') = true := by simp [Value.oneCell']
        go_wp2_with (refine wpList_store_row rfl 25 (.tmp 4) (.tmp 87) rfl (w.heap.size + 1) #[.int .i64 (k : Int), .int .i64 (d : Int), .int .i64 (wd : Int), .int .i64 (hi : Int), .slice (some ⟨g, 0, none⟩) (cn + 1) cap, .slice y pn cy] rfl rfl 25 #[.int .i64 0, .int .i64 0, .int .i64 0, .int .i64 0, .slice none 0 0, .slice none 0 0] hres hI6 rfl h16 ?_)
        have hs2 := setRow_heap Wf (w.heap.size + 1) _ #[.int .i64 (k : Int), .int .i64 (d : Int), .int .i64 (wd : Int), .int .i64 (hi : Int), .slice (some ⟨g, 0, none⟩) (cn + 1) cap, .slice y pn cy] _ _ hres
        exact bodyPost_ret_by (results_cell_row (p := 4) (ty := 25) (by kernel_rfl) _ _ (w.heap.size + 1) 25 _ (0, 0) _ rfl hs2 Tryz.underlying25 rfl (by kernel_rfl)) rfl (HF.out.out (by omega))
      · go_simp
        refine (pick_named B (p + 1) _ _ SD.out.rd (by omega) (by omega) (by omega)).mono ?_
        rintro e wy ⟨v, rfl, hv0, hRy, hOy, hsy⟩
        have hv : v < 3 := by omega
        have SY : Hid (SX w wy B X (p + 1 + 1) (k : Int) (d : Int) (wd : Int) (hi : Int) (.slice x cn cx) cn cs (.slice y pn cy) pn ps) := SD.out.pick hRy hOy
        clear hRy hOy hsy hv0
        go_wp2_with fail
        refine hK.out _ _ trivial (fun _ => ?_)
        clear hK K
        try simp only [Act.put, List.setIfInBounds_toArray, List.set_cons_zero, List.set_cons_succ]
        refine wpAnyH_ready (rs := [2]) (by kernel_rfl) (by simp) ?_
        refine AllReadyH.cons rfl (fun K hK => ?_) AllReadyH.nil
        have SB : Hid (SX w (wy.alloc (.cells #[.int .i64 (-1), .int .i64 16777216, .int .i64 5] 3)) B X (p + 1 + 1) (k : Int) (d : Int) (wd : Int) (hi : Int) (.slice x cn cx) cn cs (.slice y pn cy) pn ps) := SY.out.alloc _
        have HT : Hid ((wy.alloc (.cells #[.int .i64 (-1), .int .i64 16777216, .int .i64 5] 3)).heap[wy.heap.size]? = some (.cells #[.int .i64 (-1), .int .i64 16777216, .int .i64 5] 3 (0, 0))) := heap_alloc_new _ _
        have HB : Hid (w.heap.size ≤ wy.heap.size) := SY.out.only.below.size
        go_simp
        refine hK.out _ _ trivial (fun _ => ?_)
        clear hK K
        try simp only [Act.put, List.setIfInBounds_toArray, List.set_cons_zero, List.set_cons_succ]
        generalize wy.alloc (.cells #[.int .i64 (-1), .int .i64 16777216, .int .i64 5] 3) = wb at *
        obtain ⟨z, hz, hzb⟩ := tab3 (-1) 16777216 5 v hv
        have ct := tab_cell HT.out hz
        refine wpAnyH_take (i := 5) (v := .pointer (some ⟨wy.heap.size, v, none⟩)) rfl (by kernel_rfl) (by kernel_rfl) (by kernel_rfl) (fun _ _ _ h => h) (Or.inl ⟨by rfl, ?_⟩) trivial ?_
        · intro w' _
          go_simp
          try (intro hbad; exfalso; omega)
        try simp only [Act.put, List.setIfInBounds_toArray, List.set_cons_zero, List.set_cons_succ]
        refine wpAnyH_ready (rs := [6]) (by kernel_rfl) (by simp) ?_
        refine AllReadyH.cons rfl (fun K hK => ?_) AllReadyH.nil
        go_simp
        refine hK.out _ _ trivial (fun _ => ?_)
        clear hK K
        try simp only [Act.put, List.setIfInBounds_toArray, List.set_cons_zero, List.set_cons_succ]
        refine wpAnyH_ready (rs := [7]) (by kernel_rfl) (by simp) ?_
        refine AllReadyH.cons rfl (fun K hK => ?_) AllReadyH.nil
        have SZ : Hid (SX w (wb.alloc (.cells #[.int .i64 z] 3)) B X (p + 1 + 1) (k : Int) (d : Int) (wd : Int) (hi : Int) (.slice x cn cx) cn cs (.slice y pn cy) pn ps) := SB.out.alloc _
        go_simp
        refine hK.out _ _ trivial (fun _ => ?_)
        clear hK K
        try simp only [Act.put, List.setIfInBounds_toArray, List.set_cons_zero, List.set_cons_succ]
        refine wpAnyH_ready (rs := [8]) (by kernel_rfl) (by simp) ?_
        refine AllReadyH.cons rfl (fun K hK => ?_) AllReadyH.nil
        refine step_app1 wb (by rfl) _ _ (by rfl) (w.heap.size + 2) (.slice x cn cx) cn cs z (by rfl) SB.out.o4 (by rfl) (by omega) (by have := lt_of_block SB.out.box; have := SB.out.hX; omega) ?_
        intro g cap w4 hown4 hgrow
        simp only [List.getElem_toArray, List.getElem_cons_succ, List.getElem_cons_zero, Act.put, List.setIfInBounds_toArray, List.set_cons_zero, List.set_cons_succ]
        obtain ⟨hb4, hS4⟩ := SB.out.more hown4 hgrow
        have HS4 : Hid (SX _ _ _ _ _ _ _ _ _ _ _ _ _ _ _) := hS4
        clear hown4 hgrow hS4
        obtain ⟨⟨z0, z1, z2, z3, z4, z5⟩, y0, y1, y2, y3, y4, y5⟩ := box6 hb4
        clear hb4
        refine hK.out _ _ trivial (fun _ => ?_)
        clear hK K
        try simp only [Act.put, List.setIfInBounds_toArray, List.set_cons_zero, List.set_cons_succ]
        refine wpAnyH_take (i := 9) (v := .pointer (some ⟨X, 4, none⟩)) rfl (by kernel_rfl) (by kernel_rfl) (by kernel_rfl) (fun _ _ _ h => h) (Or.inl ⟨by rfl, ?_⟩) trivial ?_
        · intro w' _
          go_simp
        try simp only [Act.put, List.setIfInBounds_toArray, List.set_cons_zero, List.set_cons_succ]
        refine wpAnyH_ready (rs := [10]) (by kernel_rfl) (by simp) ?_
        refine AllReadyH.cons rfl (fun K hK => ?_) AllReadyH.nil
        go_simp
        refine hK.out _ _ trivial (fun _ => ?_)
        clear hK K
        try simp only [Act.put, List.setIfInBounds_toArray, List.set_cons_zero, List.set_cons_succ]
        refine wpAnyH_done (by kernel_rfl) ?_ _
        go_upto_region 21 with fail
        obtain ⟨Wf, hWf⟩ : ∃ Wf, Wf = w4.setCell ⟨X, 4, none⟩ (.slice (some ⟨g, 0, none⟩) (cn + 1) cap) := ⟨_, rfl⟩
        have HF : Hid (FX w Wf B X (p + 1 + 1) (k : Int) (d : Int) (wd : Int) (hi : Int) (some ⟨g, 0, none⟩) (cn + 1) cap (cs ++ [z]) y pn cy ps) := by
          show FX _ _ _ _ _ _ _ _ _ _ _ _ _ _ _ _ _
          rw [hWf]; exact HS4.out.fx (by omega) (by omega) (by omega)
        rw [← hWf]
        clear hWf
        try clear HF0
        try clear z0 z1 z2 z3 z4 z5 y0 y1 y2 y3 y4 y5
        obtain ⟨⟨z0, z1, z2, z3, z4, z5⟩, y0, y1, y2, y3, y4, y5⟩ := box6 HF.out.box
        have hres := HF.out.res
        have hI6 : (Tryz.prog.info? 25).map (·.size) = some (#[.int .i64 (k : Int), .int .i64 (d : Int), .int .i64 (wd : Int), .int .i64 (hi : Int), .slice (some ⟨g, 0, none⟩) (cn + 1) cap, .slice y pn cy] : Array Value).size := by kernel_rfl
        have h16 : (#[.int .i64 (k : Int), .int .i64 (d : Int), .int .i64 (wd : Int), .int .i64 (hi : Int), .slice (some ⟨g, 0, none⟩) (cn + 1) cap, .slice y pn cy] : Array Value).all (·.oneCell') = true := by simp [Value.oneCell']
        go_wp2_with (refine wpList_store_row rfl 25 (.tmp 4) (.tmp 87) rfl (w.heap.size + 1) #[.int .i64 (k : Int), .int .i64 (d : Int), .int .i64 (wd : Int), .int .i64 (hi : Int), .slice (some ⟨g, 0, none⟩) (cn + 1) cap, .slice y pn cy] rfl rfl 25 #[.int .i64 0, .int .i64 0, .int .i64 0, .int .i64 0, .slice none 0 0, .slice none 0 0] hres hI6 rfl h16 ?_)
        have hs2 := setRow_heap Wf (w.heap.size + 1) _ #[.int .i64 (k : Int), .int .i64 (d : Int), .int .i64 (wd : Int), .int .i64 (hi : Int), .slice (some ⟨g, 0, none⟩) (cn + 1) cap, .slice y pn cy] _ _ hres
        exact bodyPost_ret_by (results_cell_row (p := 4) (ty := 25) (by kernel_rfl) _ _ (w.heap.size + 1) 25 _ (0, 0) _ rfl hs2 Tryz.underlying25 rfl (by kernel_rfl)) rfl (HF.out.out (by omega))
    · have SB : Hid (SX w (wd0.alloc (.cells #[.int .i64 (-1), .int .i64 16777216, .int .i64 5] 3)) B X (p + 1) (k : Int) (d : Int) (wd : Int) (hi : Int) (.slice x cn cx) cn cs (.slice y pn cy) pn ps) := SD.out.alloc _
      have HT : Hid ((wd0.alloc (.cells #[.int .i64 (-1), .int .i64 16777216, .int .i64 5] 3)).heap[wd0.heap.size]? = some (.cells #[.int .i64 (-1), .int .i64 16777216, .int .i64 5] 3 (0, 0))) := heap_alloc_new _ _
      have HB : Hid (w.heap.size ≤ wd0.heap.size) := SD.out.only.below.size
      go_simp
      refine hK.out _ _ trivial (fun _ => ?_)
      clear hK K
      try simp only [Act.put, List.setIfInBounds_toArray, List.set_cons_zero, List.set_cons_succ]
      generalize wd0.alloc (.cells #[.int .i64 (-1), .int .i64 16777216, .int .i64 5] 3) = wb at *
      refine wpAnyH_ready (rs := [1, 4]) (by kernel_rfl) (by simp) ?_
      refine AllReadyH.cons rfl (fun K hK => ?_) (AllReadyH.cons rfl (fun K hK => ?_) AllReadyH.nil)
      · have cl := (box6 SB.out.box).1.2.2.2.2.1
        go_simp
        refine hK.out _ _ trivial (fun _ => ?_)
        clear hK K
        try simp only [Act.put, List.setIfInBounds_toArray, List.set_cons_zero, List.set_cons_succ]
        clear cl
        refine wpAnyH_ready (rs := [4]) (by kernel_rfl) (by simp) ?_
        refine AllReadyH.cons rfl (fun K hK => ?_) AllReadyH.nil
        go_simp
        refine (pick_named B (p + 1) _ _ SB.out.rd (by omega) (by omega) (by omega)).mono ?_
        rintro e wy ⟨v, rfl, hv0, hRy, hOy, hsy⟩
        have hv : v < 3 := by omega
        have SY : Hid (SX w wy B X (p + 1 + 1) (k : Int) (d : Int) (wd : Int) (hi : Int) (.slice x cn cx) cn cs (.slice y pn cy) pn ps) := SB.out.pick hRy hOy
        have HT : Hid (wy.heap[wd0.heap.size]? = some (.cells #[.int .i64 (-1), .int .i64 16777216, .int .i64 5] 3 (0, 0))) := (hOy.rest _ (lt_of_block HT.out) (by have := SB.out.lt; have := HB.out; omega)).trans HT.out
        clear hRy hOy hsy hv0
        go_wp2_with fail
        refine hK.out _ _ trivial (fun _ => ?_)
        clear hK K
        try simp only [Act.put, List.setIfInBounds_toArray, List.set_cons_zero, List.set_cons_succ]
        obtain ⟨z, hz, hzb⟩ := tab3 (-1) 16777216 5 v hv
        have ct := tab_cell HT.out hz
        refine wpAnyH_take (i := 5) (v := .pointer (some ⟨wd0.heap.size, v, none⟩)) rfl (by kernel_rfl) (by kernel_rfl) (by kernel_rfl) (fun _ _ _ h => h) (Or.inl ⟨by rfl, ?_⟩) trivial ?_
        · intro w' _
          go_simp
          try (intro hbad; exfalso; omega)
        try simp only [Act.put, List.setIfInBounds_toArray, List.set_cons_zero, List.set_cons_succ]
        refine wpAnyH_ready (rs := [6]) (by kernel_rfl) (by simp) ?_
        refine AllReadyH.cons rfl (fun K hK => ?_) AllReadyH.nil
        go_simp
        refine hK.out _ _ trivial (fun _ => ?_)
        clear hK K
        try simp only [Act.put, List.setIfInBounds_toArray, List.set_cons_zero, List.set_cons_succ]
        refine wpAnyH_ready (rs := [7]) (by kernel_rfl) (by simp) ?_
        refine AllReadyH.cons rfl (fun K hK => ?_) AllReadyH.nil
        have SZ : Hid (SX w (wy.alloc (.cells #[.int .i64 z] 3)) B X (p + 1 + 1) (k : Int) (d : Int) (wd : Int) (hi : Int) (.slice x cn cx) cn cs (.slice y pn cy) pn ps) := SY.out.alloc _
        go_simp
        refine hK.out _ _ trivial (fun _ => ?_)
        clear hK K
        try simp only [Act.put, List.setIfInBounds_toArray, List.set_cons_zero, List.set_cons_succ]
        refine wpAnyH_ready (rs := [8]) (by kernel_rfl) (by simp) ?_
        refine AllReadyH.cons rfl (fun K hK => ?_) AllReadyH.nil
        refine step_app1 wy (by rfl) _ _ (by rfl) (w.heap.size + 2) (.slice x cn cx) cn cs z (by rfl) SY.out.o4 (by rfl) (by omega) (by have := lt_of_block SY.out.box; have := SY.out.hX; omega) ?_
        intro g cap w4 hown4 hgrow
        simp only [List.getElem_toArray, List.getElem_cons_succ, List.getElem_cons_zero, Act.put, List.setIfInBounds_toArray, List.set_cons_zero, List.set_cons_succ]
        obtain ⟨hb4, hS4⟩ := SY.out.more hown4 hgrow
        have HS4 : Hid (SX _ _ _ _ _ _ _ _ _ _ _ _ _ _ _) := hS4
        clear hown4 hgrow hS4
        obtain ⟨⟨z0, z1, z2, z3, z4, z5⟩, y0, y1, y2, y3, y4, y5⟩ := box6 hb4
        clear hb4
        refine hK.out _ _ trivial (fun _ => ?_)
        clear hK K
        try simp only [Act.put, List.setIfInBounds_toArray, List.set_cons_zero, List.set_cons_succ]
        refine wpAnyH_take (i := 9) (v := .pointer (some ⟨X, 4, none⟩)) rfl (by kernel_rfl) (by kernel_rfl) (by kernel_rfl) (fun _ _ _ h => h) (Or.inl ⟨by rfl, ?_⟩) trivial ?_
        · intro w' _
          go_simp
        try simp only [Act.put, List.setIfInBounds_toArray, List.set_cons_zero, List.set_cons_succ]
        refine wpAnyH_ready (rs := [10]) (by kernel_rfl) (by simp) ?_
        refine AllReadyH.cons rfl (fun K hK => ?_) AllReadyH.nil
        go_simp
        refine hK.out _ _ trivial (fun _ => ?_)
        clear hK K
        try simp only [Act.put, List.setIfInBounds_toArray, List.set_cons_zero, List.set_cons_succ]
        refine wpAnyH_done (by kernel_rfl) ?_ _
        go_upto_region 21 with fail
        obtain ⟨Wf, hWf⟩ : ∃ Wf, Wf = w4.setCell ⟨X, 4, none⟩ (.slice (some ⟨g, 0, none⟩) (cn + 1) cap) := ⟨_, rfl⟩
        have HF : Hid (FX w Wf B X (p + 1 + 1) (k : Int) (d : Int) (wd : Int) (hi : Int) (some ⟨g, 0, none⟩) (cn + 1) cap (cs ++ [z]) y pn cy ps) := by
          show FX _ _ _ _ _ _ _ _ _ _ _ _ _ _ _ _ _
          rw [hWf]; exact HS4.out.fx (by omega) (by omega) (by omega)
        rw [← hWf]
        clear hWf
        try clear HF0
        try clear z0 z1 z2 z3 z4 z5 y0 y1 y2 y3 y4 y5
        obtain ⟨⟨z0, z1, z2, z3, z4, z5⟩, y0, y1, y2, y3, y4, y5⟩ := box6 HF.out.box
        have hres := HF.out.res
        have hI6 : (Tryz.prog.info? 25).map (·.size) = some (#[.int .i64 (k : Int), .int .i64 (d : Int), .int .i64 (wd : Int), .int .i64 (hi : Int), .slice (some ⟨g, 0, none⟩) (cn + 1) cap, .slice y pn cy] : Array Value).size := by kernel_rfl
        have h16 : (#[.int .i64 (k : Int), .int .i64 (d : Int), .int .i64 (wd : Int), .int .i64 (hi : Int), .slice (some ⟨g, 0, none⟩) (cn + 1) cap, .slice y pn cy] : Array Value).all (·.oneCell') = true := by simp [Value.oneCell']
        go_wp2_with (refine wpList_store_row rfl 25 (.tmp 4) (.tmp 87) rfl (w.heap.size + 1) #[.int .i64 (k : Int), .int .i64 (d : Int), .int .i64 (wd : Int), .int .i64 (hi : Int), .slice (some ⟨g, 0, none⟩) (cn + 1) cap, .slice y pn cy] rfl rfl 25 #[.int .i64 0, .int .i64 0, .int .i64 0, .int .i64 0, .slice none 0 0, .slice none 0 0] hres hI6 rfl h16 ?_)
        have hs2 := setRow_heap Wf (w.heap.size + 1) _ #[.int .i64 (k : Int), .int .i64 (d : Int), .int .i64 (wd : Int), .int .i64 (hi : Int), .slice (some ⟨g, 0, none⟩) (cn + 1) cap, .slice y pn cy] _ _ hres
        exact bodyPost_ret_by (results_cell_row (p := 4) (ty := 25) (by kernel_rfl) _ _ (w.heap.size + 1) 25 _ (0, 0) _ rfl hs2 Tryz.underlying25 rfl (by kernel_rfl)) rfl (HF.out.out (by omega))
      · go_simp
        refine (pick_named B (p + 1) _ _ SB.out.rd (by omega) (by omega) (by omega)).mono ?_
        rintro e wy ⟨v, rfl, hv0, hRy, hOy, hsy⟩
        have hv : v < 3 := by omega
        have SY : Hid (SX w wy B X (p + 1 + 1) (k : Int) (d : Int) (wd : Int) (hi : Int) (.slice x cn cx) cn cs (.slice y pn cy) pn ps) := SB.out.pick hRy hOy
        have HT : Hid (wy.heap[wd0.heap.size]? = some (.cells #[.int .i64 (-1), .int .i64 16777216, .int .i64 5] 3 (0, 0))) := (hOy.rest _ (lt_of_block HT.out) (by have := SB.out.lt; have := HB.out; omega)).trans HT.out
        clear hRy hOy hsy hv0
        go_wp2_with fail
        refine hK.out _ _ trivial (fun _ => ?_)
        clear hK K
        try simp only [Act.put, List.setIfInBounds_toArray, List.set_cons_zero, List.set_cons_succ]
        obtain ⟨z, hz, hzb⟩ := tab3 (-1) 16777216 5 v hv
        have ct := tab_cell HT.out hz
        refine wpAnyH_take (i := 5) (v := .pointer (some ⟨wd0.heap.size, v, none⟩)) rfl (by kernel_rfl) (by kernel_rfl) (by kernel_rfl) (fun _ _ _ h => h) (Or.inl ⟨by rfl, ?_⟩) trivial ?_
        · intro w' _
          go_simp
          try (intro hbad; exfalso; omega)
        try simp only [Act.put, List.setIfInBounds_toArray, List.set_cons_zero, List.set_cons_succ]
        refine wpAnyH_ready (rs := [1, 6]) (by kernel_rfl) (by simp) ?_
        refine AllReadyH.cons rfl (fun K hK => ?_) (AllReadyH.cons rfl (fun K hK => ?_) AllReadyH.nil)
        · have cl := (box6 SY.out.box).1.2.2.2.2.1
          go_simp
          refine hK.out _ _ trivial (fun _ => ?_)
          clear hK K
          try simp only [Act.put, List.setIfInBounds_toArray, List.set_cons_zero, List.set_cons_succ]
          clear cl
          refine wpAnyH_ready (rs := [6]) (by kernel_rfl) (by simp) ?_
          refine AllReadyH.cons rfl (fun K hK => ?_) AllReadyH.nil
          go_simp
          refine hK.out _ _ trivial (fun _ => ?_)
          clear hK K
          try simp only [Act.put, List.setIfInBounds_toArray, List.set_cons_zero, List.set_cons_succ]
          refine wpAnyH_ready (rs := [7]) (by kernel_rfl) (by simp) ?_
          refine AllReadyH.cons rfl (fun K hK => ?_) AllReadyH.nil
          have SZ : Hid (SX w (wy.alloc (.cells #[.int .i64 z] 3)) B X (p + 1 + 1) (k : Int) (d : Int) (wd : Int) (hi : Int) (.slice x cn cx) cn cs (.slice y pn cy) pn ps) := SY.out.alloc _
          go_simp
          refine hK.out _ _ trivial (fun _ => ?_)
          clear hK K
          try simp only [Act.put, List.setIfInBounds_toArray, List.set_cons_zero, List.set_cons_succ]
          refine wpAnyH_ready (rs := [8]) (by kernel_rfl) (by simp) ?_
          refine AllReadyH.cons rfl (fun K hK => ?_) AllReadyH.nil
          refine step_app1 wy (by rfl) _ _ (by rfl) (w.heap.size + 2) (.slice x cn cx) cn cs z (by rfl) SY.out.o4 (by rfl) (by omega) (by have := lt_of_block SY.out.box; have := SY.out.hX; omega) ?_
          intro g cap w4 hown4 hgrow
          simp only [List.getElem_toArray, List.getElem_cons_succ, List.getElem_cons_zero, Act.put, List.setIfInBounds_toArray, List.set_cons_zero, List.set_cons_succ]
          obtain ⟨hb4, hS4⟩ := SY.out.more hown4 hgrow
          have HS4 : Hid (SX _ _ _ _ _ _ _ _ _ _ _ _ _ _ _) := hS4
          clear hown4 hgrow hS4
          obtain ⟨⟨z0, z1, z2, z3, z4, z5⟩, y0, y1, y2, y3, y4, y5⟩ := box6 hb4
          clear hb4
          refine hK.out _ _ trivial (fun _ => ?_)
          clear hK K
          try simp only [Act.put, List.setIfInBounds_toArray, List.set_cons_zero, List.set_cons_succ]
          refine wpAnyH_take (i := 9) (v := .pointer (some ⟨X, 4, none⟩)) rfl (by kernel_rfl) (by kernel_rfl) (by kernel_rfl) (fun _ _ _ h => h) (Or.inl ⟨by rfl, ?_⟩) trivial ?_
          · intro w' _
            go_simp
          try simp only [Act.put, List.setIfInBounds_toArray, List.set_cons_zero, List.set_cons_succ]
          refine wpAnyH_ready (rs := [10]) (by kernel_rfl) (by simp) ?_
          refine AllReadyH.cons rfl (fun K hK => ?_) AllReadyH.nil
          go_simp
          refine hK.out _ _ trivial (fun _ => ?_)
          clear hK K
          try simp only [Act.put, List.setIfInBounds_toArray, List.set_cons_zero, List.set_cons_succ]
          refine wpAnyH_done (by kernel_rfl) ?_ _
          go_upto_region 21 with fail
          obtain ⟨Wf, hWf⟩ : ∃ Wf, Wf = w4.setCell ⟨X, 4, none⟩ (.slice (some ⟨g, 0, none⟩) (cn + 1) cap) := ⟨_, rfl⟩
          have HF : Hid (FX w Wf B X (p + 1 + 1) (k : Int) (d : Int) (wd : Int) (hi : Int) (some ⟨g, 0, none⟩) (cn + 1) cap (cs ++ [z]) y pn cy ps) := by
            show FX _ _ _ _ _ _ _ _ _ _ _ _ _ _ _ _ _
            rw [hWf]; exact HS4.out.fx (by omega) (by omega) (by omega)
          rw [← hWf]
          clear hWf
          try clear HF0
          try clear z0 z1 z2 z3 z4 z5 y0 y1 y2 y3 y4 y5
          obtain ⟨⟨z0, z1, z2, z3, z4, z5⟩, y0, y1, y2, y3, y4, y5⟩ := box6 HF.out.box
          have hres := HF.out.res
          have hI6 : (Tryz.prog.info? 25).map (·.size) = some (#[.int .i64 (k : Int), .int .i64 (d : Int), .int .i64 (wd : Int), .int .i64 (hi : Int), .slice (some ⟨g, 0, none⟩) (cn + 1) cap, .slice y pn cy] : Array Value).size := by kernel_rfl
          have h16 : (#[.int .i64 (k : Int), .int .i64 (d : Int), .int .i64 (wd : Int), .int .i64 (hi : Int), .slice (some ⟨g, 0, none⟩) (cn + 1) cap, .slice y pn cy] : Array Value).all (·.oneCell') = true := by simp [Value.oneCell']
          go_wp2_with (refine wpList_store_row rfl 25 (.tmp 4) (.tmp 87) rfl (w.heap.size + 1) #[.int .i64 (k : Int), .int .i64 (d : Int), .int .i64 (wd : Int), .int .i64 (hi : Int), .slice (some ⟨g, 0, none⟩) (cn + 1) cap, .slice y pn cy] rfl rfl 25 #[.int .i64 0, .int .i64 0, .int .i64 0, .int .i64 0, .slice none 0 0, .slice none 0 0] hres hI6 rfl h16 ?_)
          have hs2 := setRow_heap Wf (w.heap.size + 1) _ #[.int .i64 (k : Int), .int .i64 (d : Int), .int .i64 (wd : Int), .int .i64 (hi : Int), .slice (some ⟨g, 0, none⟩) (cn + 1) cap, .slice y pn cy] _ _ hres
          exact bodyPost_ret_by (results_cell_row (p := 4) (ty := 25) (by kernel_rfl) _ _ (w.heap.size + 1) 25 _ (0, 0) _ rfl hs2 Tryz.underlying25 rfl (by kernel_rfl)) rfl (HF.out.out (by omega))
        · go_simp
          refine hK.out _ _ trivial (fun _ => ?_)
          clear hK K
          try simp only [Act.put, List.setIfInBounds_toArray, List.set_cons_zero, List.set_cons_succ]
          refine wpAnyH_ready (rs := [1, 7]) (by kernel_rfl) (by simp) ?_
          refine AllReadyH.cons rfl (fun K hK => ?_) (AllReadyH.cons rfl (fun K hK => ?_) AllReadyH.nil)
          · have cl := (box6 SY.out.box).1.2.2.2.2.1
            go_simp
            refine hK.out _ _ trivial (fun _ => ?_)
            clear hK K
            try simp only [Act.put, List.setIfInBounds_toArray, List.set_cons_zero, List.set_cons_succ]
            clear cl
            refine wpAnyH_ready (rs := [7]) (by kernel_rfl) (by simp) ?_
            refine AllReadyH.cons rfl (fun K hK => ?_) AllReadyH.nil
            have SZ : Hid (SX w (wy.alloc (.cells #[.int .i64 z] 3)) B X (p + 1 + 1) (k : Int) (d : Int) (wd : Int) (hi : Int) (.slice x cn cx) cn cs (.slice y pn cy) pn ps) := SY.out.alloc _
            go_simp
            refine hK.out _ _ trivial (fun _ => ?_)
            clear hK K
            try simp only [Act.put, List.setIfInBounds_toArray, List.set_cons_zero, List.set_cons_succ]
            refine wpAnyH_ready (rs := [8]) (by kernel_rfl) (by simp) ?_
            refine AllReadyH.cons rfl (fun K hK => ?_) AllReadyH.nil
            refine step_app1 wy (by rfl) _ _ (by rfl) (w.heap.size + 2) (.slice x cn cx) cn cs z (by rfl) SY.out.o4 (by rfl) (by omega) (by have := lt_of_block SY.out.box; have := SY.out.hX; omega) ?_
            intro g cap w4 hown4 hgrow
            simp only [List.getElem_toArray, List.getElem_cons_succ, List.getElem_cons_zero, Act.put, List.setIfInBounds_toArray, List.set_cons_zero, List.set_cons_succ]
            obtain ⟨hb4, hS4⟩ := SY.out.more hown4 hgrow
            have HS4 : Hid (SX _ _ _ _ _ _ _ _ _ _ _ _ _ _ _) := hS4
            clear hown4 hgrow hS4
            obtain ⟨⟨z0, z1, z2, z3, z4, z5⟩, y0, y1, y2, y3, y4, y5⟩ := box6 hb4
            clear hb4
            refine hK.out _ _ trivial (fun _ => ?_)
            clear hK K
            try simp only [Act.put, List.setIfInBounds_toArray, List.set_cons_zero, List.set_cons_succ]
            refine wpAnyH_take (i := 9) (v := .pointer (some ⟨X, 4, none⟩)) rfl (by kernel_rfl) (by kernel_rfl) (by kernel_rfl) (fun _ _ _ h => h) (Or.inl ⟨by rfl, ?_⟩) trivial ?_
            · intro w' _
              go_simp
            try simp only [Act.put, List.setIfInBounds_toArray, List.set_cons_zero, List.set_cons_succ]
            refine wpAnyH_ready (rs := [10]) (by kernel_rfl) (by simp) ?_
            refine AllReadyH.cons rfl (fun K hK => ?_) AllReadyH.nil
            go_simp
            refine hK.out _ _ trivial (fun _ => ?_)
            clear hK K
            try simp only [Act.put, List.setIfInBounds_toArray, List.set_cons_zero, List.set_cons_succ]
            refine wpAnyH_done (by kernel_rfl) ?_ _
            go_upto_region 21 with fail
            obtain ⟨Wf, hWf⟩ : ∃ Wf, Wf = w4.setCell ⟨X, 4, none⟩ (.slice (some ⟨g, 0, none⟩) (cn + 1) cap) := ⟨_, rfl⟩
            have HF : Hid (FX w Wf B X (p + 1 + 1) (k : Int) (d : Int) (wd : Int) (hi : Int) (some ⟨g, 0, none⟩) (cn + 1) cap (cs ++ [z]) y pn cy ps) := by
              show FX _ _ _ _ _ _ _ _ _ _ _ _ _ _ _ _ _
              rw [hWf]; exact HS4.out.fx (by omega) (by omega) (by omega)
            rw [← hWf]
            clear hWf
            try clear HF0
            try clear z0 z1 z2 z3 z4 z5 y0 y1 y2 y3 y4 y5
            obtain ⟨⟨z0, z1, z2, z3, z4, z5⟩, y0, y1, y2, y3, y4, y5⟩ := box6 HF.out.box
            have hres := HF.out.res
            have hI6 : (Tryz.prog.info? 25).map (·.size) = some (#[.int .i64 (k : Int), .int .i64 (d : Int), .int .i64 (wd : Int), .int .i64 (hi : Int), .slice (some ⟨g, 0, none⟩) (cn + 1) cap, .slice y pn cy] : Array Value).size := by kernel_rfl
            have h16 : (#[.int .i64 (k : Int), .int .i64 (d : Int), .int .i64 (wd : Int), .int .i64 (hi : Int), .slice (some ⟨g, 0, none⟩) (cn + 1) cap, .slice y pn cy] : Array Value).all (·.oneCell') = true := by simp [Value.oneCell']
            go_wp2_with (refine wpList_store_row rfl 25 (.tmp 4) (.tmp 87) rfl (w.heap.size + 1) #[.int .i64 (k : Int), .int .i64 (d : Int), .int .i64 (wd : Int), .int .i64 (hi : Int), .slice (some ⟨g, 0, none⟩) (cn + 1) cap, .slice y pn cy] rfl rfl 25 #[.int .i64 0, .int .i64 0, .int .i64 0, .int .i64 0, .slice none 0 0, .slice none 0 0] hres hI6 rfl h16 ?_)
            have hs2 := setRow_heap Wf (w.heap.size + 1) _ #[.int .i64 (k : Int), .int .i64 (d : Int), .int .i64 (wd : Int), .int .i64 (hi : Int), .slice (some ⟨g, 0, none⟩) (cn + 1) cap, .slice y pn cy] _ _ hres
            exact bodyPost_ret_by (results_cell_row (p := 4) (ty := 25) (by kernel_rfl) _ _ (w.heap.size + 1) 25 _ (0, 0) _ rfl hs2 Tryz.underlying25 rfl (by kernel_rfl)) rfl (HF.out.out (by omega))
          · have SZ : Hid (SX w (wy.alloc (.cells #[.int .i64 z] 3)) B X (p + 1 + 1) (k : Int) (d : Int) (wd : Int) (hi : Int) (.slice x cn cx) cn cs (.slice y pn cy) pn ps) := SY.out.alloc _
            go_simp
            refine hK.out _ _ trivial (fun _ => ?_)
            clear hK K
            try simp only [Act.put, List.setIfInBounds_toArray, List.set_cons_zero, List.set_cons_succ]
            refine wpAnyH_ready (rs := [1]) (by kernel_rfl) (by simp) ?_
            refine AllReadyH.cons rfl (fun K hK => ?_) AllReadyH.nil
            have cl := (box6 SZ.out.box).1.2.2.2.2.1
            go_simp
            refine hK.out _ _ trivial (fun _ => ?_)
            clear hK K
            try simp only [Act.put, List.setIfInBounds_toArray, List.set_cons_zero, List.set_cons_succ]
            clear cl
            refine wpAnyH_ready (rs := [8]) (by kernel_rfl) (by simp) ?_
            refine AllReadyH.cons rfl (fun K hK => ?_) AllReadyH.nil
            refine step_app1 wy (by rfl) _ _ (by rfl) (w.heap.size + 2) (.slice x cn cx) cn cs z (by rfl) SY.out.o4 (by rfl) (by omega) (by have := lt_of_block SY.out.box; have := SY.out.hX; omega) ?_
            intro g cap w4 hown4 hgrow
            simp only [List.getElem_toArray, List.getElem_cons_succ, List.getElem_cons_zero, Act.put, List.setIfInBounds_toArray, List.set_cons_zero, List.set_cons_succ]
            obtain ⟨hb4, hS4⟩ := SY.out.more hown4 hgrow
            have HS4 : Hid (SX _ _ _ _ _ _ _ _ _ _ _ _ _ _ _) := hS4
            clear hown4 hgrow hS4
            obtain ⟨⟨z0, z1, z2, z3, z4, z5⟩, y0, y1, y2, y3, y4, y5⟩ := box6 hb4
            clear hb4
            refine hK.out _ _ trivial (fun _ => ?_)
            clear hK K
            try simp only [Act.put, List.setIfInBounds_toArray, List.set_cons_zero, List.set_cons_succ]
            refine wpAnyH_take (i := 9) (v := .pointer (some ⟨X, 4, none⟩)) rfl (by kernel_rfl) (by kernel_rfl) (by kernel_rfl) (fun _ _ _ h => h) (Or.inl ⟨by rfl, ?_⟩) trivial ?_
            · intro w' _
              go_simp
            try simp only [Act.put, List.setIfInBounds_toArray, List.set_cons_zero, List.set_cons_succ]
            refine wpAnyH_ready (rs := [10]) (by kernel_rfl) (by simp) ?_
            refine AllReadyH.cons rfl (fun K hK => ?_) AllReadyH.nil
            go_simp
            refine hK.out _ _ trivial (fun _ => ?_)
            clear hK K
            try simp only [Act.put, List.setIfInBounds_toArray, List.set_cons_zero, List.set_cons_succ]
            refine wpAnyH_done (by kernel_rfl) ?_ _
            go_upto_region 21 with fail
            obtain ⟨Wf, hWf⟩ : ∃ Wf, Wf = w4.setCell ⟨X, 4, none⟩ (.slice (some ⟨g, 0, none⟩) (cn + 1) cap) := ⟨_, rfl⟩
            have HF : Hid (FX w Wf B X (p + 1 + 1) (k : Int) (d : Int) (wd : Int) (hi : Int) (some ⟨g, 0, none⟩) (cn + 1) cap (cs ++ [z]) y pn cy ps) := by
              show FX _ _ _ _ _ _ _ _ _ _ _ _ _ _ _ _ _
              rw [hWf]; exact HS4.out.fx (by omega) (by omega) (by omega)
            rw [← hWf]
            clear hWf
            try clear HF0
            try clear z0 z1 z2 z3 z4 z5 y0 y1 y2 y3 y4 y5
            obtain ⟨⟨z0, z1, z2, z3, z4, z5⟩, y0, y1, y2, y3, y4, y5⟩ := box6 HF.out.box
            have hres := HF.out.res
            have hI6 : (Tryz.prog.info? 25).map (·.size) = some (#[.int .i64 (k : Int), .int .i64 (d : Int), .int .i64 (wd : Int), .int .i64 (hi : Int), .slice (some ⟨g, 0, none⟩) (cn + 1) cap, .slice y pn cy] : Array Value).size := by kernel_rfl
            have h16 : (#[.int .i64 (k : Int), .int .i64 (d : Int), .int .i64 (wd : Int), .int .i64 (hi : Int), .slice (some ⟨g, 0, none⟩) (cn + 1) cap, .slice y pn cy] : Array Value).all (·.oneCell') = true := by simp [Value.oneCell']
            go_wp2_with (refine wpList_store_row rfl 25 (.tmp 4) (.tmp 87) rfl (w.heap.size + 1) #[.int .i64 (k : Int), .int .i64 (d : Int), .int .i64 (wd : Int), .int .i64 (hi : Int), .slice (some ⟨g, 0, none⟩) (cn + 1) cap, .slice y pn cy] rfl rfl 25 #[.int .i64 0, .int .i64 0, .int .i64 0, .int .i64 0, .slice none 0 0, .slice none 0 0] hres hI6 rfl h16 ?_)
            have hs2 := setRow_heap Wf (w.heap.size + 1) _ #[.int .i64 (k : Int), .int .i64 (d : Int), .int .i64 (wd : Int), .int .i64 (hi : Int), .slice (some ⟨g, 0, none⟩) (cn + 1) cap, .slice y pn cy] _ _ hres
            exact bodyPost_ret_by (results_cell_row (p := 4) (ty := 25) (by kernel_rfl) _ _ (w.heap.size + 1) 25 _ (0, 0) _ rfl hs2 Tryz.underlying25 rfl (by kernel_rfl)) rfl (HF.out.out (by omega))
    · go_simp
      refine (pick_named B (p + 1) _ _ SD.out.rd (by omega) (by omega) (by omega)).mono ?_
      rintro e wy ⟨v, rfl, hv0, hRy, hOy, hsy⟩
      have hv : v < 3 := by omega
      have SY : Hid (SX w wy B X (p + 1 + 1) (k : Int) (d : Int) (wd : Int) (hi : Int) (.slice x cn cx) cn cs (.slice y pn cy) pn ps) := SD.out.pick hRy hOy
      clear hRy hOy hsy hv0
      go_wp2_with fail
      refine hK.out _ _ trivial (fun _ => ?_)
      clear hK K
      try simp only [Act.put, List.setIfInBounds_toArray, List.set_cons_zero, List.set_cons_succ]
      refine wpAnyH_ready (rs := [1, 2]) (by kernel_rfl) (by simp) ?_
      refine AllReadyH.cons rfl (fun K hK => ?_) (AllReadyH.cons rfl (fun K hK => ?_) AllReadyH.nil)
      · have cl := (box6 SY.out.box).1.2.2.2.2.1
        go_simp
        refine hK.out _ _ trivial (fun _ => ?_)
        clear hK K
        try simp only [Act.put, List.setIfInBounds_toArray, List.set_cons_zero, List.set_cons_succ]
        clear cl
        refine wpAnyH_ready (rs := [2]) (by kernel_rfl) (by simp) ?_
        refine AllReadyH.cons rfl (fun K hK => ?_) AllReadyH.nil
        have SB : Hid (SX w (wy.alloc (.cells #[.int .i64 (-1), .int .i64 16777216, .int .i64 5] 3)) B X (p + 1 + 1) (k : Int) (d : Int) (wd : Int) (hi : Int) (.slice x cn cx) cn cs (.slice y pn cy) pn ps) := SY.out.alloc _
        have HT : Hid ((wy.alloc (.cells #[.int .i64 (-1), .int .i64 16777216, .int .i64 5] 3)).heap[wy.heap.size]? = some (.cells #[.int .i64 (-1), .int .i64 16777216, .int .i64 5] 3 (0, 0))) := heap_alloc_new _ _
        have HB : Hid (w.heap.size ≤ wy.heap.size) := SY.out.only.below.size
        go_simp
        refine hK.out _ _ trivial (fun _ => ?_)
        clear hK K
        try simp only [Act.put, List.setIfInBounds_toArray, List.set_cons_zero, List.set_cons_succ]
        generalize wy.alloc (.cells #[.int .i64 (-1), .int .i64 16777216, .int .i64 5] 3) = wb at *
        obtain ⟨z, hz, hzb⟩ := tab3 (-1) 16777216 5 v hv
        have ct := tab_cell HT.out hz
        refine wpAnyH_take (i := 5) (v := .pointer (some ⟨wy.heap.size, v, none⟩)) rfl (by kernel_rfl) (by kernel_rfl) (by kernel_rfl) (fun _ _ _ h => h) (Or.inl ⟨by rfl, ?_⟩) trivial ?_
        · intro w' _
          go_simp
          try (intro hbad; exfalso; omega)
        try simp only [Act.put, List.setIfInBounds_toArray, List.set_cons_zero, List.set_cons_succ]
        refine wpAnyH_ready (rs := [6]) (by kernel_rfl) (by simp) ?_
        refine AllReadyH.cons rfl (fun K hK => ?_) AllReadyH.nil
        go_simp
        refine hK.out _ _ trivial (fun _ => ?_)
        clear hK K
        try simp only [Act.put, List.setIfInBounds_toArray, List.set_cons_zero, List.set_cons_succ]
        refine wpAnyH_ready (rs := [7]) (by kernel_rfl) (by simp) ?_
        refine AllReadyH.cons rfl (fun K hK => ?_) AllReadyH.nil
        have SZ : Hid (SX w (wb.alloc (.cells #[.int .i64 z] 3)) B X (p + 1 + 1) (k : Int) (d : Int) (wd : Int) (hi : Int) (.slice x cn cx) cn cs (.slice y pn cy) pn ps) := SB.out.alloc _
        go_simp
        refine hK.out _ _ trivial (fun _ => ?_)
        clear hK K
        try simp only [Act.put, List.setIfInBounds_toArray, List.set_cons_zero, List.set_cons_succ]
        refine wpAnyH_ready (rs := [8]) (by kernel_rfl) (by simp) ?_
        refine AllReadyH.cons rfl (fun K hK => ?_) AllReadyH.nil
        refine step_app1 wb (by rfl) _ _ (by rfl) (w.heap.size + 2) (.slice x cn cx) cn cs z (by rfl) SB.out.o4 (by rfl) (by omega) (by have := lt_of_block SB.out.box; have := SB.out.hX; omega) ?_
        intro g cap w4 hown4 hgrow
        simp only [List.getElem_toArray, List.getElem_cons_succ, List.getElem_cons_zero, Act.put, List.setIfInBounds_toArray, List.set_cons_zero, List.set_cons_succ]
        obtain ⟨hb4, hS4⟩ := SB.out.more hown4 hgrow
        have HS4 : Hid (SX _ _ _ _ _ _ _ _ _ _ _ _ _ _ _) := hS4
        clear hown4 hgrow hS4
        obtain ⟨⟨z0, z1, z2, z3, z4, z5⟩, y0, y1, y2, y3, y4, y5⟩ := box6 hb4
        clear hb4
        refine hK.out _ _ trivial (fun _ => ?_)
        clear hK K
        try simp only [Act.put, List.setIfInBounds_toArray, List.set_cons_zero, List.set_cons_succ]
        refine wpAnyH_take (i := 9) (v := .pointer (some ⟨X, 4, none⟩)) rfl (by kernel_rfl) (by kernel_rfl) (by kernel_rfl) (fun _ _ _ h => h) (Or.inl ⟨by rfl, ?_⟩) trivial ?_
        · intro w' _
          go_simp
        try simp only [Act.put, List.setIfInBounds_toArray, List.set_cons_zero, List.set_cons_succ]
        refine wpAnyH_ready (rs := [10]) (by kernel_rfl) (by simp) ?_
        refine AllReadyH.cons rfl (fun K hK => ?_) AllReadyH.nil
        go_simp
        refine hK.out _ _ trivial (fun _ => ?_)
        clear hK K
        try simp only [Act.put, List.setIfInBounds_toArray, List.set_cons_zero, List.set_cons_succ]
        refine wpAnyH_done (by kernel_rfl) ?_ _
        go_upto_region 21 with fail
        obtain ⟨Wf, hWf⟩ : ∃ Wf, Wf = w4.setCell ⟨X, 4, none⟩ (.slice (some ⟨g, 0, none⟩) (cn + 1) cap) := ⟨_, rfl⟩
        have HF : Hid (FX w Wf B X (p + 1 + 1) (k : Int) (d : Int) (wd : Int) (hi : Int) (some ⟨g, 0, none⟩) (cn + 1) cap (cs ++ [z]) y pn cy ps) := by
          show FX _ _ _ _ _ _ _ _ _ _ _ _ _ _ _ _ _
          rw [hWf]; exact HS4.out.fx (by omega) (by omega) (by omega)
        rw [← hWf]
        clear hWf
        try clear HF0
        try clear z0 z1 z2 z3 z4 z5 y0 y1 y2 y3 y4 y5
        obtain ⟨⟨z0, z1, z2, z3, z4, z5⟩, y0, y1, y2, y3, y4, y5⟩ := box6 HF.out.box
        have hres := HF.out.res
        have hI6 : (Tryz.prog.info? 25).map (·.size) = some (#[.int .i64 (k : Int), .int .i64 (d : Int), .int .i64 (wd : Int), .int .i64 (hi : Int), .slice (some ⟨g, 0, none⟩) (cn + 1) cap, .slice y pn cy] : Array Value).size := by kernel_rfl
        have h16 : (#[.int .i64 (k : Int), .int .i64 (d : Int), .int .i64 (wd : Int), .int .i64 (hi : Int), .slice (some ⟨g, 0, none⟩) (cn + 1) cap, .slice y pn cy] : Array Value).all (·.oneCell') = true := by simp [Value.oneCell']
        go_wp2_with (refine wpList_store_row rfl 25 (.tmp 4) (.tmp 87) rfl (w.heap.size + 1) #[.int .i64 (k : Int), .int .i64 (d : Int), .int .i64 (wd : Int), .int .i64 (hi : Int), .slice (some ⟨g, 0, none⟩) (cn + 1) cap, .slice y pn cy] rfl rfl 25 #[.int .i64 0, .int .i64 0, .int .i64 0, .int .i64 0, .slice none 0 0, .slice none 0 0] hres hI6 rfl h16 ?_)
        have hs2 := setRow_heap Wf (w.heap.size + 1) _ #[.int .i64 (k : Int), .int .i64 (d : Int), .int .i64 (wd : Int), .int .i64 (hi : Int), .slice (some ⟨g, 0, none⟩) (cn + 1) cap, .slice y pn cy] _ _ hres
        exact bodyPost_ret_by (results_cell_row (p := 4) (ty := 25) (by kernel_rfl) _ _ (w.heap.size + 1) 25 _ (0, 0) _ rfl hs2 Tryz.underlying25 rfl (by kernel_rfl)) rfl (HF.out.out (by omega))
      · have SB : Hid (SX w (wy.alloc (.cells #[.int .i64 (-1), .int .i64 16777216, .int .i64 5] 3)) B X (p + 1 + 1) (k : Int) (d : Int) (wd : Int) (hi : Int) (.slice x cn cx) cn cs (.slice y pn cy) pn ps) := SY.out.alloc _
        have HT : Hid ((wy.alloc (.cells #[.int .i64 (-1), .int .i64 16777216, .int .i64 5] 3)).heap[wy.heap.size]? = some (.cells #[.int .i64 (-1), .int .i64 16777216, .int .i64 5] 3 (0, 0))) := heap_alloc_new _ _
        have HB : Hid (w.heap.size ≤ wy.heap.size) := SY.out.only.below.size
        go_simp
        refine hK.out _ _ trivial (fun _ => ?_)
        clear hK K
        try simp only [Act.put, List.setIfInBounds_toArray, List.set_cons_zero, List.set_cons_succ]
        generalize wy.alloc (.cells #[.int .i64 (-1), .int .i64 16777216, .int .i64 5] 3) = wb at *
        obtain ⟨z, hz, hzb⟩ := tab3 (-1) 16777216 5 v hv
        have ct := tab_cell HT.out hz
        refine wpAnyH_take (i := 5) (v := .pointer (some ⟨wy.heap.size, v, none⟩)) rfl (by kernel_rfl) (by kernel_rfl) (by kernel_rfl) (fun _ _ _ h => h) (Or.inl ⟨by rfl, ?_⟩) trivial ?_
        · intro w' _
          go_simp
          try (intro hbad; exfalso; omega)
        try simp only [Act.put, List.setIfInBounds_toArray, List.set_cons_zero, List.set_cons_succ]
        refine wpAnyH_ready (rs := [1, 6]) (by kernel_rfl) (by simp) ?_
        refine AllReadyH.cons rfl (fun K hK => ?_) (AllReadyH.cons rfl (fun K hK => ?_) AllReadyH.nil)
        · have cl := (box6 SB.out.box).1.2.2.2.2.1
          go_simp
          refine hK.out _ _ trivial (fun _ => ?_)
          clear hK K
          try simp only [Act.put, List.setIfInBounds_toArray, List.set_cons_zero, List.set_cons_succ]
          clear cl
          refine wpAnyH_ready (rs := [6]) (by kernel_rfl) (by simp) ?_
          refine AllReadyH.cons rfl (fun K hK => ?_) AllReadyH.nil
          go_simp
          refine hK.out _ _ trivial (fun _ => ?_)
          clear hK K
          try simp only [Act.put, List.setIfInBounds_toArray, List.set_cons_zero, List.set_cons_succ]
          refine wpAnyH_ready (rs := [7]) (by kernel_rfl) (by simp) ?_
          refine AllReadyH.cons rfl (fun K hK => ?_) AllReadyH.nil
          have SZ : Hid (SX w (wb.alloc (.cells #[.int .i64 z] 3)) B X (p + 1 + 1) (k : Int) (d : Int) (wd : Int) (hi : Int) (.slice x cn cx) cn cs (.slice y pn cy) pn ps) := SB.out.alloc _
          go_simp
          refine hK.out _ _ trivial (fun _ => ?_)
          clear hK K
          try simp only [Act.put, List.setIfInBounds_toArray, List.set_cons_zero, List.set_cons_succ]
          refine wpAnyH_ready (rs := [8]) (by kernel_rfl) (by simp) ?_
          refine AllReadyH.cons rfl (fun K hK => ?_) AllReadyH.nil
          refine step_app1 wb (by rfl) _ _ (by rfl) (w.heap.size + 2) (.slice x cn cx) cn cs z (by rfl) SB.out.o4 (by rfl) (by omega) (by have := lt_of_block SB.out.box; have := SB.out.hX; omega) ?_
          intro g cap w4 hown4 hgrow
          simp only [List.getElem_toArray, List.getElem_cons_succ, List.getElem_cons_zero, Act.put, List.setIfInBounds_toArray, List.set_cons_zero, List.set_cons_succ]
          obtain ⟨hb4, hS4⟩ := SB.out.more hown4 hgrow
          have HS4 : Hid (SX _ _ _ _ _ _ _ _ _ _ _ _ _ _ _) := hS4
          clear hown4 hgrow hS4
          obtain ⟨⟨z0, z1, z2, z3, z4, z5⟩, y0, y1, y2, y3, y4, y5⟩ := box6 hb4
          clear hb4
          refine hK.out _ _ trivial (fun _ => ?_)
          clear hK K
          try simp only [Act.put, List.setIfInBounds_toArray, List.set_cons_zero, List.set_cons_succ]
          refine wpAnyH_take (i := 9) (v := .pointer (some ⟨X, 4, none⟩)) rfl (by kernel_rfl) (by kernel_rfl) (by kernel_rfl) (fun _ _ _ h => h) (Or.inl ⟨by rfl, ?_⟩) trivial ?_
          · intro w' _
            go_simp
          try simp only [Act.put, List.setIfInBounds_toArray, List.set_cons_zero, List.set_cons_succ]
          refine wpAnyH_ready (rs := [10]) (by kernel_rfl) (by simp) ?_
          refine AllReadyH.cons rfl (fun K hK => ?_) AllReadyH.nil
          go_simp
          refine hK.out _ _ trivial (fun _ => ?_)
          clear hK K
          try simp only [Act.put, List.setIfInBounds_toArray, List.set_cons_zero, List.set_cons_succ]
          refine wpAnyH_done (by kernel_rfl) ?_ _
          go_upto_region 21 with fail
          obtain ⟨Wf, hWf⟩ : ∃ Wf, Wf = w4.setCell ⟨X, 4, none⟩ (.slice (some ⟨g, 0, none⟩) (cn + 1) cap) := ⟨_, rfl⟩
          have HF : Hid (FX w Wf B X (p + 1 + 1) (k : Int) (d : Int) (wd : Int) (hi : Int) (some ⟨g, 0, none⟩) (cn + 1) cap (cs ++ [z]) y pn cy ps) := by
            show FX _ _ _ _ _ _ _ _ _ _ _ _ _ _ _ _ _
            rw [hWf]; exact HS4.out.fx (by omega) (by omega) (by omega)
          rw [← hWf]
          clear hWf
          try clear HF0
          try clear z0 z1 z2 z3 z4 z5 y0 y1 y2 y3 y4 y5
          obtain ⟨⟨z0, z1, z2, z3, z4, z5⟩, y0, y1, y2, y3, y4, y5⟩ := box6 HF.out.box
          have hres := HF.out.res
          have hI6 : (Tryz.prog.info? 25).map (·.size) = some (#[.int .i64 (k : Int), .int .i64 (d : Int), .int .i64 (wd : Int), .int .i64 (hi : Int), .slice (some ⟨g, 0, none⟩) (cn + 1) cap, .slice y pn cy] : Array Value).size := by kernel_rfl
          have h16 : (#[.int .i64 (k : Int), .int .i64 (d : Int), .int .i64 (wd : Int), .int .i64 (hi : Int), .slice (some ⟨g, 0, none⟩) (cn + 1) cap, .slice y pn cy] : Array Value).all (·.oneCell') = true := by simp [Value.oneCell']
          go_wp2_with (refine wpList_store_row rfl 25 (.tmp 4) (.tmp 87) rfl (w.heap.size + 1) #[.int .i64 (k : Int), .int .i64 (d : Int), .int .i64 (wd : Int), .int .i64 (hi : Int), .slice (some ⟨g, 0, none⟩) (cn + 1) cap, .slice y pn cy] rfl rfl 25 #[.int .i64 0, .int .i64 0, .int .i64 0, .int .i64 0, .slice none 0 0, .slice none 0 0] hres hI6 rfl h16 ?_)
          have hs2 := setRow_heap Wf (w.heap.size + 1) _ #[.int .i64 (k : Int), .int .i64 (d : Int), .int .i64 (wd : Int), .int .i64 (hi : Int), .slice (some ⟨g, 0, none⟩) (cn + 1) cap, .slice y pn cy] _ _ hres
          exact bodyPost_ret_by (results_cell_row (p := 4) (ty := 25) (by kernel_rfl) _ _ (w.heap.size + 1) 25 _ (0, 0) _ rfl hs2 Tryz.underlying25 rfl (by kernel_rfl)) rfl (HF.out.out (by omega))
        · go_simp
          refine hK.out _ _ trivial (fun _ => ?_)
          clear hK K
          try simp only [Act.put, List.setIfInBounds_toArray, List.set_cons_zero, List.set_cons_succ]
          refine wpAnyH_ready (rs := [1, 7]) (by kernel_rfl) (by simp) ?_
          refine AllReadyH.cons rfl (fun K hK => ?_) (AllReadyH.cons rfl (fun K hK => ?_) AllReadyH.nil)
          · have cl := (box6 SB.out.box).1.2.2.2.2.1
            go_simp
            refine hK.out _ _ trivial (fun _ => ?_)
            clear hK K
            try simp only [Act.put, List.setIfInBounds_toArray, List.set_cons_zero, List.set_cons_succ]
            clear cl
            refine wpAnyH_ready (rs := [7]) (by kernel_rfl) (by simp) ?_
            refine AllReadyH.cons rfl (fun K hK => ?_) AllReadyH.nil
            have SZ : Hid (SX w (wb.alloc (.cells #[.int .i64 z] 3)) B X (p + 1 + 1) (k : Int) (d : Int) (wd : Int) (hi : Int) (.slice x cn cx) cn cs (.slice y pn cy) pn ps) := SB.out.alloc _
            go_simp
            refine hK.out _ _ trivial (fun _ => ?_)
            clear hK K
            try simp only [Act.put, List.setIfInBounds_toArray, List.set_cons_zero, List.set_cons_succ]
            refine wpAnyH_ready (rs := [8]) (by kernel_rfl) (by simp) ?_
            refine AllReadyH.cons rfl (fun K hK => ?_) AllReadyH.nil
            refine step_app1 wb (by rfl) _ _ (by rfl) (w.heap.size + 2) (.slice x cn cx) cn cs z (by rfl) SB.out.o4 (by rfl) (by omega) (by have := lt_of_block SB.out.box; have := SB.out.hX; omega) ?_
            intro g cap w4 hown4 hgrow
            simp only [List.getElem_toArray, List.getElem_cons_succ, List.getElem_cons_zero, Act.put, List.setIfInBounds_toArray, List.set_cons_zero, List.set_cons_succ]
            obtain ⟨hb4, hS4⟩ := SB.out.more hown4 hgrow
            have HS4 : Hid (SX _ _ _ _ _ _ _ _ _ _ _ _ _ _ _) := hS4
            clear hown4 hgrow hS4
            obtain ⟨⟨z0, z1, z2, z3, z4, z5⟩, y0, y1, y2, y3, y4, y5⟩ := box6 hb4
            clear hb4
            refine hK.out _ _ trivial (fun _ => ?_)
            clear hK K
            try simp only [Act.put, List.setIfInBounds_toArray, List.set_cons_zero, List.set_cons_succ]
            refine wpAnyH_take (i := 9) (v := .pointer (some ⟨X, 4, none⟩)) rfl (by kernel_rfl) (by kernel_rfl) (by kernel_rfl) (fun _ _ _ h => h) (Or.inl ⟨by rfl, ?_⟩) trivial ?_
            · intro w' _
              go_simp
            try simp only [Act.put, List.setIfInBounds_toArray, List.set_cons_zero, List.set_cons_succ]
            refine wpAnyH_ready (rs := [10]) (by kernel_rfl) (by simp) ?_
            refine AllReadyH.cons rfl (fun K hK => ?_) AllReadyH.nil
            go_simp
            refine hK.out _ _ trivial (fun _ => ?_)
            clear hK K
            try simp only [Act.put, List.setIfInBounds_toArray, List.set_cons_zero, List.set_cons_succ]
            refine wpAnyH_done (by kernel_rfl) ?_ _
            go_upto_region 21 with fail
            obtain ⟨Wf, hWf⟩ : ∃ Wf, Wf = w4.setCell ⟨X, 4, none⟩ (.slice (some ⟨g, 0, none⟩) (cn + 1) cap) := ⟨_, rfl⟩
            have HF : Hid (FX w Wf B X (p + 1 + 1) (k : Int) (d : Int) (wd : Int) (hi : Int) (some ⟨g, 0, none⟩) (cn + 1) cap (cs ++ [z]) y pn cy ps) := by
              show FX _ _ _ _ _ _ _ _ _ _ _ _ _ _ _ _ _
              rw [hWf]; exact HS4.out.fx (by omega) (by omega) (by omega)
            rw [← hWf]
            clear hWf
            try clear HF0
            try clear z0 z1 z2 z3 z4 z5 y0 y1 y2 y3 y4 y5
            obtain ⟨⟨z0, z1, z2, z3, z4, z5⟩, y0, y1, y2, y3, y4, y5⟩ := box6 HF.out.box
            have hres := HF.out.res
            have hI6 : (Tryz.prog.info? 25).map (·.size) = some (#[.int .i64 (k : Int), .int .i64 (d : Int), .int .i64 (wd : Int), .int .i64 (hi : Int), .slice (some ⟨g, 0, none⟩) (cn + 1) cap, .slice y pn cy] : Array Value).size := by kernel_rfl
            have h16 : (#[.int .i64 (k : Int), .int .i64 (d : Int), .int .i64 (wd : Int), .int .i64 (hi : Int), .slice (some ⟨g, 0, none⟩) (cn + 1) cap, .slice y pn cy] : Array Value).all (·.oneCell') = true := by simp [Value.oneCell']
            go_wp2_with (refine wpList_store_row rfl 25 (.tmp 4) (.tmp 87) rfl (w.heap.size + 1) #[.int .i64 (k : Int), .int .i64 (d : Int), .int .i64 (wd : Int), .int .i64 (hi : Int), .slice (some ⟨g, 0, none⟩) (cn + 1) cap, .slice y pn cy] rfl rfl 25 #[.int .i64 0, .int .i64 0, .int .i64 0, .int .i64 0, .slice none 0 0, .slice none 0 0] hres hI6 rfl h16 ?_)
            have hs2 := setRow_heap Wf (w.heap.size + 1) _ #[.int .i64 (k : Int), .int .i64 (d : Int), .int .i64 (wd : Int), .int .i64 (hi : Int), .slice (some ⟨g, 0, none⟩) (cn + 1) cap, .slice y pn cy] _ _ hres
            exact bodyPost_ret_by (results_cell_row (p := 4) (ty := 25) (by kernel_rfl) _ _ (w.heap.size + 1) 25 _ (0, 0) _ rfl hs2 Tryz.underlying25 rfl (by kernel_rfl)) rfl (HF.out.out (by omega))
          · have SZ : Hid (SX w (wb.alloc (.cells #[.int .i64 z] 3)) B X (p + 1 + 1) (k : Int) (d : Int) (wd : Int) (hi : Int) (.slice x cn cx) cn cs (.slice y pn cy) pn ps) := SB.out.alloc _
            go_simp
            refine hK.out _ _ trivial (fun _ => ?_)
            clear hK K
            try simp only [Act.put, List.setIfInBounds_toArray, List.set_cons_zero, List.set_cons_succ]
            refine wpAnyH_ready (rs := [1]) (by kernel_rfl) (by simp) ?_
            refine AllReadyH.cons rfl (fun K hK => ?_) AllReadyH.nil
            have cl := (box6 SZ.out.box).1.2.2.2.2.1
            go_simp
            refine hK.out _ _ trivial (fun _ => ?_)
            clear hK K
            try simp only [Act.put, List.setIfInBounds_toArray, List.set_cons_zero, List.set_cons_succ]
            clear cl
            refine wpAnyH_ready (rs := [8]) (by kernel_rfl) (by simp) ?_
            refine AllReadyH.cons rfl (fun K hK => ?_) AllReadyH.nil
            refine step_app1 wb (by rfl) _ _ (by rfl) (w.heap.size + 2) (.slice x cn cx) cn cs z (by rfl) SB.out.o4 (by rfl) (by omega) (by have := lt_of_block SB.out.box; have := SB.out.hX; omega) ?_
            intro g cap w4 hown4 hgrow
            simp only [List.getElem_toArray, List.getElem_cons_succ, List.getElem_cons_zero, Act.put, List.setIfInBounds_toArray, List.set_cons_zero, List.set_cons_succ]
            obtain ⟨hb4, hS4⟩ := SB.out.more hown4 hgrow
            have HS4 : Hid (SX _ _ _ _ _ _ _ _ _ _ _ _ _ _ _) := hS4
            clear hown4 hgrow hS4
            obtain ⟨⟨z0, z1, z2, z3, z4, z5⟩, y0, y1, y2, y3, y4, y5⟩ := box6 hb4
            clear hb4
            refine hK.out _ _ trivial (fun _ => ?_)
            clear hK K
            try simp only [Act.put, List.setIfInBounds_toArray, List.set_cons_zero, List.set_cons_succ]
            refine wpAnyH_take (i := 9) (v := .pointer (some ⟨X, 4, none⟩)) rfl (by kernel_rfl) (by kernel_rfl) (by kernel_rfl) (fun _ _ _ h => h) (Or.inl ⟨by rfl, ?_⟩) trivial ?_
            · intro w' _
              go_simp
            try simp only [Act.put, List.setIfInBounds_toArray, List.set_cons_zero, List.set_cons_succ]
            refine wpAnyH_ready (rs := [10]) (by kernel_rfl) (by simp) ?_
            refine AllReadyH.cons rfl (fun K hK => ?_) AllReadyH.nil
            go_simp
            refine hK.out _ _ trivial (fun _ => ?_)
            clear hK K
            try simp only [Act.put, List.setIfInBounds_toArray, List.set_cons_zero, List.set_cons_succ]
            refine wpAnyH_done (by kernel_rfl) ?_ _
            go_upto_region 21 with fail
            obtain ⟨Wf, hWf⟩ : ∃ Wf, Wf = w4.setCell ⟨X, 4, none⟩ (.slice (some ⟨g, 0, none⟩) (cn + 1) cap) := ⟨_, rfl⟩
            have HF : Hid (FX w Wf B X (p + 1 + 1) (k : Int) (d : Int) (wd : Int) (hi : Int) (some ⟨g, 0, none⟩) (cn + 1) cap (cs ++ [z]) y pn cy ps) := by
              show FX _ _ _ _ _ _ _ _ _ _ _ _ _ _ _ _ _
              rw [hWf]; exact HS4.out.fx (by omega) (by omega) (by omega)
            rw [← hWf]
            clear hWf
            try clear HF0
            try clear z0 z1 z2 z3 z4 z5 y0 y1 y2 y3 y4 y5
            obtain ⟨⟨z0, z1, z2, z3, z4, z5⟩, y0, y1, y2, y3, y4, y5⟩ := box6 HF.out.box
            have hres := HF.out.res
            have hI6 : (Tryz.prog.info? 25).map (·.size) = some (#[.int .i64 (k : Int), .int .i64 (d : Int), .int .i64 (wd : Int), .int .i64 (hi : Int), .slice (some ⟨g, 0, none⟩) (cn + 1) cap, .slice y pn cy] : Array Value).size := by kernel_rfl
            have h16 : (#[.int .i64 (k : Int), .int .i64 (d : Int), .int .i64 (wd : Int), .int .i64 (hi : Int), .slice (some ⟨g, 0, none⟩) (cn + 1) cap, .slice y pn cy] : Array Value).all (·.oneCell') = true := by simp [Value.oneCell']
            go_wp2_with (refine wpList_store_row rfl 25 (.tmp 4) (.tmp 87) rfl (w.heap.size + 1) #[.int .i64 (k : Int), .int .i64 (d : Int), .int .i64 (wd : Int), .int .i64 (hi : Int), .slice (some ⟨g, 0, none⟩) (cn + 1) cap, .slice y pn cy] rfl rfl 25 #[.int .i64 0, .int .i64 0, .int .i64 0, .int .i64 0, .slice none 0 0, .slice none 0 0] hres hI6 rfl h16 ?_)
            have hs2 := setRow_heap Wf (w.heap.size + 1) _ #[.int .i64 (k : Int), .int .i64 (d : Int), .int .i64 (wd : Int), .int .i64 (hi : Int), .slice (some ⟨g, 0, none⟩) (cn + 1) cap, .slice y pn cy] _ _ hres
            exact bodyPost_ret_by (results_cell_row (p := 4) (ty := 25) (by kernel_rfl) _ _ (w.heap.size + 1) 25 _ (0, 0) _ rfl hs2 Tryz.underlying25 rfl (by kernel_rfl)) rfl (HF.out.out (by omega))
  · go_wp2_with fail
    go_loopw [6] (fun i wr => ∃ (j n : Nat) (xa : Option Addr) (xc : Nat) (cl : List Int), i = .int .i64 (j : Int) ∧ j ≤ 257 ∧ n = cn + j ∧ SX w wr B X (p + 1) (k : Int) (d : Int) (wd : Int) (hi : Int) (.slice xa n xc) n cl (.slice y pn cy) pn ps) (fun i _ => 257 - (intOf i).toNat)
    case atStart => exact ⟨0, cn, x, cx, cs, rfl, by omega, rfl, HS.out⟩
    case round =>
      obtain ⟨j, n, xa, xc, cl, rfl, hj, hn, hS⟩ := hrel
      have HSn : Hid (SX w wr B X (p + 1) (k : Int) (d : Int) (wd : Int) (hi : Int) (.slice xa n xc) n cl (.slice y pn cy) pn ps) := hS
      clear hS
      have HN : Hid (n = cn + j) := hn
      have hnb : n ≤ 520 := by omega
      clear hn HS
      by_cases hlt : j < 257
      · have hji : (j : Int) < 257 := by omega
        obtain ⟨⟨z0, z1, z2, z3, z4, z5⟩, y0, y1, y2, y3, y4, y5⟩ := box6 HSn.out.box
        have hbs : w.heap.size + 2 ≤ wr.heap.size := by have := lt_of_block HSn.out.box; have := HSn.out.hX; omega
        go_wp2_with (at_builtin; refine wpList_app1 wr (by rfl) _ _ (by rfl) (w.heap.size + 2) _ n cl 7 (by rfl) HSn.out.o4 (by rfl) (by omega) hbs ?_)
        intro g cap w4 hown4 hgrow
        obtain ⟨hb4, hS4⟩ := HSn.out.more hown4 hgrow
        have HS4 : Hid (SX _ _ _ _ _ _ _ _ _ _ _ _ _ _ _) := hS4
        clear hown4 hgrow hS4 z0 z1 z2 z3 z4 z5 y0 y1 y2 y3 y4 y5
        obtain ⟨⟨z0, z1, z2, z3, z4, z5⟩, y0, y1, y2, y3, y4, y5⟩ := box6 hb4
        clear hb4
        go_wp2_with fail
        go_roundw
        case rel => exact ⟨j + 1, n + 1, _, _, _, by go_num, by omega, by have := HN.out; omega, HS4.out⟩
        case measure => simp [intOf]; omega
      · have hji : ¬ (j : Int) < 257 := by omega
        go_upto_region 21 with fail
        obtain ⟨Wf, hWf⟩ : ∃ Wf, Wf = wr := ⟨_, rfl⟩
        have HF : Hid (FX w Wf B X (p + 1) (k : Int) (d : Int) (wd : Int) (hi : Int) xa n xc cl y pn cy ps) := by
          show FX _ _ _ _ _ _ _ _ _ _ _ _ _ _ _ _ _
          rw [hWf]; exact HSn.out.fx (by omega) (by omega) (by omega)
        rw [← hWf]
        clear hWf
        try clear HF0
        try clear z0 z1 z2 z3 z4 z5 y0 y1 y2 y3 y4 y5
        obtain ⟨⟨z0, z1, z2, z3, z4, z5⟩, y0, y1, y2, y3, y4, y5⟩ := box6 HF.out.box
        have hres := HF.out.res
        have hI6 : (Tryz.prog.info? 25).map (·.size) = some (#[.int .i64 (k : Int), .int .i64 (d : Int), .int .i64 (wd : Int), .int .i64 (hi : Int), .slice xa n xc, .slice y pn cy] : Array Value).size := by kernel_rfl
        have h16 : (#[.int .i64 (k : Int), .int .i64 (d : Int), .int .i64 (wd : Int), .int .i64 (hi : Int), .slice xa n xc, .slice y pn cy] : Array Value).all (·.oneCell') = true := by simp [Value.oneCell']
        go_wp2_with (refine wpList_store_row rfl 25 (.tmp 4) (.tmp 87) rfl (w.heap.size + 1) #[.int .i64 (k : Int), .int .i64 (d : Int), .int .i64 (wd : Int), .int .i64 (hi : Int), .slice xa n xc, .slice y pn cy] rfl rfl 25 #[.int .i64 0, .int .i64 0, .int .i64 0, .int .i64 0, .slice none 0 0, .slice none 0 0] hres hI6 rfl h16 ?_)
        have hs2 := setRow_heap Wf (w.heap.size + 1) _ #[.int .i64 (k : Int), .int .i64 (d : Int), .int .i64 (wd : Int), .int .i64 (hi : Int), .slice xa n xc, .slice y pn cy] _ _ hres
        exact bodyPost_ret_by (results_cell_row (p := 4) (ty := 25) (by kernel_rfl) _ _ (w.heap.size + 1) 25 _ (0, 0) _ rfl hs2 Tryz.underlying25 rfl (by kernel_rfl)) rfl (HF.out.out (by omega))
  · obtain ⟨⟨z0, z1, z2, z3, z4, z5⟩, y0, y1, y2, y3, y4, y5⟩ := box6 HS.out.box
    go_upto_region 21 with fail
    obtain ⟨Wf, hWf⟩ : ∃ Wf, Wf = w2.setCell ⟨X, 3, none⟩ (.int .i64 0) := ⟨_, rfl⟩
    have HF : Hid (FX w Wf B X (p + 1) (k : Int) (d : Int) (wd : Int) 0 x cn cx cs y pn cy ps) := by
      show FX _ _ _ _ _ _ _ _ _ _ _ _ _ _ _ _ _
      rw [hWf]; exact (HS.out.setn (hi' := 0) 3 (.int .i64 0) rfl).fx (by omega) (by omega) (by omega)
    rw [← hWf]
    clear hWf
    try clear HF0
    try clear z0 z1 z2 z3 z4 z5 y0 y1 y2 y3 y4 y5
    obtain ⟨⟨z0, z1, z2, z3, z4, z5⟩, y0, y1, y2, y3, y4, y5⟩ := box6 HF.out.box
    have hres := HF.out.res
    have hI6 : (Tryz.prog.info? 25).map (·.size) = some (#[.int .i64 (k : Int), .int .i64 (d : Int), .int .i64 (wd : Int), .int .i64 0, .slice x cn cx, .slice y pn cy] : Array Value).size := by kernel_rfl
    have h16 : (#[.int .i64 (k : Int), .int .i64 (d : Int), .int .i64 (wd : Int), .int .i64 0, .slice x cn cx, .slice y pn cy] : Array Value).all (·.oneCell') = true := by simp [Value.oneCell']
    go_wp2_with (refine wpList_store_row rfl 25 (.tmp 4) (.tmp 87) rfl (w.heap.size + 1) #[.int .i64 (k : Int), .int .i64 (d : Int), .int .i64 (wd : Int), .int .i64 0, .slice x cn cx, .slice y pn cy] rfl rfl 25 #[.int .i64 0, .int .i64 0, .int .i64 0, .int .i64 0, .slice none 0 0, .slice none 0 0] hres hI6 rfl h16 ?_)
    have hs2 := setRow_heap Wf (w.heap.size + 1) _ #[.int .i64 (k : Int), .int .i64 (d : Int), .int .i64 (wd : Int), .int .i64 0, .slice x cn cx, .slice y pn cy] _ _ hres
    exact bodyPost_ret_by (results_cell_row (p := 4) (ty := 25) (by kernel_rfl) _ _ (w.heap.size + 1) 25 _ (0, 0) _ rfl hs2 Tryz.underlying25 rfl (by kernel_rfl)) rfl (HF.out.out (by omega))
end Go.Proofs.YteldjmocbbbinaaGreatDoor
