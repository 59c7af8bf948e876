/- ImageFlip of the specification. -/
import Derived.Test.YtjiogneidioknaaBlankSpec
import Derived.Test.YtjiogneidioknaaImplFlip
import Derived.Test.YtjiogneidioknaaImgSpec3
namespace Go.Proofs.Ytjiogneidioknaa
open Go.RowKit

theorem upto_add (F : Nat → Int) (a n : Nat) : upto F (a + n) = upto F a ++ (List.range n).map (fun t => F (a + t)) := by
  simp [upto, List.range_add, Function.comp_def]
/-- so many of a list, from one on -/
def seg (ps : List Int) (P n : Nat) : List Int := (List.range n).map (fun t => ps.getD (P + t) 0)
theorem seg_len (ps : List Int) (P n : Nat) : (seg ps P n).length = n := by simp [seg]
theorem seg_ints {w : World} {b off : Nat} {ps : List Int} {P n : Nat} (h : Ints w (some ⟨b, off, none⟩) ps) (hn : P + n ≤ ps.length) : Ints w (some ⟨b, off + P, none⟩) (seg ps P n) := by
  rcases h with e | ⟨c, o, e, hc, hcell⟩
  · rw [e] at hn; simp at hn; left; rw [show n = 0 by omega]; rfl
  · cases e
    refine .inr ⟨b, off + P, rfl, hc, fun i hi => ?_⟩
    rw [seg_len] at hi
    have := hcell (P + i) (by omega)
    rw [Nat.add_assoc, this]
    simp [seg, List.getElem?_eq_getElem (show P + i < ps.length by omega)]
theorem flip_rows (Wd Hi : Nat) (ps : List Int) (j q : Nat) (h : j + (q + 1) = Hi) : upto (ptF Wd (flipF Wd Hi ps)) ((j + 1) * Wd) = upto (ptF Wd (flipF Wd Hi ps)) (j * Wd) ++ seg ps (q * Wd) Wd := by
  rw [Nat.add_mul, Nat.one_mul, upto_add]
  congr 1
  unfold seg
  apply List.map_congr_left
  intro t ht
  rw [List.mem_range] at ht
  rw [ptF_at _ ht]
  unfold flipF
  rw [show Hi - 1 - j = q by omega]

set_option linter.unusedSimpArgs false in
set_option maxHeartbeats 4000000 in
set_option maxRecDepth 20000 in
theorem spec_flip_own (k d : Int) (Wd Hi : Nat) (ca : Option Addr) (cn cc : Nat) (pa : Option Addr) (pn pc : Nat) (cs ps : List Int) (w : World) (hc : Ints w ca cs) (hcn : cs.length = cn) (hcl : cn ≤ 1048576) (hp : Ints w pa ps) (hpn : ps.length = pn) (hW : Wd ≤ 20) (hH : Hi ≤ 20) (hm : pn = Wd * Hi) (hpc : pn ≤ pc) (hW1 : 1 ≤ Wd)
    (hO : Calls Try.prog 17 #[.agg #[.int .i64 k, .int .i64 d, .int .i64 (Wd : Int), .int .i64 (Hi : Int), .slice ca cn cc, .slice pa pn pc]] ((w.alloc (.cells #[.int .i64 k, .int .i64 d, .int .i64 (Wd : Int), .int .i64 (Hi : Int), .slice ca cn cc, .slice pa pn pc] 26)).alloc (.cells #[.int .i64 0, .int .i64 0, .int .i64 0, .int .i64 0, .slice none 0 0, .slice none 0 0] 26)) fun e w' => e = .returned (.bool true) ∧ Below ((w.alloc (.cells #[.int .i64 k, .int .i64 d, .int .i64 (Wd : Int), .int .i64 (Hi : Int), .slice ca cn cc, .slice pa pn pc] 26)).alloc (.cells #[.int .i64 0, .int .i64 0, .int .i64 0, .int .i64 0, .slice none 0 0, .slice none 0 0] 26)).heap.size ((w.alloc (.cells #[.int .i64 k, .int .i64 d, .int .i64 (Wd : Int), .int .i64 (Hi : Int), .slice ca cn cc, .slice pa pn pc] 26)).alloc (.cells #[.int .i64 0, .int .i64 0, .int .i64 0, .int .i64 0, .slice none 0 0, .slice none 0 0] 26)) w') :
    Calls Try.prog 40 #[.agg #[.int .i64 k, .int .i64 d, .int .i64 (Wd : Int), .int .i64 (Hi : Int), .slice ca cn cc, .slice pa pn pc]] w fun e w' =>
      (∃ x cx y cy, e = .returned (.agg #[.int .i64 k, .int .i64 d, .int .i64 (Wd : Int), .int .i64 (Hi : Int), .slice x cn cx, .slice y (Wd * Hi) cy]) ∧ Owns w' w.heap.size x cs ∧ Owns w' w.heap.size y (upto (ptF Wd (flipF Wd Hi ps)) (Wd * Hi))) ∧ Below w.heap.size w w' := by
  have hB0 : Below w.heap.size w ((w.alloc (.cells #[.int .i64 k, .int .i64 d, .int .i64 (Wd : Int), .int .i64 (Hi : Int), .slice ca cn cc, .slice pa pn pc] 26)).alloc (.cells #[.int .i64 0, .int .i64 0, .int .i64 0, .int .i64 0, .slice none 0 0, .slice none 0 0] 26)) := ((Below.refl _ _).alloc (Nat.le_refl _) _).alloc (by simp) _
  have HO : Hid (Calls Try.prog 17 #[.agg #[.int .i64 k, .int .i64 d, .int .i64 (Wd : Int), .int .i64 (Hi : Int), .slice ca cn cc, .slice pa pn pc]] ((w.alloc (.cells #[.int .i64 k, .int .i64 d, .int .i64 (Wd : Int), .int .i64 (Hi : Int), .slice ca cn cc, .slice pa pn pc] 26)).alloc (.cells #[.int .i64 0, .int .i64 0, .int .i64 0, .int .i64 0, .slice none 0 0, .slice none 0 0] 26)) fun e w' => e = .returned (.bool true) ∧ Below ((w.alloc (.cells #[.int .i64 k, .int .i64 d, .int .i64 (Wd : Int), .int .i64 (Hi : Int), .slice ca cn cc, .slice pa pn pc] 26)).alloc (.cells #[.int .i64 0, .int .i64 0, .int .i64 0, .int .i64 0, .slice none 0 0, .slice none 0 0] 26)).heap.size ((w.alloc (.cells #[.int .i64 k, .int .i64 d, .int .i64 (Wd : Int), .int .i64 (Hi : Int), .slice ca cn cc, .slice pa pn pc] 26)).alloc (.cells #[.int .i64 0, .int .i64 0, .int .i64 0, .int .i64 0, .slice none 0 0, .slice none 0 0] 26)) w') := hO
  clear hO
  have HZ : Hid (((w.alloc (.cells #[.int .i64 k, .int .i64 d, .int .i64 (Wd : Int), .int .i64 (Hi : Int), .slice ca cn cc, .slice pa pn pc] 26)).alloc (.cells #[.int .i64 0, .int .i64 0, .int .i64 0, .int .i64 0, .slice none 0 0, .slice none 0 0] 26)).heap[w.heap.size + 1]? = some (.cells #[.int .i64 0, .int .i64 0, .int .i64 0, .int .i64 0, .slice none 0 0, .slice none 0 0] 26 (0, 0))) := heap_alloc2_new _ _ _
  have HBL : Hid (∀ w', Below w.heap.size w w' → Calls Try.prog 58 #[.agg #[.int .i64 k, .int .i64 d, .int .i64 (Wd : Int), .int .i64 (Hi : Int), .slice ca cn cc, .slice pa pn pc], .int .i64 (Wd : Int), .int .i64 (Hi : Int)] w' fun e w'' =>
      (∃ x cx, e = .returned (.agg #[.int .i64 k, .int .i64 d, .int .i64 (Wd : Int), .int .i64 (Hi : Int), .slice x cn cx, .slice none 0 0]) ∧ Owns w'' w'.heap.size x cs) ∧ Below w'.heap.size w' w'') :=
    fun w' b => blank_any k d _ _ ca cn cc pa pn pc _ _ cs w' (hc.kept b) hcn hcl
  have HIP : Hid (∀ w', Below w.heap.size w w' → Ints w' pa ps) := fun w' b => hp.kept b
  have HPN : Hid (ps.length = pn ∧ pn = Wd * Hi) := ⟨hpn, hm⟩
  have k0 := box_kept (box_new w (.int .i64 k) (.int .i64 d) (.int .i64 (Wd : Int)) (.int .i64 (Hi : Int)) (.slice ca cn cc) (.slice pa pn pc) 26) ((Below.refl _ _).alloc (Nat.le_refl _) (.cells #[.int .i64 0, .int .i64 0, .int .i64 0, .int .i64 0, .slice none 0 0, .slice none 0 0] 26)) (by simp)
  clear hc hcn hcl hp hpn hm
  go_enter Try.func40, Try.ntmps40
  go_wp2_with fail
  refine HO.out.mono ?_
  rintro e w1 ⟨rfl, b1⟩
  obtain ⟨k0, k1, k2, k3, k4, k5⟩ := box_kept k0 b1 (by simp; omega)
  have bel1 := hB0.trans (b1.mono hB0.size)
  have hlt1 : w.heap.size + 1 < w1.heap.size := Nat.lt_of_lt_of_le (by simp) b1.size
  have HZ1 : Hid (w1.heap[w.heap.size + 1]? = some (.cells #[.int .i64 0, .int .i64 0, .int .i64 0, .int .i64 0, .slice none 0 0, .slice none 0 0] 26 (0, 0))) := (b1.block _ (by simp)).trans HZ.out
  clear b1 hB0 HO HZ
  go_wp2_with fail
  refine (HBL.out w1 bel1).mono ?_
  rintro e w2 ⟨⟨x, cx, rfl, hX⟩, b2⟩
  obtain ⟨j0, j1, j2, j3, j4, j5⟩ := box_kept ⟨k0, k1, k2, k3, k4, k5⟩ b2 (by omega)
  have bel2 := bel1.trans (b2.mono bel1.size)
  have hlt2 : w.heap.size + 1 < w2.heap.size := Nat.lt_of_lt_of_le hlt1 b2.size
  have HZ2 : Hid (w2.heap[w.heap.size + 1]? = some (.cells #[.int .i64 0, .int .i64 0, .int .i64 0, .int .i64 0, .slice none 0 0, .slice none 0 0] 26 (0, 0))) := (b2.block _ hlt1).trans HZ1.out
  have HX : Hid (Owns w2 (w.heap.size + 1 + 1) x cs) := hX.lower hlt1
  clear b2 bel1 HZ1 hX k0 k1 k2 k3 k4 k5 HBL hlt1
  obtain ⟨l0, l1, l2, l3, l4, l5⟩ := box_kept ⟨j0, j1, j2, j3, j4, j5⟩ ((Below.refl _ w2).alloc (Nat.le_refl _) (.cells #[.int .i64 k, .int .i64 d, .int .i64 (Wd : Int), .int .i64 (Hi : Int), .slice x cn cx, .slice none 0 0] 26)) (by omega)
  have hN0 := box6 (heap_alloc_new w2 (.cells #[.int .i64 k, .int .i64 d, .int .i64 (Wd : Int), .int .i64 (Hi : Int), .slice x cn cx, .slice none 0 0] 26))
  have bel3 : Below w.heap.size w (w2.alloc (.cells #[.int .i64 k, .int .i64 d, .int .i64 (Wd : Int), .int .i64 (Hi : Int), .slice x cn cx, .slice none 0 0] 26)) := bel2.alloc bel2.size _
  have HZ3 : Hid ((w2.alloc (.cells #[.int .i64 k, .int .i64 d, .int .i64 (Wd : Int), .int .i64 (Hi : Int), .slice x cn cx, .slice none 0 0] 26)).heap[w.heap.size + 1]? = some (.cells #[.int .i64 0, .int .i64 0, .int .i64 0, .int .i64 0, .slice none 0 0, .slice none 0 0] 26 (0, 0))) := (heap_alloc_old _ _ _ hlt2).trans HZ2.out
  have HE : Hid (OwnI (w2.alloc (.cells #[.int .i64 k, .int .i64 d, .int .i64 (Wd : Int), .int .i64 (Hi : Int), .slice x cn cx, .slice none 0 0] 26)) (w2.heap.size + 1) (.slice none 0 0) 0 []) := World.ownsRow_nil _ _ _ _
  clear bel2 HZ2 j0 j1 j2 j3 j4 j5
  go_wp2_with fail
  have HL : Hid (True) := trivial
  go_loopw [4] (fun i wr => ∃ (j r : Nat) (v : Value), j + r = Hi ∧ i = .int .i64 ((r : Int) - 1) ∧ OwnI wr (w2.heap.size + 1) v (j * Wd) (upto (ptF Wd (flipF Wd Hi ps)) (j * Wd)) ∧ wr.cell? ⟨w2.heap.size, 5, none⟩ = some v ∧ wr.frozen? ⟨w2.heap.size, 5, none⟩ = false
      ∧ (wr.cell? ⟨w2.heap.size, 0, none⟩ = some (.int .i64 k) ∧ wr.cell? ⟨w2.heap.size, 1, none⟩ = some (.int .i64 d) ∧ wr.cell? ⟨w2.heap.size, 2, none⟩ = some (.int .i64 (Wd : Int)) ∧ wr.cell? ⟨w2.heap.size, 3, none⟩ = some (.int .i64 (Hi : Int)) ∧ wr.cell? ⟨w2.heap.size, 4, none⟩ = some (.slice x cn cx))
      ∧ Below w2.heap.size (w2.alloc (.cells #[.int .i64 k, .int .i64 d, .int .i64 (Wd : Int), .int .i64 (Hi : Int), .slice x cn cx, .slice none 0 0] 26)) wr) (fun i _ => (intOf i + 1).toNat)
  case atStart => exact ⟨0, Hi, .slice none 0 0, by omega, rfl, by simpa [upto] using HE.out, hN0.1.2.2.2.2.2, hN0.2.2.2.2.2.2, ⟨hN0.1.1, hN0.1.2.1, hN0.1.2.2.1, hN0.1.2.2.2.1, hN0.1.2.2.2.2.1⟩, Below.refl _ _⟩
  case round =>
    obtain ⟨j, r, v, hjr, rfl, hO, hv, hvf, hcells, hB⟩ := hrel
    clear hN0 HE
    have m2 : wr.cell? ⟨w.heap.size, 2, none⟩ = some (.int .i64 (Wd : Int)) := (hB.cell (p := ⟨w.heap.size, 2, none⟩) (show w.heap.size < w2.heap.size by omega)).trans l2
    have m5 : wr.cell? ⟨w.heap.size, 5, none⟩ = some (.slice pa pn pc) := (hB.cell (p := ⟨w.heap.size, 5, none⟩) (show w.heap.size < w2.heap.size by omega)).trans l5
    by_cases hr : r = 0
    · subst hr
      have hjH : j = Hi := by omega
      subst hjH
      have hz : wr.heap[w.heap.size + 1]? = some (.cells #[.int .i64 0, .int .i64 0, .int .i64 0, .int .i64 0, .slice none 0 0, .slice none 0 0] 26 (0, 0)) := (hB.block _ hlt2).trans HZ3.out
      obtain ⟨c0, c1, c2, c3, c4⟩ := hcells
      obtain ⟨y, cy, rfl, hOy⟩ := hO.owns
      have bw : Below w2.heap.size w2 wr := ((Below.refl _ w2).alloc (Nat.le_refl _) _).trans hB
      have HOX : Hid (Owns wr (w.heap.size + 1 + 1) x cs) := HX.out.kept bw
      have HOY : Hid (Owns wr (w2.heap.size + 1) y (upto (ptF Wd (flipF Wd j ps)) (j * Wd))) := hOy
      have HBR : Hid (Below w.heap.size w wr) := bel3.trans (hB.mono (show w.heap.size ≤ w2.heap.size by omega))
      have hI6 : (Try.prog.info? 26).map (·.size) = some (#[Value.int .i64 k, .int .i64 d, .int .i64 (Wd : Int), .int .i64 (j : Int), .slice x cn cx, .slice y (j * Wd) cy]).size := by kernel_rfl
      have h16 : (#[Value.int .i64 k, .int .i64 d, .int .i64 (Wd : Int), .int .i64 (j : Int), .slice x cn cx, .slice y (j * Wd) cy]).all (·.oneCell') = true := by simp [Value.oneCell']
      have hlow : w.heap.size + 1 < w2.heap.size := hlt2
      clear hO hOy bw hB HX HZ3 HL HIP HPN hW hH hpc hW1 l0 l1 l2 l3 l4 l5 m2 m5
      go_wp2_with (refine wpList_store_row rfl 26 (.tmp 2) (.tmp 38) rfl (w.heap.size + 1) #[.int .i64 k, .int .i64 d, .int .i64 (Wd : Int), .int .i64 (j : Int), .slice x cn cx, .slice y (j * Wd) cy] rfl rfl 26 #[.int .i64 0, .int .i64 0, .int .i64 0, .int .i64 0, .slice none 0 0, .slice none 0 0] hz hI6 rfl h16 ?_)
      have hs2 := setRow_heap wr (w.heap.size + 1) _ #[.int .i64 k, .int .i64 d, .int .i64 (Wd : Int), .int .i64 (j : Int), .slice x cn cx, .slice y (j * Wd) cy] _ _ hz
      refine bodyPost_ret_by (results_cell_row (p := 2) (ty := 26) (by kernel_rfl) _ _ (w.heap.size + 1) 26 _ (0, 0) _ rfl hs2 Try.underlying26 rfl (by kernel_rfl)) rfl ⟨⟨x, cx, y, cy, by rw [Nat.mul_comm Wd j], ((HOX.out.row (by omega) _).lower (by omega)), ?_⟩, ?_⟩
      · rw [Nat.mul_comm Wd j]; exact (HOY.out.row (by omega) _).lower (by omega)
      · exact HBR.out.trans ((below_setRow _ _ _).mono (by omega))
    · obtain ⟨q, rfl⟩ : ∃ q, r = q + 1 := ⟨r - 1, by omega⟩
      have hq1 : ((q + 1 : Nat) : Int) - 1 = (q : Int) := by omega
      rw [hq1]
      have hjW : (j + 1) * Wd + q * Wd = Hi * Wd := by rw [← Nat.add_mul]; congr 1; omega
      obtain ⟨P1, hP1⟩ : ∃ P1, P1 = q * Wd := ⟨_, rfl⟩
      obtain ⟨P2, hP2⟩ : ∃ P2, P2 = (q + 1) * Wd := ⟨_, rfl⟩
      obtain ⟨q1, hq1'⟩ : ∃ q1, q1 = q + 1 := ⟨_, rfl⟩
      have hP12 : P2 = P1 + Wd := by rw [hP2, hP1, Nat.add_mul, Nat.one_mul]
      have hPn : P2 ≤ pn := by rw [hP2, HPN.out.2, Nat.mul_comm Wd Hi]; exact Nat.mul_le_mul_right _ (by omega)
      have hPs : pn ≤ 20 * 20 := by rw [HPN.out.2]; exact Nat.mul_le_mul hW hH
      have e1 : (q : Int) * (Wd : Int) = (P1 : Int) := by rw [hP1]; simp
      have e2 : (q1 : Int) * (Wd : Int) = (P2 : Int) := by rw [hP2, hq1']; simp
      have e3 : (q : Int) + 1 = (q1 : Int) := by omega
      have w1' := wrap_i64_nat P1 (by omega)
      have w2' := wrap_i64_nat P2 (by omega)
      have w3' := wrap_i64_nat q1 (by omega)
      have belr : Below w.heap.size w wr := bel3.trans (hB.mono (show w.heap.size ≤ w2.heap.size by omega))
      have hIr := HIP.out wr belr
      have hpa : ∃ b off, pa = some ⟨b, off, none⟩ := by
        rcases hIr with e | ⟨b, off, e, _⟩
        · have := HPN.out.1; rw [e] at this; simp at this; omega
        · exact ⟨b, off, e⟩
      obtain ⟨b, off, rfl⟩ := hpa
      have HSEG : Hid (Ints wr (some ⟨b, off + P1, none⟩) (seg ps P1 Wd)) := seg_ints hIr (by rw [HPN.out.1]; omega)
      have hrl := World.ownsRow.lt hO
      have hjw : j * Wd + Wd ≤ 20 * 20 := by have h1 := HPN.out.2; have h2 := hjW; rw [Nat.add_mul, Nat.one_mul] at h2; rw [Nat.mul_comm Wd Hi] at h1; omega
      have i7 : ¬ pc = P1 := by omega
      have i8 : ¬ (P1 = pc) := by omega
      clear hIr
      have i1 : (P1 : Int) ≤ (P2 : Int) := by omega
      have i2 : (P2 : Int) ≤ (pc : Int) := by omega
      have i3 : P2 - P1 = Wd := by omega
      have i4 : (0 : Int) ≤ (P1 : Int) := by omega
      have i5 : P1 ≤ P2 := by omega
      have i6 : P2 ≤ pc := by omega
      have hq20 : q ≤ 20 := by omega
      have HQ : Hid (P1 = q * Wd ∧ P2 = (q + 1) * Wd ∧ q1 = q + 1 ∧ P2 = P1 + Wd ∧ (j + 1) * Wd + q * Wd = Hi * Wd ∧ j + (q + 1) = Hi) := ⟨hP1, hP2, hq1', hP12, hjW, hjr⟩
      clear hP1 hP2 hq1' hP12 hjW hjr
      go_wp2_with fail
      refine wp_region_held_drew (S := fun w' => w'.cell? ⟨w.heap.size, 2, none⟩ = some (.int .i64 (Wd : Int)) ∧ w'.cell? ⟨w.heap.size, 5, none⟩ = some (.slice (some ⟨b, off, none⟩) pn pc)) (by kernel_rfl) ⟨m2, m5⟩ (fun hHeld => ?_)
      refine wpAnyH_take (i := 0) (v := .pointer (some ⟨w2.heap.size, 5, none⟩)) rfl (by kernel_rfl) (by kernel_rfl) (by kernel_rfl) (fun _ _ _ h => h) (Or.inl ⟨by rfl, ?_⟩) hHeld ?_
      · intro w' hSw

        obtain ⟨s2, s5⟩ := hSw
        go_simp
      try simp only [Act.put, List.setIfInBounds_toArray, List.set_cons_zero, List.set_cons_succ]
      refine wpAnyH_take (i := 2) (v := .pointer (some ⟨w.heap.size, 5, none⟩)) rfl (by kernel_rfl) (by kernel_rfl) (by kernel_rfl) (fun _ _ _ h => h) (Or.inl ⟨by rfl, ?_⟩) hHeld ?_
      · intro w' hSw

        obtain ⟨s2, s5⟩ := hSw
        go_simp
      try simp only [Act.put, List.setIfInBounds_toArray, List.set_cons_zero, List.set_cons_succ]
      refine wpAnyH_take (i := 3) (v := .slice (some ⟨b, off, none⟩) pn pc) rfl (by kernel_rfl) (by kernel_rfl) (by kernel_rfl) (fun _ _ _ h => h) (Or.inl ⟨by rfl, ?_⟩) hHeld ?_
      · intro w' hSw

        obtain ⟨s2, s5⟩ := hSw
        go_simp
      try simp only [Act.put, List.setIfInBounds_toArray, List.set_cons_zero, List.set_cons_succ]
      refine wpAnyH_take (i := 4) (v := .int .i64 (q : Int)) rfl (by kernel_rfl) (by kernel_rfl) (by kernel_rfl) (fun _ _ _ h => h) (Or.inl ⟨by rfl, ?_⟩) hHeld ?_
      · intro w' hSw

        obtain ⟨s2, s5⟩ := hSw
        go_simp
      try simp only [Act.put, List.setIfInBounds_toArray, List.set_cons_zero, List.set_cons_succ]
      refine wpAnyH_take (i := 5) (v := .pointer (some ⟨w.heap.size, 2, none⟩)) rfl (by kernel_rfl) (by kernel_rfl) (by kernel_rfl) (fun _ _ _ h => h) (Or.inl ⟨by rfl, ?_⟩) hHeld ?_
      · intro w' hSw

        obtain ⟨s2, s5⟩ := hSw
        go_simp
      try simp only [Act.put, List.setIfInBounds_toArray, List.set_cons_zero, List.set_cons_succ]
      refine wpAnyH_take (i := 6) (v := .int .i64 (Wd : Int)) rfl (by kernel_rfl) (by kernel_rfl) (by kernel_rfl) (fun _ _ _ h => h) (Or.inl ⟨by rfl, ?_⟩) hHeld ?_
      · intro w' hSw

        obtain ⟨s2, s5⟩ := hSw
        go_simp
      try simp only [Act.put, List.setIfInBounds_toArray, List.set_cons_zero, List.set_cons_succ]
      refine wpAnyH_take (i := 7) (v := .int .i64 (P1 : Int)) rfl (by kernel_rfl) (by kernel_rfl) (by kernel_rfl) (fun _ _ _ h => h) (Or.inl ⟨by rfl, ?_⟩) hHeld ?_
      · intro w' hSw

        obtain ⟨s2, s5⟩ := hSw
        go_simp
      try simp only [Act.put, List.setIfInBounds_toArray, List.set_cons_zero, List.set_cons_succ]
      refine wpAnyH_take (i := 8) (v := .int .i64 (q : Int)) rfl (by kernel_rfl) (by kernel_rfl) (by kernel_rfl) (fun _ _ _ h => h) (Or.inl ⟨by rfl, ?_⟩) hHeld ?_
      · intro w' hSw

        obtain ⟨s2, s5⟩ := hSw
        go_simp
      try simp only [Act.put, List.setIfInBounds_toArray, List.set_cons_zero, List.set_cons_succ]
      refine wpAnyH_take (i := 9) (v := .int .i64 ((q1 : Nat) : Int)) rfl (by kernel_rfl) (by kernel_rfl) (by kernel_rfl) (fun _ _ _ h => h) (Or.inl ⟨by rfl, ?_⟩) hHeld ?_
      · intro w' hSw

        obtain ⟨s2, s5⟩ := hSw
        go_simp
      try simp only [Act.put, List.setIfInBounds_toArray, List.set_cons_zero, List.set_cons_succ]
      refine wpAnyH_take (i := 10) (v := .pointer (some ⟨w.heap.size, 2, none⟩)) rfl (by kernel_rfl) (by kernel_rfl) (by kernel_rfl) (fun _ _ _ h => h) (Or.inl ⟨by rfl, ?_⟩) hHeld ?_
      · intro w' hSw

        obtain ⟨s2, s5⟩ := hSw
        go_simp
      try simp only [Act.put, List.setIfInBounds_toArray, List.set_cons_zero, List.set_cons_succ]
      refine wpAnyH_take (i := 11) (v := .int .i64 (Wd : Int)) rfl (by kernel_rfl) (by kernel_rfl) (by kernel_rfl) (fun _ _ _ h => h) (Or.inl ⟨by rfl, ?_⟩) hHeld ?_
      · intro w' hSw

        obtain ⟨s2, s5⟩ := hSw
        go_simp
      try simp only [Act.put, List.setIfInBounds_toArray, List.set_cons_zero, List.set_cons_succ]
      refine wpAnyH_take (i := 12) (v := .int .i64 (P2 : Int)) rfl (by kernel_rfl) (by kernel_rfl) (by kernel_rfl) (fun _ _ _ h => h) (Or.inl ⟨by rfl, ?_⟩) hHeld ?_
      · intro w' hSw

        obtain ⟨s2, s5⟩ := hSw
        go_simp
      try simp only [Act.put, List.setIfInBounds_toArray, List.set_cons_zero, List.set_cons_succ]
      refine wpAnyH_take (i := 13) (v := .slice (some ⟨b, off + P1, none⟩) Wd (pc - P1)) rfl (by kernel_rfl) (by kernel_rfl) (by kernel_rfl) (fun _ _ _ h => h) (Or.inl ⟨by rfl, ?_⟩) hHeld ?_
      · intro w' hSw

        obtain ⟨s2, s5⟩ := hSw
        go_simp
      try simp only [Act.put, List.setIfInBounds_toArray, List.set_cons_zero, List.set_cons_succ]
      refine wpAnyH_ready (rs := [1]) (by kernel_rfl) (by simp) ?_
      refine AllReadyH.cons rfl (fun K hK => ?_) AllReadyH.nil
      go_simp
      refine hK.out _ _ hHeld (fun hHeld => ?_)
      clear hK K
      try simp only [Act.put, List.setIfInBounds_toArray, List.set_cons_zero, List.set_cons_succ]
      refine wpAnyH_ready (rs := [14]) (by kernel_rfl) (by simp) ?_
      refine AllReadyH.cons rfl (fun K hK => ?_) AllReadyH.nil
      refine step_append_ints (by rfl) _ _ (by rfl) (w2.heap.size + 1) v (j * Wd) _ (by rfl) (show OwnI _ _ _ _ _ from hO) (some ⟨b, off + P1, none⟩) Wd (pc - P1) (seg ps P1 Wd) (by rfl) (show Ints _ _ _ from HSEG.out) (seg_len _ _ _) (by omega) (by have := hB.size; simp at this; exact this) ?_
      intro y cy w4 hO4 hG4
      simp only [List.getElem_toArray, List.getElem_cons_succ, List.getElem_cons_zero, Act.put, List.setIfInBounds_toArray, List.set_cons_zero, List.set_cons_succ]
      have hltr : w2.heap.size < wr.heap.size := by have := hB.size; simp at this; omega
      have hfar : ∀ c, c ≤ w2.heap.size → some c ≠ v.ownBlock := fun c hc e => absurd (hrl c e.symm).1 (by omega)
      have g1 : w4.heap[w.heap.size]? = wr.heap[w.heap.size]? := hG4.block _ (show w.heap.size < wr.heap.size by omega) (hfar _ (by omega))
      have g2 : w4.heap[w2.heap.size]? = wr.heap[w2.heap.size]? := hG4.block _ (show w2.heap.size < wr.heap.size by omega) (hfar _ (by omega))
      have n2 : w4.cell? ⟨w.heap.size, 2, none⟩ = some (.int .i64 (Wd : Int)) := (World.cell?_of_block (w := wr) (a := ⟨w.heap.size, 2, none⟩) g1).trans m2
      have n5 : w4.cell? ⟨w.heap.size, 5, none⟩ = some (.slice (some ⟨b, off, none⟩) pn pc) := (World.cell?_of_block (w := wr) (a := ⟨w.heap.size, 5, none⟩) g1).trans m5
      have nv : w4.cell? ⟨w2.heap.size, 5, none⟩ = some v := (World.cell?_of_block (w := wr) (a := ⟨w2.heap.size, 5, none⟩) g2).trans hv
      have nf : w4.frozen? ⟨w2.heap.size, 5, none⟩ = false := (World.frozen?_of_block (w := wr) (a := ⟨w2.heap.size, 5, none⟩) g2).trans hvf
      have hlt4 : w2.heap.size < w4.heap.size := Nat.lt_of_lt_of_le hltr hG4.size
      have HC4 : Hid (w4.cell? ⟨w2.heap.size, 0, none⟩ = some (.int .i64 k) ∧ w4.cell? ⟨w2.heap.size, 1, none⟩ = some (.int .i64 d) ∧ w4.cell? ⟨w2.heap.size, 2, none⟩ = some (.int .i64 (Wd : Int)) ∧ w4.cell? ⟨w2.heap.size, 3, none⟩ = some (.int .i64 (Hi : Int)) ∧ w4.cell? ⟨w2.heap.size, 4, none⟩ = some (.slice x cn cx)) :=
        ⟨(World.cell?_of_block (w := wr) (a := ⟨w2.heap.size, 0, none⟩) g2).trans hcells.1, (World.cell?_of_block (w := wr) (a := ⟨w2.heap.size, 1, none⟩) g2).trans hcells.2.1, (World.cell?_of_block (w := wr) (a := ⟨w2.heap.size, 2, none⟩) g2).trans hcells.2.2.1, (World.cell?_of_block (w := wr) (a := ⟨w2.heap.size, 3, none⟩) g2).trans hcells.2.2.2.1, (World.cell?_of_block (w := wr) (a := ⟨w2.heap.size, 4, none⟩) g2).trans hcells.2.2.2.2⟩
      have HB4 : Hid (Below w2.heap.size (w2.alloc (.cells #[.int .i64 k, .int .i64 d, .int .i64 (Wd : Int), .int .i64 (Hi : Int), .slice x cn cx, .slice none 0 0] 26)) w4) := (hB.drew).grown hG4 (show w2.heap.size ≤ wr.heap.size by omega) (fun c hc => by have := (hrl c hc).1; omega)
      refine hK.out _ _ ⟨n2, n5⟩ (fun hHeld => ?_)
      clear hK K
      refine wpAnyH_take (i := 15) (v := .pointer (some ⟨w2.heap.size, 5, none⟩)) rfl (by kernel_rfl) (by kernel_rfl) (by kernel_rfl) (fun _ _ _ h => h) (Or.inl ⟨by rfl, ?_⟩) hHeld ?_
      · intro w' hSw
        obtain ⟨s2, s5⟩ := hSw
        go_simp
      try simp only [Act.put, List.setIfInBounds_toArray, List.set_cons_zero, List.set_cons_succ]
      refine wpAnyH_ready (rs := [16]) (by kernel_rfl) (by simp) ?_
      refine AllReadyH.cons rfl (fun K hK => ?_) AllReadyH.nil
      go_simp
      have ne5 : ∀ i, (⟨w2.heap.size, 5, none⟩ : Addr) ≠ ⟨w.heap.size, i, none⟩ := fun i e => by have := congrArg Addr.block e; simp at this; omega
      refine hK.out _ _ ⟨(World.cell?_setCell_other _ _ _ _ (ne5 2)).trans n2, (World.cell?_setCell_other _ _ _ _ (ne5 5)).trans n5⟩ (fun hHeld => ?_)
      clear hK K
      refine wpAnyH_done (by kernel_rfl) ?_ _
      have nex : ∀ i, i ≠ 5 → (⟨w2.heap.size, 5, none⟩ : Addr) ≠ ⟨w2.heap.size, i, none⟩ := fun i h e => by have := congrArg Addr.off e; simp at this; omega
      have HO5 : Hid (OwnI (w4.setCell ⟨w2.heap.size, 5, none⟩ (.slice y (j * Wd + Wd) cy)) (w2.heap.size + 1) (.slice y (j * Wd + Wd) cy) ((j + 1) * Wd) (upto (ptF Wd (flipF Wd Hi ps)) ((j + 1) * Wd))) := by
        have h := hO4
        rw [HQ.out.1] at h
        rw [← flip_rows Wd Hi ps j q HQ.out.2.2.2.2.2] at h
        have e : j * Wd + Wd = (j + 1) * Wd := by rw [Nat.add_mul, Nat.one_mul]
        rw [e] at h ⊢
        exact ownsRow_setCell_below h (a := ⟨w2.heap.size, 5, none⟩) (show w2.heap.size < w2.heap.size + 1 by omega) _
      have HC5 : Hid ((w4.setCell ⟨w2.heap.size, 5, none⟩ (.slice y (j * Wd + Wd) cy)).cell? ⟨w2.heap.size, 5, none⟩ = some (.slice y (j * Wd + Wd) cy) ∧ (w4.setCell ⟨w2.heap.size, 5, none⟩ (.slice y (j * Wd + Wd) cy)).frozen? ⟨w2.heap.size, 5, none⟩ = false) := ⟨World.cell?_setCell_same _ _ _ nv, by rw [World.frozen?_setCell]; exact nf⟩
      have HC6 : Hid ((w4.setCell ⟨w2.heap.size, 5, none⟩ (.slice y (j * Wd + Wd) cy)).cell? ⟨w2.heap.size, 0, none⟩ = some (.int .i64 k) ∧ (w4.setCell ⟨w2.heap.size, 5, none⟩ (.slice y (j * Wd + Wd) cy)).cell? ⟨w2.heap.size, 1, none⟩ = some (.int .i64 d) ∧ (w4.setCell ⟨w2.heap.size, 5, none⟩ (.slice y (j * Wd + Wd) cy)).cell? ⟨w2.heap.size, 2, none⟩ = some (.int .i64 (Wd : Int)) ∧ (w4.setCell ⟨w2.heap.size, 5, none⟩ (.slice y (j * Wd + Wd) cy)).cell? ⟨w2.heap.size, 3, none⟩ = some (.int .i64 (Hi : Int)) ∧ (w4.setCell ⟨w2.heap.size, 5, none⟩ (.slice y (j * Wd + Wd) cy)).cell? ⟨w2.heap.size, 4, none⟩ = some (.slice x cn cx)) := ⟨(World.cell?_setCell_other _ _ _ _ (nex 0 (by omega))).trans HC4.out.1, (World.cell?_setCell_other _ _ _ _ (nex 1 (by omega))).trans HC4.out.2.1, (World.cell?_setCell_other _ _ _ _ (nex 2 (by omega))).trans HC4.out.2.2.1, (World.cell?_setCell_other _ _ _ _ (nex 3 (by omega))).trans HC4.out.2.2.2.1, (World.cell?_setCell_other _ _ _ _ (nex 4 (by omega))).trans HC4.out.2.2.2.2⟩
      have HB5 : Hid (Below w2.heap.size (w2.alloc (.cells #[.int .i64 k, .int .i64 d, .int .i64 (Wd : Int), .int .i64 (Hi : Int), .slice x cn cx, .slice none 0 0] 26)) (w4.setCell ⟨w2.heap.size, 5, none⟩ (.slice y (j * Wd + Wd) cy))) := HB4.out.setCell (p := ⟨w2.heap.size, 5, none⟩) (Nat.le_refl _) _
      clear hHeld HB4 HC4 hO4 hG4 n2 n5 nv nf g1 g2 hfar hrl hcells hO hB hv hvf m2 m5 HSEG ne5 nex
      go_wp2_with fail
      go_roundw
      case rel => exact ⟨j + 1, q, .slice y (j * Wd + Wd) cy, by have := HQ.out.2.2.2.2.2; omega, by go_num, HO5.out, HC5.out.1, HC5.out.2, HC6.out, HB5.out⟩
      case measure => simp [intOf]; try omega
theorem spec_flip_yes (k d : Int) (Wd Hi : Nat) (ca : Option Addr) (cn cc : Nat) (pa : Option Addr) (pn pc : Nat) (cs ps : List Int) (w : World) (hc : Ints w ca cs) (hcn : cs.length = cn) (hcl : cn ≤ 1048576) (hp : Ints w pa ps) (hpn : ps.length = pn) (hW : Wd ≤ 20) (hH : Hi ≤ 20) (hm : pn = Wd * Hi) (hpc : pn ≤ pc) (hW1 : 1 ≤ Wd)
    (hO : Calls Try.prog 17 #[.agg #[.int .i64 k, .int .i64 d, .int .i64 (Wd : Int), .int .i64 (Hi : Int), .slice ca cn cc, .slice pa pn pc]] ((w.alloc (.cells #[.int .i64 k, .int .i64 d, .int .i64 (Wd : Int), .int .i64 (Hi : Int), .slice ca cn cc, .slice pa pn pc] 26)).alloc (.cells #[.int .i64 0, .int .i64 0, .int .i64 0, .int .i64 0, .slice none 0 0, .slice none 0 0] 26)) fun e w' => e = .returned (.bool true) ∧ Below ((w.alloc (.cells #[.int .i64 k, .int .i64 d, .int .i64 (Wd : Int), .int .i64 (Hi : Int), .slice ca cn cc, .slice pa pn pc] 26)).alloc (.cells #[.int .i64 0, .int .i64 0, .int .i64 0, .int .i64 0, .slice none 0 0, .slice none 0 0] 26)).heap.size ((w.alloc (.cells #[.int .i64 k, .int .i64 d, .int .i64 (Wd : Int), .int .i64 (Hi : Int), .slice ca cn cc, .slice pa pn pc] 26)).alloc (.cells #[.int .i64 0, .int .i64 0, .int .i64 0, .int .i64 0, .slice none 0 0, .slice none 0 0] 26)) w') :
    Calls Try.prog 40 #[.agg #[.int .i64 k, .int .i64 d, .int .i64 (Wd : Int), .int .i64 (Hi : Int), .slice ca cn cc, .slice pa pn pc]] w fun e w' =>
      (∃ x cx y cy, e = .returned (.agg #[.int .i64 k, .int .i64 d, .int .i64 (Wd : Int), .int .i64 (Hi : Int), .slice x cn cx, .slice y (Wd * Hi) cy]) ∧ Ints w' x cs ∧ Ints w' y (upto (ptF Wd (flipF Wd Hi ps)) (Wd * Hi))) ∧ Below w.heap.size w w' := by
  refine (spec_flip_own k d Wd Hi ca cn cc pa pn pc cs ps w hc hcn hcl hp hpn hW hH hm hpc hW1 hO).mono ?_
  rintro e w' ⟨⟨x, cx, y, cy, rfl, h1, h2⟩, b⟩
  exact ⟨⟨x, cx, y, cy, rfl, h1.ints, h2.ints⟩, b⟩
end Go.Proofs.Ytjiogneidioknaa
