/- ImageTurn of the specification. -/
import Derived.Test.YtgeepemhmkoknaaBlankSpec
import Derived.Test.YtgeepemhmkoknaaImplTurn
import Derived.Test.YtgeepemhmkoknaaImgSpec3
namespace Go.Proofs.Ytgeepemhmkoknaa
open Go.RowKit

theorem turn_next (Wd Hi : Nat) (ps : List Int) (c t q : Nat) (h : t + (q + 1) = Hi) : upto (ptF Hi (turnF Wd Hi ps)) (c * Hi + t + 1) = upto (ptF Hi (turnF Wd Hi ps)) (c * Hi + t) ++ [ps.getD (q * Wd + c) 0] := by
  rw [upto_succ, ptF_at _ (by omega)]
  unfold turnF
  rw [show Hi - 1 - t = q by omega]
theorem ints_one (w : World) (p : Int) : Ints (w.alloc (.cells #[.int .i64 p] 3)) (some ⟨w.heap.size, 0, none⟩) [p] := by
  refine .inr ⟨w.heap.size, 0, rfl, by simp, fun i hi => ?_⟩
  have h0 : i = 0 := by simp at hi; omega
  subst h0
  rw [World.cell?_alloc_at _ _ _ _ rfl]; rfl

set_option linter.unusedSimpArgs false in
set_option maxHeartbeats 4000000 in
set_option maxRecDepth 20000 in
theorem spec_turn_yes (k d : Int) (Wd Hi : Nat) (ca : Option Addr) (cn cc : Nat) (pa : Option Addr) (pn pc : Nat) (cs ps : List Int) (w : World) (hc : Ints w ca cs) (hcn : cs.length = cn) (hcl : cn ≤ 1048576) (hp : Ints w pa ps) (hpn : ps.length = pn) (hW : Wd ≤ 20) (hH : Hi ≤ 20) (hm : pn = Wd * Hi) (_hpc : pn ≤ pc) (hW1 : 1 ≤ Wd)
    (hO : Calls Try.prog 14 #[.agg #[.int .i64 k, .int .i64 d, .int .i64 (Wd : Int), .int .i64 (Hi : Int), .slice ca cn cc, .slice pa pn pc]] ((w.alloc (.cells #[.int .i64 k, .int .i64 d, .int .i64 (Wd : Int), .int .i64 (Hi : Int), .slice ca cn cc, .slice pa pn pc] 25)).alloc (.cells #[.int .i64 0, .int .i64 0, .int .i64 0, .int .i64 0, .slice none 0 0, .slice none 0 0] 25)) fun e w' => e = .returned (.bool true) ∧ Below ((w.alloc (.cells #[.int .i64 k, .int .i64 d, .int .i64 (Wd : Int), .int .i64 (Hi : Int), .slice ca cn cc, .slice pa pn pc] 25)).alloc (.cells #[.int .i64 0, .int .i64 0, .int .i64 0, .int .i64 0, .slice none 0 0, .slice none 0 0] 25)).heap.size ((w.alloc (.cells #[.int .i64 k, .int .i64 d, .int .i64 (Wd : Int), .int .i64 (Hi : Int), .slice ca cn cc, .slice pa pn pc] 25)).alloc (.cells #[.int .i64 0, .int .i64 0, .int .i64 0, .int .i64 0, .slice none 0 0, .slice none 0 0] 25)) w') :
    Calls Try.prog 18 #[.agg #[.int .i64 k, .int .i64 d, .int .i64 (Wd : Int), .int .i64 (Hi : Int), .slice ca cn cc, .slice pa pn pc]] w fun e w' =>
      (∃ x cx y cy, e = .returned (.agg #[.int .i64 k, .int .i64 d, .int .i64 (Hi : Int), .int .i64 (Wd : Int), .slice x cn cx, .slice y (Hi * Wd) cy]) ∧ Ints w' x cs ∧ Ints w' y (upto (ptF Hi (turnF Wd Hi ps)) (Hi * Wd))) ∧ Below w.heap.size w w' := by
  have hB0 : Below w.heap.size w ((w.alloc (.cells #[.int .i64 k, .int .i64 d, .int .i64 (Wd : Int), .int .i64 (Hi : Int), .slice ca cn cc, .slice pa pn pc] 25)).alloc (.cells #[.int .i64 0, .int .i64 0, .int .i64 0, .int .i64 0, .slice none 0 0, .slice none 0 0] 25)) := ((Below.refl _ _).alloc (Nat.le_refl _) _).alloc (by simp) _
  have HO : Hid (Calls Try.prog 14 #[.agg #[.int .i64 k, .int .i64 d, .int .i64 (Wd : Int), .int .i64 (Hi : Int), .slice ca cn cc, .slice pa pn pc]] ((w.alloc (.cells #[.int .i64 k, .int .i64 d, .int .i64 (Wd : Int), .int .i64 (Hi : Int), .slice ca cn cc, .slice pa pn pc] 25)).alloc (.cells #[.int .i64 0, .int .i64 0, .int .i64 0, .int .i64 0, .slice none 0 0, .slice none 0 0] 25)) fun e w' => e = .returned (.bool true) ∧ Below ((w.alloc (.cells #[.int .i64 k, .int .i64 d, .int .i64 (Wd : Int), .int .i64 (Hi : Int), .slice ca cn cc, .slice pa pn pc] 25)).alloc (.cells #[.int .i64 0, .int .i64 0, .int .i64 0, .int .i64 0, .slice none 0 0, .slice none 0 0] 25)).heap.size ((w.alloc (.cells #[.int .i64 k, .int .i64 d, .int .i64 (Wd : Int), .int .i64 (Hi : Int), .slice ca cn cc, .slice pa pn pc] 25)).alloc (.cells #[.int .i64 0, .int .i64 0, .int .i64 0, .int .i64 0, .slice none 0 0, .slice none 0 0] 25)) w') := hO
  clear hO
  have HZ : Hid (((w.alloc (.cells #[.int .i64 k, .int .i64 d, .int .i64 (Wd : Int), .int .i64 (Hi : Int), .slice ca cn cc, .slice pa pn pc] 25)).alloc (.cells #[.int .i64 0, .int .i64 0, .int .i64 0, .int .i64 0, .slice none 0 0, .slice none 0 0] 25)).heap[w.heap.size + 1]? = some (.cells #[.int .i64 0, .int .i64 0, .int .i64 0, .int .i64 0, .slice none 0 0, .slice none 0 0] 25 (0, 0))) := heap_alloc2_new _ _ _
  have HBL : Hid (∀ w', Below w.heap.size w w' → Calls Try.prog 40 #[.agg #[.int .i64 k, .int .i64 d, .int .i64 (Wd : Int), .int .i64 (Hi : Int), .slice ca cn cc, .slice pa pn pc], .int .i64 (Hi : Int), .int .i64 (Wd : Int)] w' fun e w'' =>
      (∃ x cx, e = .returned (.agg #[.int .i64 k, .int .i64 d, .int .i64 (Hi : Int), .int .i64 (Wd : Int), .slice x cn cx, .slice none 0 0]) ∧ Owns w'' w'.heap.size x cs) ∧ Below w'.heap.size w' w'') :=
    fun w' b => blank_any k d _ _ ca cn cc pa pn pc _ _ cs w' (hc.kept b) hcn hcl
  have HIP : Hid (∀ w', Below w.heap.size w w' → Ints w' pa ps) := fun w' b => hp.kept b
  have HPN : Hid (ps.length = pn ∧ pn = Wd * Hi) := ⟨hpn, hm⟩
  have k0 := box_kept (box_new w (.int .i64 k) (.int .i64 d) (.int .i64 (Wd : Int)) (.int .i64 (Hi : Int)) (.slice ca cn cc) (.slice pa pn pc) 25) ((Below.refl _ _).alloc (Nat.le_refl _) (.cells #[.int .i64 0, .int .i64 0, .int .i64 0, .int .i64 0, .slice none 0 0, .slice none 0 0] 25)) (by simp)
  clear hc hcn hcl hp hpn hm
  go_enter Try.func18, Try.ntmps18
  go_wp2_with fail
  refine HO.out.mono ?_
  rintro e w1 ⟨rfl, b1⟩
  obtain ⟨k0, k1, k2, k3, k4, k5⟩ := box_kept k0 b1 (by simp; omega)
  have bel1 := hB0.trans (b1.mono hB0.size)
  have hlt1 : w.heap.size + 1 < w1.heap.size := Nat.lt_of_lt_of_le (by simp) b1.size
  have HZ1 : Hid (w1.heap[w.heap.size + 1]? = some (.cells #[.int .i64 0, .int .i64 0, .int .i64 0, .int .i64 0, .slice none 0 0, .slice none 0 0] 25 (0, 0))) := (b1.block _ (by simp)).trans HZ.out
  clear b1 hB0 HO HZ
  go_wp2_with fail
  refine (HBL.out w1 bel1).mono ?_
  rintro e w2 ⟨⟨x, cx, rfl, hX⟩, b2⟩
  obtain ⟨j0, j1, j2, j3, j4, j5⟩ := box_kept ⟨k0, k1, k2, k3, k4, k5⟩ b2 (by omega)
  have bel2 := bel1.trans (b2.mono bel1.size)
  have hlt2 : w.heap.size + 1 < w2.heap.size := Nat.lt_of_lt_of_le hlt1 b2.size
  have HZ2 : Hid (w2.heap[w.heap.size + 1]? = some (.cells #[.int .i64 0, .int .i64 0, .int .i64 0, .int .i64 0, .slice none 0 0, .slice none 0 0] 25 (0, 0))) := (b2.block _ hlt1).trans HZ1.out
  have HX : Hid (Owns w2 (w.heap.size + 1 + 1) x cs) := hX.lower hlt1
  clear b2 bel1 HZ1 hX k0 k1 k2 k3 k4 k5 HBL hlt1
  obtain ⟨l0, l1, l2, l3, l4, l5⟩ := box_kept ⟨j0, j1, j2, j3, j4, j5⟩ ((Below.refl _ w2).alloc (Nat.le_refl _) (.cells #[.int .i64 k, .int .i64 d, .int .i64 (Hi : Int), .int .i64 (Wd : Int), .slice x cn cx, .slice none 0 0] 25)) (by omega)
  have hN0 := box6 (heap_alloc_new w2 (.cells #[.int .i64 k, .int .i64 d, .int .i64 (Hi : Int), .int .i64 (Wd : Int), .slice x cn cx, .slice none 0 0] 25))
  have bel3 : Below w.heap.size w (w2.alloc (.cells #[.int .i64 k, .int .i64 d, .int .i64 (Hi : Int), .int .i64 (Wd : Int), .slice x cn cx, .slice none 0 0] 25)) := bel2.alloc bel2.size _
  have HZ3 : Hid ((w2.alloc (.cells #[.int .i64 k, .int .i64 d, .int .i64 (Hi : Int), .int .i64 (Wd : Int), .slice x cn cx, .slice none 0 0] 25)).heap[w.heap.size + 1]? = some (.cells #[.int .i64 0, .int .i64 0, .int .i64 0, .int .i64 0, .slice none 0 0, .slice none 0 0] 25 (0, 0))) := (heap_alloc_old _ _ _ hlt2).trans HZ2.out
  have HE : Hid (OwnI (w2.alloc (.cells #[.int .i64 k, .int .i64 d, .int .i64 (Hi : Int), .int .i64 (Wd : Int), .slice x cn cx, .slice none 0 0] 25)) (w2.heap.size + 1) (.slice none 0 0) 0 []) := World.ownsRow_nil _ _ _ _
  clear bel2 HZ2 j0 j1 j2 j3 j4 j5
  go_wp2_with fail
  have HL : Hid (True) := trivial
  go_loopw [4] (fun i wr => ∃ (c : Nat) (v : Value), c ≤ Wd ∧ i = .int .i64 (c : Int) ∧ OwnI wr (w2.heap.size + 1) v (c * Hi) (upto (ptF Hi (turnF Wd Hi ps)) (c * Hi)) ∧ wr.cell? ⟨w2.heap.size, 5, none⟩ = some v ∧ wr.frozen? ⟨w2.heap.size, 5, none⟩ = false ∧ (wr.cell? ⟨w2.heap.size, 0, none⟩ = some (.int .i64 k) ∧ wr.cell? ⟨w2.heap.size, 1, none⟩ = some (.int .i64 d) ∧ wr.cell? ⟨w2.heap.size, 2, none⟩ = some (.int .i64 (Hi : Int)) ∧ wr.cell? ⟨w2.heap.size, 3, none⟩ = some (.int .i64 (Wd : Int)) ∧ wr.cell? ⟨w2.heap.size, 4, none⟩ = some (.slice x cn cx)) ∧ Below w2.heap.size (w2.alloc (.cells #[.int .i64 k, .int .i64 d, .int .i64 (Hi : Int), .int .i64 (Wd : Int), .slice x cn cx, .slice none 0 0] 25)) wr) (fun i _ => Wd - (intOf i).toNat)
  case atStart => exact ⟨0, .slice none 0 0, by omega, rfl, by simpa [upto] using HE.out, hN0.1.2.2.2.2.2, hN0.2.2.2.2.2.2, ⟨hN0.1.1, hN0.1.2.1, hN0.1.2.2.1, hN0.1.2.2.2.1, hN0.1.2.2.2.2.1⟩, Below.refl _ _⟩
  case round =>
    obtain ⟨c, v, hcW, rfl, hO, hv, hvf, hcells, hB⟩ := hrel
    clear hN0 HE
    have m2 : wr.cell? ⟨w.heap.size, 2, none⟩ = some (.int .i64 (Wd : Int)) := (hB.cell (p := ⟨w.heap.size, 2, none⟩) (show w.heap.size < w2.heap.size by omega)).trans l2
    have m3 : wr.cell? ⟨w.heap.size, 3, none⟩ = some (.int .i64 (Hi : Int)) := (hB.cell (p := ⟨w.heap.size, 3, none⟩) (show w.heap.size < w2.heap.size by omega)).trans l3
    by_cases hr : c = Wd
    · subst hr
      have hz : wr.heap[w.heap.size + 1]? = some (.cells #[.int .i64 0, .int .i64 0, .int .i64 0, .int .i64 0, .slice none 0 0, .slice none 0 0] 25 (0, 0)) := (hB.block _ hlt2).trans HZ3.out
      obtain ⟨c0, c1, c2, c3, c4⟩ := hcells
      obtain ⟨y, cy, rfl, hOy⟩ := hO.owns
      have bw : Below w2.heap.size w2 wr := ((Below.refl _ w2).alloc (Nat.le_refl _) _).trans hB
      have HOX : Hid (Owns wr (w.heap.size + 1 + 1) x cs) := HX.out.kept bw
      have HOY : Hid (Owns wr (w2.heap.size + 1) y (upto (ptF Hi (turnF c Hi ps)) (c * Hi))) := hOy
      have HBR : Hid (Below w.heap.size w wr) := bel3.trans (hB.mono (show w.heap.size ≤ w2.heap.size by omega))
      have hI6 : (Try.prog.info? 25).map (·.size) = some (#[Value.int .i64 k, .int .i64 d, .int .i64 (Hi : Int), .int .i64 (c : Int), .slice x cn cx, .slice y (c * Hi) cy]).size := by kernel_rfl
      have h16 : (#[Value.int .i64 k, .int .i64 d, .int .i64 (Hi : Int), .int .i64 (c : Int), .slice x cn cx, .slice y (c * Hi) cy]).all (·.oneCell') = true := by simp [Value.oneCell']
      clear hO hOy bw hB HX HZ3 HL HIP HPN hW hH _hpc hW1 l0 l1 l2 l3 l4 l5
      go_wp2_with (refine wpList_store_row rfl 25 (.tmp 2) (.tmp 44) rfl (w.heap.size + 1) #[.int .i64 k, .int .i64 d, .int .i64 (Hi : Int), .int .i64 (c : Int), .slice x cn cx, .slice y (c * Hi) cy] rfl rfl 25 #[.int .i64 0, .int .i64 0, .int .i64 0, .int .i64 0, .slice none 0 0, .slice none 0 0] hz hI6 rfl h16 ?_)
      have hs2 := setRow_heap wr (w.heap.size + 1) _ #[.int .i64 k, .int .i64 d, .int .i64 (Hi : Int), .int .i64 (c : Int), .slice x cn cx, .slice y (c * Hi) cy] _ _ hz
      refine bodyPost_ret_by (results_cell_row (p := 2) (ty := 25) (by kernel_rfl) _ _ (w.heap.size + 1) 25 _ (0, 0) _ rfl hs2 Try.underlying25 rfl (by kernel_rfl)) rfl ⟨⟨x, cx, y, cy, by rw [Nat.mul_comm Hi c], (HOX.out.row (by omega) _).ints, ?_⟩, ?_⟩
      · rw [Nat.mul_comm Hi c]; exact (HOY.out.row (by omega) _).ints
      · exact HBR.out.trans ((below_setRow _ _ _).mono (by omega))
    · have hcl' : c < Wd := by omega
      have hci : (c : Int) < (Wd : Int) := by omega
      go_wp2_with fail
      go_loopw [5] (fun i wr => ∃ (t r n : Nat) (v : Value), t + r = Hi ∧ n = c * Hi + t ∧ i = .int .i64 ((r : Int) - 1) ∧ OwnI wr (w2.heap.size + 1) v (n) (upto (ptF Hi (turnF Wd Hi ps)) (n)) ∧ wr.cell? ⟨w2.heap.size, 5, none⟩ = some v ∧ wr.frozen? ⟨w2.heap.size, 5, none⟩ = false ∧ (wr.cell? ⟨w2.heap.size, 0, none⟩ = some (.int .i64 k) ∧ wr.cell? ⟨w2.heap.size, 1, none⟩ = some (.int .i64 d) ∧ wr.cell? ⟨w2.heap.size, 2, none⟩ = some (.int .i64 (Hi : Int)) ∧ wr.cell? ⟨w2.heap.size, 3, none⟩ = some (.int .i64 (Wd : Int)) ∧ wr.cell? ⟨w2.heap.size, 4, none⟩ = some (.slice x cn cx)) ∧ Below w2.heap.size (w2.alloc (.cells #[.int .i64 k, .int .i64 d, .int .i64 (Hi : Int), .int .i64 (Wd : Int), .slice x cn cx, .slice none 0 0] 25)) wr) (fun i _ => (intOf i + 1).toNat)
      case atStart => exact ⟨0, Hi, c * Hi, v, by omega, rfl, rfl, hO, hv, hvf, hcells, hB⟩
      case round =>
        clear hO hv hvf hcells hB m2 m3
        obtain ⟨t, r, n, v, htr, hn, rfl, hO, hv, hvf, hcells, hB⟩ := hrel
        have m2 : wr.cell? ⟨w.heap.size, 2, none⟩ = some (.int .i64 (Wd : Int)) := (hB.cell (p := ⟨w.heap.size, 2, none⟩) (show w.heap.size < w2.heap.size by omega)).trans l2
        have m5 : wr.cell? ⟨w.heap.size, 5, none⟩ = some (.slice pa pn pc) := (hB.cell (p := ⟨w.heap.size, 5, none⟩) (show w.heap.size < w2.heap.size by omega)).trans l5
        by_cases hr0 : r = 0
        · subst hr0
          have hth : t = Hi := by omega
          have e : n = (c + 1) * Hi := by rw [hn, hth, Nat.add_mul, Nat.one_mul]
          have HR : Hid (∃ (c' : Nat) (v : Value), c' ≤ Wd ∧ Value.int .i64 ((c : Int) + 1) = .int .i64 (c' : Int) ∧ OwnI wr (w2.heap.size + 1) v (c' * Hi) (upto (ptF Hi (turnF Wd Hi ps)) (c' * Hi)) ∧ wr.cell? ⟨w2.heap.size, 5, none⟩ = some v ∧ wr.frozen? ⟨w2.heap.size, 5, none⟩ = false ∧ (wr.cell? ⟨w2.heap.size, 0, none⟩ = some (.int .i64 k) ∧ wr.cell? ⟨w2.heap.size, 1, none⟩ = some (.int .i64 d) ∧ wr.cell? ⟨w2.heap.size, 2, none⟩ = some (.int .i64 (Hi : Int)) ∧ wr.cell? ⟨w2.heap.size, 3, none⟩ = some (.int .i64 (Wd : Int)) ∧ wr.cell? ⟨w2.heap.size, 4, none⟩ = some (.slice x cn cx)) ∧ Below w2.heap.size (w2.alloc (.cells #[.int .i64 k, .int .i64 d, .int .i64 (Hi : Int), .int .i64 (Wd : Int), .slice x cn cx, .slice none 0 0] 25)) wr) := ⟨c + 1, v, by omega, by simp, by rw [← e]; exact hO, hv, hvf, hcells, hB⟩
          clear hO hv hvf hcells hB m2 m5 hn e
          go_wp2_with fail
          go_roundw
          case rel => exact HR.out
          case measure => simp [intOf]; omega
        · obtain ⟨q, rfl⟩ : ∃ q, r = q + 1 := ⟨r - 1, by omega⟩
          have hq1 : ((q + 1 : Nat) : Int) - 1 = (q : Int) := by omega
          rw [hq1]
          have hP0 : (q + 1) * Wd ≤ Hi * Wd := Nat.mul_le_mul_right _ (by omega)
          rw [Nat.add_mul, Nat.one_mul, Nat.mul_comm Hi Wd] at hP0
          obtain ⟨P1, hP1⟩ : ∃ P1, P1 = q * Wd := ⟨_, rfl⟩
          rw [← hP1] at hP0
          obtain ⟨I, hI⟩ : ∃ I, I = P1 + c := ⟨_, rfl⟩
          have hPn : I < pn := by rw [HPN.out.2]; omega
          have hPs : pn ≤ 20 * 20 := by rw [HPN.out.2]; exact Nat.mul_le_mul hW hH
          have hnn : n + 1 ≤ 20 * 20 := by
            have h1 : (c + 1) * Hi ≤ Wd * Hi := Nat.mul_le_mul_right _ (by omega)
            rw [Nat.add_mul, Nat.one_mul, ← HPN.out.2] at h1
            omega
          have e1 : (q : Int) * (Wd : Int) = (P1 : Int) := by rw [hP1]; simp
          have e2 : (P1 : Int) + (c : Int) = (I : Int) := by omega
          have w1' := wrap_i64_nat P1 (by omega)
          have w2' := wrap_i64_nat I (by omega)
          have belr : Below w.heap.size w wr := bel3.trans (hB.mono (show w.heap.size ≤ w2.heap.size by omega))
          have hIr := HIP.out wr belr
          have hps : I < ps.length := by rw [HPN.out.1]; exact hPn
          have hpa : ∃ b off, pa = some ⟨b, off, none⟩ ∧ b < w.heap.size ∧ wr.cell? ⟨b, off + I, none⟩ = some (.int .i64 (ps.getD I 0)) := by
            rcases HIP.out w (Below.refl _ _) with e | ⟨b, off, e, hb, hcell⟩
            · rw [e] at hps; simp at hps
            · refine ⟨b, off, e, hb, (belr.cell (p := ⟨b, off + I, none⟩) hb).trans ?_⟩
              rw [hcell I hps, List.getD_eq_getElem?_getD, List.getElem?_eq_getElem hps]; rfl
          obtain ⟨b, off, rfl, hbw, hpx⟩ := hpa
          have HNX : Hid (upto (ptF Hi (turnF Wd Hi ps)) (n + 1) = upto (ptF Hi (turnF Wd Hi ps)) n ++ [ps.getD I 0]) := by
            have := turn_next Wd Hi ps c t q htr
            rw [← hn, ← hP1, ← hI] at this; exact this
          obtain ⟨p, hp⟩ : ∃ p, p = ps.getD I 0 := ⟨_, rfl⟩
          rw [← hp] at hpx HNX
          have hII : (I : Int) < (pn : Int) := by omega
          have hI0 : (0 : Int) ≤ (I : Int) := by omega
          have hrl := World.ownsRow.lt hO
          have hq20 : q ≤ 20 := by omega
          have HQ : Hid (t + (q + 1) = Hi ∧ n = c * Hi + t) := ⟨htr, hn⟩
          have hltr : w2.heap.size < wr.heap.size := by have := hB.size; simp at this; omega
          clear hIr hps hp hI hP1 hP0 hn htr
          go_wp2_with fail
          refine wp_region_held_drew (S := fun w' => w'.cell? ⟨w.heap.size, 2, none⟩ = some (.int .i64 (Wd : Int)) ∧ w'.cell? ⟨w.heap.size, 5, none⟩ = some (.slice (some ⟨b, off, none⟩) pn pc) ∧ w'.cell? ⟨b, off + I, none⟩ = some (.int .i64 p)) (by kernel_rfl) ⟨m2, m5, hpx⟩ (fun hHeld => ?_)
          refine wpAnyH_take (i := 0) (v := .pointer (some ⟨w2.heap.size, 5, none⟩)) rfl (by kernel_rfl) (by kernel_rfl) (by kernel_rfl) (fun _ _ _ h => h) (Or.inl ⟨by rfl, ?_⟩) hHeld ?_
          · intro w' hSw
            obtain ⟨s2, s5, s6⟩ := hSw
            go_simp
          try simp only [Act.put, List.setIfInBounds_toArray, List.set_cons_zero, List.set_cons_succ]
          refine wpAnyH_take (i := 2) (v := .pointer (some ⟨w.heap.size, 5, none⟩)) rfl (by kernel_rfl) (by kernel_rfl) (by kernel_rfl) (fun _ _ _ h => h) (Or.inl ⟨by rfl, ?_⟩) hHeld ?_
          · intro w' hSw
            obtain ⟨s2, s5, s6⟩ := hSw
            go_simp
          try simp only [Act.put, List.setIfInBounds_toArray, List.set_cons_zero, List.set_cons_succ]
          refine wpAnyH_take (i := 3) (v := .slice (some ⟨b, off, none⟩) pn pc) rfl (by kernel_rfl) (by kernel_rfl) (by kernel_rfl) (fun _ _ _ h => h) (Or.inl ⟨by rfl, ?_⟩) hHeld ?_
          · intro w' hSw
            obtain ⟨s2, s5, s6⟩ := hSw
            go_simp
          try simp only [Act.put, List.setIfInBounds_toArray, List.set_cons_zero, List.set_cons_succ]
          refine wpAnyH_take (i := 4) (v := .int .i64 (q : Int)) rfl (by kernel_rfl) (by kernel_rfl) (by kernel_rfl) (fun _ _ _ h => h) (Or.inl ⟨by rfl, ?_⟩) hHeld ?_
          · intro w' hSw
            obtain ⟨s2, s5, s6⟩ := hSw
            go_simp
          try simp only [Act.put, List.setIfInBounds_toArray, List.set_cons_zero, List.set_cons_succ]
          refine wpAnyH_take (i := 5) (v := .pointer (some ⟨w.heap.size, 2, none⟩)) rfl (by kernel_rfl) (by kernel_rfl) (by kernel_rfl) (fun _ _ _ h => h) (Or.inl ⟨by rfl, ?_⟩) hHeld ?_
          · intro w' hSw
            obtain ⟨s2, s5, s6⟩ := hSw
            go_simp
          try simp only [Act.put, List.setIfInBounds_toArray, List.set_cons_zero, List.set_cons_succ]
          refine wpAnyH_take (i := 6) (v := .int .i64 (Wd : Int)) rfl (by kernel_rfl) (by kernel_rfl) (by kernel_rfl) (fun _ _ _ h => h) (Or.inl ⟨by rfl, ?_⟩) hHeld ?_
          · intro w' hSw
            obtain ⟨s2, s5, s6⟩ := hSw
            go_simp
          try simp only [Act.put, List.setIfInBounds_toArray, List.set_cons_zero, List.set_cons_succ]
          refine wpAnyH_take (i := 7) (v := .int .i64 (P1 : Int)) rfl (by kernel_rfl) (by kernel_rfl) (by kernel_rfl) (fun _ _ _ h => h) (Or.inl ⟨by rfl, ?_⟩) hHeld ?_
          · intro w' hSw
            obtain ⟨s2, s5, s6⟩ := hSw
            go_simp
          try simp only [Act.put, List.setIfInBounds_toArray, List.set_cons_zero, List.set_cons_succ]
          refine wpAnyH_take (i := 8) (v := .int .i64 (c : Int)) rfl (by kernel_rfl) (by kernel_rfl) (by kernel_rfl) (fun _ _ _ h => h) (Or.inl ⟨by rfl, ?_⟩) hHeld ?_
          · intro w' hSw
            obtain ⟨s2, s5, s6⟩ := hSw
            go_simp
          try simp only [Act.put, List.setIfInBounds_toArray, List.set_cons_zero, List.set_cons_succ]
          refine wpAnyH_take (i := 9) (v := .int .i64 (I : Int)) rfl (by kernel_rfl) (by kernel_rfl) (by kernel_rfl) (fun _ _ _ h => h) (Or.inl ⟨by rfl, ?_⟩) hHeld ?_
          · intro w' hSw
            obtain ⟨s2, s5, s6⟩ := hSw
            go_simp
          try simp only [Act.put, List.setIfInBounds_toArray, List.set_cons_zero, List.set_cons_succ]
          refine wpAnyH_take (i := 10) (v := .pointer (some ⟨b, off + I, none⟩)) rfl (by kernel_rfl) (by kernel_rfl) (by kernel_rfl) (fun _ _ _ h => h) (Or.inl ⟨by rfl, ?_⟩) hHeld ?_
          · intro w' hSw
            obtain ⟨s2, s5, s6⟩ := hSw
            go_simp
          try simp only [Act.put, List.setIfInBounds_toArray, List.set_cons_zero, List.set_cons_succ]
          refine wpAnyH_take (i := 11) (v := .int .i64 p) rfl (by kernel_rfl) (by kernel_rfl) (by kernel_rfl) (fun _ _ _ h => h) (Or.inl ⟨by rfl, ?_⟩) hHeld ?_
          · intro w' hSw
            obtain ⟨s2, s5, s6⟩ := hSw
            go_simp
          try simp only [Act.put, List.setIfInBounds_toArray, List.set_cons_zero, List.set_cons_succ]
          have v1 : (wr.drew.alloc (.cells #[.int .i64 p] 3)).cell? ⟨w2.heap.size, 5, none⟩ = some v := (World.cell?_alloc_past _ w2.heap.size 5 hltr).trans hv
          have q2 : (wr.drew.alloc (.cells #[.int .i64 p] 3)).cell? ⟨w.heap.size, 2, none⟩ = some (.int .i64 (Wd : Int)) := (World.cell?_alloc_past _ w.heap.size 2 (show w.heap.size < wr.heap.size by omega)).trans m2
          have q5 : (wr.drew.alloc (.cells #[.int .i64 p] 3)).cell? ⟨w.heap.size, 5, none⟩ = some (.slice (some ⟨b, off, none⟩) pn pc) := (World.cell?_alloc_past _ w.heap.size 5 (show w.heap.size < wr.heap.size by omega)).trans m5
          have q6 : (wr.drew.alloc (.cells #[.int .i64 p] 3)).cell? ⟨b, off + I, none⟩ = some (.int .i64 p) := (World.cell?_alloc_past _ b (off + I) (show b < wr.heap.size by omega)).trans hpx
          have HO1 : Hid (OwnI (wr.drew.alloc (.cells #[.int .i64 p] 3)) (w2.heap.size + 1) v n (upto (ptF Hi (turnF Wd Hi ps)) n)) := World.ownsRow.alloc (show World.ownsRow _ _ _ _ _ _ _ from hO) _
          have HI1 : Hid (Ints (wr.drew.alloc (.cells #[.int .i64 p] 3)) (some ⟨wr.heap.size, 0, none⟩) [p]) := ints_one wr.drew p
          have hvh : wr.drew.cell? ⟨w2.heap.size, 5, none⟩ = some v := hv
          refine wpAnyH_ready (rs := [1, 12]) (by kernel_rfl) (by simp) ?_
          refine AllReadyH.cons rfl (fun K hK => ?_) (AllReadyH.cons rfl (fun K hK => ?_) AllReadyH.nil)
          · go_simp
            refine hK.out _ _ hHeld (fun hHeld => ?_)
            clear hK K
            try simp only [Act.put, List.setIfInBounds_toArray, List.set_cons_zero, List.set_cons_succ]
            refine wpAnyH_ready (rs := [12]) (by kernel_rfl) (by simp) ?_
            refine AllReadyH.cons rfl (fun K hK => ?_) AllReadyH.nil
            go_simp
            refine hK.out _ _ ⟨q2, q5, q6⟩ (fun hHeld => ?_)
            clear hK K
            try simp only [Act.put, List.setIfInBounds_toArray, List.set_cons_zero, List.set_cons_succ]
            refine wpAnyH_ready (rs := [13]) (by kernel_rfl) (by simp) ?_
            refine AllReadyH.cons rfl (fun K hK => ?_) AllReadyH.nil
            refine step_append_ints (by rfl) _ _ (by rfl) (w2.heap.size + 1) v n _ (by rfl) HO1.out (some ⟨wr.heap.size, 0, none⟩) 1 1 [p] (by rfl) HI1.out rfl (by omega) (by simp; omega) ?_
            intro y cy w4 hO4 hG4
            simp only [List.getElem_toArray, List.getElem_cons_succ, List.getElem_cons_zero, Act.put, List.setIfInBounds_toArray, List.set_cons_zero, List.set_cons_succ]
            have hfar : ∀ e, e ≤ w2.heap.size → some e ≠ v.ownBlock := fun e he h => absurd (hrl e h.symm).1 (by omega)
            have gg : ∀ e, e ≤ w2.heap.size → w4.heap[e]? = wr.heap[e]? := fun e he => (hG4.block e (show e < (wr.drew.alloc _).heap.size by simp; omega) (hfar e he)).trans (heap_alloc_old _ _ _ (show e < wr.heap.size by omega))
            have g1 := gg w.heap.size (by omega)
            have g2 := gg w2.heap.size (Nat.le_refl _)
            have g3 := gg b (by omega)
            have n2 : w4.cell? ⟨w.heap.size, 2, none⟩ = some (.int .i64 (Wd : Int)) := (World.cell?_of_block (w := wr) (a := ⟨w.heap.size, 2, none⟩) g1).trans m2
            have n5 : w4.cell? ⟨w.heap.size, 5, none⟩ = some (.slice (some ⟨b, off, none⟩) pn pc) := (World.cell?_of_block (w := wr) (a := ⟨w.heap.size, 5, none⟩) g1).trans m5
            have n6 : w4.cell? ⟨b, off + I, none⟩ = some (.int .i64 p) := (World.cell?_of_block (w := wr) (a := ⟨b, off + I, none⟩) g3).trans hpx
            have nv : w4.cell? ⟨w2.heap.size, 5, none⟩ = some v := (World.cell?_of_block (w := wr) (a := ⟨w2.heap.size, 5, none⟩) g2).trans hv
            have nf : w4.frozen? ⟨w2.heap.size, 5, none⟩ = false := (World.frozen?_of_block (w := wr) (a := ⟨w2.heap.size, 5, none⟩) g2).trans hvf
            have HC4 : Hid (w4.cell? ⟨w2.heap.size, 0, none⟩ = some (.int .i64 k) ∧ w4.cell? ⟨w2.heap.size, 1, none⟩ = some (.int .i64 d) ∧ w4.cell? ⟨w2.heap.size, 2, none⟩ = some (.int .i64 (Hi : Int)) ∧ w4.cell? ⟨w2.heap.size, 3, none⟩ = some (.int .i64 (Wd : Int)) ∧ w4.cell? ⟨w2.heap.size, 4, none⟩ = some (.slice x cn cx)) :=
              ⟨(World.cell?_of_block (w := wr) (a := ⟨w2.heap.size, 0, none⟩) g2).trans hcells.1, (World.cell?_of_block (w := wr) (a := ⟨w2.heap.size, 1, none⟩) g2).trans hcells.2.1, (World.cell?_of_block (w := wr) (a := ⟨w2.heap.size, 2, none⟩) g2).trans hcells.2.2.1, (World.cell?_of_block (w := wr) (a := ⟨w2.heap.size, 3, none⟩) g2).trans hcells.2.2.2.1, (World.cell?_of_block (w := wr) (a := ⟨w2.heap.size, 4, none⟩) g2).trans hcells.2.2.2.2⟩
            have HB4 : Hid (Below w2.heap.size (w2.alloc (.cells #[.int .i64 k, .int .i64 d, .int .i64 (Hi : Int), .int .i64 (Wd : Int), .slice x cn cx, .slice none 0 0] 25)) w4) := ((hB.drew).alloc (show w2.heap.size ≤ wr.heap.size by omega) _).grown hG4 (by simp; omega) (fun e he => by have := (hrl e he).1; omega)
            refine hK.out _ _ ⟨n2, n5, n6⟩ (fun hHeld => ?_)
            clear hK K
            refine wpAnyH_take (i := 14) (v := .pointer (some ⟨w2.heap.size, 5, none⟩)) rfl (by kernel_rfl) (by kernel_rfl) (by kernel_rfl) (fun _ _ _ h => h) (Or.inl ⟨by rfl, ?_⟩) hHeld ?_
            · intro w' hSw
              obtain ⟨s2, s5, s6⟩ := hSw
              go_simp
            try simp only [Act.put, List.setIfInBounds_toArray, List.set_cons_zero, List.set_cons_succ]
            refine wpAnyH_ready (rs := [15]) (by kernel_rfl) (by simp) ?_
            refine AllReadyH.cons rfl (fun K hK => ?_) AllReadyH.nil
            go_simp
            have ne5 : ∀ e i, e < w2.heap.size → (⟨w2.heap.size, 5, none⟩ : Addr) ≠ ⟨e, i, none⟩ := fun e i he h => by have := congrArg Addr.block h; simp at this; omega
            refine hK.out _ _ ⟨(World.cell?_setCell_other _ _ _ _ (ne5 _ 2 (by omega))).trans n2, (World.cell?_setCell_other _ _ _ _ (ne5 _ 5 (by omega))).trans n5, (World.cell?_setCell_other _ _ _ _ (ne5 b (off + I) (by omega))).trans n6⟩ (fun hHeld => ?_)
            clear hK K
            refine wpAnyH_done (by kernel_rfl) ?_ _
            have nex : ∀ i, i ≠ 5 → (⟨w2.heap.size, 5, none⟩ : Addr) ≠ ⟨w2.heap.size, i, none⟩ := fun i h e => by have := congrArg Addr.off e; simp at this; omega
            have HO5 : Hid (OwnI (w4.setCell ⟨w2.heap.size, 5, none⟩ (.slice y (n + 1) cy)) (w2.heap.size + 1) (.slice y (n + 1) cy) (n + 1) (upto (ptF Hi (turnF Wd Hi ps)) (n + 1))) := by
              have h := hO4
              rw [← HNX.out] at h
              exact ownsRow_setCell_below h (a := ⟨w2.heap.size, 5, none⟩) (show w2.heap.size < w2.heap.size + 1 by omega) _
            have HC5 : Hid ((w4.setCell ⟨w2.heap.size, 5, none⟩ (.slice y (n + 1) cy)).cell? ⟨w2.heap.size, 5, none⟩ = some (.slice y (n + 1) cy) ∧ (w4.setCell ⟨w2.heap.size, 5, none⟩ (.slice y (n + 1) cy)).frozen? ⟨w2.heap.size, 5, none⟩ = false) := ⟨World.cell?_setCell_same _ _ _ nv, by rw [World.frozen?_setCell]; exact nf⟩
            have HC6 : Hid ((w4.setCell ⟨w2.heap.size, 5, none⟩ (.slice y (n + 1) cy)).cell? ⟨w2.heap.size, 0, none⟩ = some (.int .i64 k) ∧ (w4.setCell ⟨w2.heap.size, 5, none⟩ (.slice y (n + 1) cy)).cell? ⟨w2.heap.size, 1, none⟩ = some (.int .i64 d) ∧ (w4.setCell ⟨w2.heap.size, 5, none⟩ (.slice y (n + 1) cy)).cell? ⟨w2.heap.size, 2, none⟩ = some (.int .i64 (Hi : Int)) ∧ (w4.setCell ⟨w2.heap.size, 5, none⟩ (.slice y (n + 1) cy)).cell? ⟨w2.heap.size, 3, none⟩ = some (.int .i64 (Wd : Int)) ∧ (w4.setCell ⟨w2.heap.size, 5, none⟩ (.slice y (n + 1) cy)).cell? ⟨w2.heap.size, 4, none⟩ = some (.slice x cn cx)) := ⟨(World.cell?_setCell_other _ _ _ _ (nex 0 (by omega))).trans HC4.out.1, (World.cell?_setCell_other _ _ _ _ (nex 1 (by omega))).trans HC4.out.2.1, (World.cell?_setCell_other _ _ _ _ (nex 2 (by omega))).trans HC4.out.2.2.1, (World.cell?_setCell_other _ _ _ _ (nex 3 (by omega))).trans HC4.out.2.2.2.1, (World.cell?_setCell_other _ _ _ _ (nex 4 (by omega))).trans HC4.out.2.2.2.2⟩
            have HB5 : Hid (Below w2.heap.size (w2.alloc (.cells #[.int .i64 k, .int .i64 d, .int .i64 (Hi : Int), .int .i64 (Wd : Int), .slice x cn cx, .slice none 0 0] 25)) (w4.setCell ⟨w2.heap.size, 5, none⟩ (.slice y (n + 1) cy))) := HB4.out.setCell (p := ⟨w2.heap.size, 5, none⟩) (Nat.le_refl _) _
            clear hHeld HB4 HC4 hO4 hG4 n2 n5 n6 nv nf g1 g2 g3 gg hfar hrl hcells hO hB hv hvf m2 m5 ne5 nex v1 q2 q5 q6 HO1 HI1 hvh hpx
            go_wp2_with fail
            go_roundw
            case rel => exact ⟨t + 1, q, n + 1, .slice y (n + 1) cy, by have := HQ.out.1; omega, by have := HQ.out.2; omega, by go_num, HO5.out, HC5.out.1, HC5.out.2, HC6.out, HB5.out⟩
            case measure => simp [intOf]; try omega
          · go_simp
            refine hK.out _ _ ⟨q2, q5, q6⟩ (fun hHeld => ?_)
            clear hK K
            try simp only [Act.put, List.setIfInBounds_toArray, List.set_cons_zero, List.set_cons_succ]
            refine wpAnyH_ready (rs := [1]) (by kernel_rfl) (by simp) ?_
            refine AllReadyH.cons rfl (fun K hK => ?_) AllReadyH.nil
            go_simp
            refine hK.out _ _ hHeld (fun hHeld => ?_)
            clear hK K
            try simp only [Act.put, List.setIfInBounds_toArray, List.set_cons_zero, List.set_cons_succ]
            refine wpAnyH_ready (rs := [13]) (by kernel_rfl) (by simp) ?_
            refine AllReadyH.cons rfl (fun K hK => ?_) AllReadyH.nil
            refine step_append_ints (by rfl) _ _ (by rfl) (w2.heap.size + 1) v n _ (by rfl) HO1.out (some ⟨wr.heap.size, 0, none⟩) 1 1 [p] (by rfl) HI1.out rfl (by omega) (by simp; omega) ?_
            intro y cy w4 hO4 hG4
            simp only [List.getElem_toArray, List.getElem_cons_succ, List.getElem_cons_zero, Act.put, List.setIfInBounds_toArray, List.set_cons_zero, List.set_cons_succ]
            have hfar : ∀ e, e ≤ w2.heap.size → some e ≠ v.ownBlock := fun e he h => absurd (hrl e h.symm).1 (by omega)
            have gg : ∀ e, e ≤ w2.heap.size → w4.heap[e]? = wr.heap[e]? := fun e he => (hG4.block e (show e < (wr.drew.alloc _).heap.size by simp; omega) (hfar e he)).trans (heap_alloc_old _ _ _ (show e < wr.heap.size by omega))
            have g1 := gg w.heap.size (by omega)
            have g2 := gg w2.heap.size (Nat.le_refl _)
            have g3 := gg b (by omega)
            have n2 : w4.cell? ⟨w.heap.size, 2, none⟩ = some (.int .i64 (Wd : Int)) := (World.cell?_of_block (w := wr) (a := ⟨w.heap.size, 2, none⟩) g1).trans m2
            have n5 : w4.cell? ⟨w.heap.size, 5, none⟩ = some (.slice (some ⟨b, off, none⟩) pn pc) := (World.cell?_of_block (w := wr) (a := ⟨w.heap.size, 5, none⟩) g1).trans m5
            have n6 : w4.cell? ⟨b, off + I, none⟩ = some (.int .i64 p) := (World.cell?_of_block (w := wr) (a := ⟨b, off + I, none⟩) g3).trans hpx
            have nv : w4.cell? ⟨w2.heap.size, 5, none⟩ = some v := (World.cell?_of_block (w := wr) (a := ⟨w2.heap.size, 5, none⟩) g2).trans hv
            have nf : w4.frozen? ⟨w2.heap.size, 5, none⟩ = false := (World.frozen?_of_block (w := wr) (a := ⟨w2.heap.size, 5, none⟩) g2).trans hvf
            have HC4 : Hid (w4.cell? ⟨w2.heap.size, 0, none⟩ = some (.int .i64 k) ∧ w4.cell? ⟨w2.heap.size, 1, none⟩ = some (.int .i64 d) ∧ w4.cell? ⟨w2.heap.size, 2, none⟩ = some (.int .i64 (Hi : Int)) ∧ w4.cell? ⟨w2.heap.size, 3, none⟩ = some (.int .i64 (Wd : Int)) ∧ w4.cell? ⟨w2.heap.size, 4, none⟩ = some (.slice x cn cx)) :=
              ⟨(World.cell?_of_block (w := wr) (a := ⟨w2.heap.size, 0, none⟩) g2).trans hcells.1, (World.cell?_of_block (w := wr) (a := ⟨w2.heap.size, 1, none⟩) g2).trans hcells.2.1, (World.cell?_of_block (w := wr) (a := ⟨w2.heap.size, 2, none⟩) g2).trans hcells.2.2.1, (World.cell?_of_block (w := wr) (a := ⟨w2.heap.size, 3, none⟩) g2).trans hcells.2.2.2.1, (World.cell?_of_block (w := wr) (a := ⟨w2.heap.size, 4, none⟩) g2).trans hcells.2.2.2.2⟩
            have HB4 : Hid (Below w2.heap.size (w2.alloc (.cells #[.int .i64 k, .int .i64 d, .int .i64 (Hi : Int), .int .i64 (Wd : Int), .slice x cn cx, .slice none 0 0] 25)) w4) := ((hB.drew).alloc (show w2.heap.size ≤ wr.heap.size by omega) _).grown hG4 (by simp; omega) (fun e he => by have := (hrl e he).1; omega)
            refine hK.out _ _ ⟨n2, n5, n6⟩ (fun hHeld => ?_)
            clear hK K
            refine wpAnyH_take (i := 14) (v := .pointer (some ⟨w2.heap.size, 5, none⟩)) rfl (by kernel_rfl) (by kernel_rfl) (by kernel_rfl) (fun _ _ _ h => h) (Or.inl ⟨by rfl, ?_⟩) hHeld ?_
            · intro w' hSw
              obtain ⟨s2, s5, s6⟩ := hSw
              go_simp
            try simp only [Act.put, List.setIfInBounds_toArray, List.set_cons_zero, List.set_cons_succ]
            refine wpAnyH_ready (rs := [15]) (by kernel_rfl) (by simp) ?_
            refine AllReadyH.cons rfl (fun K hK => ?_) AllReadyH.nil
            go_simp
            have ne5 : ∀ e i, e < w2.heap.size → (⟨w2.heap.size, 5, none⟩ : Addr) ≠ ⟨e, i, none⟩ := fun e i he h => by have := congrArg Addr.block h; simp at this; omega
            refine hK.out _ _ ⟨(World.cell?_setCell_other _ _ _ _ (ne5 _ 2 (by omega))).trans n2, (World.cell?_setCell_other _ _ _ _ (ne5 _ 5 (by omega))).trans n5, (World.cell?_setCell_other _ _ _ _ (ne5 b (off + I) (by omega))).trans n6⟩ (fun hHeld => ?_)
            clear hK K
            refine wpAnyH_done (by kernel_rfl) ?_ _
            have nex : ∀ i, i ≠ 5 → (⟨w2.heap.size, 5, none⟩ : Addr) ≠ ⟨w2.heap.size, i, none⟩ := fun i h e => by have := congrArg Addr.off e; simp at this; omega
            have HO5 : Hid (OwnI (w4.setCell ⟨w2.heap.size, 5, none⟩ (.slice y (n + 1) cy)) (w2.heap.size + 1) (.slice y (n + 1) cy) (n + 1) (upto (ptF Hi (turnF Wd Hi ps)) (n + 1))) := by
              have h := hO4
              rw [← HNX.out] at h
              exact ownsRow_setCell_below h (a := ⟨w2.heap.size, 5, none⟩) (show w2.heap.size < w2.heap.size + 1 by omega) _
            have HC5 : Hid ((w4.setCell ⟨w2.heap.size, 5, none⟩ (.slice y (n + 1) cy)).cell? ⟨w2.heap.size, 5, none⟩ = some (.slice y (n + 1) cy) ∧ (w4.setCell ⟨w2.heap.size, 5, none⟩ (.slice y (n + 1) cy)).frozen? ⟨w2.heap.size, 5, none⟩ = false) := ⟨World.cell?_setCell_same _ _ _ nv, by rw [World.frozen?_setCell]; exact nf⟩
            have HC6 : Hid ((w4.setCell ⟨w2.heap.size, 5, none⟩ (.slice y (n + 1) cy)).cell? ⟨w2.heap.size, 0, none⟩ = some (.int .i64 k) ∧ (w4.setCell ⟨w2.heap.size, 5, none⟩ (.slice y (n + 1) cy)).cell? ⟨w2.heap.size, 1, none⟩ = some (.int .i64 d) ∧ (w4.setCell ⟨w2.heap.size, 5, none⟩ (.slice y (n + 1) cy)).cell? ⟨w2.heap.size, 2, none⟩ = some (.int .i64 (Hi : Int)) ∧ (w4.setCell ⟨w2.heap.size, 5, none⟩ (.slice y (n + 1) cy)).cell? ⟨w2.heap.size, 3, none⟩ = some (.int .i64 (Wd : Int)) ∧ (w4.setCell ⟨w2.heap.size, 5, none⟩ (.slice y (n + 1) cy)).cell? ⟨w2.heap.size, 4, none⟩ = some (.slice x cn cx)) := ⟨(World.cell?_setCell_other _ _ _ _ (nex 0 (by omega))).trans HC4.out.1, (World.cell?_setCell_other _ _ _ _ (nex 1 (by omega))).trans HC4.out.2.1, (World.cell?_setCell_other _ _ _ _ (nex 2 (by omega))).trans HC4.out.2.2.1, (World.cell?_setCell_other _ _ _ _ (nex 3 (by omega))).trans HC4.out.2.2.2.1, (World.cell?_setCell_other _ _ _ _ (nex 4 (by omega))).trans HC4.out.2.2.2.2⟩
            have HB5 : Hid (Below w2.heap.size (w2.alloc (.cells #[.int .i64 k, .int .i64 d, .int .i64 (Hi : Int), .int .i64 (Wd : Int), .slice x cn cx, .slice none 0 0] 25)) (w4.setCell ⟨w2.heap.size, 5, none⟩ (.slice y (n + 1) cy))) := HB4.out.setCell (p := ⟨w2.heap.size, 5, none⟩) (Nat.le_refl _) _
            clear hHeld HB4 HC4 hO4 hG4 n2 n5 n6 nv nf g1 g2 g3 gg hfar hrl hcells hO hB hv hvf m2 m5 ne5 nex v1 q2 q5 q6 HO1 HI1 hvh hpx
            go_wp2_with fail
            go_roundw
            case rel => exact ⟨t + 1, q, n + 1, .slice y (n + 1) cy, by have := HQ.out.1; omega, by have := HQ.out.2; omega, by go_num, HO5.out, HC5.out.1, HC5.out.2, HC6.out, HB5.out⟩
            case measure => simp [intOf]; try omega
end Go.Proofs.Ytgeepemhmkoknaa
