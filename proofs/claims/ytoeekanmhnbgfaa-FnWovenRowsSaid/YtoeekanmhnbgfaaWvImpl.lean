/- WovenRows of the program. -/
import Derived.Test.YtoeekanmhnbgfaaWvMath
import Derived.Test.YtoeekanmhnbgfaaAppOne
namespace Go.Proofs.Ytoeekanmhnbgfaa
open Go.RowKit

set_option maxHeartbeats 400000 in
theorem sizeOk_yes (z : Int) (w : World) (h : 1 ≤ z ∧ z ≤ 20) :
    Calls Try.prog 21 #[.int .i64 z] w fun e w' => e = .returned (.bool true) ∧ w' = w := by
  have d1 : decide (1 ≤ z) = true := by simpa using h.1
  have d2 : decide (z ≤ 20) = true := by simpa using h.2
  clear h
  go_enter Try.func21, Try.ntmps21
  go_wp2_with fail
  go_ret
  exact ⟨rfl, rfl⟩

set_option maxHeartbeats 400000 in
theorem sizeOk_no (z : Int) (w : World) (h : ¬ (1 ≤ z ∧ z ≤ 20)) :
    Calls Try.prog 21 #[.int .i64 z] w fun e w' => e = .returned (.bool false) ∧ w' = w := by
  by_cases h1 : 1 ≤ z
  · have d1 : decide (1 ≤ z) = true := by simpa using h1
    have d2 : decide (z ≤ 20) = false := by simp; omega
    clear h
    go_enter Try.func21, Try.ntmps21
    go_wp2_with fail
    go_ret
    exact ⟨rfl, rfl⟩
  · have d1 : decide (1 ≤ z) = false := by simpa using h1
    clear h
    go_enter Try.func21, Try.ntmps21
    go_wp2_with fail
    go_ret
    exact ⟨rfl, rfl⟩

theorem wv_i0 (w : World) : Sem.run Try.prog (Instr.index 36 (.agg #[.int .i64 0, .int .i64 8, .int .i64 4, .int .i64 8, .int .i64 2, .int .i64 4, .int .i64 1, .int .i64 2]) (.int .i64 ((0 : Nat) : Int))) w = .ok (.agg #[.int .i64 ((Wv.frm 0 : Nat) : Int), .int .i64 ((Wv.stp 0 : Nat) : Int)]) w := by kernel_rfl
theorem wv_i1 (w : World) : Sem.run Try.prog (Instr.index 36 (.agg #[.int .i64 0, .int .i64 8, .int .i64 4, .int .i64 8, .int .i64 2, .int .i64 4, .int .i64 1, .int .i64 2]) (.int .i64 ((1 : Nat) : Int))) w = .ok (.agg #[.int .i64 ((Wv.frm 1 : Nat) : Int), .int .i64 ((Wv.stp 1 : Nat) : Int)]) w := by kernel_rfl
theorem wv_i2 (w : World) : Sem.run Try.prog (Instr.index 36 (.agg #[.int .i64 0, .int .i64 8, .int .i64 4, .int .i64 8, .int .i64 2, .int .i64 4, .int .i64 1, .int .i64 2]) (.int .i64 ((2 : Nat) : Int))) w = .ok (.agg #[.int .i64 ((Wv.frm 2 : Nat) : Int), .int .i64 ((Wv.stp 2 : Nat) : Int)]) w := by kernel_rfl
theorem wv_i3 (w : World) : Sem.run Try.prog (Instr.index 36 (.agg #[.int .i64 0, .int .i64 8, .int .i64 4, .int .i64 8, .int .i64 2, .int .i64 4, .int .i64 1, .int .i64 2]) (.int .i64 ((3 : Nat) : Int))) w = .ok (.agg #[.int .i64 ((Wv.frm 3 : Nat) : Int), .int .i64 ((Wv.stp 3 : Nat) : Int)]) w := by kernel_rfl
theorem wv_index (k : Nat) (hk : k < 4) (w : World) : Sem.run Try.prog (Instr.index 36 (.agg #[.int .i64 0, .int .i64 8, .int .i64 4, .int .i64 8, .int .i64 2, .int .i64 4, .int .i64 1, .int .i64 2]) (.int .i64 (k : Int))) w = .ok (.agg #[.int .i64 ((Wv.frm k : Nat) : Int), .int .i64 ((Wv.stp k : Nat) : Int)]) w := by
  rcases (show k = 0 ∨ k = 1 ∨ k = 2 ∨ k = 3 by omega) with rfl | rfl | rfl | rfl
  · exact wv_i0 w
  · exact wv_i1 w
  · exact wv_i2 w
  · exact wv_i3 w

set_option maxHeartbeats 4000000 in
set_option maxRecDepth 20000 in
theorem impl_woven_yes (H : Nat) (w : World) (hH : 1 ≤ H ∧ H ≤ 20) :
    Calls Try.prog 8 #[.int .i64 H] w fun e w' => (∃ n v, e = .returned v ∧ OwnI w' w.heap.size v n (Wv.rows H 4)) ∧ Below w.heap.size w w' := by
  have HS : Hid (∀ w : World, Calls Try.prog 21 #[.int .i64 (H : Int)] w fun e w' => e = .returned (.bool true) ∧ w' = w) := fun w => sizeOk_yes _ w (by omega)
  have hH2 : H ≤ 20 := hH.2
  clear hH
  go_enter Try.func8, Try.ntmps8
  go_wp2_with fail
  refine (HS.out _).mono ?_
  rintro e w1 ⟨rfl, hw⟩
  replace hw := hw.symm
  subst hw
  clear HS
  go_wp2_with fail
  go_loopw [3, 15] (fun v i wr => ∃ (k n : Nat) (l : List Int), k ≤ 4 ∧ i = .int .i64 k ∧ l = Wv.rows H k ∧ n ≤ 28 * k ∧ OwnI wr w.heap.size v n l ∧ Below w.heap.size w wr) (fun _ i _ => 4 - (intOf i).toNat)
  case atStart => exact ⟨0, 0, [], by omega, rfl, rfl, by omega, ownI_nil _ _, Below.refl _ _⟩
  case round =>
    obtain ⟨k, n, l, hk, rfl, hl, hn, hown, hbel⟩ := hrel
    have HL : Hid (l = Wv.rows H k) := hl
    clear hl
    by_cases hlt : k < 4
    · have hki : (k : Int) < 4 := by omega
      generalize wr = ow at *
      have hbs : w.heap.size ≤ ow.heap.size := hbel.size
      have hix := fun w => wv_index k hlt w
      obtain ⟨f, hf⟩ : ∃ f, f = Wv.frm k := ⟨_, rfl⟩
      obtain ⟨s, hs⟩ : ∃ s, s = Wv.stp k := ⟨_, rfl⟩
      have hbd := Wv.bounds k hlt
      rw [← hf, ← hs] at hbd
      obtain ⟨N, hN⟩ : ∃ N, N = Wv.num f s H := ⟨_, rfl⟩
      have hN28 : N ≤ 28 := by rw [hN]; exact Wv.num_le (by omega) (by omega) hH2
      have HIF : Hid (∀ j, j < N ↔ f + j * s < H) := fun j => by rw [hN]; exact Wv.num_iff (by omega) hbd.2.2.2
      have HR : Hid (Wv.rows H (k + 1) = l ++ Wv.prog f s N) := by show _ = _; rw [hN, hf, hs, HL.out]; rfl
      have HD : Hid (f ≤ 4 ∧ 2 ≤ s ∧ s ≤ 8) := ⟨hbd.1, hbd.2.1, hbd.2.2.1⟩
      have HO : Hid (∀ o, OwnI (ow.alloc o) w.heap.size _ n l ∧ Below w.heap.size w (ow.alloc o)) := fun o => ⟨hown.alloc o, hbel.alloc hbs o⟩
      have HF : Hid (_ ≠ some ow.heap.size) := hown.far (Nat.le_refl _)
      rw [← hf, ← hs] at hix
      have hfb : f ≤ 4 := hbd.1
      have hsb : s ≤ 8 := hbd.2.2.1
      clear hN hbd hown hbel HL hf hs
      go_wp2_with fail
      go_loopw [3, 6] (fun v i wr => ∃ (j y m : Nat) (L : List Int), j ≤ N ∧ y = f + j * s ∧ i = .int .i64 y ∧ m = n + j ∧ L = l ++ Wv.prog f s j ∧ OwnI wr w.heap.size v m L ∧ v.ownBlock ≠ some ow.heap.size ∧ ow.heap.size < wr.heap.size ∧ wr.cell? ⟨ow.heap.size, 1, none⟩ = some (.int .i64 (s : Int)) ∧ Below w.heap.size w wr) (fun _ i _ => H - (intOf i).toNat)
      case atStart => exact ⟨0, f, n, l, Nat.zero_le _, by omega, rfl, rfl, by rw [show Wv.prog f s 0 = [] from rfl, List.append_nil], (HO.out _).1, HF.out, by simp, by rw [World.cell?_alloc_at _ _ _ _ rfl]; rfl, (HO.out _).2⟩
      case round =>
        obtain ⟨j, y, m, L, hj, hy, rfl, hm, hL, hown, hfar, hlo, hcell, hbel⟩ := hrel
        have hyb : y ≤ 500 := by
          have := HD.out
          have : j * s ≤ 28 * 8 := Nat.mul_le_mul (by omega) (by omega)
          omega
        have hmb : m ≤ 200 := by omega
        have HY : Hid (y = f + j * s ∧ m = n + j) := ⟨hy, hm⟩
        have HL : Hid (L = l ++ Wv.prog f s j) := hL
        have hs2 : 2 ≤ s ∧ s ≤ 8 := HD.out.2
        clear hy hm hL
        have hbs2 : w.heap.size ≤ wr.heap.size := hbel.size
        by_cases hyl : y < H
        · have hjN : j < N := (HIF.out j).2 (by rw [← HY.out.1]; exact hyl)
          have HP : Hid (L ++ [(y : Int)] = l ++ Wv.prog f s (j + 1)) := by show _ = _; rw [HL.out, Wv.prog_succ, HY.out.1, List.append_assoc]
          go_wp2_with (at_builtin; refine wpList_app1 wr (by rfl) _ _ (by rfl) w.heap.size _ m _ (y : Int) (by rfl) hown (by rfl) (by omega) hbs2 ?_)
          intro g cap w4 hown4 hgrow
          have hc4 := (hgrow.cell (a := ⟨ow.heap.size, 1, none⟩) hlo hfar).trans hcell
          have hf4 := fun n cap => hgrow.far (n := n) (cap := cap) hlo hfar
          have hb4 := hgrow.below hbel (Nat.le_refl _) hbs2
          have hl4 : ow.heap.size < w4.heap.size := Nat.lt_of_lt_of_le hlo hgrow.size
          have HG : Hid (OwnI w4 w.heap.size (.slice (some ⟨g, 0, none⟩) (m + 1) cap) (m + 1) (L ++ [(y : Int)]) ∧ (Value.slice (some ⟨g, 0, none⟩) (m + 1) cap).ownBlock ≠ some ow.heap.size ∧ Below w.heap.size w w4) := ⟨hown4, hf4 _ _, hb4⟩
          clear hown4 hgrow hf4 hb4 hown hfar hbel hcell
          go_wp2_with fail
          go_roundw
          case rel => exact ⟨j + 1, y + s, m + 1, _, by omega, by rw [HY.out.1, Nat.add_mul, Nat.one_mul, Nat.add_assoc], by go_num, by have := HY.out.2; omega, HP.out, HG.out.1, HG.out.2.1, hl4, hc4, HG.out.2.2⟩
          case measure => simp [intOf]; omega
        · have hjN : j = N := by
            rcases Nat.lt_or_ge j N with h | h
            · exact absurd ((HIF.out j).1 h) (by rw [← HY.out.1]; exact hyl)
            · omega
          subst hjN
          have HG : Hid (OwnI wr w.heap.size _ m _ ∧ Below w.heap.size w wr) := ⟨hown, hbel⟩
          clear hown hbel hfar hcell
          go_wp2_with fail
          go_roundw
          case rel => exact ⟨_, m, _, by omega, by go_num, HL.out.trans HR.out.symm, by have := HY.out.2; omega, HG.out.1, HG.out.2⟩
          case measure => simp [intOf]; omega
    · have hk4 : k = 4 := by omega
      subst hk4
      have HG : Hid (OwnI wr w.heap.size _ n (Wv.rows H 4) ∧ Below w.heap.size w wr) := ⟨by rw [← HL.out]; exact hown, hbel⟩
      clear hown hbel
      go_wp2_with fail
      go_ret
      exact ⟨⟨n, _, rfl, HG.out.1⟩, HG.out.2⟩

set_option maxHeartbeats 400000 in
theorem impl_woven (h : Int) (w : World) :
    Calls Try.prog 8 #[.int .i64 h] w fun e w' => (∃ ao cap, e = .returned (.slice ao (Wv.all h).length cap) ∧ Owns w' w.heap.size ao (Wv.all h)) ∧ Below w.heap.size w w' := by
  by_cases g : 1 ≤ h ∧ h ≤ 20
  · obtain ⟨H, rfl⟩ := Int.eq_ofNat_of_zero_le (show 0 ≤ h by omega)
    rw [Wv.all_yes H (by omega)]
    refine (impl_woven_yes H w (by omega)).mono ?_
    rintro e w' ⟨⟨n, v, rfl, hO⟩, b⟩
    obtain ⟨ao, cap, rfl, hO'⟩ := hO.owns
    exact ⟨⟨ao, cap, by rw [hO.len], hO'⟩, b⟩
  · rw [Wv.all_no g]
    have HS : Hid (∀ w : World, Calls Try.prog 21 #[.int .i64 h] w fun e w' => e = .returned (.bool false) ∧ w' = w) := fun w => sizeOk_no _ w g
    clear g
    go_enter Try.func8, Try.ntmps8
    go_wp2_with fail
    refine (HS.out _).mono ?_
    rintro e w1 ⟨rfl, hw⟩
    subst hw
    go_wp2_with fail
    go_ret
    exact ⟨⟨none, 0, rfl, .inl rfl⟩, Below.refl _ _⟩
end Go.Proofs.Ytoeekanmhnbgfaa
