/- WovenRows of the specification. -/
import Derived.Test.YtoeekanmhnbgfaaWvMath
import Derived.Test.YtoeekanmhnbgfaaAppOne
import Derived.Test.YtoeekanmhnbgfaaInWalks
namespace Go.Proofs.Ytoeekanmhnbgfaa
open Go.RowKit

/-- four numbers in a block -/
def Tab4 (w : World) (b : Nat) (f : Nat → Nat) : Prop := b < w.heap.size ∧ ∀ i, i < 4 → w.cell? ⟨b, i, none⟩ = some (.int .i64 ((f i : Nat) : Int))
theorem Tab4.grew {base g b : Nat} {w w' : World} {v : Value} {f : Nat → Nat} (h : Tab4 w b f) (hg : Grew base w w' v g) (hf : v.ownBlock ≠ some b) : Tab4 w' b f :=
  ⟨Nat.lt_of_lt_of_le h.1 hg.size, fun i hi => (hg.cell (a := ⟨b, i, none⟩) h.1 hf).trans (h.2 i hi)⟩
theorem Tab4.alloc {b : Nat} {w : World} {f : Nat → Nat} (h : Tab4 w b f) (o : Obj) : Tab4 (w.alloc o) b f :=
  ⟨Nat.lt_of_lt_of_le h.1 (by rw [World.size_alloc]; omega), fun i hi => by rw [World.cell?_alloc_past _ _ _ h.1]; exact h.2 i hi⟩
theorem tab4_new (w : World) (T : TypeId) (f : Nat → Nat) : Tab4 (w.alloc (.cells #[.int .i64 ((f 0 : Nat) : Int), .int .i64 ((f 1 : Nat) : Int), .int .i64 ((f 2 : Nat) : Int), .int .i64 ((f 3 : Nat) : Int)] T)) w.heap.size f := by
  refine ⟨by rw [World.size_alloc]; omega, fun i hi => ?_⟩
  rw [World.cell?_alloc_at _ _ _ _ rfl]
  rcases (show i = 0 ∨ i = 1 ∨ i = 2 ∨ i = 3 by omega) with rfl | rfl | rfl | rfl <;> rfl

set_option maxHeartbeats 4000000 in
set_option maxRecDepth 20000 in
theorem l10Rows_woven (H : Nat) (w : World) (hH2 : H ≤ 20) :
    Calls Try.prog 20 #[.int .i64 H, .bool true] w fun e w' => (∃ n v, e = .returned v ∧ OwnI w' w.heap.size v n (Wv.rows H 4)) ∧ Below w.heap.size w w' := by
  have HE : Hid (OwnI (w.alloc (.cells #[] 3)) w.heap.size (.slice (some ⟨w.heap.size, 0, none⟩) 0 0) 0 []) := ownI_none w
  have HT1 : Hid (Tab4 ((w.alloc (.cells #[] 3)).alloc (.cells #[.int .i64 0, .int .i64 4, .int .i64 2, .int .i64 1] 3)) (w.heap.size + 1) Wv.frm) := by
    have := tab4_new (w.alloc (.cells #[] 3)) 3 Wv.frm
    rw [World.size_alloc] at this; exact this
  have HT2 : Hid (Tab4 (((w.alloc (.cells #[] 3)).alloc (.cells #[.int .i64 0, .int .i64 4, .int .i64 2, .int .i64 1] 3)).alloc (.cells #[.int .i64 8, .int .i64 8, .int .i64 4, .int .i64 2] 3)) (w.heap.size + 2) Wv.stp) := by
    have := tab4_new ((w.alloc (.cells #[] 3)).alloc (.cells #[.int .i64 0, .int .i64 4, .int .i64 2, .int .i64 1] 3)) 3 Wv.stp
    rw [World.size_alloc, World.size_alloc] at this; exact this
  go_enter Try.func20, Try.ntmps20
  go_wp2_with fail
  go_loopw [5, 9] (fun v i wr => ∃ (k n : Nat) (l : List Int), k ≤ 4 ∧ i = .int .i64 k ∧ l = Wv.rows H k ∧ n ≤ 28 * k ∧ OwnI wr w.heap.size v n l ∧ v.ownBlock ≠ some (w.heap.size + 1) ∧ v.ownBlock ≠ some (w.heap.size + 2) ∧ Tab4 wr (w.heap.size + 1) Wv.frm ∧ Tab4 wr (w.heap.size + 2) Wv.stp ∧ Below w.heap.size w wr) (fun _ i _ => 4 - (intOf i).toNat)
  case atStart =>
    refine ⟨0, 0, [], by omega, rfl, rfl, by omega, (HE.out.alloc _).alloc _, ?_, ?_, HT1.out.alloc _, HT2.out, ?_⟩
    · show some _ ≠ some _; intro e; have := Option.some.inj e; simp at this
    · show some _ ≠ some _; intro e; have := Option.some.inj e; simp at this
    · exact (((Below.refl _ _).alloc (Nat.le_refl _) _).alloc (by simp) _).alloc (by simp; omega) _
  case round =>
    obtain ⟨k, n, l, hk, rfl, hl, hn, hown, hf1, hf2, ht1, ht2, hbel⟩ := hrel
    have HL : Hid (l = Wv.rows H k) := hl
    clear hl HT1 HT2 HE
    by_cases hlt : k < 4
    · have hki : (k : Int) < 4 := by omega
      generalize wr = ow at *
      have hc1 := ht1.2 k hlt
      obtain ⟨f, hf⟩ : ∃ f, f = Wv.frm k := ⟨_, rfl⟩
      obtain ⟨s, hs⟩ : ∃ s, s = Wv.stp k := ⟨_, rfl⟩
      have hbd := Wv.bounds k hlt
      rw [← hf, ← hs] at hbd
      rw [← hf] at hc1
      obtain ⟨N, hN⟩ : ∃ N, N = Wv.num f s H := ⟨_, rfl⟩
      have hN28 : N ≤ 28 := by rw [hN]; exact Wv.num_le (by omega) (by omega) hH2
      have HIF : Hid (∀ j, j < N ↔ f + j * s < H) := fun j => by rw [hN]; exact Wv.num_iff (by omega) hbd.2.2.2
      have HR : Hid (Wv.rows H (k + 1) = l ++ Wv.prog f s N) := by show _ = _; rw [hN, hf, hs, HL.out]; rfl
      have HD : Hid (f ≤ 4 ∧ 2 ≤ s ∧ s ≤ 8) := ⟨hbd.1, hbd.2.1, hbd.2.2.1⟩
      have HO : Hid (OwnI ow w.heap.size _ n l ∧ _ ≠ _ ∧ _ ≠ _ ∧ Tab4 ow _ _ ∧ Tab4 ow _ _ ∧ Below w.heap.size w ow) := ⟨hown, hf1, hf2, ht1, ht2, hbel⟩
      have hfb : f ≤ 4 := hbd.1
      have hsb : s ≤ 8 := hbd.2.2.1
      have HSS : Hid (s = Wv.stp k) := hs
      clear hN hbd hown hf1 hf2 ht1 ht2 hbel HL hf hs
      go_wp2_with fail
      clear hc1
      go_loopw [5, 10] (fun v i wr => ∃ (j y m : Nat) (L : List Int), j ≤ N ∧ y = f + j * s ∧ i = .int .i64 y ∧ m = n + j ∧ L = l ++ Wv.prog f s j ∧ OwnI wr w.heap.size v m L ∧ v.ownBlock ≠ some (w.heap.size + 1) ∧ v.ownBlock ≠ some (w.heap.size + 2) ∧ Tab4 wr (w.heap.size + 1) Wv.frm ∧ Tab4 wr (w.heap.size + 2) Wv.stp ∧ Below w.heap.size w wr) (fun _ i _ => H - (intOf i).toNat)
      case atStart => exact ⟨0, f, n, l, Nat.zero_le _, by omega, rfl, rfl, by rw [show Wv.prog f s 0 = [] from rfl, List.append_nil], HO.out⟩
      case round =>
        obtain ⟨j, y, m, L, hj, hy, rfl, hm, hL, hown, hf1, hf2, ht1, ht2, hbel⟩ := hrel
        have hyb : y ≤ 500 := by
          have := HD.out
          have : j * s ≤ 28 * 8 := Nat.mul_le_mul (by omega) (by omega)
          omega
        have hmb : m ≤ 200 := by omega
        have HY : Hid (y = f + j * s ∧ m = n + j) := ⟨hy, hm⟩
        have HL : Hid (L = l ++ Wv.prog f s j) := hL
        have hs2 : 2 ≤ s ∧ s ≤ 8 := HD.out.2
        clear hy hm hL
        have hbs2 : w.heap.size ≤ wr.heap.size := hbel.size
        by_cases hyl : y < H
        · have hjN : j < N := (HIF.out j).2 (by rw [← HY.out.1]; exact hyl)
          have HP : Hid (L ++ [(y : Int)] = l ++ Wv.prog f s (j + 1)) := by show _ = _; rw [HL.out, Wv.prog_succ, HY.out.1, List.append_assoc]
          have HOO : Hid (∀ g cap w4, OwnI w4 w.heap.size (.slice (some ⟨g, 0, none⟩) (m + 1) cap) (m + 1) (L ++ [(y : Int)]) → Grew w.heap.size wr w4 _ g → OwnI w4 w.heap.size (.slice (some ⟨g, 0, none⟩) (m + 1) cap) (m + 1) (L ++ [(y : Int)]) ∧ (Value.slice (some ⟨g, 0, none⟩) (m + 1) cap).ownBlock ≠ some (w.heap.size + 1) ∧ (Value.slice (some ⟨g, 0, none⟩) (m + 1) cap).ownBlock ≠ some (w.heap.size + 2) ∧ Tab4 w4 (w.heap.size + 1) Wv.frm ∧ Tab4 w4 (w.heap.size + 2) Wv.stp ∧ Below w.heap.size w w4) := fun g cap w4 ho hg => ⟨ho, hg.far ht1.1 hf1, hg.far ht2.1 hf2, ht1.grew hg hf1, ht2.grew hg hf2, hg.below hbel (Nat.le_refl _) hbs2⟩
          clear hf1 hf2 ht1 ht2 hbel
          go_wp2_with (at_builtin; refine wpList_app1 wr (by rfl) _ _ (by rfl) w.heap.size _ m _ (y : Int) (by rfl) hown (by rfl) (by omega) hbs2 ?_)
          intro g cap w4 hown4 hgrow
          have HG : Hid _ := HOO.out g cap w4 hown4 hgrow
          have hc4 : w4.cell? ⟨w.heap.size + 2, k, none⟩ = some (.int .i64 (s : Int)) := by rw [HSS.out]; exact HG.out.2.2.2.2.1.2 k hlt
          clear hown4 hgrow HOO hown
          go_wp2_with fail
          go_roundw
          case rel => exact ⟨j + 1, y + s, m + 1, _, by omega, by rw [HY.out.1, Nat.add_mul, Nat.one_mul, Nat.add_assoc], by go_num, by have := HY.out.2; omega, HP.out, HG.out⟩
          case measure => simp [intOf]; omega
        · have hjN : j = N := by
            rcases Nat.lt_or_ge j N with h | h
            · exact absurd ((HIF.out j).1 h) (by rw [← HY.out.1]; exact hyl)
            · omega
          subst hjN
          have HG : Hid (OwnI wr w.heap.size _ m _ ∧ _ ≠ _ ∧ _ ≠ _ ∧ Tab4 wr _ _ ∧ Tab4 wr _ _ ∧ Below w.heap.size w wr) := ⟨hown, hf1, hf2, ht1, ht2, hbel⟩
          clear hown hbel hf1 hf2 ht1 ht2
          go_wp2_with fail
          go_roundw
          case rel => exact ⟨_, m, _, by omega, by go_num, HL.out.trans HR.out.symm, by have := HY.out.2; omega, HG.out⟩
          case measure => simp [intOf]; omega
    · have hk4 : k = 4 := by omega
      subst hk4
      have HG : Hid (OwnI wr w.heap.size _ n (Wv.rows H 4) ∧ Below w.heap.size w wr) := ⟨by rw [← HL.out]; exact hown, hbel⟩
      clear hown hbel hf1 hf2 ht1 ht2
      go_wp2_with fail
      go_ret
      exact ⟨⟨n, _, rfl, HG.out.1⟩, HG.out.2⟩

set_option maxHeartbeats 400000 in
theorem spec_woven (h : Int) (w : World) :
    Calls Try.prog 7 #[.int .i64 h] w fun e w' => (∃ ao cap, e = .returned (.slice ao (Wv.all h).length cap) ∧ Ints w' ao (Wv.all h)) ∧ Below w.heap.size w w' := by
  by_cases g : 1 ≤ h ∧ h ≤ 20
  · obtain ⟨H, rfl⟩ := Int.eq_ofNat_of_zero_le (show 0 ≤ h by omega)
    rw [Wv.all_yes H (by omega)]
    have HS : Hid (∀ w : World, Calls Try.prog 19 #[.int .i64 (H : Int), .int .i64 1, .int .i64 20] w fun e w' => e = .returned (.bool true) ∧ w' = w) := fun w => l1In_yes _ _ _ w (by omega) (by omega)
    have HR : Hid (∀ w : World, Calls Try.prog 20 #[.int .i64 (H : Int), .bool true] w fun e w' => (∃ n v, e = .returned v ∧ OwnI w' w.heap.size v n (Wv.rows H 4)) ∧ Below w.heap.size w w') := fun w => l10Rows_woven H w (by omega)
    clear g
    go_enter Try.func7, Try.ntmps7
    go_wp2_with fail
    refine (HS.out _).mono ?_
    rintro e w1 ⟨rfl, hw⟩
    subst hw
    go_wp2_with fail
    refine (HR.out _).mono ?_
    rintro e w2 ⟨⟨n, v, rfl, hO⟩, b⟩
    obtain ⟨ao, cap, rfl, hO'⟩ := hO.owns
    have HN : Hid ((Wv.rows H 4).length = n) := hO.len
    have HI : Hid (Ints w2 ao (Wv.rows H 4)) := hO'.ints
    clear hO hO'
    go_wp2_with fail
    go_ret
    exact ⟨⟨ao, cap, by rw [HN.out]; rfl, HI.out⟩, b⟩
  · rw [Wv.all_no g]
    have HS : Hid (∀ w : World, Calls Try.prog 19 #[.int .i64 h, .int .i64 1, .int .i64 20] w fun e w' => e = .returned (.bool false) ∧ w' = w) := fun w => l1In_no _ _ _ w g
    clear g
    go_enter Try.func7, Try.ntmps7
    go_wp2_with fail
    refine (HS.out _).mono ?_
    rintro e w1 ⟨rfl, hw⟩
    subst hw
    go_wp2_with fail
    go_ret
    exact ⟨⟨_, _, rfl, .inl rfl⟩, (Below.refl _ _).alloc (Nat.le_refl _) _⟩
end Go.Proofs.Ytoeekanmhnbgfaa
