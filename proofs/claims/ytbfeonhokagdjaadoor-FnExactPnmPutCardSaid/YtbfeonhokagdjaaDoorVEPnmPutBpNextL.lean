/- The writer takes one bit in, the lowest place first. -/
import Derived.Test.YtbfeonhokagdjaaDoorKEPnmPutx0
namespace Go.Proofs.YtbfeonhokagdjaaDoor
open Go.RowKit

set_option maxHeartbeats 2000000 in
set_option maxRecDepth 20000 in
theorem wnext_low (B N bb : Nat) (f : Nat → Nat) (w : World) (h : Writes w B false f N) (hN : N < 72000) (hf : ∀ i, f i < 2) (hfN : f N = bb) :
    Calls Tryd.prog 92 #[.pointer (some ⟨B, 0, none⟩), .int .i64 (bb : Int)] w fun e w' => e = .returned (.int .i64 (bb : Int)) ∧ Writes w' B false f (N + 1) ∧ Below B w w' := by
  obtain ⟨i0, hi0, hz0, hz1, hz2⟩ := info_parts info_u8
  obtain ⟨k0', ⟨v, L, k1, hown, hL⟩, k2, kf1, kf2, klt⟩ := h
  have k0 : w.cell? ⟨B, 0, none⟩ = some (.func (.func 54) #[] #[]) := k0'
  have hbb : bb < 2 := by rw [← hfN]; exact hf N
  have HL : Hid (L = (N + 7) / 8) := hL
  clear k0' hL
  by_cases h8 : N % 8 = 0
  · have hm63 : L + 1 ≤ maxLen := by have := HL.out; unfold maxLen; omega
    have hlen : (L + 1) * 1 ≤ 140737488355328 := by have := HL.out; omega
    have hone : ∀ u ∈ [Value.int .u8 0], u.oneCell' = true := by intro u hu; simp at hu; subst hu; rfl
    have h8i : (N : Int) % 8 = 0 := by omega
    have HHF : Hid ((∀ i, f i < 2) ∧ f N = bb) := ⟨hf, hfN⟩
    clear hf hfN
    go_enter Tryd.func92, Tryd.ntmps92
    go_wp2_with (at_builtin; refine wpList_append_lies _ (by rfl) _ _ _ (by rfl) (B + 1) 5 i0 (.int .u8 0) 1 1 Tryd.underlying35 hi0 hz0 hz1 hz2 rfl (by decide) _ L (bytesV (Bp.pack false f N)) (by rfl) (World.ownsRow.alloc (show World.ownsRow _ _ _ _ _ _ _ from hown) _) ⟨w.heap.size, 0, none⟩ 1 1 [.int .u8 0] (by rfl) rfl (World.news_of_block (heap_alloc_new _ _)) hone (by decide) hm63 hlen (by simp; omega) _ rfl ?_)
    intro g cap2 w1 hown1' hgrow hat hlt2
    have hown0 := own_room (N := N) h8 hown1'
    have hlt0 := World.ownsRow.lt hown
    have hvB : some B ≠ v.ownBlock := fun e => absurd (hlt0 B e.symm).1 (by omega)
    have hsz : B < (w.alloc (.cells #[.int .u8 0] 5)).heap.size := by simp; omega
    have m0 := (hgrow.cell_far ⟨B, 0, none⟩ hsz hvB).trans ((World.cell?_alloc_past (.cells #[.int .u8 0] 5) B 0 klt).trans k0)
    have m1 := (hgrow.cell_far ⟨B, 1, none⟩ hsz hvB).trans ((World.cell?_alloc_past (.cells #[.int .u8 0] 5) B 1 klt).trans k1)
    have m2 := (hgrow.cell_far ⟨B, 2, none⟩ hsz hvB).trans ((World.cell?_alloc_past (.cells #[.int .u8 0] 5) B 2 klt).trans k2)
    have n1 : w1.frozen? ⟨B, 1, none⟩ = false := (hgrow.frozen_far ⟨B, 1, none⟩ hsz hvB).trans ((World.frozen?_alloc_past (.cells #[.int .u8 0] 5) B 1 klt).trans kf1)
    have n2 : w1.frozen? ⟨B, 2, none⟩ = false := (hgrow.frozen_far ⟨B, 2, none⟩ hsz hvB).trans ((World.frozen?_alloc_past (.cells #[.int .u8 0] 5) B 2 klt).trans kf2)
    have hb0 : Below B w w1 := ((Below.refl B w).alloc (Nat.le_of_lt klt) _).grown hgrow (by omega) (fun k hk => by have := (hlt0 k hk).1; omega)
    have hgB : B < g := by
      rcases hat with e | e
      · have := (hlt0 g e).1; omega
      · omega
    have klt1 : B < w1.heap.size := Nat.lt_of_lt_of_le klt hb0.size
    clear hown1' hgrow hat hlt0 hvB hsz k0 k1 k2 kf1 kf2 hown hone hm63 hlen
    obtain ⟨L1, hL1e⟩ : ∃ L1, L1 = L + 1 := ⟨_, rfl⟩
    rw [← hL1e] at hown0
    rw [← hL1e]
    have hown1 : OwnB (w1.setCell ⟨B, 1, none⟩ (.slice (some ⟨g, 0, none⟩) L1 cap2)) (B + 1) (.slice (some ⟨g, 0, none⟩) L1 cap2) L1 (Bp.room N (Bp.pack false f N)) := ownsRow_setCell_below hown0 (by show B < B + 1; omega) _
    have k0 : (w1.setCell ⟨B, 1, none⟩ (.slice (some ⟨g, 0, none⟩) L1 cap2)).cell? ⟨B, 0, none⟩ = some (.func (.func 54) #[] #[]) := by
      rw [World.cell?_setCell_other _ _ _ _ (fun e => absurd (congrArg Addr.off e) (show ¬ (1 : Nat) = 0 by omega))]; exact m0
    have k1 : (w1.setCell ⟨B, 1, none⟩ (.slice (some ⟨g, 0, none⟩) L1 cap2)).cell? ⟨B, 1, none⟩ = some (.slice (some ⟨g, 0, none⟩) L1 cap2) := by
      rw [World.cell?_setCell_same _ _ _ m1]
    have k2 : (w1.setCell ⟨B, 1, none⟩ (.slice (some ⟨g, 0, none⟩) L1 cap2)).cell? ⟨B, 2, none⟩ = some (.int .i64 (N : Int)) := by
      rw [World.cell?_setCell_other _ _ _ _ (fun e => absurd (congrArg Addr.off e) (show ¬ (1 : Nat) = 2 by omega))]; exact m2
    have kf1 : (w1.setCell ⟨B, 1, none⟩ (.slice (some ⟨g, 0, none⟩) L1 cap2)).frozen? ⟨B, 1, none⟩ = false := by rw [World.frozen?_setCell]; exact n1
    have kf2 : (w1.setCell ⟨B, 1, none⟩ (.slice (some ⟨g, 0, none⟩) L1 cap2)).frozen? ⟨B, 2, none⟩ = false := by rw [World.frozen?_setCell]; exact n2
    have hb1 : Below B w (w1.setCell ⟨B, 1, none⟩ (.slice (some ⟨g, 0, none⟩) L1 cap2)) := hb0.setCell (p := ⟨B, 1, none⟩) (Nat.le_refl _) _
    have klt2 : B < (w1.setCell ⟨B, 1, none⟩ (.slice (some ⟨g, 0, none⟩) L1 cap2)).heap.size := by simp; exact klt1
    have HK : Hid (_ ∧ _ ∧ _ ∧ _ ∧ _ ∧ _ ∧ _ ∧ _) := ⟨hown1, k0, k1, k2, kf1, kf2, hb1, klt2⟩
    have HL1 : Hid (L1 = L + 1) := hL1e
    clear hown1 k0 k1 k2 kf1 kf2 hb1 klt2 hL1e hown0
    go_wp2_with fail
    obtain ⟨hown1, k0, k1, k2, kf1, kf2, hb1, klt⟩ := HK.out
    clear HK m0 m1 m2 n1 n2 hb0 klt1
    generalize w1.setCell ⟨B, 1, none⟩ (.slice (some ⟨g, 0, none⟩) L1 cap2) = W at *
    obtain ⟨hf, hfN⟩ := HHF.out
    have hLL := HL.out
    have hL1' := HL1.out
    obtain ⟨j, hj⟩ : ∃ j, j = N / 8 := ⟨_, rfl⟩
    have hjL : j < L1 := by omega
    have hL1 : L1 = (N + 1 + 7) / 8 := by omega
    clear hLL hL1' HL HL1 HHF
    have hcl := hown1.cell hjL
    have hfr := hown1.free j
    obtain ⟨sf1, sf2, sf3⟩ := Bp.step_facts false f hf N
    rw [← hj] at sf1 sf2 sf3
    rw [hfN] at sf2 sf3
    have HW := fun (y : Nat) (hy : y = (Bp.room N (Bp.pack false f N)).getD j 0 + f N * 2 ^ Bg.spot false N) => Writes.next (w := W.drew) (hi := false) (f := f) k0 k1 k2 kf1 kf2 klt hgB hown1.drew rfl hj hL1 hy
    have HW.drew : Hid (∀ (y : Nat), y = (Bp.room N (Bp.pack false f N)).getD j 0 + f N * 2 ^ Bg.spot false N → Writes ((W.drew.setCell ⟨g, j, none⟩ (.int .u8 (y : Int))).setCell ⟨B, 2, none⟩ (.int .i64 ((N : Int) + 1))) B false f (N + 1)) := HW
    clear HW hown1
    rw [hfN] at HW.drew
    generalize (Bp.room N (Bp.pack false f N)).getD j 0 = x at *
    obtain ⟨p, hp⟩ : ∃ p, p = N % 8 := ⟨_, rfl⟩
    have hps : Bg.spot false N = p := by rw [hp]; rfl
    rw [hps] at HW.drew sf2 sf3
    obtain ⟨c, hc⟩ : ∃ c, c = bb * 2 ^ p := ⟨_, rfl⟩
    rw [← hc] at HW.drew sf2 sf3
    obtain ⟨y, hy⟩ : ∃ y, y = x + c := ⟨_, rfl⟩
    have HOW : Hid (Writes _ _ _ _ _) := HW.drew.out y hy
    have hwc : IntKind.i64.wrap ((bb : Int) * 2 ^ p) = (c : Int) := by
      rw [show (bb : Int) * 2 ^ p = ((bb * 2 ^ p : Nat) : Int) by simp, ← hc]; exact wrap_i64_nat c (by omega)
    have hwu := wrap_u8_nat' c (by omega)
    have hwy : bits .or .u8 (x : Int) (c : Int) = (y : Int) := by
      rw [u8_or_nat x c sf1 (by omega), sf3, hy]
    have f1 : (N : Int).tmod 8 = ((N % 8 : Nat) : Int) := by rw [Int.tmod_eq_emod_of_nonneg (by omega)]; rfl
    have f2 : (N : Int).tdiv 8 = (j : Int) := by rw [Int.tdiv_eq_ediv_of_nonneg (by omega)]; omega
    have f3 := wrap_i64_nat j (by omega)
    have f4 : (j : Int) < (L1 : Int) := by omega
    have f5 : (0 : Int) ≤ (j : Int) := by omega
    have hgne : ¬ g = B := by omega
    have hgne' : ¬ B = g := by omega
    obtain ⟨p8, hp8⟩ : ∃ p8, p8 = N % 8 := ⟨_, rfl⟩
    rw [← hp8] at f1
    have hp8b : (p8 : Int) ≤ 7 := by omega
    have hp8c : (0 : Int) ≤ (p8 : Int) := by omega
    have hpp : (p8 : Int) = (p : Int) := by omega
    clear HW.drew hc hy hp hps hj hL1 sf1 sf2 sf3 hp8
    go_still_tail 26, (by kernel_rfl)
    still_call (order_low _ _ _)
    repeat still_step
    refine wpStill_nil ?_
    all_goals go_wp2_with fail
    all_goals go_ret
    all_goals exact ⟨rfl, HOW.out, ((hb1.drew.setCell (p := ⟨g, j, none⟩) (Nat.le_of_lt hgB) _).setCell (p := ⟨B, 2, none⟩) (Nat.le_refl _) _)⟩
  · have hLL := HL.out
    obtain ⟨g, cap2, rfl, hgB', hgl⟩ := World.ownsRow.form hown (by omega)
    have hgB : B < g := by omega
    obtain ⟨L1, hL1e⟩ : ∃ L1, L1 = L := ⟨_, rfl⟩
    subst hL1e
    obtain ⟨j, hj⟩ : ∃ j, j = N / 8 := ⟨_, rfl⟩
    have hjL : j < L1 := by omega
    have hL1 : L1 = (N + 1 + 7) / 8 := by omega
    have hown1 : OwnB w (B + 1) (.slice (some ⟨g, 0, none⟩) L1 cap2) L1 (Bp.room N (Bp.pack false f N)) := by
      unfold Bp.room; rw [if_neg h8]; exact hown
    have hb1 := Below.refl B w
    have h8i : ¬ (N : Int) % 8 = 0 := by omega
    clear hown hLL HL
    have hcl := hown1.cell hjL
    have hfr := hown1.free j
    obtain ⟨sf1, sf2, sf3⟩ := Bp.step_facts false f hf N
    rw [← hj] at sf1 sf2 sf3
    rw [hfN] at sf2 sf3
    have HW := fun (y : Nat) (hy : y = (Bp.room N (Bp.pack false f N)).getD j 0 + f N * 2 ^ Bg.spot false N) => Writes.next (w := w.drew) (hi := false) (f := f) k0 k1 k2 kf1 kf2 klt hgB hown1.drew rfl hj hL1 hy
    have Hw.drew : Hid (∀ (y : Nat), y = (Bp.room N (Bp.pack false f N)).getD j 0 + f N * 2 ^ Bg.spot false N → Writes ((w.drew.setCell ⟨g, j, none⟩ (.int .u8 (y : Int))).setCell ⟨B, 2, none⟩ (.int .i64 ((N : Int) + 1))) B false f (N + 1)) := HW
    clear HW hown1
    rw [hfN] at Hw.drew
    generalize (Bp.room N (Bp.pack false f N)).getD j 0 = x at *
    obtain ⟨p, hp⟩ : ∃ p, p = N % 8 := ⟨_, rfl⟩
    have hps : Bg.spot false N = p := by rw [hp]; rfl
    rw [hps] at Hw.drew sf2 sf3
    obtain ⟨c, hc⟩ : ∃ c, c = bb * 2 ^ p := ⟨_, rfl⟩
    rw [← hc] at Hw.drew sf2 sf3
    obtain ⟨y, hy⟩ : ∃ y, y = x + c := ⟨_, rfl⟩
    have HOW : Hid (Writes _ _ _ _ _) := Hw.drew.out y hy
    have hwc : IntKind.i64.wrap ((bb : Int) * 2 ^ p) = (c : Int) := by
      rw [show (bb : Int) * 2 ^ p = ((bb * 2 ^ p : Nat) : Int) by simp, ← hc]; exact wrap_i64_nat c (by omega)
    have hwu := wrap_u8_nat' c (by omega)
    have hwy : bits .or .u8 (x : Int) (c : Int) = (y : Int) := by
      rw [u8_or_nat x c sf1 (by omega), sf3, hy]
    have f1 : (N : Int).tmod 8 = ((N % 8 : Nat) : Int) := by rw [Int.tmod_eq_emod_of_nonneg (by omega)]; rfl
    have f2 : (N : Int).tdiv 8 = (j : Int) := by rw [Int.tdiv_eq_ediv_of_nonneg (by omega)]; omega
    have f3 := wrap_i64_nat j (by omega)
    have f4 : (j : Int) < (L1 : Int) := by omega
    have f5 : (0 : Int) ≤ (j : Int) := by omega
    have hgne : ¬ g = B := by omega
    have hgne' : ¬ B = g := by omega
    obtain ⟨p8, hp8⟩ : ∃ p8, p8 = N % 8 := ⟨_, rfl⟩
    rw [← hp8] at f1
    have hp8b : (p8 : Int) ≤ 7 := by omega
    have hp8c : (0 : Int) ≤ (p8 : Int) := by omega
    have hpp : (p8 : Int) = (p : Int) := by omega
    have hp8n : ¬ (p8 : Int) = 0 := by omega
    have hp8m : ¬ p8 = 0 := by omega
    clear Hw.drew hc hy hp hps hj hL1 sf1 sf2 sf3 hp8
    go_enter Tryd.func92, Tryd.ntmps92
    go_wp2_with fail
    go_still_tail 26, (by kernel_rfl)
    still_call (order_low _ _ _)
    repeat still_step
    refine wpStill_nil ?_
    all_goals go_wp2_with fail
    all_goals go_ret
    all_goals exact ⟨rfl, HOW.out, ((hb1.drew.setCell (p := ⟨g, j, none⟩) (Nat.le_of_lt hgB) _).setCell (p := ⟨B, 2, none⟩) (Nat.le_refl _) _)⟩
end Go.Proofs.YtbfeonhokagdjaaDoor
