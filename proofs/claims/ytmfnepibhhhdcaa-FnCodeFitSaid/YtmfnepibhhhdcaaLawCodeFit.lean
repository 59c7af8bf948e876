/- P9: lengths that are fitted. -/
import Derived.Test.YtmfnepibhhhdcaaCtFacts
import Derived.Test.YtmfnepibhhhdcaaDrawCodeFit
import Derived.Test.YtmfnepibhhhdcaaWiInts
namespace Go.Proofs.Ytmfnepibhhhdcaa
open Go.RowKit

theorem ints_at {w : World} {a : Option Addr} {zs : List Int} (h : Ints w a zs) {k : Nat} (hk : k < zs.length) : ∃ b off, a = some ⟨b, off, none⟩ ∧ w.cell? ⟨b, off + k, none⟩ = some (.int .i64 (zs.getD k 0)) := by
  rcases h with e | ⟨b, off, rfl, _, hc⟩
  · rw [e] at hk; simp at hk
  · exact ⟨b, off, rfl, by rw [hc k hk, List.getD_eq_getElem?_getD, List.getElem?_eq_getElem hk]; rfl⟩
theorem fit_drewN {B : Nat} {w w' : World} (h : Below B w w') (n : Nat) : Below B w (w'.drewN n) := ⟨h.os, h.tape, h.output, h.size, h.block⟩
theorem initT_succ (zs : List Int) (k : Nat) : (initT zs (k + 1)).length = (initT zs k).length + (if 0 < zs.getD k 0 then 1 else 0) := by
  rw [initT]
  split <;> simp
theorem initT_le (zs : List Int) : ∀ k, (initT zs k).length ≤ k
  | 0 => Nat.le_refl _
  | k + 1 => by
    have := initT_le zs k
    rw [initT_succ]
    split <;> omega

set_option maxHeartbeats 8000000 in
set_option maxRecDepth 20000 in
theorem lawCodeFit (a0 : Option Addr) (len0 cap0 : Nat) (w : World) (h0 : Code8 w a0 len0 cap0) :
    Calls Try.prog 7 #[.slice a0 len0 cap0] w fun e w' => e = .returned (.bool true) ∧ Below w.heap.size w w' := by
  by_cases hb0 : 1048576 < len0
  · have hbi : decide ((len0 : Int) > 1048576) = true := by simp; omega
    clear h0
    go_enter Try.func7, Try.ntmps7
    go_wp2_with fail
    go_ret
    exact ⟨rfl, Below.refl _ _⟩
  have hbi : decide ((len0 : Int) > 1048576) = false := by simp; omega
  have HDR : Hid (Calls Try.prog 29 #[.slice a0 len0 cap0] w (FitDrawn w)) := drawCodeFit_any a0 len0 cap0 w h0
  clear h0
  go_enter Try.func7, Try.ntmps7
  go_wp2_with fail
  refine HDR.out.mono ?_
  rintro e w1 ⟨⟨a, n, c, l, m, rfl, hI, hn, hn3, hok⟩, b1⟩
  clear HDR
  have HCI : Hid (∀ (m : Int) (w : World), Ints w a l → Calls Try.prog 25 #[.slice a n c, .int .i64 m] w (FitIs l n m w)) := fun m w h => impl_fitIs a n c l m w h hn (by omega)
  have HCS : Hid (∀ w : World, Ints w a l → Calls Try.prog 23 #[.slice a n c, .int .i64 m] w (FitIs l n m w)) := fun w h => spec_fitIs a n c l m w h hn (by omega)
  have HWI : Hid (∀ (x : Option Addr) (c : Nat) (y : Option Addr) (c' n' : Nat) (zs : List Int) (w : World), Ints w x zs → Ints w y zs → zs.length = n' → n' ≤ 301 → Calls Try.prog 30 #[.slice x n' c, .slice y n' c'] w fun e w' => e = .returned (.bool true) ∧ ∃ m, w' = w.drewN m) := fun x c y c' n' zs w h1 h2 h3 h4 => wiInts_same x c y c' n' zs w h1 h2 h3 (by omega)
  have H1 : Hid (Ints w1 a l ∧ Below w.heap.size w w1) := ⟨hI, b1⟩
  have HN : Hid (l.length = n) := hn
  have HOK : Hid (OftenOk l) := hok
  clear hI b1 hn hok
  go_wp2_with fail
  refine (HCI.out _ _ H1.out.1).mono ?_
  rintro e w2 ⟨⟨hf, x, cx, rfl⟩ | ⟨hf, x, cx, f, rfl, hX, hF⟩, b2⟩
  · have H2 : Hid (Ints w2 a l ∧ Below w.heap.size w w2) := ⟨H1.out.1.kept b2, H1.out.2.trans (b2.mono H1.out.2.size)⟩
    have HF0 : Hid (fitB l m = false) := hf
    clear H1 b2 hf
    go_wp2_with fail
    refine (HCS.out _ H2.out.1).mono ?_
    rintro e w3 ⟨⟨-, y, cy, rfl⟩ | ⟨hf, -⟩, b3⟩
    · have H3 : Hid (Ints w3 a l ∧ Below w.heap.size w w3) := ⟨H2.out.1.kept b3, H2.out.2.trans (b3.mono H2.out.2.size)⟩
      clear H2 b3
      go_wp2_with fail
      refine (HWI.out x cx y cy 0 [] w3 (.inl rfl) (.inl rfl) rfl (by omega)).mono ?_
      rintro e w4 ⟨rfl, k4, hw4⟩
      subst hw4
      have H4 : Hid (Ints (w3.drewN k4) a l ∧ Below w.heap.size w (w3.drewN k4)) := ⟨H3.out.1, fit_drewN H3.out.2 k4⟩
      clear H3
      go_wp2_with fail
      refine (HCS.out _ H4.out.1).mono ?_
      rintro e w5 ⟨⟨-, y, cy, rfl⟩ | ⟨hf, -⟩, b5⟩
      · have H5 : Hid (Below w.heap.size w w5) := H4.out.2.trans (b5.mono H4.out.2.size)
        clear H4 b5
        go_wp2_with fail
        refine (HWI.out x cx y cy 0 [] w5 (.inl rfl) (.inl rfl) rfl (by omega)).mono ?_
        rintro e w6 ⟨rfl, k6, hw6⟩
        subst hw6
        have H6 : Hid (Below w.heap.size w (w5.drewN k6)) := fit_drewN H5.out k6
        clear H5 HCI HCS HWI
        go_wp2_with fail
        go_ret
        exact ⟨rfl, H6.out⟩
      · exact absurd (HF0.out.symm.trans hf) (by decide)
    · exact absurd (HF0.out.symm.trans hf) (by decide)
  · have H2 : Hid (Ints w2 a l ∧ Ints w2 x (lens n f) ∧ Below w.heap.size w w2) := ⟨H1.out.1.kept b2, hX, H1.out.2.trans (b2.mono H1.out.2.size)⟩
    have HFI : Hid (fitB l m = true ∧ Ct.Fits m.toNat l f) := ⟨hf, hF⟩
    clear H1 b2 hf hX hF
    go_wp2_with fail
    refine (HCS.out _ H2.out.1).mono ?_
    rintro e w3 ⟨⟨hf, -⟩ | ⟨-, y, cy, f', rfl, hY, hF'⟩, b3⟩
    · exact absurd (HFI.out.1.symm.trans hf) (by decide)
    have hff : f' = f := hF'.same HFI.out.2
    subst hff
    have H3 : Hid (Ints w3 a l ∧ Ints w3 x (lens n f') ∧ Ints w3 y (lens n f') ∧ Below w.heap.size w w3) := ⟨H2.out.1.kept b3, H2.out.2.1.kept b3, hY, H2.out.2.2.trans (b3.mono H2.out.2.2.size)⟩
    clear H2 b3 hY hF'
    go_wp2_with fail
    refine (HWI.out x cx y cy n (lens n f') w3 H3.out.2.1 H3.out.2.2.1 (lens_len _ _) (by omega)).mono ?_
    rintro e w4 ⟨rfl, k4, hw4⟩
    have H4 : Hid (Ints w4 a l ∧ Ints w4 x (lens n f') ∧ Below w.heap.size w w4) := by subst hw4; exact ⟨H3.out.1, H3.out.2.1, fit_drewN H3.out.2.2.2 k4⟩
    clear H3 hw4
    by_cases hz : n = 0
    · subst hz
      go_wp2_with fail
      refine (HCS.out _ H4.out.1).mono ?_
      rintro e w5 ⟨⟨hf, -⟩ | ⟨-, y, cy, f', rfl, hY, hF'⟩, b5⟩
      · exact absurd (HFI.out.1.symm.trans hf) (by decide)
      have H5 : Hid (Below w.heap.size w w5) := H4.out.2.2.trans (b5.mono H4.out.2.2.size)
      clear H4 b5 hY hF'
      go_wp2_with fail
      refine (HWI.out x cx y cy 0 [] w5 (.inl rfl) (.inl rfl) rfl (by omega)).mono ?_
      rintro e w6 ⟨rfl, k6, hw6⟩
      subst hw6
      have H6 : Hid (Below w.heap.size w (w5.drewN k6)) := fit_drewN H5.out k6
      clear H5 HCI HCS HWI
      go_wp2_with fail
      go_ret
      exact ⟨rfl, H6.out⟩
    have hzi : ¬ (n : Int) = 0 := by omega
    have hzb : ((n : Int) == 0) = false := by simpa using hzi
    obtain ⟨ab, ao, rfl, -⟩ := ints_at H4.out.1 (k := 0) (by rw [HN.out]; omega)
    obtain ⟨xb, xo, rfl, -⟩ := ints_at H4.out.2.1 (k := 0) (by rw [lens_len]; omega)
    obtain ⟨o1, o2, o3⟩ := fits_ok HFI.out.1 HFI.out.2
    obtain ⟨p1, p2, p3, p4, p5, p6⟩ := fitB_parts HFI.out.1
    rw [HN.out] at o1 o2 o3 p1 p4
    have HO1 : Hid (Cd.okB (lens n f') = true ∧ (2 ≤ Ct.come l → fullB (lens n f') = true)) := ⟨o1, o2⟩
    have HO3 : Hid (∀ i, i < n → (f' i = 0 ↔ ¬ 0 < l.getD i 0) ∧ (f' i : Int) ≤ m) := o3
    have HP4 : Hid (∀ i, i < n → 0 ≤ l.getD i 0 ∧ l.getD i 0 ≤ 9000) := p4
    have hm1 : ¬ (0 : Int) > m := by omega
    clear HCS HWI o1 o2 o3 p4 p5 p6
    go_wp2_with fail
    go_loopw [6, 7] (fun v i wr => ∃ k : Nat, k ≤ n ∧ v = .int .i64 ((initT l k).length : Int) ∧ i = .int .i64 (k : Int) ∧ Hid (Ints wr (some ⟨ab, ao, none⟩) l ∧ Ints wr (some ⟨xb, xo, none⟩) (lens n f') ∧ Below w.heap.size w wr)) (fun _ i _ => n - (intOf i).toNat)
    case atStart => exact ⟨0, Nat.zero_le _, rfl, rfl, H4⟩
    case round =>
      obtain ⟨k, hk, rfl, rfl, HR⟩ := hrel
      clear H4
      by_cases hlt : k < n
      · have hki : (k : Int) < (n : Int) := by omega
        obtain ⟨b1, f1, e1, c1⟩ := ints_at HR.out.1 (k := k) (by rw [HN.out]; exact hlt)
        obtain ⟨b2, f2, e2, c2⟩ := ints_at HR.out.2.1 (k := k) (by rw [lens_len]; exact hlt)
        cases e1
        cases e2
        rw [lens_get hlt] at c2
        have h3 := HO3.out k hlt
        have h4 := HP4.out k hlt
        have hil := initT_le l k
        have his := initT_succ l k
        obtain ⟨T, hT⟩ : ∃ T, T = (initT l k).length := ⟨_, rfl⟩
        obtain ⟨Z, hZ⟩ : ∃ Z : Nat, l.getD k 0 = (Z : Int) := ⟨(l.getD k 0).toNat, by omega⟩
        rw [hZ] at c1 h3 h4 his
        rw [← hT] at hil his
        rw [← hT]
        have HT2 : Hid ((initT l (k + 1)).length = T + (if (0 : Int) < (Z : Int) then 1 else 0)) := his
        clear hT his hZ
        generalize f' k = F at *
        have HRd : Hid (Ints wr.drew (some ⟨ab, ao, none⟩) l ∧ Ints wr.drew (some ⟨xb, xo, none⟩) (lens n f') ∧ Below w.heap.size w wr.drew) := ⟨HR.out.1, HR.out.2.1, fit_drewN HR.out.2.2 1⟩
        clear HR HO3 HP4
        by_cases hz0 : Z = 0
        · obtain rfl : F = 0 := h3.1.2 (by omega)
          subst hz0
          clear h3 h4
          go_wp2_with fail
          go_region
          all_goals go_wp2_with fail
          all_goals
            go_roundw
            case rel => exact ⟨k + 1, by omega, by rw [HT2.out]; rfl, by go_num, HRd⟩
            case measure => simp [intOf]; omega
        · have hF0 : ¬ F = 0 := fun q => by have := h3.1.1 q; omega
          have hFi : ((F : Int) == 0) = false := by simpa using hF0
          have hZi : ((Z : Int) == 0) = false := by simpa using hz0
          have hFm : ¬ (F : Int) > m := by omega
          have hZp : (0 : Int) < (Z : Int) := by omega
          clear h3 hF0 hz0
          go_wp2_with fail
          go_region
          all_goals go_wp2_with fail
          all_goals
            go_roundw
            case rel => exact ⟨k + 1, by omega, by rw [HT2.out, if_pos hZp]; go_num, by go_num, HRd⟩
            case measure => simp [intOf]; omega
      · obtain rfl : k = n := by omega
        have H5 := HR
        clear HR
        have HC2 : Hid (Calls Try.prog 25 #[.slice (some ⟨ab, ao, none⟩) k c, .int .i64 15] wr (FitIs l k 15 wr)) := HCI.out 15 wr H5.out.1
        have H15 : Hid (fitB l 15 = true) := fitB_15 HFI.out.1
        have hdp : Cf.deep l ≤ 15 := HOK.out (room_of HFI.out.1)
        have HDP : Hid (Cf.deep l ≤ 15) := hdp
        clear HCI HFI HOK hdp
        have HIL : Hid ((initT l k).length = Ct.come l) := by show _ = _; unfold Ct.come; rw [HN.out]
        have hle := initT_le l k
        obtain ⟨T, hT⟩ : ∃ T, T = (initT l k).length := ⟨_, rfl⟩
        rw [← hT] at HIL hle
        rw [← hT]
        clear hT
        go_wp2_with fail
        refine HC2.out.mono ?_
        rintro e w6 ⟨⟨hf, -⟩ | ⟨-, y2, c2, g, rfl, hG, hGF⟩, b6⟩
        · exact absurd (H15.out.symm.trans hf) (by decide)
        have HL : Hid (Ct.IsLens l g) := fits_free HDP.out hGF
        obtain ⟨gb, go, rfl, -⟩ := ints_at hG (k := 0) (by rw [lens_len]; omega)
        have H6 : Hid (Ints w6 (some ⟨ab, ao, none⟩) l ∧ Ints w6 (some ⟨gb, go, none⟩) (lens k g) ∧ Ints w6 (some ⟨xb, xo, none⟩) (lens k f') ∧ Below w.heap.size w w6) := ⟨H5.out.1.kept b6, hG, H5.out.2.1.kept b6, H5.out.2.2.trans (b6.mono H5.out.2.2.size)⟩
        have HMO : Hid (∀ s u : Nat, s < k → u < k → 0 < l.getD s 0 → l.getD s 0 < l.getD u 0 → g u ≤ g s) := fun s u h1 h2 h3 h4 => Ct.mono HL.out (by rw [HN.out]; exact h1) (by rw [HN.out]; exact h2) h3 h4
        clear H5 HC2 H15 HDP hG hGF b6 HL HO3
        go_wp2_with fail
        go_loopw [9] (fun i wr => ∃ r : Nat, r ≤ k ∧ i = .int .i64 (r : Int) ∧ Hid (Ints wr (some ⟨ab, ao, none⟩) l ∧ Ints wr (some ⟨gb, go, none⟩) (lens k g) ∧ Ints wr (some ⟨xb, xo, none⟩) (lens k f') ∧ Below w.heap.size w wr)) (fun i _ => k - (intOf i).toNat)
        case atStart => exact ⟨0, Nat.zero_le _, rfl, H6⟩
        case round =>
          obtain ⟨r, hr, rfl, HR⟩ := hrel
          clear H6
          by_cases hrl : r < k
          · have hri : (r : Int) < (k : Int) := by omega
            go_wp2_with fail
            go_loopw [10] (fun i wr => ∃ s : Nat, s ≤ k ∧ i = .int .i64 (s : Int) ∧ Hid (Ints wr (some ⟨ab, ao, none⟩) l ∧ Ints wr (some ⟨gb, go, none⟩) (lens k g) ∧ Ints wr (some ⟨xb, xo, none⟩) (lens k f') ∧ Below w.heap.size w wr)) (fun i _ => k - (intOf i).toNat)
            case atStart => exact ⟨0, Nat.zero_le _, rfl, HR⟩
            case round =>
              obtain ⟨s, hs, rfl, HS⟩ := hrel
              clear HR
              by_cases hsl : s < k
              · have hsi : (s : Int) < (k : Int) := by omega
                have HSd : Hid (Ints wr.drew (some ⟨ab, ao, none⟩) l ∧ Ints wr.drew (some ⟨gb, go, none⟩) (lens k g) ∧ Ints wr.drew (some ⟨xb, xo, none⟩) (lens k f') ∧ Below w.heap.size w wr.drew) := ⟨HS.out.1, HS.out.2.1, HS.out.2.2.1, fit_drewN HS.out.2.2.2 1⟩
                obtain ⟨b1, f1, e1, c1⟩ := ints_at HS.out.1 (k := r) (by rw [HN.out]; exact hrl)
                obtain ⟨b2, f2, e2, c3⟩ := ints_at HS.out.1 (k := s) (by rw [HN.out]; exact hsl)
                obtain ⟨b3, f3, e3, c4⟩ := ints_at HS.out.2.1 (k := r) (by rw [lens_len]; exact hrl)
                obtain ⟨b4, f4, e4, c5⟩ := ints_at HS.out.2.1 (k := s) (by rw [lens_len]; exact hsl)
                cases e1
                cases e2
                cases e3
                cases e4
                rw [lens_get hrl] at c4
                rw [lens_get hsl] at c5
                have hmo : 0 < l.getD r 0 → l.getD r 0 < l.getD s 0 → ((g s : Nat) : Int) ≤ ((g r : Nat) : Int) := fun h1 h2 => Int.ofNat_le.2 (HMO.out r s hrl hsl h1 h2)
                clear HMO HS
                generalize l.getD r 0 = x1 at *
                generalize l.getD s 0 = x2 at *
                generalize ((g r : Nat) : Int) = g1 at *
                generalize ((g s : Nat) : Int) = g2 at *
                by_cases q1 : 0 < x1
                · have d1 : decide (x1 > 0) = true := by simpa using q1
                  by_cases q2 : x1 < x2
                  · have d2 : decide (x1 < x2) = true := by simpa using q2
                    have d3 : decide (g1 < g2) = false := by have := hmo q1 q2; simp; omega
                    clear hmo q1 q2
                    go_wp2_with fail
                    go_region
                    all_goals go_wp2_with fail
                    all_goals
                      go_roundw
                      case rel => exact ⟨s + 1, by omega, by go_num, HSd⟩
                      case measure => simp [intOf]; omega
                  · have d2 : decide (x1 < x2) = false := by simpa using q2
                    clear hmo q1 q2 c4 c5
                    go_wp2_with fail
                    go_region
                    all_goals go_wp2_with fail
                    all_goals
                      go_roundw
                      case rel => exact ⟨s + 1, by omega, by go_num, HSd⟩
                      case measure => simp [intOf]; omega
                · have d1 : decide (x1 > 0) = false := by simpa using q1
                  clear hmo q1 c3 c4 c5
                  go_wp2_with fail
                  go_region
                  all_goals go_wp2_with fail
                  all_goals
                    go_roundw
                    case rel => exact ⟨s + 1, by omega, by go_num, HSd⟩
                    case measure => simp [intOf]; omega
              · have hsi : ¬ (s : Int) < (k : Int) := by omega
                go_wp2_with fail
                go_roundw
                case rel => exact ⟨r + 1, by omega, by go_num, HS⟩
                case measure => simp [intOf]; omega
          · have hri : ¬ (r : Int) < (k : Int) := by omega
            have HCO : Hid (Calls Try.prog 31 #[.slice (some ⟨xb, xo, none⟩) k cx] wr fun e w' => e = .returned (.bool true) ∧ w' = wr) := by
              have := impl_codeOk (some ⟨xb, xo, none⟩) cx k (lens k f') wr HR.out.2.2.1 (lens_len _ _) (by omega)
              rw [HO1.out.1] at this
              exact this
            have HCF : Hid (2 ≤ T → Calls Try.prog 32 #[.slice (some ⟨xb, xo, none⟩) k cx] wr fun e w' => e = .returned (.bool true) ∧ w' = wr) := fun h2 => by
              have := impl_codeFull (some ⟨xb, xo, none⟩) cx k (lens k f') wr HR.out.2.2.1 (lens_len _ _) (by omega)
              rw [HO1.out.2 (by rw [← HIL.out]; exact h2)] at this
              exact this
            have HB : Hid (Below w.heap.size w wr) := HR.out.2.2.2
            clear HR HO1 HMO HP4 HIL
            go_wp2_with fail
            refine HCO.out.mono ?_
            rintro e w7 ⟨rfl, hw7⟩
            subst hw7
            clear HCO
            have hkk : ((k : Int) == (k : Int)) = true := by simp
            by_cases h2 : 2 ≤ T
            · have d2 : decide ((T : Int) < 2) = false := by simp; omega
              have HCG := HCF.out h2
              have HC9 : Hid (Calls Try.prog 32 #[.slice (some ⟨xb, xo, none⟩) k cx] w7 fun e w' => e = .returned (.bool true) ∧ w' = w7) := HCG
              clear HCF HCG h2
              go_wp2_with fail
              refine HC9.out.mono ?_
              rintro e w8 ⟨rfl, hw8⟩
              subst hw8
              clear HC9
              go_wp2_with fail
              go_ret
              exact ⟨rfl, HB.out⟩
            · have d2 : decide ((T : Int) < 2) = true := by simp; omega
              clear HCF h2
              go_wp2_with fail
              go_ret
              exact ⟨rfl, HB.out⟩
end Go.Proofs.Ytmfnepibhhhdcaa
