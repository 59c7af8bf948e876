/- PassesOf of the specification. -/
import Derived.Test.YtkghijlooefbhaaPsOwn
import Derived.Test.YtkghijlooefbhaaPsWalks
import Derived.Test.YtkghijlooefbhaaInWalks
import Derived.Laws.Tables
namespace Go.Proofs.Ytkghijlooefbhaa
open Go.RowKit

theorem ints_arr (w : World) (l : List Int) (T : TypeId) : Ints (w.alloc (.cells (arr l) T)) (some ⟨w.heap.size, 0, none⟩) l := by
  refine .inr ⟨w.heap.size, 0, rfl, by simp, fun i hi => ?_⟩
  rw [Nat.zero_add, World.cell?_alloc_at _ _ _ _ rfl, arr_get _ _ hi]

theorem ps_arr : (#[.int .i64 0, .int .i64 0, .int .i64 8, .int .i64 8, .int .i64 0, .int .i64 0, .int .i64 4, .int .i64 0, .int .i64 8, .int .i64 8, .int .i64 0, .int .i64 0, .int .i64 0, .int .i64 4, .int .i64 4, .int .i64 8, .int .i64 0, .int .i64 0, .int .i64 2, .int .i64 0, .int .i64 4, .int .i64 4, .int .i64 0, .int .i64 0, .int .i64 0, .int .i64 2, .int .i64 2, .int .i64 4, .int .i64 0, .int .i64 0, .int .i64 1, .int .i64 0, .int .i64 2, .int .i64 2, .int .i64 0, .int .i64 0, .int .i64 0, .int .i64 1, .int .i64 1, .int .i64 2, .int .i64 0, .int .i64 0] : Array Value) = arr Ps.all := rfl

set_option maxHeartbeats 1000000 in
set_option maxRecDepth 20000 in
theorem l9All_any (w : World) :
    Calls Try.prog 71 #[] w fun e w' => e = .returned (.slice (some ⟨w.heap.size, 0, none⟩) 7 7) ∧ Ints w' (some ⟨w.heap.size, 0, none⟩) Ps.all ∧ w'.heap.size = w.heap.size + 1 ∧ Below w.heap.size w w' := by
  have HI : Hid (∀ T, Ints (w.alloc (.cells (arr Ps.all) T)) (some ⟨w.heap.size, 0, none⟩) Ps.all) := fun T => ints_arr w _ T
  go_enter Try.func71, Try.ntmps71
  go_wp2_with fail
  go_ret
  exact ⟨rfl, HI.out _, by simp, (Below.refl _ _).alloc (Nat.le_refl _) _⟩

theorem ownPs_lower {w : World} {B B' n : Nat} {v : Value} {l : List Int} (h : OwnPs w B v n l) (hb : B' ≤ B) : OwnPs w B' v n l := by
  refine ⟨h.1, ?_⟩
  rcases h.2 with h2 | ⟨g, cap, cur, hv, hg, r⟩
  · exact .inl h2
  · exact .inr ⟨g, cap, cur, hv, by omega, r⟩

set_option maxHeartbeats 4000000 in
set_option maxRecDepth 20000 in
theorem l9Passes_woven (W H : Nat) (w : World) (hW : 1 ≤ W ∧ W ≤ 20) (hH : 1 ≤ H ∧ H ≤ 20) :
    Calls Try.prog 41 #[.int .i64 W, .int .i64 H, .bool true] w fun e w' => (∃ v, e = .returned v ∧ OwnPs w' w.heap.size v (Ps.cnt W H 7) (Ps.flat W H 7)) ∧ Below w.heap.size w w' := by
  obtain ⟨i0, hi0, hz0, hz1, hz2⟩ := info_parts info_pass
  go_enter Try.func41, Try.ntmps41
  go_wp2_with fail
  refine (l9All_any w).mono ?_
  rintro e w1 ⟨rfl, hI1, hs1, b1⟩
  have HE : Hid (OwnPs (w1.alloc (.cells #[] 30)) w1.heap.size (.slice (some ⟨w1.heap.size, 0, none⟩) 0 0) 0 []) := ownPs_none w1
  have hb2 : Below w1.heap.size w1 (w1.alloc (.cells #[] 30)) := (Below.refl _ _).alloc (Nat.le_refl _) _
  have HI2 : Hid (Ints (w1.alloc (.cells #[] 30)) (some ⟨w.heap.size, 0, none⟩) Ps.all) := hI1.kept hb2
  have HB2 : Hid (Below w.heap.size w (w1.alloc (.cells #[] 30))) := b1.trans (hb2.mono b1.size)
  clear hI1 hb2 b1
  go_wp2_with fail
  go_loopw [8, 9] (fun v i wr => ∃ (k c : Nat) (l : List Int), k ≤ 7 ∧ i = .int .i64 k ∧ c = Ps.cnt W H k ∧ l = Ps.flat W H k ∧ OwnPs wr (w.heap.size + 1) v c l ∧ Below (w.heap.size + 1) (w1.alloc (.cells #[] 30)) wr) (fun _ i _ => 7 - (intOf i).toNat)
  case atStart => exact ⟨0, 0, [], by omega, rfl, rfl, rfl, by rw [← hs1]; exact HE.out, Below.refl _ _⟩
  case round =>
    obtain ⟨k, c, l, hk, rfl, hc, hl, hown, hbel⟩ := hrel
    clear HE
    have HC : Hid (c = Ps.cnt W H k ∧ l = Ps.flat W H k) := ⟨hc, hl⟩
    have hcb : c ≤ 7 := by rw [hc]; exact Nat.le_trans (Ps.cnt_le W H k) hk
    clear hc hl
    by_cases hlt : k < 7
    · obtain ⟨b0, off0, e0, hb0, c0, c1, c2, c3, c4, c5⟩ := ints_six HI2.out Ps.all_len hlt
      cases e0
      obtain ⟨q0, q1, q2, q3, q4, q5⟩ := Ps.all_at k hlt
      rw [q0] at c0; rw [q1] at c1; rw [q2] at c2; rw [q3] at c3; rw [q4] at c4; rw [q5] at c5
      have m0 := (hbel.cell (p := ⟨w.heap.size, 0 + k * 6, none⟩) (show w.heap.size < w.heap.size + 1 by omega)).trans c0
      have m1 := (hbel.cell (p := ⟨w.heap.size, 0 + k * 6 + 1, none⟩) (show w.heap.size < w.heap.size + 1 by omega)).trans c1
      have m2 := (hbel.cell (p := ⟨w.heap.size, 0 + k * 6 + 2, none⟩) (show w.heap.size < w.heap.size + 1 by omega)).trans c2
      have m3 := (hbel.cell (p := ⟨w.heap.size, 0 + k * 6 + 3, none⟩) (show w.heap.size < w.heap.size + 1 by omega)).trans c3
      have m4 := (hbel.cell (p := ⟨w.heap.size, 0 + k * 6 + 4, none⟩) (show w.heap.size < w.heap.size + 1 by omega)).trans c4
      have m5 := (hbel.cell (p := ⟨w.heap.size, 0 + k * 6 + 5, none⟩) (show w.heap.size < w.heap.size + 1 by omega)).trans c5
      rw [Nat.zero_add] at m0 m1 m2 m3 m4 m5
      obtain ⟨bx1, by1, bd1, bd8, be1, be8, bxd, byd⟩ := Ps.bounds k (by omega)
      have HR : Hid (Ps.row W H k = [(Ps.px k : Int), (Ps.py k : Int), (Ps.dx k : Int), (Ps.dy k : Int), (Ps.num (Ps.px k) (Ps.dx k) W : Nat), (Ps.num (Ps.py k) (Ps.dy k) H : Nat)]) := rfl
      have HOK : Hid (Ps.ok W H k ↔ (Ps.px k < W ∧ Ps.py k < H)) := Iff.rfl
      clear c0 c1 c2 c3 c4 c5 q0 q1 q2 q3 q4 q5 hb0
      obtain ⟨n1, hn1⟩ : ∃ n1, n1 = Ps.num (Ps.px k) (Ps.dx k) W := ⟨_, rfl⟩
      obtain ⟨n2, hn2⟩ : ∃ n2, n2 = Ps.num (Ps.py k) (Ps.dy k) H := ⟨_, rfl⟩
      rw [← hn1, ← hn2] at HR
      have hN1 : (((W : Int) - (Ps.px k : Int) + (Ps.dx k : Int) - 1)).tdiv (Ps.dx k : Int) = (n1 : Int) := by
        rw [show ((W : Int) - (Ps.px k : Int) + (Ps.dx k : Int) - 1) = ((W + Ps.dx k - 1 - Ps.px k : Nat) : Int) by omega, Int.tdiv_eq_ediv_of_nonneg (by omega), hn1]; rfl
      have hN2 : (((H : Int) - (Ps.py k : Int) + (Ps.dy k : Int) - 1)).tdiv (Ps.dy k : Int) = (n2 : Int) := by
        rw [show ((H : Int) - (Ps.py k : Int) + (Ps.dy k : Int) - 1) = ((H + Ps.dy k - 1 - Ps.py k : Nat) : Int) by omega, Int.tdiv_eq_ediv_of_nonneg (by omega), hn2]; rfl
      have hn1b : n1 ≤ 28 := by rw [hn1]; exact Ps.num_le bd1 bd8 hW.2
      have hn2b : n2 ≤ 28 := by rw [hn2]; exact Ps.num_le be1 be8 hH.2
      clear hn1 hn2
      generalize Ps.px k = x at *
      generalize Ps.py k = y at *
      generalize Ps.dx k = p at *
      generalize Ps.dy k = q at *
      obtain ⟨a1, ha1⟩ : ∃ a1 : Int, (W : Int) - (x : Int) = a1 := ⟨_, rfl⟩
      obtain ⟨a2, ha2⟩ : ∃ a2 : Int, a1 + (p : Int) = a2 := ⟨_, rfl⟩
      obtain ⟨a3, ha3⟩ : ∃ a3 : Nat, a2 - 1 = (a3 : Int) := Int.eq_ofNat_of_zero_le (by omega)
      obtain ⟨b1, hb1⟩ : ∃ b1 : Int, (H : Int) - (y : Int) = b1 := ⟨_, rfl⟩
      obtain ⟨b2, hb2⟩ : ∃ b2 : Int, b1 + (q : Int) = b2 := ⟨_, rfl⟩
      obtain ⟨b3, hb3⟩ : ∃ b3 : Nat, b2 - 1 = (b3 : Int) := Int.eq_ofNat_of_zero_le (by omega)
      rw [ha1, ha2, ha3] at hN1
      rw [hb1, hb2, hb3] at hN2
      have hN1' : (a3 : Int) / (p : Int) = (n1 : Int) := by rw [← hN1, Int.tdiv_eq_ediv_of_nonneg (by omega)]
      have hN2' : (b3 : Int) / (q : Int) = (n2 : Int) := by rw [← hN2, Int.tdiv_eq_ediv_of_nonneg (by omega)]
      have hp0 : ¬ p = 0 := by omega
      have hq0 : ¬ q = 0 := by omega
      have hpb : ((p : Int) == 0) = false := by rw [beq_eq_false_iff_ne]; omega
      have hqb : ((q : Int) == 0) = false := by rw [beq_eq_false_iff_ne]; omega
      have r1 : -20 ≤ a1 ∧ a1 ≤ 20 := by omega
      have r2 : -20 ≤ a2 ∧ a2 ≤ 40 := by omega
      have r3 : a3 ≤ 40 := by omega
      have s1 : -20 ≤ b1 ∧ b1 ≤ 20 := by omega
      have s2 : -20 ≤ b2 ∧ b2 ≤ 40 := by omega
      have s3 : b3 ≤ 40 := by omega
      have hbs : w.heap.size + 1 ≤ wr.heap.size := by have := hbel.size; simp at this; omega
      by_cases hox : x < W
      · have dx1 : decide ((x : Int) < (W : Int)) = true := by simp; omega
        by_cases hoy : y < H
        · have dy1 : decide ((y : Int) < (H : Int)) = true := by simp; omega
          have HF : Hid (Ps.flat W H (k + 1) = l ++ [(x : Int), (y : Int), (p : Int), (q : Int), (n1 : Int), (n2 : Int)] ∧ Ps.cnt W H (k + 1) = c + 1) := by
            have := Ps.flat_yes (HOK.out.2 ⟨hox, hoy⟩)
            rw [HR.out, ← HC.out.1, ← HC.out.2] at this; exact this
          have hm63 : c + 1 ≤ maxLen := by unfold maxLen; omega
          have hlen : (c + 1) * 48 ≤ 140737488355328 := by omega
          have hone : ∀ u ∈ ([.int .i64 (x : Int), .int .i64 (y : Int), .int .i64 (p : Int), .int .i64 (q : Int), .int .i64 (n1 : Int), .int .i64 (n2 : Int)] : List Value), u.oneCell' = true := by intro u hu; simp at hu; rcases hu with rfl | rfl | rfl | rfl | rfl | rfl <;> rfl
          clear HOK HR HC
          go_wp2_with (at_builtin; refine wpList_append_lies _ (by rfl) _ _ _ (by rfl) (w.heap.size + 1) 30 i0 (.agg #[.int .i64 0, .int .i64 0, .int .i64 0, .int .i64 0, .int .i64 0, .int .i64 0]) 6 48 Try.underlying25 hi0 hz0 hz1 hz2 rfl (by decide) _ c (intsV l) (by rfl) (World.ownsRow.alloc (World.ownsRow.alloc (show World.ownsRow _ _ _ _ _ _ _ from hown) _) _) ⟨wr.heap.size + 1, 0, none⟩ 1 1 [.int .i64 (x : Int), .int .i64 (y : Int), .int .i64 (p : Int), .int .i64 (q : Int), .int .i64 (n1 : Int), .int .i64 (n2 : Int)] (by rfl) rfl (World.news_of_block (alloc2_new _ _ _)) hone (by decide) hm63 hlen (by simp; omega) _ rfl ?_)
          intro g cap2 w4 hown4 hgrow hat hlt4
          have hlt0 := World.ownsRow.lt hown
          have hb4 : Below (w.heap.size + 1) (w1.alloc (.cells #[] 30)) w4 := ((hbel.alloc hbs _).alloc (by simp; omega) _).grown hgrow (by simp; omega) (fun k hk => (hlt0 k hk).1)
          have H4 : Hid (OwnPs w4 (w.heap.size + 1) (.slice (some ⟨g, 0, none⟩) (c + 1) cap2) (c + 1) (l ++ [(x : Int), (y : Int), (p : Int), (q : Int), (n1 : Int), (n2 : Int)])) := OwnPs.more hown4
          clear hown4 hgrow hat hlt0 hown hbel hone hm63 hlen hlt4
          go_wp2_with fail
          go_roundw
          case rel => exact ⟨k + 1, c + 1, _, by omega, by go_num, HF.out.2.symm, HF.out.1.symm, H4.out, hb4⟩
          case measure => simp [intOf]; omega
        · have dy1 : decide ((y : Int) < (H : Int)) = false := by simp; omega
          have HF : Hid (Ps.flat W H (k + 1) = l ∧ Ps.cnt W H (k + 1) = c) := by
            have := Ps.flat_no (fun g => hoy (HOK.out.1 g).2)
            rw [← HC.out.1, ← HC.out.2] at this; exact this
          have H4 : Hid (∀ o, OwnPs (wr.alloc o) (w.heap.size + 1) _ c l ∧ Below (w.heap.size + 1) (w1.alloc (.cells #[] 30)) (wr.alloc o)) := fun o => ⟨World.ownsRow.alloc hown _, hbel.alloc hbs _⟩
          clear HOK HR HC hown hbel
          go_wp2_with fail
          go_roundw
          case rel => exact ⟨k + 1, c, _, by omega, by go_num, HF.out.2.symm, HF.out.1.symm, (H4.out _).1, (H4.out _).2⟩
          case measure => simp [intOf]; omega
      · have dx1 : decide ((x : Int) < (W : Int)) = false := by simp; omega
        have HF : Hid (Ps.flat W H (k + 1) = l ∧ Ps.cnt W H (k + 1) = c) := by
          have := Ps.flat_no (fun g => hox (HOK.out.1 g).1)
          rw [← HC.out.1, ← HC.out.2] at this; exact this
        have H4 : Hid (∀ o, OwnPs (wr.alloc o) (w.heap.size + 1) _ c l ∧ Below (w.heap.size + 1) (w1.alloc (.cells #[] 30)) (wr.alloc o)) := fun o => ⟨World.ownsRow.alloc hown _, hbel.alloc hbs _⟩
        clear HOK HR HC hown hbel
        go_wp2_with fail
        go_roundw
        case rel => exact ⟨k + 1, c, _, by omega, by go_num, HF.out.2.symm, HF.out.1.symm, (H4.out _).1, (H4.out _).2⟩
        case measure => simp [intOf]; omega
    · have hk' : k = 7 := by omega
      subst hk'
      have HO : Hid (∃ ao cap, u8 = .slice ao c cap ∧ Owns wr (w.heap.size + 1) ao l) := hown.owns
      have HO2 : Hid (OwnPs wr (w.heap.size + 1) u8 c l) := hown
      have HB : Hid (Below w.heap.size w wr) := HB2.out.trans (hbel.mono (show w.heap.size ≤ w.heap.size + 1 by omega))
      obtain ⟨ao, cap, rfl, _⟩ := HO.out
      have H5 : Hid (OwnPs wr w.heap.size (.slice ao c cap) (Ps.cnt W H 7) (Ps.flat W H 7)) := by
        show OwnPs _ _ _ _ _
        rw [← HC.out.1, ← HC.out.2]; exact ownPs_lower HO2.out (by omega)
      clear hown hbel HO HO2
      go_wp2_with fail
      go_ret
      exact ⟨⟨_, rfl, H5.out⟩, HB.out⟩

set_option maxHeartbeats 1000000 in
theorem spec_passes (wd hi : Int) (w : World) :
    Calls Try.prog 12 #[.int .i64 wd, .int .i64 hi] w fun e w' => (∃ ao cap, e = .returned (.slice ao (psN wd hi) cap) ∧ Ints w' ao (psL wd hi)) ∧ Below w.heap.size w w' := by
  by_cases h1 : 1 ≤ wd ∧ wd ≤ 20
  · have HL1 : Hid (∀ w : World, Calls Try.prog 40 #[.int .i64 wd, .int .i64 1, .int .i64 20] w fun e w' => e = .returned (.bool true) ∧ w' = w) := fun w => l1In_yes _ _ _ w h1.1 h1.2
    by_cases h2 : 1 ≤ hi ∧ hi ≤ 20
    · have HL2 : Hid (∀ w : World, Calls Try.prog 40 #[.int .i64 hi, .int .i64 1, .int .i64 20] w fun e w' => e = .returned (.bool true) ∧ w' = w) := fun w => l1In_yes _ _ _ w h2.1 h2.2
      have HP : Hid (psN wd hi = Ps.cnt wd.toNat hi.toNat 7 ∧ psL wd hi = Ps.flat wd.toNat hi.toNat 7) := ps_yes ⟨h1, h2⟩
      obtain ⟨W, rfl⟩ := Int.eq_ofNat_of_zero_le (show 0 ≤ wd by omega)
      obtain ⟨H, rfl⟩ := Int.eq_ofNat_of_zero_le (show 0 ≤ hi by omega)
      rw [Int.toNat_natCast, Int.toNat_natCast] at HP
      have HW : Hid (∀ w : World, Calls Try.prog 41 #[.int .i64 (W : Int), .int .i64 (H : Int), .bool true] w fun e w' => (∃ v, e = .returned v ∧ OwnPs w' w.heap.size v (Ps.cnt W H 7) (Ps.flat W H 7)) ∧ Below w.heap.size w w') := fun w => l9Passes_woven W H w (by omega) (by omega)
      clear h1 h2
      go_enter Try.func12, Try.ntmps12
      go_wp2_with fail
      refine (HL1.out _).mono ?_
      rintro e w1 ⟨rfl, hw⟩; subst hw
      go_wp2_with fail
      refine (HL2.out _).mono ?_
      rintro e w1 ⟨rfl, hw⟩; subst hw
      go_wp2_with fail
      refine (HW.out _).mono ?_
      rintro e w2 ⟨⟨v, rfl, hO⟩, b2⟩
      obtain ⟨ao, cap, rfl, hOw⟩ := hO.owns
      have HI : Hid (Ints w2 ao (Ps.flat W H 7)) := hOw.ints
      clear hO hOw
      go_wp2_with fail
      go_ret
      exact ⟨⟨ao, cap, by rw [HP.out.1]; rfl, by rw [HP.out.2]; exact HI.out⟩, b2⟩
    · have HL2 : Hid (∀ w : World, Calls Try.prog 40 #[.int .i64 hi, .int .i64 1, .int .i64 20] w fun e w' => e = .returned (.bool false) ∧ w' = w) := fun w => l1In_no _ _ _ w h2
      have HP : Hid (psN wd hi = 0 ∧ psL wd hi = []) := ps_no (fun g => h2 g.2)
      clear h1 h2
      go_enter Try.func12, Try.ntmps12
      go_wp2_with fail
      refine (HL1.out _).mono ?_
      rintro e w1 ⟨rfl, hw⟩; subst hw
      go_wp2_with fail
      refine (HL2.out _).mono ?_
      rintro e w1 ⟨rfl, hw⟩; subst hw
      go_wp2_with fail
      go_ret
      exact ⟨⟨_, _, by rw [HP.out.1]; rfl, by rw [HP.out.2]; exact .inl rfl⟩, (Below.refl _ _).alloc (Nat.le_refl _) _⟩
  · have HL1 : Hid (∀ w : World, Calls Try.prog 40 #[.int .i64 wd, .int .i64 1, .int .i64 20] w fun e w' => e = .returned (.bool false) ∧ w' = w) := fun w => l1In_no _ _ _ w h1
    have HP : Hid (psN wd hi = 0 ∧ psL wd hi = []) := ps_no (fun g => h1 g.1)
    clear h1
    go_enter Try.func12, Try.ntmps12
    go_wp2_with fail
    refine (HL1.out _).mono ?_
    rintro e w1 ⟨rfl, hw⟩; subst hw
    go_wp2_with fail
    go_ret
    exact ⟨⟨_, _, by rw [HP.out.1]; rfl, by rw [HP.out.2]; exact .inl rfl⟩, (Below.refl _ _).alloc (Nat.le_refl _) _⟩
end Go.Proofs.Ytkghijlooefbhaa
