/- The same, the highest bit first. -/
import Derived.Test.YtbfeonhokagdjaaDoorVEPnmPutBpPut
namespace Go.Proofs.YtbfeonhokagdjaaDoor
open Go.RowKit

set_option maxHeartbeats 2000000 in
set_option maxRecDepth 20000 in
theorem l1Put_high (a : Option Addr) (n cap : Nat) (l : List (Int × Int)) (w : World) (h : Bits2 w a l) (hn : l.length = n) (hl : n ≤ 2000000) (hf : Bp.Fits l l.length) :
    Calls Tryd.prog 56 #[.slice a n cap, .bool true] w fun e w' => e = .returned (.string ⟨((Bp.text true l).map UInt8.ofNat).toArray⟩) ∧ Below w.heap.size w w' := by
  obtain ⟨i0, hi0, hz0, hz1, hz2⟩ := info_parts info_u8
  have HB : Hid (Bits2 w a l) := h
  have HF : Hid (Bp.Fits l l.length) := hf
  have HE := own_empty w
  clear h hf
  go_enter Tryd.func56, Tryd.ntmps56
  go_wp2_with fail
  go_loopw [5, 6, 7] (fun v m i wr => ∃ k N L : Nat, k ≤ n ∧ i = .int .i64 k ∧ N = Bp.tot l k ∧ m = .int .i64 N ∧ L = (N + 7) / 8 ∧ OwnB wr w.heap.size v L (Bp.pack true (Bp.fOf true l) N) ∧ Below w.heap.size w wr) (fun _ _ i _ => n - (intOf i).toNat)
  case atStart => exact ⟨0, 0, 0, Nat.zero_le _, rfl, rfl, rfl, rfl, HE, (Below.refl _ _).alloc (Nat.le_refl _) _⟩
  case round =>
    obtain ⟨k, N, L, hk, rfl, hN, rfl, hL, hown, hbel⟩ := hrel
    by_cases hlt : k < n
    · have hkl : k < l.length := by omega
      obtain ⟨b, off, rfl, hbB, hc1, hc2⟩ := HB.out.at hkl
      have hok := (HF.out k hkl hkl).1
      have htt := (HF.out k hkl hkl).2
      rw [Bp.tot_succ l k hkl, ← hN] at htt
      have HA : Hid (∀ q, q < (l[k]).2.toNat → Bp.fOf true l (N + q) = Bp.bitIn true (l[k]).1.toNat (l[k]).2.toNat q) := by
        intro q hq; rw [hN]; exact Bp.fOf_at true l k q hkl hq
      have HN : Hid (N + (l[k]).2.toNat = Bp.tot l (k + 1)) := by show _ = _; rw [Bp.tot_succ l k hkl, hN]
      obtain ⟨o1, o2, o3, o4⟩ := hok
      obtain ⟨V, hV⟩ := Int.eq_ofNat_of_zero_le o3
      obtain ⟨S, hS⟩ := Int.eq_ofNat_of_zero_le o1
      rw [hV, hS] at HA
      rw [hS] at HN htt o2
      rw [hV, hS] at o4
      rw [hV] at hc1
      rw [hS] at hc2
      simp only [Int.toNat_natCast] at HA HN htt o4
      have hS24 : S ≤ 24 := by omega
      have hVb : V < 16777216 := Nat.lt_of_lt_of_le o4 (Nat.le_trans (Nat.pow_le_pow_right (by omega) hS24) (by decide))
      clear o1 o2 o3 o4 hV hS hN
      have hki : (k : Int) < (n : Int) := by omega
      have e1 := (hbel.cell (p := ⟨b, off + k * 2, none⟩) hbB).trans hc1
      have e2 := (hbel.cell (p := ⟨b, off + k * 2 + 1, none⟩) hbB).trans hc2
      go_wp2_with fail
      clear e1 e2
      go_loopw [5, 6, 8] (fun v m i wr => ∃ q M L : Nat, q ≤ S ∧ i = .int .i64 q ∧ M = N + q ∧ m = .int .i64 M ∧ L = (M + 7) / 8 ∧ OwnB wr w.heap.size v L (Bp.pack true (Bp.fOf true l) M) ∧ Below w.heap.size w wr) (fun _ _ i _ => S - (intOf i).toNat)
      case atStart => exact ⟨0, N, L, Nat.zero_le _, rfl, rfl, rfl, hL, hown, hbel⟩
      case round =>
        clear hown hbel hL
        obtain ⟨q, M, L, hq, rfl, hM, rfl, hL, hown, hbel⟩ := hrel
        have HML : Hid (M = N + q ∧ L = (M + 7) / 8) := ⟨hM, hL⟩
        have hM7 : M ≤ 72000 := by omega
        have hL7 : L ≤ 10000 := by omega
        clear hM hL
        have e1 := (hbel.cell (p := ⟨b, off + k * 2, none⟩) hbB).trans hc1
        have e2 := (hbel.cell (p := ⟨b, off + k * 2 + 1, none⟩) hbB).trans hc2
        by_cases hqS : q < S
        · obtain ⟨sh, hsh⟩ : ∃ sh, sh = S - 1 - q := ⟨_, rfl⟩
          obtain ⟨Q, hQ⟩ : ∃ Q, Q = 2 ^ sh := ⟨_, rfl⟩
          have hQ1 : 0 < Q := by rw [hQ]; exact Nat.pow_pos (by omega)
          have hQ2 : Q ≤ 16777216 := by rw [hQ]; exact Nat.le_trans (Nat.pow_le_pow_right (by omega) (show sh ≤ 24 by omega)) (by decide)
          have HP : Hid (∀ (z : Int) (w : World), z = (S : Int) - 1 - (q : Int) → Calls Tryd.prog 27 #[.int .i64 z] w fun e w' => e = .returned (.int .i64 (Q : Int)) ∧ w' = w) := by
            intro z w hz
            have := l1Pow_any sh w (by omega)
            rw [← hQ] at this
            rw [show z = (sh : Int) by omega]
            exact this
          obtain ⟨D, hD⟩ : ∃ D, D = V / Q := ⟨_, rfl⟩
          have hDl : D ≤ V := by rw [hD]; exact Nat.div_le_self _ _
          obtain ⟨bb, hbb⟩ : ∃ bb, bb = D % 2 := ⟨_, rfl⟩
          have HBB : Hid (Bp.fOf true l M = bb) := by show _ = _; rw [HML.out.1, HA.out q hqS, hbb, hD, hQ, hsh]; rfl
          have e4 : (V : Int).tdiv (Q : Int) = (D : Int) := by rw [Int.tdiv_eq_ediv_of_nonneg (by omega), hD]; rfl
          have e7 := wrap_i64_nat D (by omega)
          have e8 : (D : Int).tmod 2 = (bb : Int) := by rw [Int.tmod_eq_emod_of_nonneg (by omega)]; omega
          have hne : ((Q : Int) == 0) = false := by rw [beq_eq_false_iff_ne]; omega
          have hne' : ¬ Q = 0 := by omega
          have hb2 : bb < 2 := by omega
          clear hQ hD hbb hsh
          go_wp2_with fail
          go_region_held3 (fun w' => w'.cell? ⟨b, off + k * 2, none⟩ = some (.int .i64 (V : Int))) (go_keep) ((go_at_call 27; refine (HP.out _ _ (by omega)).mono ?_; rintro e w' ⟨rfl, rfl⟩))
          clear HP e4 e7 e8 hne hne' hDl e1 e2
          by_cases h8 : M % 8 = 0
          · have hbs : w.heap.size ≤ wr.heap.size := hbel.size
            have hm63 : L + 1 ≤ maxLen := by unfold maxLen; omega
            have hlen : (L + 1) * 1 ≤ 140737488355328 := by omega
            have HJ : Hid (L = M / 8) := by have := HML.out; show _ = _; omega
            have hone : ∀ u ∈ [Value.int .u8 0], u.oneCell' = true := by intro u hu; simp at hu; subst hu; rfl
            have h8i : (M : Int) % 8 = 0 := by omega
            go_wp2_with (at_builtin; refine wpList_append_lies _ (by rfl) _ _ _ (by rfl) w.heap.size 5 i0 (.int .u8 0) 1 1 Tryd.underlying35 hi0 hz0 hz1 hz2 rfl (by decide) _ L (bytesV (Bp.pack true (Bp.fOf true l) M)) (by rfl) (World.ownsRow.alloc (show World.ownsRow _ _ _ _ _ _ _ from hown.drew) _) ⟨wr.heap.size, 0, none⟩ 1 1 [.int .u8 0] (by rfl) rfl (World.news_of_block (heap_alloc_new _ _)) hone (by decide) hm63 hlen (by simp; omega) _ rfl ?_)
            intro g cap2 w1 hown1' hgrow hat hlt2
            have hown1 := own_room (N := M) h8 hown1'
            clear hown1'
            obtain ⟨j, hjL0⟩ : ∃ j, j = L := ⟨_, rfl⟩
            subst hjL0
            have hj := HJ.out
            generalize hL1 : j + 1 = L1 at hown1 ⊢
            have hjL : j < L1 := by omega
            have HL1 : Hid (j + 1 = L1) := hL1
            clear hL1
            have hM := HML.out.1
            have hL := HML.out.2
            have hlt0 := World.ownsRow.lt hown
            have hb1 : Below w.heap.size w w1 := (hbel.drew.alloc hbs _).grown hgrow (by simp; omega) (fun k hk => (hlt0 k hk).1)
            have hgB : w.heap.size ≤ g := by
              rcases hat with e | e
              · exact (hlt0 g e).1
              · rw [e]; first | exact hbs | omega | (simp; omega)
            clear hgrow hat hlt0 hown hone hm63 hlen hbs hbel h8i
            have hcl := hown1.cell hjL
            have hfr := hown1.free j
            have HS : Hid (∀ y : Nat, y = (Bp.room M (Bp.pack true (Bp.fOf true l) M)).getD j 0 + bb * 2 ^ (7 - M % 8) → OwnB (w1.drew.setCell ⟨g, j, none⟩ (.int .u8 (y : Int))) w.heap.size (.slice (some ⟨g, 0, none⟩) L1 cap2) L1 (Bp.pack true (Bp.fOf true l) (M + 1))) := by
              intro y hy
              refine hown1.step hj ?_
              rw [hy, HBB.out]; rfl
            obtain ⟨sf1, sf2, _⟩ := Bp.step_facts true (Bp.fOf true l) (Bp.fOf_lt true l) M
            rw [← hj, HBB.out] at sf2
            rw [← hj] at sf1
            have sf2' : (Bp.room M (Bp.pack true (Bp.fOf true l) M)).getD j 0 + bb * 2 ^ (7 - M % 8) < 256 := sf2
            clear sf2 hown1
            generalize (Bp.room M (Bp.pack true (Bp.fOf true l) M)).getD j 0 = x at *
            obtain ⟨p, hp⟩ : ∃ p, p = 7 - M % 8 := ⟨_, rfl⟩
            rw [← hp] at sf2' HS
            obtain ⟨R, hR⟩ : ∃ R, R = 2 ^ p := ⟨_, rfl⟩
            rw [← hR] at sf2' HS
            obtain ⟨c, hc⟩ : ∃ c, c = bb * R := ⟨_, rfl⟩
            rw [← hc] at sf2' HS
            obtain ⟨y, hy⟩ : ∃ y, y = x + c := ⟨_, rfl⟩
            have HP2 : Hid (∀ (z : Int) (w : World), z = 7 - (M : Int) % 8 → Calls Tryd.prog 27 #[.int .i64 z] w fun e w' => e = .returned (.int .i64 (R : Int)) ∧ w' = w) := by
              intro z w hz; rw [hR, show z = (p : Int) by omega]; exact l1Pow_any p w (by omega)
            have HOW : Hid (OwnB _ _ _ _ _) := HS.out y hy
            have hwc : IntKind.i64.wrap ((bb : Int) * (R : Int)) = (c : Int) := by
              rw [show (bb : Int) * (R : Int) = ((bb * R : Nat) : Int) by simp, ← hc]; exact wrap_i64_nat c (by omega)
            have hwu := wrap_u8_nat c (by omega)
            have hwy : IntKind.u8.wrap ((x : Int) + (c : Int)) = (y : Int) := by
              rw [show (x : Int) + (c : Int) = (y : Int) by omega]; exact wrap_u8_nat y (by omega)
            have f2 : (M : Int).tdiv 8 = (j : Int) := by rw [Int.tdiv_eq_ediv_of_nonneg (by omega)]; omega
            have f3 := wrap_i64_nat j (by omega)
            have f4 : (j : Int) < (L1 : Int) := by omega
            have f5 : (0 : Int) ≤ (j : Int) := by omega
            have HM : Hid (M + 1 = N + (q + 1) ∧ L1 = (M + 1 + 7) / 8 ∧ M ≤ 72000) := ⟨by omega, by have := HL1.out; omega, by omega⟩
            have hMb : M ≤ 72000 := by omega
            clear HS hc hy hR hp hj hL hM HML sf1 sf2'
            go_wp2_with fail
            go_region_with ((go_at_call 27; refine (HP2.out _ _ (by first | rfl | omega)).mono ?_; rintro e w' ⟨rfl, rfl⟩))
            all_goals go_wp2_with fail
            all_goals
              go_roundw
              case rel => exact ⟨q + 1, M + 1, L1, by omega, by go_num, HM.out.1, by go_num, HM.out.2.1, HOW.out, hb1.drew.setCell (p := ⟨g, j, none⟩) hgB _⟩
              case measure => simp [intOf]; omega
          · have hM := HML.out.1
            have hL := HML.out.2
            obtain ⟨L1, hL1⟩ : ∃ L1, L1 = L := ⟨_, rfl⟩
            subst hL1
            obtain ⟨g, cap2, rfl, hgB, hgl⟩ := World.ownsRow.form hown (by omega)
            obtain ⟨j, hj⟩ : ∃ j, j = M / 8 := ⟨_, rfl⟩
            have hjL : j < L1 := by omega
            have HL1 : Hid (j + 1 = L1) := by show _ = _; omega
            have hown1 : OwnB wr.drew w.heap.size (.slice (some ⟨g, 0, none⟩) L1 cap2) L1 (Bp.room M (Bp.pack true (Bp.fOf true l) M)) := by
              unfold Bp.room; rw [if_neg h8]; exact hown.drew
            have hb1 := hbel.drew
            have h8i : ¬ (M : Int) % 8 = 0 := by omega
            clear hown hbel
            have hcl := hown1.cell hjL
            have hfr := hown1.free j
            have HS : Hid (∀ y : Nat, y = (Bp.room M (Bp.pack true (Bp.fOf true l) M)).getD j 0 + bb * 2 ^ (7 - M % 8) → OwnB (wr.drew.drew.setCell ⟨g, j, none⟩ (.int .u8 (y : Int))) w.heap.size (.slice (some ⟨g, 0, none⟩) L1 cap2) L1 (Bp.pack true (Bp.fOf true l) (M + 1))) := by
              intro y hy
              refine hown1.step hj ?_
              rw [hy, HBB.out]; rfl
            obtain ⟨sf1, sf2, _⟩ := Bp.step_facts true (Bp.fOf true l) (Bp.fOf_lt true l) M
            rw [← hj, HBB.out] at sf2
            rw [← hj] at sf1
            have sf2' : (Bp.room M (Bp.pack true (Bp.fOf true l) M)).getD j 0 + bb * 2 ^ (7 - M % 8) < 256 := sf2
            clear sf2 hown1
            generalize (Bp.room M (Bp.pack true (Bp.fOf true l) M)).getD j 0 = x at *
            obtain ⟨p, hp⟩ : ∃ p, p = 7 - M % 8 := ⟨_, rfl⟩
            rw [← hp] at sf2' HS
            obtain ⟨R, hR⟩ : ∃ R, R = 2 ^ p := ⟨_, rfl⟩
            rw [← hR] at sf2' HS
            obtain ⟨c, hc⟩ : ∃ c, c = bb * R := ⟨_, rfl⟩
            rw [← hc] at sf2' HS
            obtain ⟨y, hy⟩ : ∃ y, y = x + c := ⟨_, rfl⟩
            have HP2 : Hid (∀ (z : Int) (w : World), z = 7 - (M : Int) % 8 → Calls Tryd.prog 27 #[.int .i64 z] w fun e w' => e = .returned (.int .i64 (R : Int)) ∧ w' = w) := by
              intro z w hz; rw [hR, show z = (p : Int) by omega]; exact l1Pow_any p w (by omega)
            have HOW : Hid (OwnB _ _ _ _ _) := HS.out y hy
            have hwc : IntKind.i64.wrap ((bb : Int) * (R : Int)) = (c : Int) := by
              rw [show (bb : Int) * (R : Int) = ((bb * R : Nat) : Int) by simp, ← hc]; exact wrap_i64_nat c (by omega)
            have hwu := wrap_u8_nat c (by omega)
            have hwy : IntKind.u8.wrap ((x : Int) + (c : Int)) = (y : Int) := by
              rw [show (x : Int) + (c : Int) = (y : Int) by omega]; exact wrap_u8_nat y (by omega)
            have f2 : (M : Int).tdiv 8 = (j : Int) := by rw [Int.tdiv_eq_ediv_of_nonneg (by omega)]; omega
            have f3 := wrap_i64_nat j (by omega)
            have f4 : (j : Int) < (L1 : Int) := by omega
            have f5 : (0 : Int) ≤ (j : Int) := by omega
            have HM : Hid (M + 1 = N + (q + 1) ∧ L1 = (M + 1 + 7) / 8 ∧ M ≤ 72000) := ⟨by omega, by have := HL1.out; omega, by omega⟩
            have hMb : M ≤ 72000 := by omega
            clear HS hc hy hR hp hj hL hM HML sf1 sf2'
            go_wp2_with fail
            go_region_with ((go_at_call 27; refine (HP2.out _ _ (by first | rfl | omega)).mono ?_; rintro e w' ⟨rfl, rfl⟩))
            all_goals go_wp2_with fail
            all_goals
              go_roundw
              case rel => exact ⟨q + 1, M + 1, L1, by omega, by go_num, HM.out.1, by go_num, HM.out.2.1, HOW.out, hb1.drew.setCell (p := ⟨g, j, none⟩) hgB _⟩
              case measure => simp [intOf]; omega
        · have HQ : Hid (M = Bp.tot l (k + 1)) := by show _ = _; rw [← HN.out, HML.out.1]; congr 1; omega
          go_wp2_with fail
          go_roundw
          case rel => exact ⟨k + 1, M, L, by omega, by go_num, HQ.out, rfl, HML.out.2, hown, hbel⟩
          case measure => simp [intOf]; omega
    · have hk' : k = l.length := by omega
      obtain ⟨cap', ao, rfl, htx⟩ := hown.text
      have HT : Hid (Bp.pack true (Bp.fOf true l) N = Bp.text true l) := by show _ = _; rw [hN, hk']; rfl
      clear hown hN hL
      go_wp2_with fail
      go_ret
      exact ⟨by rw [← HT.out]; rfl, hbel⟩
end Go.Proofs.YtbfeonhokagdjaaDoor
