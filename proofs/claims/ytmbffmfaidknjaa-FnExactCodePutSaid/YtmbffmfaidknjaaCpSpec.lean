/- CodePut of the specification, for every list and code. -/
import Derived.Test.YtmbffmfaidknjaaCpMath
import Derived.Test.YtmbffmfaidknjaaMakeWalks
import Derived.Test.YtmbffmfaidknjaaSymWalks
import Derived.Test.YtmbffmfaidknjaaBitOwn
namespace Go.Proofs.Ytmbffmfaidknjaa
open Go.RowKit

theorem take_map_snoc (ls zs : List Int) (k : Nat) (h : k < zs.length) : (zs.take (k + 1)).map (fun z => Cp.bit ls z.toNat) = (zs.take k).map (fun z => Cp.bit ls z.toNat) ++ [Cp.bit ls (zs[k]).toNat] := by
  rw [List.take_succ_eq_append_getElem h, List.map_append]; rfl
theorem not_ok' {ls zs : List Int} {k : Nat} (hk : k < zs.length) (h : ¬ Cp.Good ls zs[k]) : ¬ Cp.Ok zs ls := fun g => h (g.2.2 zs[k] (List.getElem_mem hk))

set_option maxHeartbeats 2000000 in
set_option maxRecDepth 20000 in
theorem spec_codePut_yes (a : Option Addr) (n cap : Nat) (zs : List Int) (b : Option Addr) (m cap' : Nat) (ls : List Int) (w : World) (h : Ints w a zs) (hn : zs.length = n) (hl : n ≤ 9000) (g : Ints w b ls) (hm : ls.length = m) (hm3 : m ≤ 300) (hok : Cd.okB ls = true) :
    Calls Try.prog 8 #[.slice a n cap, .slice b m cap'] w fun e w' => (∃ v L c, e = .returned (.slice v L c) ∧ (Cp.put zs ls).length = L ∧ Bits2 w' v (Cp.put zs ls)) ∧ Below w.heap.size w w' := by
  obtain ⟨i0, hi0, hz0, hz1, hz2⟩ := info_parts info_bit
  have b0 : Below w.heap.size w (w.alloc (.cells #[] 51)) := (Below.refl _ _).alloc (Nat.le_refl _) _
  have HOK : Hid (Calls Try.prog 30 #[.slice b m cap'] (w.alloc (.cells #[] 51)) fun e w' => e = .returned (.bool true) ∧ w' = w.alloc (.cells #[] 51)) := by
    have := spec_codeOk b cap' m ls (w.alloc (.cells #[] 51)) (g.kept b0) hm (by omega)
    rw [hok] at this; exact this
  have HMK : Hid (Calls Try.prog 31 #[.slice b m cap'] (w.alloc (.cells #[] 51)) fun e w' => e = .returned (.slice (some ⟨(w.alloc (.cells #[] 51)).heap.size, 0, none⟩) m m) ∧ w' = (w.alloc (.cells #[] 51)).alloc (.cells (arr (Mk.mk ls)) 3)) := l3Make_any b cap' m ls _ (g.kept b0) hm hm3
  have hs0 : (w.alloc (.cells #[] 51)).heap.size = w.heap.size + 1 := by simp
  obtain ⟨W, hW⟩ : ∃ W, W = (w.alloc (.cells #[] 51)).alloc (.cells (arr (Mk.mk ls)) 3) := ⟨_, rfl⟩
  have hbW : Below w.heap.size w W := by rw [hW]; exact b0.alloc (by simp) _
  have hEW : OwnP W w.heap.size (.slice (some ⟨w.heap.size, 0, none⟩) 0 0) 0 [] := by rw [hW]; exact World.ownsRow.alloc (own_none w) _
  have hNW : Ints W (some ⟨w.heap.size + 1, 0, none⟩) (Mk.mk ls) := by
    have := (owns_arr (w.alloc (.cells #[] 51)) (Mk.mk ls)).ints
    rw [← hW, hs0] at this; exact this
  have hsW : W.heap.size = w.heap.size + 1 + 1 := by rw [hW]; simp
  have d1 : decide ((9000 : Int) < (n : Int)) = false := by simp; omega
  have HI : Hid (Ints w a zs ∧ zs.length = n) := ⟨h, hn⟩
  have HG : Hid (Ints w b ls ∧ ls.length = m ∧ Cd.okB ls = true) := ⟨g, hm, hok⟩
  have HF : Hid (Below w.heap.size w W ∧ OwnP W w.heap.size (.slice (some ⟨w.heap.size, 0, none⟩) 0 0) 0 [] ∧ Ints W (some ⟨w.heap.size + 1, 0, none⟩) (Mk.mk ls) ∧ W.heap.size = w.heap.size + 1 + 1) := ⟨hbW, hEW, hNW, hsW⟩
  have HW : Hid (W = (w.alloc (.cells #[] 51)).alloc (.cells (arr (Mk.mk ls)) 3)) := hW
  clear h hn g hm hok b0 hbW hEW hNW hsW hW hs0
  go_enter Try.func8, Try.ntmps8
  go_wp2_with fail
  refine HOK.out.mono ?_
  rintro e w1 ⟨rfl, hw1⟩
  subst hw1
  go_wp2_with fail
  refine HMK.out.mono ?_
  rintro e w1 ⟨rfl, hw1⟩
  rw [← HW.out] at hw1
  subst hw1
  clear HOK HMK
  go_wp2_with fail
  go_loopw [5, 7] (fun v i wr => ∃ (k : Nat) (vv : Value), k ≤ n ∧ i = .int .i64 k ∧ vv = v ∧ (∀ j (hj : j < zs.length), j < k → Cp.Good ls zs[j]) ∧ OwnP wr w.heap.size vv k ((zs.take k).map (fun z => Cp.bit ls z.toNat)) ∧ (vv.ownBlock ≠ some (w.heap.size + 1)) ∧ Below w.heap.size w wr ∧ Ints wr (some ⟨w.heap.size + 1, 0, none⟩) (Mk.mk ls) ∧ w.heap.size + 1 + 1 ≤ wr.heap.size) (fun _ i _ => n - (intOf i).toNat)
  case atStart => exact ⟨0, _, Nat.zero_le _, rfl, rfl, fun j hj h0 => absurd h0 (by omega), HF.out.2.1, (fun e => absurd (Option.some.inj e) (show ¬ w.heap.size = w.heap.size + 1 by omega)), HF.out.1, HF.out.2.2.1, Nat.le_of_eq HF.out.2.2.2.symm⟩
  case round =>
    obtain ⟨k, vv, hk, rfl, rfl, hall, hown, hvb, hbel, hNU, hsz⟩ := hrel
    have HL : Hid (∀ j (hj : j < zs.length), j < k → Cp.Good ls zs[j]) := hall
    have HNU : Hid (Ints wr (some ⟨w.heap.size + 1, 0, none⟩) (Mk.mk ls)) := hNU
    clear hall hNU
    by_cases hlt : k < n
    · have hkl : k < zs.length := by have := HI.out.2; omega
      obtain ⟨b1, o1, e1, hb1, c1⟩ := (HI.out.1.kept hbel).at hkl
      have hlb1 : b1 < w.heap.size := by
        rcases HI.out.1 with q | ⟨bb, off, e, hb, _⟩
        · rw [q] at hkl; simp at hkl
        · rw [e] at e1; cases e1; exact hb
      subst e1
      obtain ⟨x, hx⟩ : ∃ x, x = zs[k] := ⟨_, rfl⟩
      rw [← hx] at c1
      have HX : Hid (x = zs[k]) := hx
      have hki : (k : Int) < (n : Int) := by omega
      clear hx
      by_cases hin : 0 ≤ x ∧ x ≤ (m : Int) - 1
      · obtain ⟨s, rfl⟩ := Int.eq_ofNat_of_zero_le hin.1
        have hsm : s < m := by omega
        have hsl : s < ls.length := by have := HG.out.2.1; omega
        obtain ⟨bb, oo, eb, hbb, cb⟩ := (HG.out.1.kept hbel).at hsl
        obtain ⟨V, S, hV, hS, hVb, hSb⟩ := Cp.parts HG.out.2.2 s hsl
        have eS : ls[s] = (S : Int) := by rw [← hS, List.getD_eq_getElem?_getD, List.getElem?_eq_getElem hsl]; rfl
        have eV : (Mk.mk ls)[s]'(by rw [Mk.mk_len]; exact hsl) = (V : Int) := by rw [← hV, List.getD_eq_getElem?_getD, List.getElem?_eq_getElem (by rw [Mk.mk_len]; exact hsl)]; rfl
        rw [eS] at cb
        have HB2 : Hid (Ints wr b ls) := HG.out.1.kept hbel
        subst eb
        have HIN : Hid (0 ≤ (s : Int) ∧ (s : Int) ≤ (m : Int) - 1) := hin
        have hsi : (s : Int) < (m : Int) := by omega
        by_cases hS0 : S = 0
        · have HP0 : Hid (Cp.put zs ls = []) := Cp.put_no (not_ok' hkl (by rw [← HX.out]; exact fun q => by have h3 := q.2.2; rw [Int.toNat_natCast, hS, hS0] at h3; exact h3 rfl))
          subst hS0
          have HBL : Hid (Below w.heap.size w wr) := hbel
          clear hown hbel hV hS hvb hin eS eV
          go_wp2_with fail
          refine (l1In_yes _ _ _ _ HIN.out.1 HIN.out.2).mono ?_
          rintro e w4 ⟨rfl, hw4⟩
          have hv4 := hw4.symm
          subst hv4
          go_wp2_with fail
          go_ret
          rw [HP0.out]
          exact ⟨⟨_, _, _, rfl, rfl, .inl rfl⟩, HBL.out.alloc HBL.out.size _⟩
        · have e3 : ((S : Int) == 0) = false := by simp; omega
          have HGD : Hid (Cp.Good ls zs[k]) := by rw [← HX.out]; exact ⟨by omega, by have := HG.out.2.1; omega, by rw [Int.toNat_natCast, hS]; omega⟩
          have hbit := Cp.bit_of hV hS
          have HSY : Hid (Calls Try.prog 33 #[.slice (some ⟨w.heap.size + 1, 0, none⟩) m m, .slice (some ⟨bb, oo, none⟩) m cap', .int .i64 (s : Int)] wr fun e w' => e = .returned (.agg #[.int .i64 (turned V S : Nat), .int .i64 (S : Int)]) ∧ Below wr.heap.size wr w') :=
            l3Sym_any _ _ m m cap' s V S (Mk.mk ls) ls wr HNU.out HB2.out (by rw [Mk.mk_len]; exact HG.out.2.1) HG.out.2.1 hsm eV eS (by omega) hSb
          have hsn := take_map_snoc ls zs k hkl
          rw [← HX.out, Int.toNat_natCast, hbit] at hsn
          have HSN : Hid (_ = _) := hsn
          generalize (zs.take k).map (fun z => Cp.bit ls z.toNat) = l at *
          generalize turned V S = T at *
          clear hin eS eV hV hS hbit hsn
          go_wp2_with fail
          refine (l1In_yes _ _ _ _ HIN.out.1 HIN.out.2).mono ?_
          rintro e w4 ⟨rfl, hw4⟩
          have hv4 := hw4.symm
          subst hv4
          go_wp2_with fail
          refine HSY.out.mono ?_
          rintro e w5 ⟨rfl, b5⟩
          have hown5 : OwnP w5 w.heap.size vv k l := hown.same (fun q hq _ => b5.block q hq)
          have hbel5 := hbel.trans (b5.mono hbel.size)
          have HNU5 : Hid (Ints w5 (some ⟨w.heap.size + 1, 0, none⟩) (Mk.mk ls)) := HNU.out.kept b5
          have hsz5 : w.heap.size + 1 + 1 ≤ w5.heap.size := Nat.le_trans hsz b5.size
          clear hown hbel b5 HSY
          have hm63 : k + 1 ≤ maxLen := by unfold maxLen; omega
          have hlen : (k + 1) * 16 ≤ 140737488355328 := by omega
          have hone : ∀ u ∈ [Value.int .i64 (T : Int), Value.int .i64 (S : Int)], u.oneCell' = true := by intro u hu; simp at hu; rcases hu with rfl | rfl <;> rfl
          go_wp2_with (at_builtin; refine wpList_append_lies _ (by rfl) _ _ _ (by rfl) w.heap.size 51 i0 (.agg #[.int .i64 0, .int .i64 0]) 2 16 Try.underlying23 hi0 hz0 hz1 hz2 rfl (by decide) _ k (cellsOf l) (by rfl) (World.ownsRow.alloc (show World.ownsRow _ _ _ _ _ _ _ from hown5) _) ⟨w5.heap.size, 0, none⟩ 1 1 [.int .i64 (T : Int), .int .i64 (S : Int)] (by rfl) rfl (World.news_of_block (heap_alloc_new _ _)) hone (by decide) hm63 hlen (by simp; omega) (w5.heap.size + 1) (by simp) ?_)
          intro gg cap2 w6 hown6 hgrow hat hlt6
          have hlt0 := World.ownsRow.lt hown5
          have hb6 : Below w.heap.size w w6 := (hbel5.alloc hbel5.size _).grown hgrow (by simp; omega) (fun q hq => (hlt0 q hq).1)
          have hgb : gg ≠ w.heap.size + 1 := by
            rcases hat with e | e
            · intro q; rw [q] at e; exact hvb e
            · omega
          have HNU6 : Hid (Ints w6 (some ⟨w.heap.size + 1, 0, none⟩) (Mk.mk ls)) := by
            rcases HNU5.out with q | ⟨b7, o7, e7, hb7, hc7⟩
            · exact .inl q
            · cases e7
              refine .inr ⟨_, _, rfl, Nat.lt_of_lt_of_le (by simp; omega) hgrow.size, fun i hi => ?_⟩
              exact (hgrow.cell_far _ (by simp; omega) (fun q => hvb q.symm)).trans ((World.cell?_alloc_past _ _ _ hb7).trans (hc7 i hi))
          have H6 : Hid (OwnP w6 w.heap.size (.slice (some ⟨gg, 0, none⟩) (k + 1) cap2) (k + 1) ((zs.take (k + 1)).map (fun z => Cp.bit ls z.toNat)) ∧ Below w.heap.size w w6 ∧ w.heap.size + 1 + 1 ≤ w6.heap.size) := by
            refine ⟨?_, hb6, ?_⟩
            · rw [HSN.out]; exact OwnP.more hown6
            · have := hgrow.size; simp at this; omega
          clear hown6 hgrow hat hlt0 hown5 hbel5 hone hm63 hlen hlt6 hb6 HNU5 hvb hsz hsz5
          go_wp2_with fail
          go_roundw
          case rel =>
            refine ⟨k + 1, _, by omega, by go_num, rfl, fun j hj h1 => ?_, H6.out.1, (fun e => hgb (Option.some.inj e)), H6.out.2.1, HNU6.out, H6.out.2.2⟩
            by_cases e : j < k
            · exact HL.out j hj e
            · have : j = k := by omega
              subst this
              exact HGD.out
          case measure => simp [intOf]; omega
      · have HP0 : Hid (Cp.put zs ls = []) := Cp.put_no (not_ok' hkl (by rw [← HX.out]; exact fun q => hin ⟨q.1, by have := q.2.1; have := HG.out.2.1; omega⟩))
        have HIN : Hid (¬ (0 ≤ x ∧ x ≤ (m : Int) - 1)) := hin
        have HBL : Hid (Below w.heap.size w wr) := hbel
        clear hown hbel hvb hin
        go_wp2_with fail
        refine (l1In_no _ _ _ _ HIN.out).mono ?_
        rintro e w4 ⟨rfl, hw4⟩
        have hv4 := hw4.symm
        subst hv4
        go_wp2_with fail
        go_ret
        rw [HP0.out]
        exact ⟨⟨_, _, _, rfl, rfl, .inl rfl⟩, HBL.out.alloc HBL.out.size _⟩
    · have hk' : k = n := by omega
      subst hk'
      have hgood : Cp.Ok zs ls := ⟨HG.out.2.2, by have := HI.out.2; omega, fun z hz => by
        obtain ⟨j, hj, rfl⟩ := List.getElem_of_mem hz
        exact HL.out j hj (by have := HI.out.2; omega)⟩
      have hput : Cp.put zs ls = (zs.take k).map (fun z => Cp.bit ls z.toNat) := by rw [Cp.put_yes hgood, ← HI.out.2, List.take_length]
      rw [← hput] at hown
      have hln := hown.len
      obtain ⟨ao, c, rfl, hB⟩ := hown.bits
      have HE : Hid (Bits2 wr ao (Cp.put zs ls) ∧ Below w.heap.size w wr ∧ (Cp.put zs ls).length = k) := ⟨hB, hbel, hln⟩
      clear hown hB hbel hput hgood hvb hln
      go_wp2_with fail
      go_ret
      exact ⟨⟨_, _, _, rfl, HE.out.2.2, HE.out.1⟩, HE.out.2.1⟩

set_option maxHeartbeats 1000000 in
theorem spec_codePut (a : Option Addr) (n cap : Nat) (zs : List Int) (b : Option Addr) (m cap' : Nat) (ls : List Int) (w : World) (h : Ints w a zs) (hn : zs.length = n) (hl : n ≤ 1048576) (g : Ints w b ls) (hm : ls.length = m) (hm2 : m ≤ 1048576) :
    Calls Try.prog 8 #[.slice a n cap, .slice b m cap'] w fun e w' => (∃ v L c, e = .returned (.slice v L c) ∧ (Cp.put zs ls).length = L ∧ Bits2 w' v (Cp.put zs ls)) ∧ Below w.heap.size w w' := by
  have b0 : Below w.heap.size w (w.alloc (.cells #[] 51)) := (Below.refl _ _).alloc (Nat.le_refl _) _
  have HOK := spec_codeOk b cap' m ls (w.alloc (.cells #[] 51)) (g.kept b0) hm hm2
  cases hok : Cd.okB ls
  · rw [hok] at HOK
    have HO : Hid (Calls Try.prog 30 #[.slice b m cap'] (w.alloc (.cells #[] 51)) fun e w' => e = .returned (.bool false) ∧ w' = w.alloc (.cells #[] 51)) := HOK
    have HP0 : Hid (Cp.put zs ls = []) := Cp.put_no (fun q => by have := q.1; rw [hok] at this; cases this)
    clear HOK hok h g hn hm
    go_enter Try.func8, Try.ntmps8
    go_wp2_with fail
    refine HO.out.mono ?_
    rintro e w1 ⟨rfl, hw1⟩
    subst hw1
    go_wp2_with fail
    go_ret
    rw [HP0.out]
    exact ⟨⟨_, _, _, rfl, rfl, .inl rfl⟩, b0⟩
  · by_cases hbig : 9000 < n
    · rw [hok] at HOK
      have HO : Hid (Calls Try.prog 30 #[.slice b m cap'] (w.alloc (.cells #[] 51)) fun e w' => e = .returned (.bool true) ∧ w' = w.alloc (.cells #[] 51)) := HOK
      have HP0 : Hid (Cp.put zs ls = []) := Cp.put_no (fun q => by have := q.2.1; omega)
      have d1 : decide ((9000 : Int) < (n : Int)) = true := by simp; omega
      clear HOK hok h g hn hm
      go_enter Try.func8, Try.ntmps8
      go_wp2_with fail
      refine HO.out.mono ?_
      rintro e w1 ⟨rfl, hw1⟩
      subst hw1
      go_wp2_with fail
      go_ret
      rw [HP0.out]
      exact ⟨⟨_, _, _, rfl, rfl, .inl rfl⟩, b0⟩
    · exact spec_codePut_yes a n cap zs b m cap' ls w h hn (by omega) g hm (by rw [← hm]; exact okB_len' hok) hok
end Go.Proofs.Ytmbffmfaidknjaa
