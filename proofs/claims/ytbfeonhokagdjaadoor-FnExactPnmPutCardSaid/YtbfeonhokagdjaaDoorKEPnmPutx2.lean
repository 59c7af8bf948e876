/- Texts laid together: RpSpec, PnRow, PnPut, RpSpecTop, RpImpl, RpTop. -/
import Derived.StillTailTactics
import Derived.Test.YtbfeonhokagdjaaDoorKEPnmPutx0
import Derived.Test.YtbfeonhokagdjaaDoorVEPnmPutBpPutH
import Derived.Test.YtbfeonhokagdjaaDoorVEPnmPutPutWalks
import Derived.Shelf.Strings.BuilderK
import Derived.RangeFuncCalls
import Derived.Test.YtbfeonhokagdjaaDoorVEPnmPutPnHead
import Derived.Test.YtbfeonhokagdjaaDoorKEPnmPutx1
/- RowPut of the specification: the list of bits. -/
namespace Go.Proofs.YtbfeonhokagdjaaDoor
open Go.RowKit

theorem take_snoc_int (zs : List Int) (k : Nat) (h : k < zs.length) : zs.take (k + 1) = zs.take k ++ [zs[k]] := by
  rw [List.take_succ_eq_append_getElem h]

set_option maxHeartbeats 1000000 in
set_option maxRecDepth 20000 in
theorem l8Row_small (a : Option Addr) (n cap D : Nat) (zs : List Int) (w : World) (h : Ints w a zs) (hn : zs.length = n) (hl : n ≤ 1000) (hD : D ≤ 24) (hR : Rp.Row D zs) :
    Calls Tryd.prog 45 #[.slice a n cap, .int .i64 D] w fun e w' => e = .returned (.string ⟨((Bp.text true (Rp.bl D zs)).map UInt8.ofNat).toArray⟩) ∧ Below w.heap.size w w' := by
  obtain ⟨i0, hi0, hz0, hz1, hz2⟩ := info_parts info_bit
  have HI : Hid (Ints w a zs) := h
  have HE := own_none w
  have HR : Hid (Rp.Row D zs) := hR
  have HN : Hid (zs.length = n) := hn
  have hzg : n ≤ zs.length := by omega
  have hDi : ¬ (24 : Int) < (D : Int) := by omega
  have HD : Hid (D ≤ 24) := hD
  clear h hR hn hD
  go_enter Tryd.func45, Tryd.ntmps45
  go_wp2_with fail
  go_loopw [5, 6] (fun v i wr => ∃ k : Nat, k ≤ n ∧ i = .int .i64 k ∧ OwnP wr w.heap.size v k (Rp.bl D (zs.take k)) ∧ Below w.heap.size w wr) (fun _ i _ => n - (intOf i).toNat)
  case atStart => exact ⟨0, Nat.zero_le _, rfl, by rw [show Rp.bl D (zs.take 0) = [] by unfold Rp.bl; split <;> simp]; exact HE, (Below.refl _ _).alloc (Nat.le_refl _) _⟩
  case round =>
    obtain ⟨k, hk, rfl, hown, hbel⟩ := hrel
    clear HE
    by_cases hlt : k < n
    · have hkz : k < zs.length := by omega
      rcases HI.out with h | ⟨b, off, rfl, hbB, hc⟩
      · rw [h] at hkz; simp at hkz
      · have hck := (hbel.cell (p := ⟨b, off + k, none⟩) hbB).trans (hc k hkz)
        have hki : (k : Int) < (n : Int) := by omega
        have HB : Hid (Rp.bl D (zs.take (k + 1)) = Rp.bl D (zs.take k) ++ [(zs[k], (D : Int))]) := by
          show _ = _; rw [take_snoc_int zs k hkz, Rp.bl_snoc, if_neg (by have := HD.out; omega)]
        clear hc
        generalize zs[k] = z at *
        generalize Rp.bl D (zs.take k) = l at *
        have hbs : w.heap.size ≤ wr.heap.size := hbel.size
        have hm63 : k + 1 ≤ maxLen := by unfold maxLen; omega
        have hlen : (k + 1) * 16 ≤ 140737488355328 := by omega
        have hone : ∀ u ∈ [Value.int .i64 z, Value.int .i64 (D : Int)], u.oneCell' = true := by intro u hu; simp at hu; rcases hu with rfl | rfl <;> rfl
        go_wp2_with (at_builtin; refine wpList_append_lies _ (by rfl) _ _ _ (by rfl) w.heap.size 86 i0 (.agg #[.int .i64 0, .int .i64 0]) 2 16 Tryd.underlying84 hi0 hz0 hz1 hz2 rfl (by decide) _ k (cellsOf l) (by rfl) (World.ownsRow.alloc (show World.ownsRow _ _ _ _ _ _ _ from hown) _) ⟨wr.heap.size, 0, none⟩ 1 1 [.int .i64 z, .int .i64 (D : Int)] (by rfl) rfl (World.news_of_block (heap_alloc_new _ _)) hone (by decide) hm63 hlen (by simp; omega) _ rfl ?_)
        intro g cap2 w4 hown4 hgrow hat hlt4
        have hlt0 := World.ownsRow.lt hown
        have hb4 : Below w.heap.size w w4 := (hbel.alloc hbs _).grown hgrow (by simp; omega) (fun k hk => (hlt0 k hk).1)
        have H4 : Hid (OwnP w4 w.heap.size (.slice (some ⟨g, 0, none⟩) (k + 1) cap2) (k + 1) (Rp.bl D (zs.take (k + 1)))) := by
          show OwnP _ _ _ _ _
          rw [HB.out]; exact OwnP.more hown4
        clear hown4 hgrow hat hlt0 hown hbel hone hm63 hlen hlt4 hck
        go_wp2_with fail
        go_roundw
        case rel => exact ⟨k + 1, by omega, by go_num, H4.out, hb4⟩
        case measure => simp [intOf]; omega
    · have hk' : k = zs.length := by have := HN.out; omega
      rw [hk', List.take_length] at hown
      have hkk : zs.length = k := hk'.symm
      rw [hkk] at hown
      obtain ⟨ao, cap', rfl, hB⟩ := hown.bits
      have HP : Hid (∀ w', Bits2 w' ao (Rp.bl D zs) → Calls Tryd.prog 56 #[.slice ao k cap', .bool true] w' fun e w'' => e = .returned (.string ⟨((Bp.text true (Rp.bl D zs)).map UInt8.ofNat).toArray⟩) ∧ Below w'.heap.size w' w'') := by
        intro w' hB'
        exact l1Put_high ao k cap' _ w' hB' (by rw [Rp.bl_len D zs HD.out]; exact hkk) (by omega) HR.out.fits
      have HB : Hid (Bits2 _ ao (Rp.bl D zs)) := hB
      have hlt' : ¬ (k : Int) < (n : Int) := by omega
      clear hown hB hkk hk'
      go_wp2_with fail
      refine (HP.out _ HB.out).mono ?_
      rintro e w5 ⟨rfl, b5⟩
      go_wp2_with fail
      go_ret
      exact ⟨rfl, hbel.trans (b5.mono hbel.size)⟩

end Go.Proofs.YtbfeonhokagdjaaDoor

/- A row of a PNM in bytes, as the specification writes it. -/
namespace Go.Proofs.YtbfeonhokagdjaaDoor
open Go.RowKit

theorem Pn.low3 (z : Nat) : (Pt.low z 3).reverse = (Pn.b3 z).map UInt8.ofNat := by
  simp [Pt.low, Pn.b3, Nat.div_div_eq_div_mul]
/-- a list of numbers, three bytes each -/
def Pn.tab (l : List Int) : List UInt8 := (l.flatMap fun z => Pn.b3 z.toNat).map UInt8.ofNat
theorem Pn.tab_snoc (l : List Int) (z : Int) : Pn.tab (l ++ [z]) = Pn.tab l ++ (Pn.b3 z.toNat).map UInt8.ofNat := by simp [Pn.tab]
theorem Pn.tab_len (l : List Int) : (Pn.tab l).length = 3 * l.length := by
  induction l with
  | nil => rfl
  | cons x l ih =>
    unfold Pn.tab at ih ⊢
    rw [List.length_map] at ih ⊢
    rw [List.flatMap_cons, List.length_append, ih, List.length_cons]
    show 3 + _ = _
    omega
theorem str_add (a b : List UInt8) : ((⟨a.toArray⟩ : ByteArray) ++ ⟨b.toArray⟩) = ⟨(a ++ b).toArray⟩ := by rw [ByteArray.mk_append_mk]
theorem str_sz (a : List UInt8) : (⟨a.toArray⟩ : ByteArray).size = a.length := by simp [ByteArray.size]
set_option maxHeartbeats 2000000 in
set_option maxRecDepth 20000 in
theorem l9Table_any (a : Option Addr) (N c : Nat) (l : List Int) (w : World) (h : Ints w a l) (hN : l.length = N) (hNb : N ≤ 1000) (hf : ∀ z ∈ l, 0 ≤ z ∧ z < 16777216) :
    Calls Tryd.prog 44 #[.slice a N c] w fun e w' => e = .returned (.string ⟨(Pn.tab l).toArray⟩) ∧ Below w.heap.size w w' := by
  have HI : Hid (Ints w a l ∧ l.length = N ∧ ∀ z ∈ l, 0 ≤ z ∧ z < 16777216) := ⟨h, hN, hf⟩
  clear h hN hf
  go_enter Tryd.func44, Tryd.ntmps44
  go_wp2_with fail
  go_loopw [3, 4] (fun o i wr => ∃ (k : Nat) (X : ByteArray), k ≤ N ∧ i = .int .i64 (k : Int) ∧ o = .string X ∧ X.size ≤ 3 * k ∧ Hid (X = ⟨(Pn.tab (l.take k)).toArray⟩ ∧ Below w.heap.size w wr)) (fun _ i _ => N - (intOf i).toNat)
  case atStart => exact ⟨0, ⟨#[]⟩, Nat.zero_le _, rfl, rfl, by simp [ByteArray.size], rfl, Below.refl _ _⟩
  case round =>
    obtain ⟨k, X, hk, rfl, rfl, hX, HX⟩ := hrel
    by_cases hlt : k < N
    · have hki : (k : Int) < (N : Int) := by omega
      have hkl : k < l.length := by rw [HI.out.2.1]; exact hlt
      obtain ⟨b, off, rfl, hb, hcell⟩ := (HI.out.1.kept HX.out.2).cellAt hkl
      have hfk := HI.out.2.2 _ (List.getElem_mem hkl)
      obtain ⟨z, hz⟩ := Int.eq_ofNat_of_zero_le hfk.1
      have HT : Hid (Pn.tab (l.take (k + 1)) = Pn.tab (l.take k) ++ (Pn.b3 z).map UInt8.ofNat) := by
        show _ = _
        rw [List.take_succ_eq_append_getElem hkl, Pn.tab_snoc, hz]
        rfl
      rw [hz] at hcell hfk
      obtain ⟨p, hp⟩ : ∃ p, p = (Pn.b3 z).map UInt8.ofNat := ⟨_, rfl⟩
      have hps : (⟨p.toArray⟩ : ByteArray).size = 3 := by rw [str_sz, hp, List.length_map]; rfl
      have HD : Hid (∀ w, Calls Tryd.prog 55 #[.int .i64 (z : Int), .int .i64 3, .bool true] w fun e w' => e = .returned (.string ⟨p.toArray⟩) ∧ Below w.heap.size w w') := fun w => by rw [hp, ← Pn.low3]; exact l1Num_big z 3 w (by omega) (by omega)
      rw [← hp] at HT
      have hX2 : (X ++ ⟨p.toArray⟩).size ≤ 3 * (k + 1) := by rw [ByteArray.size_append, hps]; omega
      have HX2 : Hid (X ++ ⟨p.toArray⟩ = ⟨(Pn.tab (l.take (k + 1))).toArray⟩) := by
        show _ = _
        rw [HT.out, HX.out.1, str_add]
      have HBW : Hid (Below w.heap.size w wr) := HX.out.2
      have hlen : ¬ 9223372036854775807 < X.size + 3 := by omega
      generalize (⟨p.toArray⟩ : ByteArray) = Q at *
      have hlen2 : ¬ 9223372036854775807 < X.size + Q.size := by omega
      clear HX HT hz hfk hp
      go_wp2_with fail
      refine (HD.out _).mono ?_
      rintro e w1 ⟨rfl, b1⟩
      have HF : Hid (X ++ Q = ⟨(Pn.tab (l.take (k + 1))).toArray⟩ ∧ Below w.heap.size w w1) := ⟨HX2.out, HBW.out.trans (b1.mono HBW.out.size)⟩
      clear b1 HX2 HBW
      go_wp2_with fail
      go_roundw
      case rel => exact ⟨k + 1, _, by omega, by go_num, rfl, hX2, HF⟩
      case measure => simp [intOf]; omega
    · have hki : ¬ (k : Int) < (N : Int) := by omega
      have hkN : k = N := by omega
      have HE : Hid (X = ⟨(Pn.tab l).toArray⟩ ∧ Below w.heap.size w wr) := by
        refine ⟨?_, HX.out.2⟩
        rw [HX.out.1, List.take_of_length_le (by rw [HI.out.2.1]; omega)]
      clear HX
      obtain ⟨hXe, hbe⟩ := HE.out
      subst hXe
      go_wp2_with fail
      go_ret
      exact ⟨rfl, hbe⟩
theorem Pn.totD {D : Nat} (hD : D ≠ 32) (l : List Int) : ∀ i, i ≤ l.length → Bp.tot (Rp.bl D l) i = D * i
  | 0, _ => rfl
  | i + 1, h => by
    have hl : (Rp.bl D l).length = l.length := by unfold Rp.bl; rw [if_neg hD, List.length_map]
    rw [Bp.tot_succ _ i (by omega), Pn.totD hD l i (by omega)]
    have e : ((Rp.bl D l)[i]'(by omega)).2 = (D : Int) := by
      simp [Rp.bl, if_neg hD]
    rw [e, Int.toNat_natCast, Nat.mul_succ]
theorem Pn.text_len {D : Nat} (hD : D ≠ 32) (l : List Int) : (Bp.text true (Rp.bl D l)).length = (D * l.length + 7) / 8 := by
  have hl : (Rp.bl D l).length = l.length := by unfold Rp.bl; rw [if_neg hD, List.length_map]
  unfold Bp.text
  rw [Bp.pack_len, hl, Pn.totD hD l _ (Nat.le_refl _)]
/-- a row, in bytes -/
def Pn.pack (k d : Int) (l : List Int) : List UInt8 := if k = 2 then Pn.tab l else if d = 1 then (Bp.text true (Rp.bl 1 (l.map fun z => 1 - z))).map UInt8.ofNat else (Bp.text true (Rp.bl 8 l)).map UInt8.ofNat
theorem Pn.pack_len {k d : Int} {l : List Int} (h : l.length ≤ 20) : (Pn.pack k d l).length ≤ 100 := by
  unfold Pn.pack
  split
  · rw [Pn.tab_len]; omega
  · split
    · rw [List.length_map, Pn.text_len (by decide), List.length_map]; omega
    · rw [List.length_map, Pn.text_len (by decide)]; omega
set_option maxHeartbeats 2000000 in
set_option maxRecDepth 20000 in
theorem l12Row_rgb (d wd hi : Int) (ca : Option Addr) (cn cc : Nat) (pa : Option Addr) (pn pc : Nat) (a : Option Addr) (N c : Nat) (l : List Int) (w : World) (h : Ints w a l) (hN : l.length = N) (hNb : N ≤ 1000) (hf : ∀ z ∈ l, 0 ≤ z ∧ z < 16777216) :
    Calls Tryd.prog 30 #[.agg #[.int .i64 2, .int .i64 d, .int .i64 wd, .int .i64 hi, .slice ca cn cc, .slice pa pn pc], .slice a N c] w fun e w' => e = .returned (.string ⟨(Pn.tab l).toArray⟩) ∧ Below w.heap.size w w' := by
  obtain ⟨W0, hW0⟩ : ∃ W0, W0 = w.alloc (.cells #[.int .i64 2, .int .i64 d, .int .i64 wd, .int .i64 hi, .slice ca cn cc, .slice pa pn pc] 27) := ⟨_, rfl⟩
  have HB0 : Hid (Below w.heap.size w W0) := by rw [hW0]; exact (Below.refl _ _).alloc (Nat.le_refl _) _
  obtain ⟨_, a0, a1, a2, a3, a4, a5⟩ := bx_new w (.int .i64 2) (.int .i64 d) (.int .i64 wd) (.int .i64 hi) (.slice ca cn cc) (.slice pa pn pc) 27
  have HT : Hid (Calls Tryd.prog 44 #[.slice a N c] W0 fun e w' => e = .returned (.string ⟨(Pn.tab l).toArray⟩) ∧ Below W0.heap.size W0 w') := l9Table_any a N c l W0 (h.kept HB0.out) hN hNb hf
  clear h hN hf
  go_enter Tryd.func30, Tryd.ntmps30
  go_wp2_with fail
  rw [← hW0]
  refine HT.out.mono ?_
  rintro e w1 ⟨rfl, b1⟩
  have HE : Hid (Below w.heap.size w w1) := HB0.out.trans (b1.mono HB0.out.size)
  clear b1 HT HB0 hW0 a0 a1 a2 a3 a4 a5
  go_wp2_with fail
  go_ret
  exact ⟨rfl, HE.out⟩
set_option maxHeartbeats 2000000 in
set_option maxRecDepth 20000 in
theorem l12Row_gray (k d wd hi : Int) (hk : k ≠ 2) (hd : d ≠ 1) (ca : Option Addr) (cn cc : Nat) (pa : Option Addr) (pn pc : Nat) (a : Option Addr) (N c : Nat) (l : List Int) (w : World) (h : Ints w a l) (hN : l.length = N) (hNb : N ≤ 1000) (hR : Rp.Row 8 l) :
    Calls Tryd.prog 30 #[.agg #[.int .i64 k, .int .i64 d, .int .i64 wd, .int .i64 hi, .slice ca cn cc, .slice pa pn pc], .slice a N c] w fun e w' => e = .returned (.string ⟨((Bp.text true (Rp.bl 8 l)).map UInt8.ofNat).toArray⟩) ∧ Below w.heap.size w w' := by
  obtain ⟨W0, hW0⟩ : ∃ W0, W0 = w.alloc (.cells #[.int .i64 k, .int .i64 d, .int .i64 wd, .int .i64 hi, .slice ca cn cc, .slice pa pn pc] 27) := ⟨_, rfl⟩
  have HB0 : Hid (Below w.heap.size w W0) := by rw [hW0]; exact (Below.refl _ _).alloc (Nat.le_refl _) _
  obtain ⟨_, a0, a1, a2, a3, a4, a5⟩ := bx_new w (.int .i64 k) (.int .i64 d) (.int .i64 wd) (.int .i64 hi) (.slice ca cn cc) (.slice pa pn pc) 27
  obtain ⟨X, hX⟩ : ∃ X, X = (Bp.text true (Rp.bl 8 l)).map UInt8.ofNat := ⟨_, rfl⟩
  rw [← hX]
  have HT : Hid (Calls Tryd.prog 45 #[.slice a N c, .int .i64 8] W0 fun e w' => e = .returned (.string ⟨X.toArray⟩) ∧ Below W0.heap.size W0 w') := by rw [hX]; exact l8Row_small a N c 8 l W0 (h.kept HB0.out) hN hNb (by omega) hR
  have g1 : (k == 2) = false := by rw [beq_eq_false_iff_ne]; exact hk
  have g2 : (d == 1) = false := by rw [beq_eq_false_iff_ne]; exact hd
  clear h hN hR hX
  go_enter Tryd.func30, Tryd.ntmps30
  go_wp2_with fail
  rw [← hW0]
  refine HT.out.mono ?_
  rintro e w1 ⟨rfl, b1⟩
  have HE : Hid (Below w.heap.size w w1) := HB0.out.trans (b1.mono HB0.out.size)
  clear b1 HT HB0 hW0 a0 a1 a2 a3 a4 a5
  go_wp2_with fail
  go_ret
  exact ⟨rfl, HE.out⟩
set_option linter.unusedSimpArgs false in
set_option maxHeartbeats 2000000 in
set_option maxRecDepth 20000 in
theorem l12Row_bits (k wd hi : Int) (hk : k ≠ 2) (ca : Option Addr) (cn cc : Nat) (pa : Option Addr) (pn pc : Nat) (a : Option Addr) (N c : Nat) (l : List Int) (w : World) (h : Ints w a l) (hN : l.length = N) (hNb : N ≤ 1000) (hf : ∀ z ∈ l, 0 ≤ z ∧ z ≤ 1) (hR : Rp.Row 1 (l.map fun z => 1 - z)) :
    Calls Tryd.prog 30 #[.agg #[.int .i64 k, .int .i64 1, .int .i64 wd, .int .i64 hi, .slice ca cn cc, .slice pa pn pc], .slice a N c] w fun e w' => e = .returned (.string ⟨((Bp.text true (Rp.bl 1 (l.map fun z => 1 - z))).map UInt8.ofNat).toArray⟩) ∧ Below w.heap.size w w' := by
  obtain ⟨M, hM⟩ : ∃ M, M = l.map fun z => 1 - z := ⟨_, rfl⟩
  obtain ⟨X, hX⟩ : ∃ X, X = (Bp.text true (Rp.bl 1 M)).map UInt8.ofNat := ⟨_, rfl⟩
  rw [← hM] at hR ⊢
  rw [← hX]
  obtain ⟨W0, hW0⟩ : ∃ W0, W0 = w.alloc (.cells #[.int .i64 k, .int .i64 1, .int .i64 wd, .int .i64 hi, .slice ca cn cc, .slice pa pn pc] 27) := ⟨_, rfl⟩
  have HB0 : Hid (Below w.heap.size w W0) := by rw [hW0]; exact (Below.refl _ _).alloc (Nat.le_refl _) _
  obtain ⟨_, a0, a1, a2, a3, a4, a5⟩ := bx_new w (.int .i64 k) (.int .i64 1) (.int .i64 wd) (.int .i64 hi) (.slice ca cn cc) (.slice pa pn pc) 27
  have HI : Hid (Ints W0 a l ∧ l.length = N ∧ (∀ z ∈ l, 0 ≤ z ∧ z ≤ 1) ∧ Rp.Row 1 M) := ⟨h.kept HB0.out, hN, hf, hR⟩
  have HM : Hid (M = (l.map fun z => 1 - z) ∧ M.length = N ∧ X = (Bp.text true (Rp.bl 1 M)).map UInt8.ofNat) := ⟨hM, by rw [hM, List.length_map]; exact hN, hX⟩
  have g1 : (k == 2) = false := by rw [beq_eq_false_iff_ne]; exact hk
  clear h hN hf hR hM hX
  have hs0 : W0.heap.size = w.heap.size + 1 := by rw [hW0]; simp
  obtain ⟨base, hbase⟩ : ∃ base, base = W0.heap.size := ⟨_, rfl⟩
  have HBB : Hid (base = W0.heap.size) := hbase
  have HO0 : Hid (OwnI (W0.alloc (.cells #[] 3)) base (.slice (some ⟨base, 0, none⟩) 0 0) 0 (M.take 0) ∧ Below base W0 (W0.alloc (.cells #[] 3))) := by
    rw [hbase]
    exact ⟨ownI_none W0, (Below.refl _ _).alloc (Nat.le_refl _) _⟩
  go_enter Tryd.func30, Tryd.ntmps30
  go_wp2_with fail
  rw [← hW0, ← hs0, ← hbase]
  clear hW0 hbase hs0 a0 a1 a2 a3 a4 a5
  go_loopw [5, 6] (fun o i wr => ∃ (q : Nat) (ao : Option Addr) (cap : Nat), q ≤ N ∧ i = .int .i64 (q : Int) ∧ o = .slice ao q cap ∧ Hid (OwnI wr base (.slice ao q cap) q (M.take q) ∧ Below base W0 wr)) (fun _ i _ => N - (intOf i).toNat)
  case atStart => exact ⟨0, _, _, Nat.zero_le _, rfl, rfl, HO0⟩
  case round =>
    obtain ⟨q, ao, cap, hq, rfl, rfl, HR⟩ := hrel
    clear HO0
    have hBW : Below W0.heap.size W0 wr := by have h := HR.out.2; rw [HBB.out] at h; exact h
    have hbw : base ≤ wr.heap.size := by rw [HBB.out]; exact hBW.size
    by_cases hlt : q < N
    · have hqi : (q : Int) < (N : Int) := by omega
      have hql : q < l.length := by rw [HI.out.2.1]; exact hlt
      obtain ⟨b1, off, ha, hb1, hcell⟩ := (HI.out.1.kept hBW).cellAt hql
      have hfk := HI.out.2.2.1 _ (List.getElem_mem hql)
      obtain ⟨z, hz⟩ := Int.eq_ofNat_of_zero_le hfk.1
      rw [hz] at hcell hfk
      obtain ⟨y, hy⟩ : ∃ y : Nat, y = 1 - z := ⟨_, rfl⟩
      have e1 : (1 : Int) - (z : Int) = (y : Int) := by omega
      have f1 := wrap_i64_nat y (by omega)
      have hqM : q < M.length := by rw [HM.out.2.1]; exact hlt
      have HT : Hid (M.take (q + 1) = M.take q ++ [(y : Int)]) := by
        show _ = _
        have e : M[q] = (y : Int) := by simp only [HM.out.1, List.getElem_map, hz, e1]
        rw [List.take_succ_eq_append_getElem hqM, e]
      subst ha
      have HOW : Hid (OwnI (wr.alloc (.cells #[.int .i64 (y : Int)] 3)) base (.slice ao q cap) q (M.take q) ∧ Below base W0 (wr.alloc (.cells #[.int .i64 (y : Int)] 3)) ∧ base ≤ (wr.alloc (.cells #[.int .i64 (y : Int)] 3)).heap.size) := ⟨HR.out.1.alloc _, HR.out.2.alloc hbw _, by simp; omega⟩
      have HIN : Hid (Ints (wr.alloc (.cells #[.int .i64 (y : Int)] 3)) (some ⟨wr.heap.size, 0, none⟩) [(y : Int)]) := ints_new wr [(y : Int)] _ rfl
      clear hz hfk hy HR hBW
      go_wp2_with (at_builtin; refine wpList_append_ints (by rfl) _ _ (by rfl) base _ q (M.take q) (by rfl) HOW.out.1 (some ⟨wr.heap.size, 0, none⟩) 1 1 [(y : Int)] (by rfl) HIN.out rfl (by omega) HOW.out.2.2 ?_)
      intro a2 cap2 w2 hO2 hG2
      have HF : Hid (OwnI w2 base (.slice a2 (q + 1) cap2) (q + 1) (M.take (q + 1)) ∧ Below base W0 w2) := by
        refine ⟨by rw [HT.out]; exact hO2, HOW.out.2.1.grown hG2 HOW.out.2.2 (fun b e => (World.ownsRow.lt (show World.ownsRow _ _ _ _ _ _ _ from HOW.out.1) b e).1)⟩
      clear hO2 hG2 HOW HIN HT hcell
      go_wp2_with fail
      go_roundw
      case rel => exact ⟨q + 1, a2, cap2, by omega, by go_num, rfl, HF⟩
      case measure => simp [intOf]; omega
    · have hqe : q = N := by omega
      subst hqe
      have hki : ¬ (q : Int) < (q : Int) := by omega
      have HS : Hid (Calls Tryd.prog 45 #[.slice ao q cap, .int .i64 1] wr fun e w' => e = .returned (.string ⟨X.toArray⟩) ∧ Below wr.heap.size wr w') := by
        have h := HR.out.1
        rw [List.take_of_length_le (by rw [HM.out.2.1]; exact Nat.le_refl _)] at h
        rw [HM.out.2.2]
        obtain ⟨ao', cap', he, hOw⟩ := h.owns
        injection he with e1 e2 e3
        subst e1
        subst e3
        exact l8Row_small ao q cap 1 M wr hOw.ints HM.out.2.1 hNb (by omega) HI.out.2.2.2
      have HBE : Hid (Below w.heap.size w wr ∧ w.heap.size ≤ wr.heap.size) := ⟨HB0.out.trans (hBW.mono HB0.out.size), Nat.le_trans HB0.out.size hBW.size⟩
      clear HR hBW hbw
      go_wp2_with fail
      refine HS.out.mono ?_
      rintro e w1 ⟨rfl, b1⟩
      have HE : Hid (Below w.heap.size w w1) := HBE.out.1.trans (b1.mono HBE.out.2)
      clear b1 HS
      go_wp2_with fail
      go_ret
      exact ⟨rfl, HE.out⟩
end Go.Proofs.YtbfeonhokagdjaaDoor

/- PnmPut of the program: the rows of a view, written by a builder older than they are. -/
namespace Go.Proofs.YtbfeonhokagdjaaDoor
open Go.RowKit Go.Shelf

attribute [local go_sem] Oper.semAt_some

theorem rowAt_kept {W W' : World} {row : Option Nat} {b : Nat} {l : List Int} (h : RowAt W b l) (hg : W.grownBy W' row) (hr : ∀ r, row = some r → ∃ o : Obj, W.heap[r]? = some o ∧ o.isCells = false) : RowAt W' b l := by
  refine h.kept (hg.block b h.lt (fun e => ?_))
  obtain ⟨o, ho, hc⟩ := hr b e.symm
  rw [show W.heap[b]? = _ from h] at ho
  cases ho
  cases hc
theorem Bld.block {B b : Nat} {bs : List Value} {w : World} (h : Bld B b bs w) : ∃ cs, w.heap[b]? = some (.cells cs 37 (0, 0)) := by
  rcases h with h | h
  · obtain ⟨_, v, h2, _⟩ := h; exact ⟨_, h2⟩
  · obtain ⟨_, v, h2, _⟩ := h; exact ⟨_, h2⟩
theorem string_far (b : Nat) (l : List UInt8) (w : World) (h : Bld b b (Lib.byteCells l) w) (hb : b ≤ w.heap.size) :
    Calls Tryd.prog 22 #[.pointer (some ⟨b, 0, none⟩)] w fun e w' => e = .returned (.string ⟨l.toArray⟩) ∧ Below b w w' ∧ Far b w w' := by
  refine (Any.Builder_String_any_k Tryd.lays169 Tryd.Builder_Extra_169 b b l w (Lib.IsBuilderF.of h) hb).mono ?_
  rintro e w' ⟨rfl, h1, h2, h3⟩
  exact ⟨rfl, h2, h2.size, fun k o hk hne ho => h3 k o hk (by simpa using hne) ho⟩
theorem Bld.grown {B b : Nat} {bs : List Value} {X Y : World} {row : Option Nat} (h : Bld B b bs X) (hg : X.grownBy Y row) (hr : ∀ r, row = some r → ∃ o, X.heap[r]? = some o ∧ o.isCells = false) : Bld B b bs Y := by
  have key : ∀ p, Lib.BuilderAt 37 5 B b p bs X → Lib.BuilderAt 37 5 B b p bs Y := fun p hp => by
    obtain ⟨h1, v, h2, h3, h4⟩ := hp
    refine ⟨h1, v, (hg.block b (Array.getElem?_eq_some_iff.1 h2).1 (fun e => ?_)).trans h2, World.ownsRow.kept h3 hg ?_, h4⟩
    · obtain ⟨o, ho, hc⟩ := hr b e.symm
      rw [h2] at ho
      cases ho
      cases hc
    · cases hv : v.ownBlock with
      | none => exact .inl rfl
      | some j =>
        refine .inr (fun e => ?_)
        obtain ⟨o, ho, hc⟩ := hr j e.symm
        rcases h3.2 with ⟨rfl, _⟩ | ⟨g, cap, cur, rfl, _, hgb, _⟩
        · simp [Value.ownBlock] at hv
        · obtain rfl : g = j := by simpa [Value.ownBlock] using hv
          rw [hgb] at ho
          cases ho
          cases hc
  rcases h with h | h
  · exact .inl (key _ h)
  · exact .inr (key _ h)
/-- what is written so far, and the view's cell -/
def PwI (wA : World) (OB C : Nat) (VV : Value) (H : List UInt8) (L : List Int → List UInt8) (pre : List (Nat × List Int)) (W : World) : Prop :=
  Bld OB OB (Lib.byteCells (H ++ (pre.map (·.2)).flatMap L)) W ∧ (C < W.heap.size ∧ W.heap[C]? = some (.cells #[VV] 46 (0, 0))) ∧ Below OB wA W ∧ OB < C ∧ ((pre.map (·.2)).flatMap L).length ≤ 20000 * pre.length
theorem pwI_own (wA : World) (OB C D : Nat) (VV : Value) (H : List UInt8) (L : List Int → List UInt8) (hD : C < D) (hA : OB ≤ wA.heap.size) : OwnFrom D (PwI wA OB C VV H L) := by
  rintro pre X Y row ⟨h1, ⟨h2, h3⟩, h4, h5, h6⟩ hg hrow
  have hr : ∀ r, row = some r → ∃ o, X.heap[r]? = some o ∧ o.isCells = false := fun r e => by
    obtain ⟨_, o, ho, hc⟩ := hrow r e
    exact ⟨o, ho, hc⟩
  refine ⟨h1.grown hg hr, ⟨Nat.lt_of_lt_of_le h2 hg.size, (hg.block C h2 (fun e => ?_)).trans h3⟩, h4.grown hg (Nat.le_trans hA h4.size) (fun r e => by have := (hrow r e).1; omega), h5, h6⟩
  obtain ⟨o, ho, hc⟩ := hr C e.symm
  rw [h3] at ho
  cases ho
  cases hc

/-- a row more is written -/
theorem PwI.more {wA W W1 W2 : World} {OB C : Nat} {VV : Value} {H : List UInt8} {L : List Int → List UInt8} {pre : List (Nat × List Int)} {x : Nat × List Int} (h : PwI wA OB C VV H L pre W) (hA : OB ≤ wA.heap.size) (b1 : Below W.heap.size W W1) (hB : Bld OB OB (Lib.byteCells (H ++ (pre.map (·.2)).flatMap L) ++ Lib.strCells ⟨(L x.2).toArray⟩) W2) (b2 : Below OB W1 W2) (f2 : Far OB W1 W2) (hL : (L x.2).length ≤ 20000) (D : Nat) :
    KeepsFrom D W W2 ∧ Below OB W W2 ∧ PwI wA OB C VV H L (pre ++ [x]) W2 := by
  obtain ⟨h1, ⟨h2, h3⟩, h4, h5, h6⟩ := h
  obtain ⟨cs, hcs⟩ := (h1.below b1).block
  have hsz : OB ≤ W.heap.size := Nat.le_trans hA h4.size
  have k1 : KeepsOthers W W1 := ⟨b1.size, fun k o hk _ => (b1.block k (Array.getElem?_eq_some_iff.1 hk).1).trans hk⟩
  have bb : Below OB W W2 := (b1.mono hsz).trans b2
  have c1 : W1.heap[C]? = some (.cells #[VV] 46 (0, 0)) := (b1.block C h2).trans h3
  have c2 : W2.heap[C]? = some (.cells #[VV] 46 (0, 0)) := f2.2 C _ c1 (by omega) (fun cs fr e => by injection e with _ e _; exact absurd e (by decide))
  refine ⟨(k1.trans (f2.keeps hcs)).from D, bb, ?_, ⟨(Array.getElem?_eq_some_iff.1 c2).1, c2⟩, h4.trans bb, h5, by rw [List.map_append, List.flatMap_append, List.length_append, List.length_append, List.length_singleton]; simp only [List.map_cons, List.map_nil, List.flatMap_cons, List.flatMap_nil, List.append_nil]; omega⟩
  have e : Lib.byteCells (H ++ ((pre ++ [x]).map (·.2)).flatMap L) = Lib.byteCells (H ++ (pre.map (·.2)).flatMap L) ++ Lib.strCells ⟨(L x.2).toArray⟩ := by
    rw [Lib.strCells_toArray, List.map_append, List.flatMap_append]
    simp [Lib.byteCells]
  rw [e]
  exact hB

set_option linter.unusedSimpArgs false in
set_option maxRecDepth 100000 in
set_option maxHeartbeats 1000000 in
theorem pnmPut_gen (k d : Int) (Wd Hi : Nat) (ca : Option Addr) (cn cc : Nat) (pa : Option Addr) (pn pc : Nat) (ps : List Int) (plain : Bool) (T : TypeId) (V : Value) (fs : Nat) (rs : Value) (fa : Nat) (ra : Value) (f : Nat → Nat → Int) (H : List UInt8) (L : List Int → List UInt8) (R : List Int → Prop) (w : World)
    (hp : Ints w pa ps) (hW : Wd ≤ 20) (hH : Hi ≤ 20) (ht : Tens w) (hHl : H.length ≤ 1000)
    (hHO : ∀ w', Below w.heap.size w w' → Calls Tryd.prog 14 #[.agg #[.int .i64 k, .int .i64 d, .int .i64 (Wd : Int), .int .i64 (Hi : Int), .slice ca cn cc, .slice pa pn pc]] w' fun e w'' => e = .returned (.bool true) ∧ Below w'.heap.size w' w'')
    (hHD : ∀ w', Tens w' → Calls Tryd.prog 16 #[.agg #[.int .i64 k, .int .i64 d, .int .i64 (Wd : Int), .int .i64 (Hi : Int), .slice ca cn cc, .slice pa pn pc], .bool plain] w' fun e w'' => e = .returned (.string ⟨H.toArray⟩) ∧ Below w'.heap.size w' w'')
    (hVW : ∀ w', Calls Tryd.prog 18 #[.agg #[.int .i64 k, .int .i64 d, .int .i64 (Wd : Int), .int .i64 (Hi : Int), .slice ca cn cc, .slice pa pn pc]] w' fun e w'' => e = .returned (.iface T V) ∧ Below w'.heap.size w' w'')
    (hSN : ∀ w', Ints w' pa ps → Seen T V fs rs fa ra Wd Hi f w'.heap.size w')
    (hRW : ∀ l ∈ rowsF Wd Hi f, R l) (hLl : ∀ l, R l → (L l).length ≤ 20000)
    (hFG : plain = true → ∀ (b : Nat) (l : List Int) (w' : World), RowAt w' b l → l.length = Wd → R l → Tens w' → Calls Tryd.prog 19 #[.slice (some ⟨b, 0, none⟩) Wd Wd, .int .i64 k] w' fun e w'' => e = .returned (.string ⟨(L l).toArray⟩) ∧ Below w'.heap.size w' w'')
    (hBT : plain = false → ∀ w', Calls Tryd.prog 21 #[.int .i64 d] w' fun e w'' => e = .returned (.int .i64 (Pn.bits d)) ∧ w'' = w')
    (hRP : plain = false → ∀ (b : Nat) (l : List Int) (w' : World), RowAt w' b l → l.length = Wd → R l → Calls Tryd.prog 20 #[.slice (some ⟨b, 0, none⟩) Wd Wd, .int .i64 (Pn.bits d)] w' fun e w'' => e = .returned (.string ⟨(L l).toArray⟩) ∧ Below w'.heap.size w' w'') :
    CallsIn Fence.wide 2 Tryd.prog 7 #[.agg #[.int .i64 k, .int .i64 d, .int .i64 (Wd : Int), .int .i64 (Hi : Int), .slice ca cn cc, .slice pa pn pc], .bool plain] w fun e w' => e = .returned (.string ⟨(H ++ (rowsF Wd Hi f).flatMap L).toArray⟩) ∧ Below w.heap.size w w' := by
  have hro : Fence.wide.round = none := rfl
  obtain ⟨W0, hW0⟩ : ∃ W0, W0 = (w.alloc (.cells #[.int .i64 k, .int .i64 d, .int .i64 (Wd : Int), .int .i64 (Hi : Int), .slice ca cn cc, .slice pa pn pc] 27)).alloc (.cells #[.bool plain] 4) := ⟨_, rfl⟩
  have hs0 : W0.heap.size = w.heap.size + 2 := by rw [hW0]; simp
  have bW : Below w.heap.size w W0 := by rw [hW0]; exact ((Below.refl _ _).alloc (Nat.le_refl _) _).alloc (by simp) _
  have HBX : Hid (Bx W0 w.heap.size (.int .i64 k) (.int .i64 d) (.int .i64 (Wd : Int)) (.int .i64 (Hi : Int)) (.slice ca cn cc) (.slice pa pn pc) ∧ (w.heap.size + 1 < W0.heap.size ∧ W0.cell? ⟨w.heap.size + 1, 0, none⟩ = some (.bool plain))) := by
    rw [hW0]
    refine ⟨(bx_new w _ _ _ _ _ _ 27).kept ((Below.refl _ _).alloc (Nat.le_refl _) _), by simp, ?_⟩
    have := (Boxed.new (w.alloc (.cells #[.int .i64 k, .int .i64 d, .int .i64 (Wd : Int), .int .i64 (Hi : Int), .slice ca cn cc, .slice pa pn pc] 27)) 4 (.bool plain)).cell
    rw [World.size_alloc] at this
    exact this
  refine callsIn_of_wp_marks Tryd.func7 rfl trivial ?_ hro
  simp only [Tryd.ntmps7, List.size_toArray, List.length_cons, List.length_nil, Nat.reduceAdd, Nat.reduceSub, Array.replicate_succ, Array.replicate_zero, List.push_toArray, List.append_toArray, List.nil_append, List.cons_append]
  obtain ⟨⟨_, a0, a1, a2, a3, a4, a5⟩, _, a6⟩ := HBX.out
  rw [hW0] at a0 a1 a2 a3 a4 a5 a6
  gi_wp2
  refine ⟨trivial, ?_⟩
  gi_wp2
  rw [← hW0]
  rw [← hW0] at a0 a1 a2 a3 a4 a5 a6
  clear hW0
  refine (callsIn_wide.2 (hHO W0 bW)).mono ?_
  rintro e w1 ⟨rfl, b1⟩
  have HB1 : Hid (Below w.heap.size w w1) := bW.trans (b1.mono (by omega))
  have hl1 : W0.heap.size ≤ w1.heap.size := b1.size
  have HBX1 : Hid (Bx w1 w.heap.size (.int .i64 k) (.int .i64 d) (.int .i64 (Wd : Int)) (.int .i64 (Hi : Int)) (.slice ca cn cc) (.slice pa pn pc) ∧ (w.heap.size + 1 < w1.heap.size ∧ w1.cell? ⟨w.heap.size + 1, 0, none⟩ = some (.bool plain))) := ⟨HBX.out.1.kept b1, Nat.lt_of_lt_of_le HBX.out.2.1 hl1, (b1.cell (p := ⟨w.heap.size + 1, 0, none⟩) HBX.out.2.1).trans HBX.out.2.2⟩
  clear b1 bW HBX a0 a1 a2 a3 a4 a5 a6 hHO
  obtain ⟨⟨_, a0, a1, a2, a3, a4, a5⟩, _, a6⟩ := HBX1.out
  gi_wp2
  have hBn : Bld w1.heap.size w1.heap.size [] (w1.alloc (.cells #[.pointer none, .slice none 0 0] 37)) := bld_new w1
  have bA1 : Below w1.heap.size w1 (w1.alloc (.cells #[.pointer none, .slice none 0 0] 37)) := (Below.refl _ _).alloc (Nat.le_refl _) _
  have hTn : ∀ X, Below w1.heap.size w1 X → Tens X := fun X b => ht.below (HB1.out.trans (b.mono HB1.out.size))
  have HTN : Hid (∀ X, Below w1.heap.size w1 X → Tens X) := hTn
  clear hTn
  obtain ⟨OB, hOB⟩ : ∃ OB, OB = w1.heap.size := ⟨_, rfl⟩
  have HOB : Hid (OB = w1.heap.size) := hOB
  refine ⟨trivial, (callsIn_wide.2 (hHD _ (HTN.out _ bA1))).mono ?_⟩
  rintro e w2 ⟨rfl, b2⟩
  have hB2 : Bld OB OB [] w2 := by rw [hOB]; exact hBn.below b2
  have bA2 : Below w1.heap.size w1 w2 := bA1.trans (b2.mono bA1.size)
  have hH1 : (Lib.strCells ⟨H.toArray⟩).length = H.length := by rw [Lib.strCells_toArray]; simp [Lib.byteCells]
  have HW := writeString_far OB OB [] ⟨H.toArray⟩ w2 hB2 (by rw [str_size H, List.length_nil]; omega) (by rw [hOB]; exact bA2.size)
  clear hBn bA1 b2 hB2 hHD
  gi_wp2
  rw [← hOB]
  refine ⟨trivial, (callsIn_wide.2 HW).mono ?_⟩
  rintro e w3 ⟨⟨r3, rfl⟩, hB3, b3, f3⟩
  have HA3 : Hid (Below w1.heap.size w1 w3) := bA2.trans (by rw [← hOB]; exact b3)
  have HB3 : Hid (Bld OB OB (Lib.byteCells H) w3) := by rw [Lib.strCells_toArray, List.nil_append] at hB3; exact hB3
  clear hB3 b3 f3 bA2 HW a0 a1 a2 a3 a4 a5 a6 hH1 hOB
  obtain ⟨_, a0, a1, a2, a3, a4, a5⟩ := HBX1.out.1.kept HA3.out
  gi_wp2
  refine ⟨trivial, (callsIn_wide.2 (hVW w3)).mono ?_⟩
  rintro e w4 ⟨rfl, b4⟩
  have HA4 : Hid (Below w1.heap.size w1 w4) := HA3.out.trans (b4.mono HA3.out.size)
  have HB4 : Hid (Bld OB OB (Lib.byteCells H) w4) := HB3.out.below b4
  clear b4 HA3 HB3 a0 a1 a2 a3 a4 a5 hVW
  gi_wp2
  refine ⟨trivial, (callsIn_wide.2 (rowsOf_any T V w4)).mono ?_⟩
  rintro e w5 ⟨rfl, hw5⟩
  have hs5 : w5.heap.size = w4.heap.size + 1 := by rw [hw5]; simp
  have b5 : Below w4.heap.size w4 w5 := by rw [hw5]; exact (Below.refl _ _).alloc (Nat.le_refl _) _
  have hseq := rows1_fitC 1 (Nat.le_refl _) R T V fs rs fa ra Wd Hi f hW hH w4 w1 HA4.out (hSN w1 (hp.kept HB1.out)) hRW
  rw [← hw5] at hseq
  have HSEQ : Hid _ := hseq
  have hC5 : w5.heap[w4.heap.size]? = some (.cells #[.iface T V] 46 (0, 0)) := by rw [hw5]; exact heap_alloc_new _ _
  have h40 : OB < w4.heap.size := by obtain ⟨cs, hcs⟩ := HB4.out.block; exact (Array.getElem?_eq_some_iff.1 hcs).1
  have hI5 : PwI w1 OB w4.heap.size (.iface T V) H L [] w5 := ⟨by rw [List.map_nil, List.flatMap_nil, List.append_nil]; exact HB4.out.below b5, ⟨by omega, hC5⟩, by rw [HOB.out]; exact HA4.out.trans (b5.mono HA4.out.size), h40, by simp⟩
  clear hw5 hseq hC5 HB4
  gi_wp2
  have hA1 : OB ≤ w1.heap.size := by rw [HOB.out]; exact Nat.le_refl _
  have hw5 : w1.heap.size ≤ w5.heap.size := by rw [← HOB.out]; omega
  refine rangeMemC (n := 2) (by omega) (gf := 37) (lb := #[.pointer (some ⟨w4.heap.size, 0, none⟩)]) rfl (enters_of Tryd.func37 (by kernel_rfl) rfl) HSEQ.out (Below.refl _ _) hw5 (fun _ => rfl) ?_
    (PwI w1 OB w4.heap.size (.iface T V) H L) (pwI_own w1 OB w4.heap.size w5.heap.size (.iface T V) H L (by omega) hA1) (fun pre W h => ⟨h.2.1.1, by simp only [World.cell?, h.2.1.2]; rfl⟩) hI5
    (fun x => { tmps := #[.agg #[.int .i64 k, .int .i64 d, .int .i64 (Wd : Int), .int .i64 (Hi : Int), .slice ca cn cc, .slice pa pn pc], .bool plain, .pointer (some ⟨w.heap.size, 0, none⟩), .pointer (some ⟨w.heap.size + 1, 0, none⟩), .string ⟨#[]⟩, .pointer (some ⟨OB, 0, none⟩), .slice (some ⟨x.1, 0, none⟩) Wd Wd, .agg #[.int .i64 k, .int .i64 d, .int .i64 (Wd : Int), .int .i64 (Hi : Int), .slice ca cn cc, .slice pa pn pc], .bool true, .bool false, .agg #[.int .i64 k, .int .i64 d, .int .i64 (Wd : Int), .int .i64 (Hi : Int), .slice ca cn cc, .slice pa pn pc], .bool plain, .string ⟨H.toArray⟩, r3, .agg #[.int .i64 k, .int .i64 d, .int .i64 (Wd : Int), .int .i64 (Hi : Int), .slice ca cn cc, .slice pa pn pc], .iface T V, .func (.func 37) #[] #[.pointer (some ⟨w4.heap.size, 0, none⟩)], .slice (some ⟨x.1, 0, none⟩) Wd Wd, undef, undef, undef, undef, undef, undef, undef, undef, undef, undef, undef, undef, undef], defers := [] }) ?assign ?body ?done
  · rintro x W l o o' ⟨⟨h1, h2, h3⟩, h4⟩ ho hoc
    exact ⟨⟨rowAt_kept h1 (grownBy_putObj' W l o') (fun r e => by cases e; exact ⟨o, ho, hoc⟩), h2, h3⟩, h4⟩
  case assign =>
    intro l x W K hK
    dsimp only [rowV] at hK ⊢
    gi_wp2
    exact hK
  case body =>
    rintro l pre ⟨b, row⟩ W hI ⟨⟨hrow, hrl, hb0⟩, hfr⟩ hsW hlen
    dsimp only at hrow hrl hb0 hfr ⊢
    have hbA := hI.2.2.1
    rw [HOB.out] at hbA
    have a6 : W.cell? ⟨w.heap.size + 1, 0, none⟩ = some (.bool plain) := (hbA.cell (p := ⟨w.heap.size + 1, 0, none⟩) HBX1.out.2.1).trans HBX1.out.2.2
    obtain ⟨_, a0, a1, a2, a3, a4, a5⟩ := HBX1.out.1.kept hbA
    have hTW := HTN.out _ hbA
    have hLr := hLl row hfr
    have hsO : OB ≤ W.heap.size := by rw [HOB.out]; exact hbA.size
    have HIW : Hid (PwI w1 OB w4.heap.size (.iface T V) H L pre W) := hI
    have hq : (Lib.byteCells (H ++ (pre.map (·.2)).flatMap L)).length ≤ 500000 := by
      have h6 := hI.2.2.2.2
      have e : ∀ x : List UInt8, (Lib.byteCells x).length = x.length := fun x => by simp [Lib.byteCells]
      rw [e, List.length_append]
      omega
    clear hI hbA
    cases plain with
    | true =>
      have HC : Hid (Calls Tryd.prog 19 #[.slice (some ⟨b, 0, none⟩) Wd Wd, .int .i64 k] W fun e w'' => e = .returned (.string ⟨(L row).toArray⟩) ∧ Below W.heap.size W w'') := hFG rfl b row W hrow hrl hfr hTW
      clear hFG hBT hRP
      gi_wp2
      refine ⟨trivial, rfl, ?_⟩
      refine (CallsIn.inRound l (callsIn_wide.2 HC.out)).mono ?_
      rintro e W1 ⟨rfl, b1⟩
      have HW1 := writeString_far OB OB _ ⟨(L row).toArray⟩ W1 (HIW.out.1.below b1) (by rw [str_size (L row)]; omega) (Nat.le_trans hsO b1.size)
      have HB1' : Hid (Below W.heap.size W W1) := b1
      clear b1 a0 a1 a2 a3 a4 a5 a6 HC
      gi_wp2
      refine ⟨trivial, rfl, ?_⟩
      refine (CallsIn.inRound l (callsIn_wide.2 HW1)).mono ?_
      rintro e W2 ⟨⟨r, rfl⟩, hB, b2, f2⟩
      have hF := HIW.out.more (x := (b, row)) hA1 HB1'.out hB b2 f2 hLr w5.heap.size
      gi_wp2
      exact ⟨hF.1, by rw [← HOB.out]; exact hF.2.1, hF.2.2⟩
    | false =>
      have HC : Hid (Calls Tryd.prog 20 #[.slice (some ⟨b, 0, none⟩) Wd Wd, .int .i64 (Pn.bits d)] W fun e w'' => e = .returned (.string ⟨(L row).toArray⟩) ∧ Below W.heap.size W w'') := hRP rfl b row W hrow hrl hfr
      have HBC : Hid (∀ w', Calls Tryd.prog 21 #[.int .i64 d] w' fun e w'' => e = .returned (.int .i64 (Pn.bits d)) ∧ w'' = w') := hBT rfl
      clear hFG hBT hRP
      gi_wp2
      refine ⟨trivial, rfl, ?_⟩
      refine (CallsIn.inRound l (callsIn_wide.2 (HBC.out W))).mono ?_
      rintro e Wx ⟨rfl, rfl⟩
      gi_wp2
      refine ⟨trivial, rfl, ?_⟩
      refine (CallsIn.inRound l (callsIn_wide.2 HC.out)).mono ?_
      rintro e W1 ⟨rfl, b1⟩
      have HW1 := writeString_far OB OB _ ⟨(L row).toArray⟩ W1 (HIW.out.1.below b1) (by rw [str_size (L row)]; omega) (Nat.le_trans hsO b1.size)
      have HB1' : Hid (Below Wx.heap.size Wx W1) := b1
      clear b1 a0 a1 a2 a3 a4 a5 a6 HC HBC
      gi_wp2
      refine ⟨trivial, rfl, ?_⟩
      refine (CallsIn.inRound l (callsIn_wide.2 HW1)).mono ?_
      rintro e W2 ⟨⟨r, rfl⟩, hB, b2, f2⟩
      have hF := HIW.out.more (x := (b, row)) hA1 HB1'.out hB b2 f2 hLr w5.heap.size
      gi_wp2
      exact ⟨hF.1, by rw [← HOB.out]; exact hF.2.1, hF.2.2⟩
  case done =>
    rintro E xs W hE hxs hI hK
    have hbA := hI.2.2.1
    have hI1 := hI.1
    rw [hxs] at hI1
    have HS := string_far OB _ W hI1 (Nat.le_trans hA1 hbA.size)
    obtain ⟨cs, hcs⟩ := hI1.block
    rw [HOB.out] at hbA
    have HE : Hid (Below w.heap.size w W ∧ W.heap[E]? = some (.deferred (some [])) ∧ W.heap[OB]? = some (.cells cs 37 (0, 0)) ∧ w.heap.size ≤ OB ∧ OB ≤ W.heap.size) := ⟨HB1.out.trans (hbA.mono HB1.out.size), hK, hcs, by rw [HOB.out]; exact HB1.out.size, by rw [HOB.out]; exact hbA.size⟩
    have hE2 : w.heap.size ≤ E := by have := HE.out.2.2.2; have := hw5; rw [← HOB.out] at this; omega
    clear hbA hI1 hI hxs
    gi_wp2
    refine ⟨trivial, (callsIn_wide.2 HS).mono ?_⟩
    rintro e W2 ⟨rfl, b2, f2⟩
    have hK2 : W2.heap[E]? = some (.deferred (some [])) := (f2.keeps HE.out.2.2.1).same E _ hK rfl
    have hbel : Below w.heap.size w W2 := HE.out.1.trans (b2.mono HE.out.2.2.2.1)
    gi_wp2
    refine ⟨by simp, .inl ⟨_, _, rfl, run_takeDeferred hK2, ?_⟩⟩
    exact ⟨_, results_tmp rfl _ _ _, rfl, hbel.trans (belowK_b (w := w) (Nat.le_refl _) W2 E _ _ hE2 hK2 rfl rfl)⟩
end Go.Proofs.YtbfeonhokagdjaaDoor

/- RowPut of the specification, for every list and depth. -/
namespace Go.Proofs.YtbfeonhokagdjaaDoor
open Go.RowKit

/-- a text of bytes -/
def textV (o : List Nat) : Value := .string ⟨(o.map UInt8.ofNat).toArray⟩

end Go.Proofs.YtbfeonhokagdjaaDoor

/- RowPut of the program, for every list and depth. -/
namespace Go.Proofs.YtbfeonhokagdjaaDoor
open Go.RowKit

theorem shrz (V S : Nat) (h : V < 2 ^ S) : ((V : Int) / 2 ^ S == 0) = true := by
  have e : (V : Int) / 2 ^ S = ((V / 2 ^ S : Nat) : Int) := by simp
  rw [e, Nat.div_eq_of_lt h]; rfl
theorem shrm (V S : Nat) (h : ¬ V < 2 ^ S) : ((V : Int) / 2 ^ S == 0) = false := by
  have e : (V : Int) / 2 ^ S = ((V / 2 ^ S : Nat) : Int) := by simp
  have hp : 0 < V / 2 ^ S := Nat.div_pos (by omega) (Nat.pow_pos (by omega))
  rw [e, beq_eq_false_iff_ne]; omega

open Classical in
noncomputable def smallB (D : Nat) (zs : List Int) : Bool := decide (Rp.Small D zs)
theorem smallB_yes {D : Nat} {zs : List Int} (h : Rp.Small D zs) : smallB D zs = true := by unfold smallB; exact @decide_eq_true _ (Classical.propDecidable _) h
theorem smallB_no {D : Nat} {zs : List Int} (h : ¬ Rp.Small D zs) : smallB D zs = false := by unfold smallB; exact @decide_eq_false _ (Classical.propDecidable _) h

/-- 64-bit numbers -/
def I64L (zs : List Int) : Prop := ∀ z ∈ zs, -9223372036854775808 ≤ z ∧ z ≤ 9223372036854775807

set_option maxHeartbeats 1000000 in
theorem numbersFit_any (a : Option Addr) (n cap D : Nat) (zs : List Int) (w : World) (h : Ints w a zs) (hn : zs.length = n) (hl : n ≤ 2000000) (hD : D ≤ 32) (h64 : I64L zs) :
    Calls Tryd.prog 41 #[.slice a n cap, .int .i64 D] w fun e w' => e = .returned (.bool (smallB D zs)) ∧ w' = w := by
  have HI : Hid (Ints w a zs) := h
  have HN : Hid (zs.length = n) := hn
  have H64 : Hid (I64L zs) := h64
  have hzg : n ≤ zs.length := by omega
  clear h hn h64
  go_enter Tryd.func41, Tryd.ntmps41
  go_wp2_with fail
  go_loop [9] (fun i => ∃ k : Nat, k ≤ n ∧ i = .int .i64 k ∧ (∀ j (hj : j < zs.length), j < k → 0 ≤ zs[j] ∧ (zs[j]).toNat < 2 ^ D)) (fun i => n - (intOf i).toNat)
  case atStart => exact ⟨0, Nat.zero_le _, rfl, fun j hj h0 => absurd h0 (by omega)⟩
  case round =>
    obtain ⟨k, hk, rfl, hall⟩ := hrel
    have HA : Hid (∀ j (hj : j < zs.length), j < k → 0 ≤ zs[j] ∧ (zs[j]).toNat < 2 ^ D) := hall
    clear hall
    by_cases hlt : k < n
    · have hkz : k < zs.length := by omega
      rcases HI.out with h | ⟨b, off, rfl, hbB, hc⟩
      · rw [h] at hkz; simp at hkz
      · have hck := hc k hkz
        have hki : (k : Int) < (n : Int) := by omega
        have hbd := H64.out zs[k] (List.getElem_mem hkz)
        clear hc
        obtain ⟨x, hx⟩ : ∃ x, x = zs[k] := ⟨_, rfl⟩
        rw [← hx] at hck hbd
        have HX : Hid (x = zs[k]) := hx
        clear hx
        by_cases hneg : x < 0
        · have d1 : decide (x < 0) = true := by simpa using hneg
          have HT : Hid (smallB D zs = false) := smallB_no (fun g => by have := (g zs[k] (List.getElem_mem hkz)).1; rw [← HX.out] at this; omega)
          go_wp2_with fail
          go_ret
          exact ⟨by rw [HT.out]; rfl, rfl⟩
        · have d1 : decide (x < 0) = false := by simpa using hneg
          obtain ⟨V, rfl⟩ := Int.eq_ofNat_of_zero_le (show 0 ≤ x by omega)
          clear hneg
          by_cases hV : V < 2 ^ D
          · have hz := shrz V D hV
            have HV : Hid (V < 2 ^ D) := hV
            clear hV
            go_wp2_with fail
            go_round
            case rel =>
              refine ⟨k + 1, by omega, by go_num, fun j hj h1 => ?_⟩
              by_cases e : j < k
              · exact HA.out j hj e
              · have : j = k := by omega
                subst this
                rw [← HX.out]; exact ⟨by omega, HV.out⟩
            case measure => simp [intOf]; omega
          · have hz := shrm V D hV
            have HT : Hid (smallB D zs = false) := smallB_no (fun g => by have := (g zs[k] (List.getElem_mem hkz)).2; rw [← HX.out] at this; exact hV this)
            clear hV
            go_wp2_with fail
            go_ret
            exact ⟨by rw [HT.out]; rfl, rfl⟩
    · have HT : Hid (smallB D zs = true) := smallB_yes (fun z hz => by
        obtain ⟨j, hj, rfl⟩ := List.getElem_of_mem hz
        exact HA.out j hj (by have := HN.out; omega))
      have hlt' : ¬ (k : Int) < (n : Int) := by omega
      clear HA
      go_wp2_with fail
      go_ret
      exact ⟨by rw [HT.out]; rfl, rfl⟩
end Go.Proofs.YtbfeonhokagdjaaDoor

/- RowPut of the program, whatever is handed in. -/
namespace Go.Proofs.YtbfeonhokagdjaaDoor
open Go.RowKit

set_option maxHeartbeats 2000000 in
set_option maxRecDepth 20000 in
theorem impl_rowPut_yes (a : Option Addr) (n cap D : Nat) (zs : List Int) (w : World) (h : Ints w a zs) (hn : zs.length = n) (hl : n ≤ 1000) (hd : depB (D : Int) = true) (hD32 : D ≤ 32) (h64 : I64L zs) (hsm : Rp.Small D zs) (hR : Rp.Row D zs) :
    Calls Tryd.prog 20 #[.slice a n cap, .int .i64 D] w fun e w' => e = .returned (textV (Bp.text true (Rp.bl D zs))) ∧ Below w.heap.size w w' := by
  have HDP : Hid (Calls Tryd.prog 40 #[.int .i64 (D : Int)] w fun e w' => e = .returned (.bool true) ∧ Below w.heap.size w w') := by
    have := depthOk_any (D : Int) w; rw [hd] at this; exact this
  have HNF : Hid (∀ w', Ints w' a zs → Calls Tryd.prog 41 #[.slice a n cap, .int .i64 D] w' fun e w'' => e = .returned (.bool true) ∧ w'' = w') := by
    intro w' hI
    have := numbersFit_any a n cap D zs w' hI hn (by omega) hD32 h64
    rw [smallB_yes hsm] at this; exact this
  have HI : Hid (Ints w a zs) := h
  have HN : Hid (zs.length = n) := hn
  have HR : Hid (Rp.Row D zs) := hR
  have HS : Hid (Rp.Small D zs) := hsm
  have hzg : n ≤ zs.length := by omega
  have d1 : decide ((1000 : Int) < (n : Int)) = false := by simp; omega
  have HK : Hid (∀ k, k < n → k * D + D ≤ 72000) := by
    intro k hk
    have h1 : (k + 1) * D ≤ 1000 * 32 := Nat.mul_le_mul (by omega) hD32
    rw [Nat.add_mul, Nat.one_mul] at h1
    omega
  have HPW : Hid (2 ^ D ≤ 4294967296) := Nat.le_trans (Nat.pow_le_pow_right (by omega) hD32) (by decide)
  clear h hn h64 hsm hR hd
  go_enter Tryd.func20, Tryd.ntmps20
  go_wp2_with fail
  refine HDP.out.mono ?_
  rintro e w1 ⟨rfl, b1⟩
  clear HDP
  have HI1 : Hid (Ints w1 a zs) := HI.out.kept b1
  go_wp2_with fail
  refine (HNF.out _ HI1.out).mono ?_
  rintro e w2 ⟨rfl, hw2⟩
  subst hw2
  clear HNF
  go_wp2_with fail
  refine (orderOf_high _).mono ?_
  rintro e w3 ⟨rfl, hw3⟩
  subst hw3
  have HW0 : Hid (Writes (w3.alloc (.cells #[(.func (.func 53) #[] #[]), .slice none 0 0, .int .i64 0] 73)) w3.heap.size true (Bp.fOf true (Rp.bl D zs)) 0) := writes_new w3 true _ _
  go_wp2_with fail
  go_loopw [29] (fun i wr => ∃ k : Nat, k ≤ n ∧ i = .int .i64 k ∧ Writes wr w3.heap.size true (Bp.fOf true (Rp.bl D zs)) (k * D) ∧ Below w3.heap.size w3 wr) (fun i _ => n - (intOf i).toNat)
  case atStart => exact ⟨0, Nat.zero_le _, rfl, by rw [Nat.zero_mul]; exact HW0.out, (Below.refl _ _).alloc (Nat.le_refl _) _⟩
  case round =>
    obtain ⟨k, hk, rfl, hWr, hbel⟩ := hrel
    clear HW0
    by_cases hlt : k < n
    · have hkz : k < zs.length := by omega
      rcases HI1.out with h | ⟨b, off, rfl, hbB, hc⟩
      · rw [h] at hkz; simp at hkz
      · have hck := (hbel.cell (p := ⟨b, off + k, none⟩) hbB).trans (hc k hkz)
        have hki : (k : Int) < (n : Int) := by omega
        have hsk := HS.out zs[k] (List.getElem_mem hkz)
        have hbits := HR.out.bits k hkz
        clear hc
        generalize zs[k] = x at *
        obtain ⟨V, rfl⟩ := Int.eq_ofNat_of_zero_le hsk.1
        rw [Int.toNat_natCast] at hbits
        have HV : Hid (V < 4294967296) := Nat.lt_of_lt_of_le hsk.2 HPW.out
        have HMV : Hid (Calls Tryd.prog 43 #[.iface 71 (.pointer (some ⟨w3.heap.size, 0, none⟩)), (.func (.func 53) #[] #[]), .int .i64 V, .int .i64 D] wr fun e w'' => (∃ z, e = .returned (.tuple #[.int .i64 z, .bool true])) ∧ Writes w'' w3.heap.size true (Bp.fOf true (Rp.bl D zs)) (k * D + D) ∧ Below w3.heap.size wr w'') :=
          wmove_any true w3.heap.size (k * D) V D _ wr hWr (HK.out k hlt) hD32 HV.out (Bp.fOf_lt true _) hbits
        clear hWr hbits hsk
        go_wp2_with fail
        refine HMV.out.mono ?_
        rintro e w4 ⟨⟨z, rfl⟩, hW4, b4⟩
        have HW4 : Hid (Writes w4 w3.heap.size true (Bp.fOf true (Rp.bl D zs)) (k * D + D)) := hW4
        have hb4 := hbel.trans b4
        clear hW4 b4 hbel HMV hck
        go_wp2_with fail
        go_roundw
        case rel => exact ⟨k + 1, by omega, by go_num, by rw [Nat.add_mul, Nat.one_mul]; exact HW4.out, hb4⟩
        case measure => simp [intOf]; omega
    · have hk' : k = zs.length := by have := HN.out; omega
      have HAN : Hid (Bp.pack true (Bp.fOf true (Rp.bl D zs)) (k * D) = Bp.text true (Rp.bl D zs)) := by
        show _ = _; unfold Bp.text; rw [HR.out.tot, hk']
      obtain ⟨_, ⟨v, L, k1, hown, hLL⟩, _, _, _, _⟩ := hWr
      obtain ⟨cap', ao, rfl, htx⟩ := hown.text
      rw [HAN.out] at htx
      have hlt' : ¬ (k : Int) < (n : Int) := by omega
      clear hown hk' hLL
      go_wp2_with fail
      go_ret
      exact ⟨rfl, b1.trans (hbel.mono b1.size)⟩

set_option maxHeartbeats 1000000 in
theorem impl_rowPut (a : Option Addr) (n cap : Nat) (d : Int) (zs : List Int) (w : World) (h : Ints w a zs) (hn : zs.length = n) (hl : n ≤ 1048576) (h64 : I64L zs) :
    Calls Tryd.prog 20 #[.slice a n cap, .int .i64 d] w fun e w' => e = .returned (textV (Rp.put d zs)) ∧ Below w.heap.size w w' := by
  have HB := depthOk_any d w
  by_cases hd : depB d = true
  · rw [hd] at HB
    have HDP : Hid (Calls Tryd.prog 40 #[.int .i64 d] w fun e w' => e = .returned (.bool true) ∧ Below w.heap.size w w') := HB
    clear HB
    by_cases hbig : 1000 < n
    · have HT : Hid (Rp.put d zs = []) := Rp.put_no (fun g => by have := g.2.1; omega)
      have d1 : decide ((1000 : Int) < (n : Int)) = true := by simp; omega
      clear h
      go_enter Tryd.func20, Tryd.ntmps20
      go_wp2_with fail
      refine HDP.out.mono ?_
      rintro e w1 ⟨rfl, b1⟩
      go_wp2_with fail
      go_ret
      exact ⟨by rw [HT.out]; rfl, b1⟩
    · obtain ⟨D, rfl, hD1, hD32, hDD⟩ := Rw.dep_nat hd
      have hn1 : n ≤ 1000 := by omega
      by_cases hsm : Rp.Small D zs
      · have HT : Rp.put (D : Int) zs = Bp.text true (Rp.bl D zs) := Rp.put_yes ⟨hd, by omega, by rw [Int.toNat_natCast]; exact hsm⟩
        rw [HT]
        refine impl_rowPut_yes a n cap D zs w h hn hn1 hd hD32 h64 hsm ?_
        rcases hDD with g | g
        · exact Rp.row_small D zs g (by omega) hsm
        · subst g; exact Rp.row_32 zs (by omega) hsm
      · have HT : Hid (Rp.put (D : Int) zs = []) := Rp.put_no (fun g => hsm (by have := g.2.2; rw [Int.toNat_natCast] at this; exact this))
        have d1 : decide ((1000 : Int) < (n : Int)) = false := by simp; omega
        have HNF : Hid (∀ w', Ints w' a zs → Calls Tryd.prog 41 #[.slice a n cap, .int .i64 D] w' fun e w'' => e = .returned (.bool false) ∧ w'' = w') := by
          intro w' hI
          have := numbersFit_any a n cap D zs w' hI hn (by omega) hD32 h64
          rw [smallB_no hsm] at this; exact this
        have HI : Hid (Ints w a zs) := h
        clear h hn h64 hsm hbig hDD
        go_enter Tryd.func20, Tryd.ntmps20
        go_wp2_with fail
        refine HDP.out.mono ?_
        rintro e w1 ⟨rfl, b1⟩
        go_wp2_with fail
        refine (HNF.out _ (HI.out.kept b1)).mono ?_
        rintro e w2 ⟨rfl, hw2⟩
        subst hw2
        go_wp2_with fail
        go_ret
        exact ⟨by rw [HT.out]; rfl, b1⟩
  · have hd' : depB d = false := by simpa using hd
    rw [hd'] at HB
    have HDP : Hid (Calls Tryd.prog 40 #[.int .i64 d] w fun e w' => e = .returned (.bool false) ∧ Below w.heap.size w w') := HB
    have HT : Hid (Rp.put d zs = []) := Rp.put_no (fun g => hd g.1)
    clear hd hd' HB h
    go_enter Tryd.func20, Tryd.ntmps20
    go_wp2_with fail
    refine HDP.out.mono ?_
    rintro e w1 ⟨rfl, b1⟩
    go_wp2_with fail
    go_ret
    exact ⟨by rw [HT.out]; rfl, b1⟩
end Go.Proofs.YtbfeonhokagdjaaDoor
