/- The exact law of CodePut, walked. -/
import Derived.Test.YtmbffmfaidknjaaCpTop
import Derived.Test.YtmbffmfaidknjaaCpSpec
import Derived.Test.YtmbffmfaidknjaaMarkBits
import Derived.Test.YtmbffmfaidknjaaMarkBase
import Derived.Test.YtmbffmfaidknjaaEqBits
import Derived.Test.YtmbffmfaidknjaaRow64
namespace Go.Proofs.Ytmbffmfaidknjaa
open Go.RowKit

theorem OwnP.bits2 {w : World} {B n c : Nat} {v : Option Addr} {l : List (Int × Int)} (h : OwnP w B (.slice v n c) n l) : Bits2 w v l := by
  obtain ⟨ao, cap, e, hB⟩ := h.bits
  cases e; exact hB
/-- bits that lay below stay -/
theorem Bits2.low {w0 w w' : World} {lo : Nat} {a : Option Addr} {l : List (Int × Int)} (h0 : Bits2 w0 a l) (h : Bits2 w a l) (hb : Below lo w w') (hlo : w0.heap.size ≤ lo) : Bits2 w' a l := by
  rcases h0 with e | ⟨b, off, rfl, hb0, _⟩
  · exact .inl e
  · rcases h with e | ⟨c, off', e, hc, hcell⟩
    · exact .inl e
    · cases e
      exact .inr ⟨b, off, rfl, Nat.lt_of_lt_of_le hc hb.size, fun i hi => ⟨(hb.cell (p := ⟨b, off + i * 2, none⟩) (show b < lo by omega)).trans (hcell i hi).1, (hb.cell (p := ⟨b, off + i * 2 + 1, none⟩) (show b < lo by omega)).trans (hcell i hi).2⟩⟩
theorem OwnP.turned {w w' : World} {B n b : Nat} {v : Value} {l : List (Int × Int)} (h : OwnP w B v n l) (hT : Turned b w w') (hb : b < B) : OwnP w' B v n l := h.same (fun k _ hB => hT.rest k (by omega))
theorem Bits2.turned {w0 w w' : World} {b : Nat} {a : Option Addr} {l : List (Int × Int)} (h0 : Bits2 w0 a l) (h : Bits2 w a l) (hT : Turned b w w') (hlo : w0.heap.size ≤ b) : Bits2 w' a l := by
  rcases h0 with e | ⟨c, off, rfl, hb0, _⟩
  · exact .inl e
  · rcases h with e | ⟨c', off', e, hc, hcell⟩
    · exact .inl e
    · cases e
      refine .inr ⟨c, off, rfl, by rw [hT.size]; exact hc, fun i hi => ⟨?_, ?_⟩⟩
      · exact (World.cell?_of_block (w := w) (a := ⟨c, off + i * 2, none⟩) (hT.rest c (by omega))).trans (hcell i hi).1
      · exact (World.cell?_of_block (w := w) (a := ⟨c, off + i * 2 + 1, none⟩) (hT.rest c (by omega))).trans (hcell i hi).2

set_option maxHeartbeats 4000000 in
set_option maxRecDepth 20000 in
theorem exCodePut (a : Option Addr) (n cap : Nat) (b : Option Addr) (m cap' : Nat) (w : World) (h : Row64 w a n cap) (g : Row64 w b m cap') :
    Calls Try.prog 3 #[.slice a n cap, .slice b m cap'] w fun e w' => e = .returned (.bool true) ∧ Below w.heap.size w w' := by
  obtain ⟨_, hmx, zs, hn, hI, _⟩ := h
  obtain ⟨_, hmy, ls, hm, hJ, _⟩ := g
  unfold maxLen at hmx hmy
  by_cases hbig : 1048576 < n
  · clear hI hJ hn hm
    go_enter Try.func3, Try.ntmps3
    go_wp2_with fail
    go_ret
    exact ⟨rfl, Below.refl _ _⟩
  · by_cases hbig2 : 1048576 < m
    · clear hI hJ hn hm
      go_enter Try.func3, Try.ntmps3
      go_wp2_with fail
      go_ret
      exact ⟨rfl, Below.refl _ _⟩
    · have hsn : n ≤ 1048576 := by omega
      have hsm : m ≤ 1048576 := by omega
      obtain ⟨M, hM⟩ : ∃ M, M = (Cp.put zs ls).length := ⟨_, rfl⟩
      have HM : Hid ((Cp.put zs ls).length = M) := hM.symm
      have hM3 : M ≤ 9000 := by rw [hM]; exact Cp.put_len zs ls
      have HN : Hid (zs.length = n ∧ ls.length = m) := ⟨hn, hm⟩
      have HSP : Hid (∀ (x y : Option Addr) (c d : Nat) (w : World), Ints w x zs → Ints w y ls → Calls Try.prog 8 #[.slice x n c, .slice y m d] w fun e w' => (∃ v L c, e = .returned (.slice v L c) ∧ (Cp.put zs ls).length = L ∧ Bits2 w' v (Cp.put zs ls)) ∧ Below w.heap.size w w') := fun x y c d w h1 h2 => spec_codePut x n c zs y m d ls w h1 hn hsn h2 hm hsm
      have HIM : Hid (∀ (x y : Option Addr) (c d : Nat) (w : World), Ints w x zs → Ints w y ls → Calls Try.prog 10 #[.slice x n c, .slice y m d] w fun e w' => (∃ v L c, e = .returned (.slice v L c) ∧ (Cp.put zs ls).length = L ∧ OwnP w' w.heap.size (.slice v L c) L (Cp.put zs ls)) ∧ Below w.heap.size w w') := fun x y c d w h1 h2 => impl_codePut x n c zs y m d ls w h1 hn hsn h2 hm hsm
      have I0 : Hid (Ints w a zs) := hI
      have J0 : Hid (Ints w b ls) := hJ
      clear hM hn hm hbig hbig2
      generalize Cp.put zs ls = l at *
      go_enter Try.func3, Try.ntmps3
      go_wp2_with fail
      refine (toInts_any a n cap zs w hI HN.out.1 (by omega)).mono ?_
      rintro e w1 ⟨rfl, t1, b1⟩
      have hJ1 := hJ.kept b1
      have bel1 := b1
      clear hI hJ b1
      go_wp2_with fail
      refine (toInts_any b m cap' ls w1 hJ1 HN.out.2 (by omega)).mono ?_
      rintro e w2 ⟨rfl, u2, b2⟩
      have t2 := t1.kept b2
      have bel2 := bel1.trans (b2.mono bel1.size)
      clear t1 b2 bel1 hJ1
      go_wp2_with fail
      refine (HSP.out _ _ _ _ w2 t2 u2).mono ?_
      rintro e w3 ⟨⟨y, L3, c3, rfl, hL3, Y3⟩, b3⟩
      rw [HM.out] at hL3
      subst hL3
      have bel3 := bel2.trans (b3.mono bel2.size)
      have Y0 : Hid (Bits2 w3 y l) := Y3
      clear b3 bel2 t2 u2
      go_wp2_with fail
      refine (toInts_exact a n cap zs w3 (I0.out.kept bel3) HN.out.1 (by omega)).mono ?_
      rintro e w4 ⟨rfl, hw4⟩
      have b4 : Below w3.heap.size w3 w4 := by rw [hw4]; exact (Below.refl _ _).alloc (Nat.le_refl _) _
      have x4 : Own w4 w3.heap.size n (fun i => zs.getD i 0) := by rw [hw4]; exact own_cp w3 zs n HN.out.1
      have X4 : Ints w4 (some ⟨w3.heap.size, 0, none⟩) zs := by rw [hw4, ← HN.out.1]; exact ints_cp w3 zs
      have s4 : w3.heap.size < w4.heap.size := x4.1
      have Y4 := Y3.kept b4
      have bel4 := bel3.trans (b4.mono bel3.size)
      have hL3 : w.heap.size ≤ w3.heap.size := bel3.size
      clear hw4 b4 Y3 bel3
      go_wp2_with fail
      refine (toInts_exact b m cap' ls w4 (J0.out.kept bel4) HN.out.2 (by omega)).mono ?_
      rintro e w5 ⟨rfl, hw5⟩
      have b5 : Below w4.heap.size w4 w5 := by rw [hw5]; exact (Below.refl _ _).alloc (Nat.le_refl _) _
      have v5 : Own w5 w4.heap.size m (fun i => ls.getD i 0) := by rw [hw5]; exact own_cp w4 ls m HN.out.2
      have V5 : Ints w5 (some ⟨w4.heap.size, 0, none⟩) ls := by rw [hw5, ← HN.out.2]; exact ints_cp w4 ls
      have s5 : w4.heap.size < w5.heap.size := v5.1
      have x5 := x4.kept b5
      have X5 := X4.kept b5
      have Y5 := Y4.kept b5
      have bel5 := bel4.trans (b5.mono bel4.size)
      clear hw5 b5 Y4 bel4 x4 X4
      go_wp2_with fail
      refine (HIM.out _ _ _ _ w5 X5 V5).mono ?_
      rintro e w6 ⟨⟨q, L6, c6, rfl, hL6, P6⟩, b6⟩
      rw [HM.out] at hL6
      subst hL6
      have x6 := x5.kept b6
      have X6 := X5.kept b6
      have v6 := v5.kept b6
      have V6 := V5.kept b6
      have Y6 := Y5.kept b6
      have s6 : w5.heap.size ≤ w6.heap.size := b6.size
      have bel6 := bel5.trans (b6.mono bel5.size)
      clear b6 x5 X5 v5 V5 Y5 bel5
      go_wp2_with fail
      refine (eqBits_same q c6 y c3 M l w6 P6.bits2 Y6 HM.out (by omega)).mono ?_
      rintro e w7 ⟨rfl, b7⟩
      have x7 := x6.kept b7
      have X7 := X6.kept b7
      have v7 := v6.kept b7
      have V7 := V6.kept b7
      have Y7 := Y6.kept b7
      have P7 := P6.kept b7
      have s7 := Nat.le_trans s6 b7.size
      have bel7 := bel6.trans (b7.mono bel6.size)
      clear b7 x6 X6 v6 V6 Y6 P6 bel6 s6
      go_wp2_with fail
      refine (toInts_any a n cap zs w7 (I0.out.kept bel7) HN.out.1 (by omega)).mono ?_
      rintro e w8 ⟨rfl, t8, b8⟩
      have x8 := x7.kept b8
      have X8 := X7.kept b8
      have v8 := v7.kept b8
      have V8 := V7.kept b8
      have Y8 := Y7.kept b8
      have P8 := P7.kept b8
      have s8 := Nat.le_trans s7 b8.size
      have bel8 := bel7.trans (b8.mono bel7.size)
      clear b8 x7 X7 v7 V7 Y7 P7 bel7 s7
      go_wp2_with fail
      refine (eqInts_same _ _ _ _ n zs w8 X8 t8 HN.out.1 (by omega)).mono ?_
      rintro e w9 ⟨rfl, m9, hw9⟩
      have b9 : Below w8.heap.size w8 w9 := by rw [hw9]; exact drewN_below _ _
      have x9 := x8.kept b9
      have v9 := v8.kept b9
      have V9 := V8.kept b9
      have Y9 := Y8.kept b9
      have P9 := P8.kept b9
      have s9 := Nat.le_trans s8 b9.size
      have bel9 := bel8.trans (b9.mono bel8.size)
      clear b9 hw9 x8 X8 v8 V8 Y8 P8 bel8 s8 t8
      go_wp2_with fail
      refine (toInts_any b m cap' ls w9 (J0.out.kept bel9) HN.out.2 (by omega)).mono ?_
      rintro e w10 ⟨rfl, t10, b10⟩
      have x10 := x9.kept b10
      have v10 := v9.kept b10
      have V10 := V9.kept b10
      have Y10 := Y9.kept b10
      have P10 := P9.kept b10
      have s10 := Nat.le_trans s9 b10.size
      have bel10 := bel9.trans (b10.mono bel9.size)
      clear b10 x9 v9 V9 Y9 P9 bel9 s9
      go_wp2_with fail
      refine (eqInts_same _ _ _ _ m ls w10 V10 t10 HN.out.2 (by omega)).mono ?_
      rintro e w11 ⟨rfl, m11, hw11⟩
      have b11 : Below w10.heap.size w10 w11 := by rw [hw11]; exact drewN_below _ _
      have x11 := x10.kept b11
      have v11 := v10.kept b11
      have Y11 := Y10.kept b11
      have P11 := P10.kept b11
      have s11 := Nat.le_trans s10 b11.size
      have bel11 := bel10.trans (b11.mono bel10.size)
      clear b11 hw11 x10 v10 V10 Y10 P10 bel10 s10 t10
      go_wp2_with fail
      refine (mark_own _ n _ _ w11 x11 (by omega)).mono ?_
      rintro e w12 ⟨rfl, _, T12⟩
      have v12 : Own w12 w4.heap.size m (fun i => ls.getD i 0) := ⟨by rw [T12.size]; exact v11.1, fun i hi => ⟨(World.cell?_of_block (w := w11) (a := ⟨w4.heap.size, i, none⟩) (T12.rest w4.heap.size (by omega))).trans (v11.2 i hi).1, (World.frozen?_of_block (w := w11) (a := ⟨w4.heap.size, i, none⟩) (T12.rest w4.heap.size (by omega))).trans (v11.2 i hi).2⟩⟩
      have Y12 := Y0.out.turned Y11 T12 (Nat.le_refl _)
      have P12 := P11.turned T12 (by omega)
      have s12 : w5.heap.size ≤ w12.heap.size := by rw [T12.size]; exact s11
      have bel12 := bel11.trans (T12.below hL3)
      clear x11 v11 Y11 P11 bel11 s11 T12
      go_wp2_with fail
      refine (mark_from _ m _ (n + 1) _ w12 v12 (by omega) (by omega)).mono ?_
      rintro e w13 ⟨rfl, T13⟩
      have Y13 := Y0.out.turned Y12 T13 (by omega)
      have P13 := P12.turned T13 (by omega)
      have s13 : w5.heap.size ≤ w13.heap.size := by rw [T13.size]; exact s12
      have bel13 := bel12.trans (T13.below (by omega))
      have hd1 : decide (((n + 1 : Nat) : Int) + (m : Int) < 0) = false := by simp; omega
      clear v12 Y12 P12 bel12 s12 T13
      go_wp2_with fail
      refine (eqBits_same q c6 y c3 M l w13 P13.bits2 Y13 HM.out (by omega)).mono ?_
      rintro e w14 ⟨rfl, b14⟩
      have Y14 := Y13.kept b14
      have P14 := P13.kept b14
      have s14 := Nat.le_trans s13 b14.size
      have bel14 := bel13.trans (b14.mono bel13.size)
      clear b14 Y13 P13 bel13 s13
      go_wp2_with fail
      refine (markBits_g q M c6 w5.heap.size l w14 P14 (by omega)).mono ?_
      rintro e w15 ⟨rfl, G15, b15⟩
      have Y15 := Y0.out.low Y14 b15 (by omega)
      have bel15 := bel14.trans (b15.mono (by omega))
      clear b15 Y14 P14 bel14
      go_wp2_with fail
      refine (heldBits_g q M c6 _ w15 G15 (by omega)).mono ?_
      rintro e w16 ⟨rfl, hw16⟩
      have hv16 := hw16.symm
      subst hv16
      have hd2 : decide ((M : Int) * 2 + 1 < 0) = false := by simp; omega
      go_wp2_with fail
      refine (toInts_any a n cap zs w15 (I0.out.kept bel15) HN.out.1 (by omega)).mono ?_
      rintro e w17 ⟨rfl, t17, b17⟩
      have Y17 := Y15.kept b17
      have G17 := G15.kept b17
      have bel17 := bel15.trans (b17.mono bel15.size)
      clear b17 Y15 G15 bel15
      go_wp2_with fail
      refine (toInts_any b m cap' ls w17 (J0.out.kept bel17) HN.out.2 (by omega)).mono ?_
      rintro e w18 ⟨rfl, u18, b18⟩
      have t18 := t17.kept b18
      have Y18 := Y17.kept b18
      have G18 := G17.kept b18
      have bel18 := bel17.trans (b18.mono bel17.size)
      clear b18 t17 Y17 G17 bel17
      go_wp2_with fail
      refine (HIM.out _ _ _ _ w18 t18 u18).mono ?_
      rintro e w19 ⟨⟨r, L9, c9, rfl, hL9, R19⟩, b19⟩
      rw [HM.out] at hL9
      subst hL9
      have Y19 := Y18.kept b19
      have G19 := G18.kept b19
      have bel19 := bel18.trans (b19.mono bel18.size)
      clear b19 t18 u18 Y18 G18 bel18
      go_wp2_with fail
      refine (eqBits_same r c9 y c3 M l w19 R19.bits2 Y19 HM.out (by omega)).mono ?_
      rintro e w20 ⟨rfl, b20⟩
      have G20 := G19.kept b20
      have bel20 := bel19.trans (b20.mono bel19.size)
      clear b20 Y19 G19 R19 bel19
      go_wp2_with fail
      refine (heldBits_g q M c6 _ w20 G20 (by omega)).mono ?_
      rintro e w21 ⟨rfl, hw21⟩
      have hv21 := hw21.symm
      subst hv21
      go_wp2_with fail
      go_ret
      exact ⟨rfl, bel20⟩
end Go.Proofs.Ytmbffmfaidknjaa
