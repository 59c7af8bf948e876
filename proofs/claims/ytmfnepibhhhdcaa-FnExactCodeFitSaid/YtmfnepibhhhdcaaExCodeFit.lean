/- The exact law of CodeFit, walked. -/
import Derived.Test.YtmfnepibhhhdcaaCtSFit2
import Derived.Test.YtmfnepibhhhdcaaMarkRow
import Derived.Test.YtmfnepibhhhdcaaRow64
namespace Go.Proofs.Ytmfnepibhhhdcaa
open Go.RowKit

open Classical in
/-- the answer -/
noncomputable def fitR (l : List Int) (m : Int) : List Int :=
  if fitB l m = true then (if h : ∃ f, Ct.Fits m.toNat l f then (List.range l.length).map (fun i => ((Classical.choose h i : Nat) : Int)) else []) else []
theorem fitR_no {l : List Int} {m : Int} (h : fitB l m = false) : fitR l m = [] := by unfold fitR; rw [h]; rfl
theorem fitR_yes {l : List Int} {m : Int} (h : fitB l m = true) {f : Nat → Nat} (hf : Ct.Fits m.toNat l f) : fitR l m = (List.range l.length).map (fun i => ((f i : Nat) : Int)) := by
  unfold fitR
  rw [if_pos h, dif_pos ⟨f, hf⟩, (Classical.choose_spec (⟨f, hf⟩ : ∃ f, Ct.Fits m.toNat l f)).same hf]
theorem fitR_len (l : List Int) (m : Int) : (fitR l m).length ≤ 300 := by
  unfold fitR
  split
  · rename_i h
    split
    · rw [List.length_map, List.length_range]
      unfold fitB at h
      simp at h
      exact h.1
    · simp
  · simp
theorem impl_fitR (a : Option Addr) (n c : Nat) (l : List Int) (m : Int) (w : World) (h : Ints w a l) (hn : l.length = n) (hb : n ≤ 1048576) :
    Calls Try.prog 25 #[.slice a n c, .int .i64 m] w fun e w' => (∃ x c, e = .returned (.slice x (fitR l m).length c) ∧ Owns w' w.heap.size x (fitR l m)) ∧ Below w.heap.size w w' := by
  refine (impl_codeFit a n c l m w h hn hb).mono ?_
  rintro e w' ⟨⟨hf, x, c', rfl⟩ | ⟨hf, b, f, rfl, hbl, hO, hF⟩, hbel⟩
  · rw [fitR_no hf]
    exact ⟨⟨x, c', rfl, .inl rfl⟩, hbel⟩
  · rw [fitR_yes hf hF]
    refine ⟨⟨some ⟨b, 0, none⟩, l.length, by rw [List.length_map, List.length_range], .inr ⟨b, rfl, hbl, hO.1.1, fun i hi => ?_⟩⟩, hbel⟩
    rw [List.length_map, List.length_range] at hi
    rw [List.getElem_map, List.getElem_range]
    exact hO.1.2 i hi
theorem spec_fitR (a : Option Addr) (n c : Nat) (l : List Int) (m : Int) (w : World) (h : Ints w a l) (hn : l.length = n) (hb : n ≤ 1048576) :
    Calls Try.prog 23 #[.slice a n c, .int .i64 m] w fun e w' => (∃ x c, e = .returned (.slice x (fitR l m).length c) ∧ Ints w' x (fitR l m)) ∧ Below w.heap.size w w' := by
  refine (spec_codeFit a n c l m w h hn hb).mono ?_
  rintro e w' ⟨⟨hf, x, c', rfl⟩ | ⟨hf, x, c', f, rfl, hI, hF⟩, hbel⟩
  · rw [fitR_no hf]
    exact ⟨⟨x, c', rfl, .inl rfl⟩, hbel⟩
  · rw [fitR_yes hf hF]
    exact ⟨⟨x, c', by rw [List.length_map, List.length_range], hI⟩, hbel⟩

set_option maxHeartbeats 2000000 in
theorem exCodeFit (a : Option Addr) (n cap : Nat) (mm : Int) (w : World) (h : Row64 w a n cap) (_hw : (Lit.int .i64 mm).wf = true) :
    Calls Try.prog 6 #[.slice a n cap, .int .i64 mm] w fun e w' => e = .returned (.bool true) ∧ Below w.heap.size w w' := by
  obtain ⟨_, hm, zs, hn, hI, _⟩ := h
  unfold maxLen at hm
  have HN : Hid (zs.length = n) := hn
  clear hn
  by_cases hbig : 1048576 < n
  · clear hI
    go_enter Try.func6, Try.ntmps6
    go_wp2_with fail
    go_ret
    exact ⟨rfl, Below.refl _ _⟩
  · have hsm : n ≤ 1048576 := by omega
    obtain ⟨M, hM⟩ : ∃ M, M = (fitR zs mm).length := ⟨_, rfl⟩
    have HM : Hid ((fitR zs mm).length = M) := hM.symm
    have hM3 : M ≤ 300 := by rw [hM]; exact fitR_len zs mm
    clear hM
    have I0 : Hid (Ints w a zs) := hI
    go_enter Try.func6, Try.ntmps6
    go_wp2_with fail
    refine (toInts_any a n cap zs w hI HN.out (by omega)).mono ?_
    rintro e w1 ⟨rfl, t1, bel1⟩
    have hI1 := hI.kept bel1
    clear hI
    go_wp2_with fail
    refine (spec_fitR _ n _ zs mm w1 t1 HN.out hsm).mono ?_
    rintro e w2 ⟨⟨y, d, rfl, W2⟩, bel2⟩
    rw [HM.out]
    have hI2 := hI1.kept bel2
    have bel := bel1.trans (bel2.mono bel1.size)
    have W0 : Hid (Ints w2 y (fitR zs mm)) := W2
    have V2 := W2
    clear bel1 bel2 hI1 t1 W2
    go_wp2_with fail
    refine (toInts_exact a n cap zs w2 hI2 HN.out (by omega)).mono ?_
    rintro e w3 ⟨rfl, hw3⟩
    have b3 : Below w2.heap.size w2 w3 := by rw [hw3]; exact (Below.refl _ _).alloc (Nat.le_refl _) _
    have x3 : Own w3 w2.heap.size n (fun i => zs.getD i 0) := by rw [hw3]; exact own_cp w2 zs n HN.out
    have X3 : Ints w3 (some ⟨w2.heap.size, 0, none⟩) zs := by rw [hw3, ← HN.out]; exact ints_cp w2 zs
    have s3 : w2.heap.size < w3.heap.size := x3.1
    have hI3 := hI2.kept b3
    have V3 := V2.kept b3
    have bel' := bel.trans (b3.mono bel.size)
    have hLb : w.heap.size ≤ w2.heap.size := bel.size
    clear hw3 b3 hI2 V2 bel
    go_wp2_with fail
    refine (impl_fitR _ n _ zs mm w3 X3 HN.out hsm).mono ?_
    rintro e w4 ⟨⟨x, c, rfl, G4⟩, b4⟩
    rw [HM.out]
    have x4 := x3.kept b4
    have X4 := X3.kept b4
    have hI4 := hI3.kept b4
    have V4 := V3.kept b4
    have s4 : w3.heap.size ≤ w4.heap.size := b4.size
    have bel := bel'.trans (b4.mono bel'.size)
    clear x3 X3 hI3 V3 b4 bel'
    go_wp2_with fail
    refine (eqInts_same _ _ _ _ M (fitR zs mm) w4 G4.ints V4 HM.out (by omega)).mono ?_
    rintro e w5 ⟨rfl, m5, hw5⟩
    have b5 : Below w4.heap.size w4 w5 := by rw [hw5]; exact drewN_below _ _
    have x5 := x4.kept b5
    have X5 := X4.kept b5
    have hI5 := hI4.kept b5
    have V5 := V4.kept b5
    have G5 := G4.kept b5
    have s5 := Nat.le_trans s4 b5.size
    have bel' := bel.trans (b5.mono bel.size)
    clear x4 X4 hI4 V4 G4 hw5 b5 bel s4
    go_wp2_with fail
    refine (toInts_any a n cap zs w5 hI5 HN.out (by omega)).mono ?_
    rintro e w6 ⟨rfl, t6, b6⟩
    have x6 := x5.kept b6
    have X6 := X5.kept b6
    have hI6 := hI5.kept b6
    have V6 := V5.kept b6
    have G6 := G5.kept b6
    have s6 := Nat.le_trans s5 b6.size
    have bel := bel'.trans (b6.mono bel'.size)
    clear x5 X5 hI5 V5 G5 b6 bel' s5
    go_wp2_with fail
    refine (eqInts_same _ _ _ _ n zs w6 X6 t6 HN.out (by omega)).mono ?_
    rintro e w7 ⟨rfl, m7, hw7⟩
    have b7 : Below w6.heap.size w6 w7 := by rw [hw7]; exact drewN_below _ _
    have x7 := x6.kept b7
    have hI7 := hI6.kept b7
    have V7 := V6.kept b7
    have G7 := G6.kept b7
    have s7 := Nat.le_trans s6 b7.size
    have bel' := bel.trans (b7.mono bel.size)
    clear x6 X6 hI6 V6 G6 b7 bel s6 t6 hw7
    go_wp2_with fail
    refine (mark_own _ n _ _ w7 x7 (by omega)).mono ?_
    rintro e w8 ⟨rfl, _, T8⟩
    have hI8 := Ints.aside I0.out hI7 T8 hLb
    have V8 := Ints.aside W0.out V7 T8 (Nat.le_refl _)
    have G8 := T8.owns G7 s3
    have s8 : w3.heap.size ≤ w8.heap.size := by rw [T8.size]; exact s7
    have bel := bel'.trans (T8.below hLb)
    have hd1 : decide ((n : Int) + 1 < 0) = false := by simp; omega
    clear x7 hI7 V7 G7 s7 T8 bel'
    go_wp2_with fail
    refine (eqInts_same _ _ _ _ M (fitR zs mm) w8 G8.ints V8 HM.out (by omega)).mono ?_
    rintro e w9 ⟨rfl, m9, hw9⟩
    have b9 : Below w8.heap.size w8 w9 := by rw [hw9]; exact drewN_below _ _
    have hI9 := hI8.kept b9
    have V9 := V8.kept b9
    have G9 := G8.kept b9
    have s9 := Nat.le_trans s8 b9.size
    have bel' := bel.trans (b9.mono bel.size)
    clear hI8 V8 G8 b9 bel s8 hw9
    go_wp2_with fail
    refine (mark_g x M c (fitR zs mm) w3.heap.size w9 G9 HM.out (by omega) s9).mono ?_
    rintro e w10 ⟨rfl, G10, b10⟩
    have hI10 := Ints.low I0.out hI9 b10 (by omega)
    have V10 := Ints.low W0.out V9 b10 (by omega)
    have bel := bel'.trans (b10.mono (by omega))
    clear hI9 V9 G9 b10 bel' s9
    go_wp2_with fail
    refine (held_g x M c _ w10 G10 (by omega)).mono ?_
    rintro e w11 ⟨rfl, hw11⟩
    subst hw11
    have hd2 : decide ((M : Int) + 1 < 0) = false := by simp; omega
    go_wp2_with fail
    refine (toInts_any a n cap zs _ hI10 HN.out (by omega)).mono ?_
    rintro e w12 ⟨rfl, t12, b12⟩
    have V12 := V10.kept b12
    have G12 := G10.kept b12
    have bel' := bel.trans (b12.mono bel.size)
    clear V10 G10 b12 bel hI10
    go_wp2_with fail
    refine (impl_fitR _ n _ zs mm w12 t12 HN.out hsm).mono ?_
    rintro e w13 ⟨⟨u, v, rfl, U13⟩, b13⟩
    rw [HM.out]
    have V13 := V12.kept b13
    have G13 := G12.kept b13
    have bel := bel'.trans (b13.mono bel'.size)
    clear V12 G12 b13 bel' t12
    go_wp2_with fail
    refine (eqInts_same _ _ _ _ M (fitR zs mm) w13 U13.ints V13 HM.out (by omega)).mono ?_
    rintro e w14 ⟨rfl, m14, hw14⟩
    have b14 : Below w13.heap.size w13 w14 := by rw [hw14]; exact drewN_below _ _
    have G14 := G13.kept b14
    have bel' := bel.trans (b14.mono bel.size)
    clear V13 G13 U13 b14 bel hw14
    go_wp2_with fail
    refine (held_g x M c _ w14 G14 (by omega)).mono ?_
    rintro e w15 ⟨rfl, hw15⟩
    subst hw15
    go_wp2_with fail
    go_ret
    exact ⟨rfl, bel'⟩
end Go.Proofs.Ytmfnepibhhhdcaa
