/- The exact law of CodeMake, walked. -/
import Derived.Test.YtpoilfbbabmpgaqMarkWalks
import Derived.Test.YtpoilfbbabmpgaqRow64
namespace Go.Proofs.Ytpoilfbbabmpgaq
open Go.RowKit

def marks (M : Nat) : List Int := (List.range M).map fun i : Nat => (i : Int) + 1
theorem marks_len (M : Nat) : (marks M).length = M := by simp [marks]

theorem own_of {w : World} {b M : Nat} {l : List Int} (hM : l.length = M) (hb : b < w.heap.size) (hc : ∀ i (h : i < l.length), w.cell? ⟨b, i, none⟩ = some (.int .i64 l[i]) ∧ w.frozen? ⟨b, i, none⟩ = false) : Own w b M (fun i => l.getD i 0) := by
  refine ⟨hb, fun i hi => ?_⟩
  have h := hc i (by omega)
  have e : l.getD i 0 = l[i]'(by omega) := by rw [List.getD_eq_getElem?_getD, List.getElem?_eq_getElem (by omega)]; rfl
  show w.cell? ⟨b, i, none⟩ = some (.int .i64 (l.getD i 0)) ∧ _
  rw [e]
  exact h
theorem owns_marks {w : World} {lo b M : Nat} (h : Own w b M (fun i => (i : Int) + 1)) (hlo : lo ≤ b) : Owns w lo (some ⟨b, 0, none⟩) (marks M) := by
  refine .inr ⟨b, rfl, hlo, h.1, fun i hi => ?_⟩
  rw [marks_len] at hi
  have := h.2 i hi
  rw [show (marks M)[i]'(by rw [marks_len]; exact hi) = (i : Int) + 1 from by simp [marks]]
  exact this

theorem mark_g (x : Option Addr) (M c : Nat) (l : List Int) (lo : Nat) (w : World) (h : Owns w lo x l) (hM : l.length = M) (hn : M ≤ 2000000) (hlo : lo ≤ w.heap.size) :
    Calls Try.prog 15 #[.slice x M c, .int .i64 1] w fun e w' => e = .returned (.int .i64 ((M : Int) + 1)) ∧ Owns w' lo x (marks M) ∧ Below lo w w' := by
  rcases h with e | ⟨b, rfl, hb, hbs, hc⟩
  · rw [e] at hM
    have h0 : M = 0 := by rw [← hM]; rfl
    subst h0
    refine (mark_nil x c w).mono ?_
    rintro e w' ⟨rfl, rfl⟩
    exact ⟨rfl, .inl rfl, Below.refl _ _⟩
  · refine (mark_own b M c _ w (own_of hM hbs hc) hn).mono ?_
    rintro e w' ⟨rfl, hO, hT⟩
    exact ⟨rfl, owns_marks hO hb, hT.below hb⟩

theorem held_g (x : Option Addr) (M c : Nat) (lo : Nat) (w : World) (h : Owns w lo x (marks M)) (hn : M ≤ 2000000) :
    Calls Try.prog 16 #[.slice x M c, .int .i64 1] w fun e w' => e = .returned (.int .i64 ((M : Int) + 1)) ∧ w' = w := by
  rcases h with e | ⟨b, rfl, hb, hbs, hc⟩
  · have h0 : M = 0 := by rw [← marks_len M, e]; rfl
    subst h0
    exact held_nil x c w
  · refine held_own b M c w ⟨hbs, fun i hi => ?_⟩ hn
    have := hc i (by rw [marks_len]; exact hi)
    rw [show (marks M)[i]'(by rw [marks_len]; exact hi) = (i : Int) + 1 from by simp [marks]] at this
    exact this

/-- a list that lay below stays -/
theorem Ints.low {w0 w w' : World} {lo : Nat} {a : Option Addr} {l : List Int} (h0 : Ints w0 a l) (h : Ints w a l) (hb : Below lo w w') (hlo : w0.heap.size ≤ lo) : Ints w' a l := by
  rcases h0 with e | ⟨b, off, rfl, hb0, _⟩
  · exact .inl e
  · rcases h with e | ⟨c, off', e, hc, hcell⟩
    · exact .inl e
    · cases e
      exact .inr ⟨b, off, rfl, Nat.lt_of_lt_of_le hc hb.size, fun i hi => (hb.cell (p := ⟨b, off + i, none⟩) (show b < lo by omega)).trans (hcell i hi)⟩

/-- a list that lay elsewhere stays -/
theorem Ints.aside {w0 w w' : World} {L : Nat} {a : Option Addr} {l : List Int} (h0 : Ints w0 a l) (h : Ints w a l) (hT : Turned L w w') (hlo : w0.heap.size ≤ L) : Ints w' a l := by
  rcases h0 with e | ⟨b, off, rfl, hb0, _⟩
  · exact .inl e
  · exact hT.ints h (fun x e => by cases e; show ¬ b = L; omega)

set_option maxHeartbeats 400000 in
theorem toInts_exact (a : Option Addr) (n cap : Nat) (zs : List Int) (w : World) (h : Ints w a zs) (hn : zs.length = n) (hl : n ≤ 2000000) :
    Calls Try.prog 10 #[.slice a n cap] w fun e w' => e = .returned (.slice (some ⟨w.heap.size, 0, none⟩) n n) ∧ w' = w.alloc (.cells (cp zs n) 3) := by
  have hmk := fun w => make_ints zs n hn hl w
  have HI : Hid (Ints w a zs) := h
  clear h
  have hzg : n ≤ zs.length := by omega
  clear hn
  go_enter Try.func10, Try.ntmps10
  go_wp2_with fail
  go_loopw [4] (fun i wr => ∃ k : Nat, k ≤ n ∧ i = .int .i64 k ∧ wr = w.alloc (.cells (cp zs k) 3)) (fun i _ => n - (intOf i).toNat)
  case atStart => exact ⟨0, Nat.zero_le _, rfl, rfl⟩
  case round =>
    obtain ⟨k, hk, rfl, rfl⟩ := hrel
    clear hmk
    by_cases hlt : k < n
    · have hkz : k < zs.length := by omega
      have HT : Hid ((cp zs k).setIfInBounds k (.int .i64 zs[k]) = cp zs (k + 1)) := cp_set zs k hkz
      have hg : (cp zs k)[k]? = some (.int .i64 0) := by rw [cp_get _ _ _ hkz]; simp
      rcases HI.out with h | ⟨b, off, rfl, hbB, hc⟩
      · rw [h] at hkz; simp at hkz
      · have hck := (World.cell?_alloc_past (.cells (cp zs k) 3) b (off + k) hbB).trans (hc k hkz)
        have hki : (k : Int) < (n : Int) := by omega
        clear hc
        generalize cp zs k = A at *
        generalize zs[k] = x at *
        go_wp2_with fail
        go_roundw
        case rel => exact ⟨k + 1, by omega, by go_num, by rw [HT.out]⟩
        case measure => simp [intOf]; omega
    · have hk' : k = n := by omega
      subst hk'
      go_wp2_with fail
      go_ret
      exact ⟨rfl, rfl⟩

theorem own_cp (w : World) (zs : List Int) (n : Nat) (hn : zs.length = n) : Own (w.alloc (.cells (cp zs n) 3)) w.heap.size n (fun i => zs.getD i 0) := by
  refine ⟨by simp, fun i hi => ⟨?_, ?_⟩⟩
  · rw [World.cell?_alloc_at _ _ _ _ rfl, cp_get _ _ _ (by omega), if_pos hi]
  · rw [World.frozen?_alloc_at _ _ _ _ rfl]

theorem Own.kept {w w' : World} {b n : Nat} {f : Nat → Int} (h : Own w b n f) (hb : Below w.heap.size w w') : Own w' b n f :=
  ⟨Nat.lt_of_lt_of_le h.1 hb.size, fun i hi => ⟨(hb.cell (p := ⟨b, i, none⟩) h.1).trans (h.2 i hi).1, (hb.frozen (p := ⟨b, i, none⟩) h.1).trans (h.2 i hi).2⟩⟩

theorem mkB_len (zs : List Int) : (mkB zs).length ≤ 300 := by
  cases h : Cd.okB zs
  · rw [mkB_no h]; simp
  · rw [mkB_yes h, Mk.mk_len]; exact okB_len' h

theorem drewN_below (w : World) (m : Nat) : Below w.heap.size w (w.drewN m) := below_drewN (Below.refl _ _) _

set_option maxHeartbeats 2000000 in
theorem exCodeMake (a : Option Addr) (n cap : Nat) (w : World) (h : Row64 w a n cap) :
    Calls Try.prog 4 #[.slice a n cap] w fun e w' => e = .returned (.bool true) ∧ Below w.heap.size w w' := by
  obtain ⟨_, hm, zs, hn, hI, _⟩ := h
  unfold maxLen at hm
  have HN : Hid (zs.length = n) := hn
  clear hn
  by_cases hbig : 1048576 < n
  · clear hI
    go_enter Try.func4, Try.ntmps4
    go_wp2_with fail
    go_ret
    exact ⟨rfl, Below.refl _ _⟩
  · have hsm : n ≤ 1048576 := by omega
    obtain ⟨M, hM⟩ : ∃ M, M = (mkB zs).length := ⟨_, rfl⟩
    have HM : Hid ((mkB zs).length = M) := hM.symm
    have hM3 : M ≤ 300 := by rw [hM]; exact mkB_len zs
    clear hM
    have I0 : Hid (Ints w a zs) := hI
    go_enter Try.func4, Try.ntmps4
    go_wp2_with fail
    refine (toInts_any a n cap zs w hI HN.out (by omega)).mono ?_
    rintro e w1 ⟨rfl, t1, bel1⟩
    have hI1 := hI.kept bel1
    clear hI
    go_wp2_with fail
    refine (spec_codeMake _ _ n zs w1 t1 HN.out hsm).mono ?_
    rintro e w2 ⟨⟨y, d, rfl, W2⟩, bel2⟩
    rw [HM.out]
    have hI2 := hI1.kept bel2
    have bel := bel1.trans (bel2.mono bel1.size)
    have W0 : Hid (Ints w2 y (mkB zs)) := W2.ints
    have V2 := W2.ints
    clear bel1 bel2 hI1 t1 W2
    go_wp2_with fail
    refine (toInts_exact a n cap zs w2 hI2 HN.out (by omega)).mono ?_
    rintro e w3 ⟨rfl, hw3⟩
    have b3 : Below w2.heap.size w2 w3 := by rw [hw3]; exact (Below.refl _ _).alloc (Nat.le_refl _) _
    have x3 : Own w3 w2.heap.size n (fun i => zs.getD i 0) := by rw [hw3]; exact own_cp w2 zs n HN.out
    have X3 : Ints w3 (some ⟨w2.heap.size, 0, none⟩) zs := by rw [hw3, ← HN.out]; exact ints_cp w2 zs
    have s3 : w2.heap.size < w3.heap.size := x3.1
    have hI3 := hI2.kept b3
    have V3 := V2.kept b3
    have bel' := bel.trans (b3.mono bel.size)
    have hLb : w.heap.size ≤ w2.heap.size := bel.size
    clear hw3 b3 hI2 V2 bel
    go_wp2_with fail
    refine (impl_codeMake _ _ n zs w3 X3 HN.out hsm).mono ?_
    rintro e w4 ⟨⟨x, c, rfl, G4⟩, b4⟩
    rw [HM.out]
    have x4 := x3.kept b4
    have X4 := X3.kept b4
    have hI4 := hI3.kept b4
    have V4 := V3.kept b4
    have s4 : w3.heap.size ≤ w4.heap.size := b4.size
    have bel := bel'.trans (b4.mono bel'.size)
    clear x3 X3 hI3 V3 b4 bel'
    go_wp2_with fail
    refine (eqInts_same _ _ _ _ M (mkB zs) w4 G4.ints V4 HM.out (by omega)).mono ?_
    rintro e w5 ⟨rfl, m5, hw5⟩
    have b5 : Below w4.heap.size w4 w5 := by rw [hw5]; exact drewN_below _ _
    have x5 := x4.kept b5
    have X5 := X4.kept b5
    have hI5 := hI4.kept b5
    have V5 := V4.kept b5
    have G5 := G4.kept b5
    have s5 := Nat.le_trans s4 b5.size
    have bel' := bel.trans (b5.mono bel.size)
    clear x4 X4 hI4 V4 G4 hw5 b5 bel s4
    go_wp2_with fail
    refine (toInts_any a n cap zs w5 hI5 HN.out (by omega)).mono ?_
    rintro e w6 ⟨rfl, t6, b6⟩
    have x6 := x5.kept b6
    have X6 := X5.kept b6
    have hI6 := hI5.kept b6
    have V6 := V5.kept b6
    have G6 := G5.kept b6
    have s6 := Nat.le_trans s5 b6.size
    have bel := bel'.trans (b6.mono bel'.size)
    clear x5 X5 hI5 V5 G5 b6 bel' s5
    go_wp2_with fail
    refine (eqInts_same _ _ _ _ n zs w6 X6 t6 HN.out (by omega)).mono ?_
    rintro e w7 ⟨rfl, m7, hw7⟩
    have b7 : Below w6.heap.size w6 w7 := by rw [hw7]; exact drewN_below _ _
    have x7 := x6.kept b7
    have hI7 := hI6.kept b7
    have V7 := V6.kept b7
    have G7 := G6.kept b7
    have s7 := Nat.le_trans s6 b7.size
    have bel' := bel.trans (b7.mono bel.size)
    clear x6 X6 hI6 V6 G6 b7 bel s6 t6 hw7
    go_wp2_with fail
    refine (mark_own _ n _ _ w7 x7 (by omega)).mono ?_
    rintro e w8 ⟨rfl, _, T8⟩
    have hI8 := Ints.aside I0.out hI7 T8 hLb
    have V8 := Ints.aside W0.out V7 T8 (Nat.le_refl _)
    have G8 := T8.owns G7 s3
    have s8 : w3.heap.size ≤ w8.heap.size := by rw [T8.size]; exact s7
    have bel := bel'.trans (T8.below hLb)
    have hd1 : decide ((n : Int) + 1 < 0) = false := by simp; omega
    clear x7 hI7 V7 G7 s7 T8 bel'
    go_wp2_with fail
    refine (eqInts_same _ _ _ _ M (mkB zs) w8 G8.ints V8 HM.out (by omega)).mono ?_
    rintro e w9 ⟨rfl, m9, hw9⟩
    have b9 : Below w8.heap.size w8 w9 := by rw [hw9]; exact drewN_below _ _
    have hI9 := hI8.kept b9
    have V9 := V8.kept b9
    have G9 := G8.kept b9
    have s9 := Nat.le_trans s8 b9.size
    have bel' := bel.trans (b9.mono bel.size)
    clear hI8 V8 G8 b9 bel s8 hw9
    go_wp2_with fail
    refine (mark_g x M c (mkB zs) w3.heap.size w9 G9 HM.out (by omega) s9).mono ?_
    rintro e w10 ⟨rfl, G10, b10⟩
    have hI10 := Ints.low I0.out hI9 b10 (by omega)
    have V10 := Ints.low W0.out V9 b10 (by omega)
    have bel := bel'.trans (b10.mono (by omega))
    clear hI9 V9 G9 b10 bel' s9
    go_wp2_with fail
    refine (held_g x M c _ w10 G10 (by omega)).mono ?_
    rintro e w11 ⟨rfl, hw11⟩
    subst hw11
    have hd2 : decide ((M : Int) + 1 < 0) = false := by simp; omega
    go_wp2_with fail
    refine (toInts_any a n cap zs _ hI10 HN.out (by omega)).mono ?_
    rintro e w12 ⟨rfl, t12, b12⟩
    have V12 := V10.kept b12
    have G12 := G10.kept b12
    have bel' := bel.trans (b12.mono bel.size)
    clear V10 G10 b12 bel hI10
    go_wp2_with fail
    refine (impl_codeMake _ _ n zs w12 t12 HN.out hsm).mono ?_
    rintro e w13 ⟨⟨u, v, rfl, U13⟩, b13⟩
    rw [HM.out]
    have V13 := V12.kept b13
    have G13 := G12.kept b13
    have bel := bel'.trans (b13.mono bel'.size)
    clear V12 G12 b13 bel' t12
    go_wp2_with fail
    refine (eqInts_same _ _ _ _ M (mkB zs) w13 U13.ints V13 HM.out (by omega)).mono ?_
    rintro e w14 ⟨rfl, m14, hw14⟩
    have b14 : Below w13.heap.size w13 w14 := by rw [hw14]; exact drewN_below _ _
    have G14 := G13.kept b14
    have bel' := bel.trans (b14.mono bel.size)
    clear V13 G13 U13 b14 bel hw14
    go_wp2_with fail
    refine (held_g x M c _ w14 G14 (by omega)).mono ?_
    rintro e w15 ⟨rfl, hw15⟩
    subst hw15
    go_wp2_with fail
    go_ret
    exact ⟨rfl, bel'⟩
end Go.Proofs.Ytpoilfbbabmpgaq
