/- The next piece. -/
import Derived.Test.YtgbcjkpmiceddaaCcWalks
namespace Go.Proofs.Ytgbcjkpmiceddaa
open Go.RowKit

theorem piece_name {s : ByteArray} {A : Nat} : s.extract (A + 4) (A + 4 + 4) = Cg.nm s A := rfl

set_option maxHeartbeats 4000000 in
set_option maxRecDepth 20000 in
theorem chunk_any (B A : Nat) (s : ByteArray) (w : World) (h : Cc w B s A) (hs : s.size ≤ 9000) (hA : A ≤ s.size) :
    Calls Try.prog 22 #[.pointer (some ⟨B, 0, none⟩)] w (CkEnd w B s A) := by
  obtain ⟨R, hR⟩ : ∃ R, R = w.heap.size := ⟨_, rfl⟩
  have hBR : B < R := by rw [hR]; exact h.lt
  obtain ⟨W1, hW1⟩ : ∃ W1, W1 = w.alloc (.cells #[.string ⟨#[]⟩, .string ⟨#[]⟩] 46) := ⟨_, rfl⟩
  have hW1' : w.alloc (.cells #[.string ⟨#[]⟩, .string ⟨#[]⟩] 46) = W1 := hW1.symm
  have HC1 : Hid (Cst w B R s A W1) := by
    have hb : Below w.heap.size w W1 := by rw [hW1]; exact (Below.refl _ _).alloc (Nat.le_refl _) _
    exact ⟨h.kept hb, Only.of_below hb h.lt, by rw [hW1, hR]; exact World.alloc_heap_new w _⟩
  have HR : Hid (R = w.heap.size) := hR
  have hRB : R ≠ B := by omega
  clear h hW1 hR
  go_enter Try.func22, Try.ntmps22
  go_wp2_with fail
  rw [← HR.out]
  by_cases h4 : A + 4 ≤ s.size
  rotate_left
  · have hno : ¬ Cg.Ok s A := fun h => by have := h.1; omega
    refine (ccNumber_no B A s W1 HC1.out.1 hs hA (by omega)).mono ?_
    rintro e w2 ⟨rfl, h2⟩
    have HF : Hid (CkEnd w B s A (fault 2) w2) := ckEnd_no 2 (by decide) hno (HC1.out.2.1.trans h2)
    clear h2 hno HC1
    unfold fault
    go_wp2_with fail
    exact ⟨rfl, HF.out⟩
  refine (ccNumber_yes B A s W1 HC1.out.1 hs h4).mono ?_
  rintro e w2 ⟨rfl, h2, h3⟩
  have HC2 : Hid (Cst w B R s (A + 4) w2) := HC1.out.next h3 hRB h2
  have hNl := Cg.n4_lt s A
  obtain ⟨N, hN⟩ : ∃ N, N = Cg.n4 s A := ⟨_, rfl⟩
  have HN : Hid (N = Cg.n4 s A) := hN
  rw [← hN] at hNl ⊢
  clear h2 h3 HC1 hN hW1'
  go_wp2_with fail
  by_cases h8 : A + 8 ≤ s.size
  rotate_left
  · have hno : ¬ Cg.Ok s A := fun h => by have := h.1; omega
    refine (show Calls Try.prog 20 #[.pointer (some ⟨B, 0, none⟩), .int .i64 4] w2 _ from bt_piece_no _ B (A + 4) 4 s w2 HC2.out.1 (by omega) h4 (by omega)).mono ?_
    rintro e w3 ⟨rfl, -, h2, -⟩
    have HF : Hid (CkEnd w B s A (fault 2) w3) := ckEnd_no 2 (by decide) hno (HC2.out.2.1.trans h2)
    clear h2 hno HC2
    unfold fault
    go_wp2_with fail
    exact ⟨rfl, HF.out⟩
  refine (show Calls Try.prog 20 #[.pointer (some ⟨B, 0, none⟩), .int .i64 4] w2 _ from bt_piece_yes _ B (A + 4) 4 s w2 HC2.out.1 (by omega) (by omega)).mono ?_
  rintro e w3 ⟨rfl, h2, h3, -⟩
  have HC3 : Hid (Cst w B R s (A + 8) w3) := HC2.out.next h3 hRB h2
  have hnm : (Cg.nm s A).size = 4 := extract_size s (A + 4) 4 (by omega)
  rw [piece_name]
  obtain ⟨nm, hnmE⟩ : ∃ nm, nm = Cg.nm s A := ⟨_, rfl⟩
  have HNM : Hid (nm = Cg.nm s A) := hnmE
  rw [← hnmE] at hnm ⊢
  clear h2 h3 HC2 hnmE
  have HNO : Hid (∀ b, Ch.name nm = b → Calls Try.prog 24 #[.string nm] w3 fun e w' => e = .returned (.bool b) ∧ w' = w3) := fun b hb => by rw [← hb]; exact nameOk_any nm w3 (by omega)
  go_wp2_with fail
  by_cases hname : Ch.name nm = true
  rotate_left
  · have hno : ¬ Cg.Ok s A := fun h => by have := h.2.1; rw [← HNM.out] at this; exact hname this
    refine (HNO.out false (by simpa using hname)).mono ?_
    rintro e w4 ⟨rfl, hw4⟩
    replace hw4 := hw4.symm
    subst hw4
    have HF : Hid (CkEnd w B s A (fault 1) w3) := ckEnd_no 1 (by decide) hno HC3.out.2.1
    clear hno HC3 HNO
    go_wp2_with fail
    refine (insist_no 1 _).mono ?_
    rintro e w4 ⟨rfl, hw4⟩
    replace hw4 := hw4.symm
    subst hw4
    unfold fault
    go_wp2_with fail
    exact ⟨rfl, HF.out⟩
  have HNY : Hid (Ch.name nm = true) := hname
  refine (HNO.out true hname).mono ?_
  rintro e w4 ⟨rfl, hw4⟩
  replace hw4 := hw4.symm
  subst hw4
  clear HNO hname
  go_wp2_with fail
  refine (insist_yes 1 _).mono ?_
  rintro e w4 ⟨rfl, hw4⟩
  replace hw4 := hw4.symm
  subst hw4
  go_wp2_with fail
  by_cases hb : A + 8 + N ≤ s.size
  rotate_left
  · have hno : ¬ Cg.Ok s A := fun h => by have := h.1; rw [← HN.out] at this; omega
    refine (bt_piece_no _ B (A + 8) N s w3 HC3.out.1 (by omega) h8 (by omega)).mono ?_
    rintro e w4 ⟨rfl, -, h2, -⟩
    have HF : Hid (CkEnd w B s A (fault 2) w4) := ckEnd_no 2 (by decide) hno (HC3.out.2.1.trans h2)
    clear h2 hno HC3
    unfold fault
    go_wp2_with fail
    exact ⟨rfl, HF.out⟩
  refine (bt_piece_yes _ B (A + 8) N s w3 HC3.out.1 (by omega) hb).mono ?_
  rintro e w4 ⟨rfl, h2, h3, -⟩
  have HC4 : Hid (Cst w B R s (A + 8 + N) w4) := HC3.out.next h3 hRB h2
  have hbd : (s.extract (A + 8) (A + 8 + N)).size = N := extract_size s (A + 8) N hb
  obtain ⟨bd, hbdE⟩ : ∃ bd, bd = s.extract (A + 8) (A + 8 + N) := ⟨_, rfl⟩
  have HBD : Hid (bd = Cg.bd s A) := by show _ = _; rw [hbdE, HN.out]; rfl
  rw [← hbdE] at hbd ⊢
  clear h2 h3 HC3 hbdE
  go_wp2_with fail
  by_cases hc : A + 8 + N + 4 ≤ s.size
  rotate_left
  · have hno : ¬ Cg.Ok s A := fun h => by have := h.1; rw [← HN.out] at this; omega
    refine (ccNumber_no B (A + 8 + N) s w4 HC4.out.1 hs hb (by omega)).mono ?_
    rintro e w5 ⟨rfl, h2⟩
    have HF : Hid (CkEnd w B s A (fault 2) w5) := ckEnd_no 2 (by decide) hno (HC4.out.2.1.trans h2)
    clear h2 hno HC4
    unfold fault
    go_wp2_with fail
    exact ⟨rfl, HF.out⟩
  refine (ccNumber_yes B (A + 8 + N) s w4 HC4.out.1 hs hc).mono ?_
  rintro e w5 ⟨rfl, h2, h3⟩
  have HC5 : Hid (Cst w B R s (A + 8 + N + 4) w5) := HC4.out.next h3 hRB h2
  obtain ⟨K, hK⟩ : ∃ K, K = Cg.n4 s (A + 8 + N) := ⟨_, rfl⟩
  have HK : Hid (K = Cg.n4 s (A + 8 + N)) := hK
  rw [← hK]
  clear h2 h3 HC4 hK
  have HCR : Hid (∀ w : World, Calls Try.prog 26 #[.string (nm ++ bd)] w fun e w' => e = .returned (.int .i64 ((Ch.crc (nm, bd) : Nat) : Int)) ∧ Below w.heap.size w w') := fun w => by
    have hz : (nm ++ bd).size ≤ 9000 := by rw [ByteArray.size_append]; omega
    have h1 := impl_crc32 (nm ++ bd) w (by unfold maxLen; omega)
    rw [Ch.crc_ans (p := (nm, bd)) hz] at h1
    exact h1
  obtain ⟨C, hC⟩ : ∃ C, C = Ch.crc (nm, bd) := ⟨_, rfl⟩
  have HCE : Hid (C = Ch.crc (nm, bd)) := hC
  rw [← hC] at HCR
  clear hC
  go_wp2_with fail
  refine (HCR.out _).mono ?_
  rintro e w6 ⟨rfl, hb6⟩
  have HC6 : Hid (Cst w B R s (A + 8 + N + 4) w6) := HC5.out.up hb6
  clear hb6 HC5 HCR
  by_cases hq : K = C
  rotate_left
  · have hno : ¬ Cg.Ok s A := fun h => by
      have h3 := h.2.2
      rw [← HN.out, ← HNM.out, ← HBD.out, ← HK.out, ← HCE.out] at h3
      exact hq h3
    have HF : Hid (CkEnd w B s A (fault 1) w6) := ckEnd_no 1 (by decide) hno HC6.out.2.1
    have hqi : ¬ (K : Int) = (C : Int) := by omega
    clear hno HC6
    go_wp2_with fail
    refine (insist_not _ 1 _ (by first | rfl | simp <;> omega)).mono ?_
    rintro e w7 ⟨rfl, hw7⟩
    replace hw7 := hw7.symm
    subst hw7
    unfold fault
    go_wp2_with fail
    exact ⟨rfl, HF.out⟩
  have HOK : Hid (Cg.Ok s A) := ⟨by rw [← HN.out]; omega, by rw [← HNM.out]; exact HNY.out, by rw [← HN.out, ← HNM.out, ← HBD.out, ← HK.out, ← HCE.out]; exact hq⟩
  subst hq
  go_wp2_with fail
  refine (insist_of _ 1 _ (by first | rfl | simp <;> omega)).mono ?_
  rintro e w7 ⟨rfl, hw7⟩
  replace hw7 := hw7.symm
  subst hw7
  have HL1 : Hid (∀ w : World, Calls Try.prog 33 #[.string nm] w fun e w' => e = .returned (.string nm) ∧ Below w.heap.size w w') := fun w => clone_any nm w (by omega)
  have HL2 : Hid (∀ w : World, Calls Try.prog 33 #[.string bd] w fun e w' => e = .returned (.string bd) ∧ Below w.heap.size w w') := fun w => clone_any bd w (by omega)
  go_wp2_with fail
  refine (HL1.out _).mono ?_
  rintro e w7 ⟨rfl, hb7⟩
  have HC7 : Hid (Cst w B R s (A + 8 + N + 4) w7) := HC6.out.up hb7
  clear hb7 HC6 HL1
  go_wp2_with fail
  refine (HL2.out _).mono ?_
  rintro e w8 ⟨rfl, hb8⟩
  have HC8 : Hid (Cst w B R s (A + 8 + N + 4) w8) := HC7.out.up hb8
  clear hb8 HC7 HL2
  have hrow := HC8.out.2.2
  have r0 : w8.cell? ⟨R, 0, none⟩ = some (.string ⟨#[]⟩) := by simp [World.cell?, hrow]
  have r1 : w8.cell? ⟨R, 1, none⟩ = some (.string ⟨#[]⟩) := by simp [World.cell?, hrow]
  have z0 : w8.frozen? ⟨R, 0, none⟩ = false := by simp [World.frozen?, hrow]
  have z1 : w8.frozen? ⟨R, 1, none⟩ = false := by simp [World.frozen?, hrow]
  clear hrow
  have HF : Hid (CkEnd w B s A (.returned (.agg #[.string nm, .string bd])) ((w8.setCell ⟨R, 0, none⟩ (.string nm)).setCell ⟨R, 1, none⟩ (.string bd))) := by
    have hBw : B < w.heap.size := by rw [← HR.out]; exact hBR
    refine ⟨(HC8.out.2.1.set (by rw [HR.out]; exact Nat.le_refl _) hBw 0 _).set (by rw [HR.out]; exact Nat.le_refl _) hBw 1 _, .inl ⟨HOK.out, by rw [HNM.out, HBD.out], ?_⟩⟩
    rw [← HN.out, show A + 12 + N = A + 8 + N + 4 by omega]
    exact (Below.heap_setCell _ ⟨R, 1, none⟩ _ B (fun e => hRB e.symm)).trans ((Below.heap_setCell _ ⟨R, 0, none⟩ _ B (fun e => hRB e.symm)).trans HC8.out.1)
  have q1 : ((w8.setCell ⟨R, 0, none⟩ (.string nm)).setCell ⟨R, 1, none⟩ (.string bd)).cell? ⟨R, 1, none⟩ = some (.string bd) := World.cell?_setCell_same _ _ _ ((World.cell?_setCell_other _ _ _ _ (fun e => by have := congrArg Addr.off e; simp at this)).trans r1)
  have q0 : ((w8.setCell ⟨R, 0, none⟩ (.string nm)).setCell ⟨R, 1, none⟩ (.string bd)).cell? ⟨R, 0, none⟩ = some (.string nm) := (World.cell?_setCell_other _ _ _ _ (fun e => by have := congrArg Addr.off e; simp at this)).trans (World.cell?_setCell_same _ _ _ r0)
  clear HC8 HOK HNM HBD HK HCE HNY HN
  go_wp2_with fail
  refine bodyPost_ret (v := .agg #[.string nm, .string bd]) (by simp [results, Try.results22, go_sem, q0, q1]) rfl HF.out
end Go.Proofs.Ytgbcjkpmiceddaa
