/- The draw of a picture: l14Image. -/
import Derived.Deep.DeepCutAuto
import Derived.Deep.CutBlock
import Derived.Test.YteldjmocbbbinaaGreatDoorKFRepx0
namespace Go.Proofs.YteldjmocbbbinaaGreatDoor
open Go.RowKit

set_option linter.unusedSimpArgs false in
set_option maxHeartbeats 4000000 in
set_option maxRecDepth 20000 in
theorem l14Image_any (B p : Nat) (w : World) (hr : RdAt w B p) (hp : p ≤ 100000) :
    Calls Tryz.prog 30 #[.pointer (some ⟨B, 0, none⟩)] w fun e w' => PicOut w.heap.size e w' ∧ (∃ q, q ≤ p + 5000 ∧ RdAt w' B q) ∧ Only B w w' := by
  obtain ⟨i0, hi0, hz0, hz1, hz2⟩ := info_parts info_int
  have hlt0 := hr.lt
  have HR0 : Hid (RdAt (w.alloc (.cells #[.int .i64 0, .int .i64 0, .int .i64 0, .int .i64 0, .slice none 0 0, .slice none 0 0] 25)) B p) := hr.alloc _
  have HO0 : Hid (Only B w (w.alloc (.cells #[.int .i64 0, .int .i64 0, .int .i64 0, .int .i64 0, .slice none 0 0, .slice none 0 0] 25))) := (Only.refl B w).alloc hlt0 _
  have HZ0 : Hid ((w.alloc (.cells #[.int .i64 0, .int .i64 0, .int .i64 0, .int .i64 0, .slice none 0 0, .slice none 0 0] 25)).heap[w.heap.size]? = some (.cells #[.int .i64 0, .int .i64 0, .int .i64 0, .int .i64 0, .slice none 0 0, .slice none 0 0] 25 (0, 0))) := heap_alloc_new _ _
  clear hr
  go_enter Tryz.func30, Tryz.ntmps30
  go_wp2_with fail
  refine (pick_named B p _ _ HR0.out (by omega) (by omega) (by omega)).mono ?_
  rintro e w1 ⟨v1, rfl, hv1, hR1, hO1, hs1⟩
  go_wp2_with fail
  refine (pick_named B (p + 1) _ _ hR1 (by omega) (by omega) (by omega)).mono ?_
  rintro e w2 ⟨v2, rfl, hv2, hR2, hO2, hs2⟩
  go_wp2_with fail
  refine (pick_named B (p + 2) _ _ hR2 (by omega) (by omega) (by omega)).mono ?_
  rintro e w3 ⟨v3, rfl, hv3, hR3, hO3, hs3⟩
  have hs : w3.heap.size = w.heap.size + 1 := by rw [hs3, hs2, hs1]; simp
  have hO4 := hO1.trans (hO2.trans hO3)
  have HL : ∀ k d wd hi : Int, LI w (w3.alloc (.cells #[.int .i64 k, .int .i64 d, .int .i64 wd, .int .i64 hi, .slice none 0 0, .slice none 0 0] 25)) B (w.heap.size + 1) (p + 3) k d wd hi (.slice none 0 0) (.slice none 0 0) := fun k d wd hi =>
    ⟨hR3.alloc _, (HO0.out.trans hO4).alloc hR3.lt _, (heap_alloc_old _ _ (show w.heap.size < w3.heap.size by omega)).trans ((hO4.rest _ (by simp) (by omega)).trans HZ0.out), by rw [← hs]; exact heap_alloc_new _ _, hlt0, by omega⟩
  have HL1 : Hid (LI w (w3.alloc (.cells #[.int .i64 ((v1 + 1 : Nat) : Int), .int .i64 0, .int .i64 ((v2 + 1 : Nat) : Int), .int .i64 ((v3 + 1 : Nat) : Int), .slice none 0 0, .slice none 0 0] 25)) B (w.heap.size + 1) (p + 3) ((v1 + 1 : Nat) : Int) ((0 : Nat) : Int) ((v2 + 1 : Nat) : Int) ((v3 + 1 : Nat) : Int) (.slice none 0 0) (.slice none 0 0)) := HL _ _ _ _
  clear HL hR1 hR2 hR3 hO1 hO2 hO3 hs1 hs2 hs3 HR0 HO0 HZ0 hO4
  obtain ⟨k, hk⟩ : ∃ k : Nat, k = v1 + 1 := ⟨_, rfl⟩
  obtain ⟨wd, hwd⟩ : ∃ k : Nat, k = v2 + 1 := ⟨_, rfl⟩
  obtain ⟨hi, hhi⟩ : ∃ k : Nat, k = v3 + 1 := ⟨_, rfl⟩
  rw [← hk, ← hwd, ← hhi] at HL1
  have e1 : (1 : Int) + (v1 : Int) = (k : Int) := by omega
  have e2 : (1 : Int) + (v2 : Int) = (wd : Int) := by omega
  have e3 : (1 : Int) + (v3 : Int) = (hi : Int) := by omega
  have f1 := wrap_i64_nat k (by omega)
  have f2 := wrap_i64_nat wd (by omega)
  have f3 := wrap_i64_nat hi (by omega)
  have hk4 : 1 ≤ k ∧ k ≤ 4 := by omega
  have hwd4 : 1 ≤ wd ∧ wd ≤ 20 := by omega
  have hhi4 : 1 ≤ hi ∧ hi ≤ 20 := by omega
  clear hk hwd hhi hv1 hv2 hv3
  go_wp2_with fail
  refine (pick_named B (p + 3) _ _ HL1.out.rd (by omega) (by omega) (by omega)).mono ?_
  rintro e w4 ⟨v8, rfl, hv8, hR4, hO4, hs4⟩
  have HL4 : Hid (LI w w4 B (w.heap.size + 1) (p + 4) k ((0 : Nat) : Int) wd hi (.slice none 0 0) (.slice none 0 0)) := HL1.out.pick hR4 hO4
  clear HL1 hR4 hO4 hs4 e1 e2 e3 f1 f2 f3 hs hv8
  go_upto_if 21 with fail
  go_cut [] (fun wx => ∃ (q x y : Nat), q ≤ p + 10 ∧ 1 ≤ x ∧ x ≤ 20 ∧ 1 ≤ y ∧ y ≤ 20 ∧ LI w wx B (w.heap.size + 1) q k ((0 : Nat) : Int) x y (.slice none 0 0) (.slice none 0 0))
  case first =>
    by_cases h8 : v8 = 0
    · subst h8
      go_wp2_with fail
      refine (pick_named B (p + 4) _ _ HL4.out.rd (by omega) (by omega) (by omega)).mono ?_
      rintro e w5 ⟨x0, rfl, hx0, hR5, hO5, hs5⟩
      have HL5 : Hid (LI w w5 B (w.heap.size + 1) (p + 5) k ((0 : Nat) : Int) wd hi (.slice none 0 0) (.slice none 0 0)) := HL4.out.pick hR5 hO5
      clear hR5 hO5 hs5 HL4
      obtain ⟨x, hx⟩ : ∃ x : Nat, x = x0 + 1 := ⟨_, rfl⟩
      have e1 : (1 : Int) + (x0 : Int) = (x : Int) := by omega
      have hx1 : 1 ≤ x ∧ x ≤ 20 := by omega
      have f1 := wrap_i64_nat x (by omega)
      clear hx hx0
      obtain ⟨⟨z0, z1, z2, z3, z4, z5⟩, y0, y1, y2, y3, y4, y5⟩ := box6 HL5.out.box
      have HL6 : Hid (LI w _ B (w.heap.size + 1) (p + 5) k ((0 : Nat) : Int) x hi (.slice none 0 0) (.slice none 0 0)) := HL5.out.setw (x : Int)
      go_wp2_with fail
      refine (pick_named B (p + 5) _ _ HL6.out.rd (by omega) (by omega) (by omega)).mono ?_
      rintro e w7 ⟨t0, rfl, ht0, hR7, hO7, hs7⟩
      have HL7 : Hid (LI w w7 B (w.heap.size + 1) (p + 6) k ((0 : Nat) : Int) x hi (.slice none 0 0) (.slice none 0 0)) := HL6.out.pick hR7 hO7
      clear hR7 hO7 hs7 HL6 HL5 z0 z1 z2 z3 z4 z5 y0 y1 y2 y3 y4 y5 e1 f1
      obtain ⟨t, ht⟩ : ∃ t : Nat, t = t0 + 1 := ⟨_, rfl⟩
      have e1 : (1 : Int) + (t0 : Int) = (t : Int) := by omega
      have ht1 : 1 ≤ t ∧ t ≤ 20 := by omega
      have f1 := wrap_i64_nat t (by omega)
      clear ht ht0
      obtain ⟨⟨z0, z1, z2, z3, z4, z5⟩, y0, y1, y2, y3, y4, y5⟩ := box6 HL7.out.box
      have HL8 : Hid (LI w _ B (w.heap.size + 1) (p + 6) k ((0 : Nat) : Int) x t (.slice none 0 0) (.slice none 0 0)) := HL7.out.seth (t : Int)
      clear HL7
      go_wp2_with fail
      go_meet
      exact ⟨p + 6, x, t, by omega, hx1.1, hx1.2, ht1.1, ht1.2, HL8.out⟩
    · have h8i : ¬ (v8 : Int) = 0 := by omega
      go_wp2_with fail
      go_meet
      exact ⟨p + 4, wd, hi, by omega, hwd4.1, hwd4.2, hhi4.1, hhi4.2, HL4.out⟩
  case rest =>
  clear HL4
  obtain ⟨q, x, y, hq, hx1, hx2, hy1, hy2, hL⟩ := hcut
  have hltB := hL.rd.lt
  have HLa : Hid (LI w (wc.alloc (.cells #[.int .i64 1, .int .i64 2, .int .i64 4, .int .i64 8] 3)) B (w.heap.size + 1) q k ((0 : Nat) : Int) x y (.slice none 0 0) (.slice none 0 0)) := hL.alloc _
  clear hL
  go_wp2_with fail
  refine (pick_named B q _ _ HLa.out.rd (by omega) (by omega) (by omega)).mono ?_
  rintro e w5 ⟨g, rfl, hg, hR5, hO5, hs5⟩
  have HL5 : Hid (LI w w5 B (w.heap.size + 1) (q + 1) k ((0 : Nat) : Int) x y (.slice none 0 0) (.slice none 0 0)) := HLa.out.pick hR5 hO5
  obtain ⟨d, hd, hcd⟩ : ∃ d : Nat, (d = 1 ∨ d = 2 ∨ d = 4 ∨ d = 8) ∧ w5.cell? ⟨wc.heap.size, g, none⟩ = some (.int .i64 (d : Int)) := by
    have hh := heap_alloc_new wc (.cells #[.int .i64 1, .int .i64 2, .int .i64 4, .int .i64 8] 3)
    rw [hO5.cell _ _ (by simp) (by omega)]
    rcases (by omega : g = 0 ∨ g = 1 ∨ g = 2 ∨ g = 3) with rfl | rfl | rfl | rfl
    · exact ⟨1, by simp, by simp only [World.cell?, hh]; rfl⟩
    · exact ⟨2, by simp, by simp only [World.cell?, hh]; rfl⟩
    · exact ⟨4, by simp, by simp only [World.cell?, hh]; rfl⟩
    · exact ⟨8, by simp, by simp only [World.cell?, hh]; rfl⟩
  obtain ⟨⟨z0, z1, z2, z3, z4, z5⟩, y0, y1, y2, y3, y4, y5⟩ := box6 HL5.out.box
  have HL6 : Hid (LI w (w5.setCell ⟨w.heap.size + 1, 1, none⟩ (.int .i64 (d : Int))) B (w.heap.size + 1) (q + 1) k (d : Int) x y (.slice none 0 0) (.slice none 0 0)) := HL5.out.setd (d : Int)
  have hgi : (g : Int) < 4 := by omega
  clear hR5 hO5 hs5 HLa HL5
  go_upto_region 6 with fail
  clear z0 z1 z2 z3 z4 z5 y0 y1 y2 y3 y4 y5 hcd hg hgi hltB
  obtain ⟨w6, hw6⟩ : ∃ w6, w6 = w5.setCell ⟨w.heap.size + 1, 1, none⟩ (.int .i64 (d : Int)) := ⟨_, rfl⟩
  rw [← hw6] at HL6
  rw [← hw6]
  clear hw6
  obtain ⟨⟨z0, z1, z2, z3, z4, z5⟩, y0, y1, y2, y3, y4, y5⟩ := box6 HL6.out.box
  go_upto_block 0 with fail
  go_cut [4, 5, 37] (fun _ _ _ wx => ∃ (q d n : Nat) (v4 : Value) (cs : List Int), q ≤ p + 900 ∧ 1 ≤ d ∧ d ≤ 32 ∧ (k = 4 → 1 ≤ n) ∧ n ≤ 256 ∧ CX w wx B (w.heap.size + 1) q k d x y v4 n cs)
  case first =>
    have hd8 : 1 ≤ d ∧ d ≤ 8 := by omega
    clear hd
    have HE : Hid (OwnI w6 (w.heap.size + 1 + 1) (.slice none 0 0) 0 []) := World.ownsRow_nil _ _ _ _
    rcases (show k = 1 ∨ k = 2 ∨ k = 3 ∨ k = 4 by omega) with rfl | rfl | rfl | rfl
    · go_wp2_with fail
      go_meet
      exact ⟨q + 1, d, 0, .slice none 0 0, [], by omega, by omega, by omega, by omega, by omega, HL6.out, HE.out⟩
    · have HL7 : Hid (CX w _ B (w.heap.size + 1) (q + 1) ((2 : Nat) : Int) ((24 : Nat) : Int) x y (.slice none 0 0) 0 []) := ⟨HL6.out.setd ((24 : Nat) : Int), HE.out.set (by omega)⟩
      go_wp2_with fail
      go_meet
      exact ⟨q + 1, 24, 0, .slice none 0 0, [], by omega, by omega, by omega, by omega, by omega, HL7.out⟩
    · have HL7 : Hid (CX w _ B (w.heap.size + 1) (q + 1) ((3 : Nat) : Int) ((32 : Nat) : Int) x y (.slice none 0 0) 0 []) := ⟨HL6.out.setd ((32 : Nat) : Int), HE.out.set (by omega)⟩
      go_wp2_with fail
      go_meet
      exact ⟨q + 1, 32, 0, .slice none 0 0, [], by omega, by omega, by omega, by omega, by omega, HL7.out⟩
    · obtain ⟨Q, hQ⟩ : ∃ Q, Q = 2 ^ d := ⟨_, rfl⟩
      have hQ1 : 1 ≤ Q := by rw [hQ]; exact Nat.pow_pos (by omega)
      have hQ2 : Q ≤ 256 := by rw [hQ]; exact Nat.le_trans (Nat.pow_le_pow_right (by omega) hd8.2) (by decide)
      have HP : Hid (∀ w, Calls Tryz.prog 27 #[.int .i64 (d : Int)] w fun e w' => e = .returned (.int .i64 (Q : Int)) ∧ w' = w) := by
        intro w; rw [hQ]; exact l1Pow_any d w (by omega)
      clear hQ
      go_wp2_with fail
      refine (HP.out _).mono ?_
      rintro e w7 ⟨rfl, hw7⟩
      subst hw7
      go_wp2_with fail
      refine (pick_named B (q + 1) _ _ HL6.out.rd (by omega) (by omega) (by omega)).mono ?_
      rintro e w8 ⟨u0, rfl, hu0, hR8, hO8, hs8⟩
      have HX : Hid (CX w w8 B (w.heap.size + 1) (q + 1 + 1) 4 d x y (.slice none 0 0) 0 []) := ⟨HL6.out.pick hR8 hO8, HE.out.only hO8 (by omega)⟩
      clear HL6 HE hR8 hO8 hs8 z0 z1 z2 z3 z4 z5 y0 y1 y2 y3 y4 y5 HP
      go_upto_if 51 with fail
      go_cut [4] (fun s4 wx => ∃ (q1 n : Nat), s4 = .int .i64 (n : Int) ∧ 1 ≤ n ∧ n ≤ 256 ∧ q1 ≤ p + 20 ∧ CX w wx B (w.heap.size + 1) q1 4 d x y (.slice none 0 0) 0 [])
      case first =>
        by_cases h8 : u0 = 0
        · subst h8
          go_wp2_with fail
          refine (pick_named B (q + 1 + 1) _ _ HX.out.li.rd (by omega) (by omega) (by omega)).mono ?_
          rintro e w9 ⟨x0, rfl, hx0, hR5, hO5, hs5⟩
          have HX5 : Hid (CX w w9 B (w.heap.size + 1) (q + 1 + 1 + 1) 4 d x y (.slice none 0 0) 0 []) := HX.out.pick hR5 hO5
          clear hR5 hO5 hs5 HX
          obtain ⟨t, ht⟩ : ∃ t : Nat, t = x0 + 1 := ⟨_, rfl⟩
          have e1 : (1 : Int) + (x0 : Int) = (t : Int) := by omega
          have ht1 : 1 ≤ t ∧ t ≤ 256 := by omega
          have f1 := wrap_i64_nat t (by omega)
          clear ht hx0
          go_wp2_with fail
          go_meet
          exact ⟨q + 1 + 1 + 1, t, rfl, ht1.1, ht1.2, by omega, HX5.out⟩
        · have h8i : ¬ (u0 : Int) = 0 := by omega
          go_wp2_with fail
          go_meet
          exact ⟨q + 1 + 1, Q, rfl, hQ1, hQ2, by omega, HX.out⟩
      case rest =>
      clear HX
      obtain ⟨q2, n, rfl, hn1, hn2, hq2, hX2⟩ := hcut
      have HX2 : Hid (CX w _ B (w.heap.size + 1) q2 4 d x y (.slice none 0 0) 0 []) := hX2
      clear hX2 hu0
      go_wp2_with fail
      go_loopw [5] (fun i wr => ∃ (j q1 : Nat) (v : Value) (cs : List Int), i = .int .i64 (j : Int) ∧ j ≤ n ∧ q1 ≤ q2 + 3 * j ∧ CX w wr B (w.heap.size + 1) q1 4 d x y v j cs) (fun i _ => n - (intOf i).toNat)
      case atStart => exact ⟨0, q2, .slice none 0 0, [], rfl, by omega, by omega, HX2.out⟩
      case round =>
        obtain ⟨j, q1, v, cs, rfl, hj, hq1, hX⟩ := hrel
        clear HX2
        by_cases hjn : j < n
        · have hji : (j : Int) < (n : Int) := by omega
          have HX0 : Hid (CX w wr.drew B (w.heap.size + 1) (q1 + 0) 4 d x y v j cs) := hX.drew
          have c0 : wr.cell? ⟨w.heap.size + 1, 4, none⟩ = some v := (box6 hX.li.box).1.2.2.2.2.1
          clear hX
          go_wp2_with fail
          refine wp_region_held_drew (S := fun _ => True) (by kernel_rfl) trivial (fun _ => ?_)
          refine wpAnyH_take (i := 0) (v := .pointer (some ⟨w.heap.size + 1, 4, none⟩)) rfl (by kernel_rfl) (by kernel_rfl) (by kernel_rfl) (fun _ _ _ h => h) (Or.inl ⟨by rfl, ?_⟩) trivial ?_
          · intro w' _
            go_simp
          try simp only [Act.put, List.setIfInBounds_toArray, List.set_cons_zero, List.set_cons_succ]
          refine wpAnyH_take (i := 2) (v := .pointer (some ⟨B, 0, none⟩)) rfl (by kernel_rfl) (by kernel_rfl) (by kernel_rfl) (fun _ _ _ h => h) (Or.inl ⟨by rfl, ?_⟩) trivial ?_
          · intro w' _
            go_simp
          try simp only [Act.put, List.setIfInBounds_toArray, List.set_cons_zero, List.set_cons_succ]
          refine wpAnyH_take (i := 5) (v := .pointer (some ⟨B, 0, none⟩)) rfl (by kernel_rfl) (by kernel_rfl) (by kernel_rfl) (fun _ _ _ h => h) (Or.inl ⟨by rfl, ?_⟩) trivial ?_
          · intro w' _
            go_simp
          try simp only [Act.put, List.setIfInBounds_toArray, List.set_cons_zero, List.set_cons_succ]
          refine wpAnyH_take (i := 9) (v := .pointer (some ⟨B, 0, none⟩)) rfl (by kernel_rfl) (by kernel_rfl) (by kernel_rfl) (fun _ _ _ h => h) (Or.inl ⟨by rfl, ?_⟩) trivial ?_
          · intro w' _
            go_simp
          try simp only [Act.put, List.setIfInBounds_toArray, List.set_cons_zero, List.set_cons_succ]
          refine wpAnyH_ready (rs := [1, 3]) (by kernel_rfl) (by simp) ?_
          refine AllReadyH.cons rfl (fun K hK => ?_) (AllReadyH.cons rfl (fun K hK => ?_) AllReadyH.nil)
          · go_simp
            refine hK.out _ _ trivial (fun _ => ?_)
            clear hK K
            try simp only [Act.put, List.setIfInBounds_toArray, List.set_cons_zero, List.set_cons_succ]
            refine wpAnyH_ready (rs := [3]) (by kernel_rfl) (by simp) ?_
            refine AllReadyH.cons rfl (fun K hK => ?_) AllReadyH.nil
            go_simp
            refine (pick_named B (q1 + 0) _ _ HX0.out.li.rd (by omega) (by omega) (by omega)).mono ?_
            rintro e wy1 ⟨x1, rfl, hx1, hRy, hOy, hsy⟩
            have HX1 : Hid (CX w wy1 B (w.heap.size + 1) (q1 + 1) 4 d x y v j cs) := HX0.out.pick hRy hOy
            have c1 : wy1.cell? ⟨w.heap.size + 1, 4, none⟩ = some v := (box6 HX1.out.li.box).1.2.2.2.2.1
            clear hRy hOy hsy
            go_wp2_with fail
            refine hK.out _ _ trivial (fun _ => ?_)
            clear hK K
            try simp only [Act.put, List.setIfInBounds_toArray, List.set_cons_zero, List.set_cons_succ]
            obtain ⟨m1, hm1⟩ : ∃ m : Nat, m = x1 * 65536 := ⟨_, rfl⟩
            have e1 : (x1 : Int) * 65536 = (m1 : Int) := by omega
            have f1 := wrap_i64_nat m1 (by omega)
            have hm1' : m1 ≤ 16777216 := by omega
            clear hm1 hx1
            refine wpAnyH_take (i := 4) (v := .int .i64 (m1 : Int)) rfl (by kernel_rfl) (by kernel_rfl) (by kernel_rfl) (fun _ _ _ h => h) (Or.inl ⟨by rfl, ?_⟩) trivial ?_
            · intro w' _
              go_simp
            try simp only [Act.put, List.setIfInBounds_toArray, List.set_cons_zero, List.set_cons_succ]
            refine wpAnyH_ready (rs := [6]) (by kernel_rfl) (by simp) ?_
            refine AllReadyH.cons rfl (fun K hK => ?_) AllReadyH.nil
            go_simp
            refine (pick_named B (q1 + 1) _ _ HX1.out.li.rd (by omega) (by omega) (by omega)).mono ?_
            rintro e wy2 ⟨x2, rfl, hx2, hRy, hOy, hsy⟩
            have HX2 : Hid (CX w wy2 B (w.heap.size + 1) (q1 + 2) 4 d x y v j cs) := HX1.out.pick hRy hOy
            have c2 : wy2.cell? ⟨w.heap.size + 1, 4, none⟩ = some v := (box6 HX2.out.li.box).1.2.2.2.2.1
            clear hRy hOy hsy
            go_wp2_with fail
            refine hK.out _ _ trivial (fun _ => ?_)
            clear hK K
            try simp only [Act.put, List.setIfInBounds_toArray, List.set_cons_zero, List.set_cons_succ]
            obtain ⟨m2, hm2⟩ : ∃ m : Nat, m = x2 * 256 := ⟨_, rfl⟩
            have e2 : (x2 : Int) * 256 = (m2 : Int) := by omega
            have f2 := wrap_i64_nat m2 (by omega)
            obtain ⟨m3, hm3⟩ : ∃ m : Nat, m = m1 + m2 := ⟨_, rfl⟩
            have e3 : (m1 : Int) + (m2 : Int) = (m3 : Int) := by omega
            have f3 := wrap_i64_nat m3 (by omega)
            have hm3' : m3 ≤ 17777216 := by omega
            clear hm2 hm3 hx2
            refine wpAnyH_take (i := 7) (v := .int .i64 (m2 : Int)) rfl (by kernel_rfl) (by kernel_rfl) (by kernel_rfl) (fun _ _ _ h => h) (Or.inl ⟨by rfl, ?_⟩) trivial ?_
            · intro w' _
              go_simp
            try simp only [Act.put, List.setIfInBounds_toArray, List.set_cons_zero, List.set_cons_succ]
            refine wpAnyH_take (i := 8) (v := .int .i64 (m3 : Int)) rfl (by kernel_rfl) (by kernel_rfl) (by kernel_rfl) (fun _ _ _ h => h) (Or.inl ⟨by rfl, ?_⟩) trivial ?_
            · intro w' _
              go_simp
            try simp only [Act.put, List.setIfInBounds_toArray, List.set_cons_zero, List.set_cons_succ]
            refine wpAnyH_ready (rs := [10]) (by kernel_rfl) (by simp) ?_
            refine AllReadyH.cons rfl (fun K hK => ?_) AllReadyH.nil
            go_simp
            refine (pick_named B (q1 + 2) _ _ HX2.out.li.rd (by omega) (by omega) (by omega)).mono ?_
            rintro e wy3 ⟨x3, rfl, hx3, hRy, hOy, hsy⟩
            have HX3 : Hid (CX w wy3 B (w.heap.size + 1) (q1 + 3) 4 d x y v j cs) := HX2.out.pick hRy hOy
            have c3 : wy3.cell? ⟨w.heap.size + 1, 4, none⟩ = some v := (box6 HX3.out.li.box).1.2.2.2.2.1
            clear hRy hOy hsy
            go_wp2_with fail
            refine hK.out _ _ trivial (fun _ => ?_)
            clear hK K
            try simp only [Act.put, List.setIfInBounds_toArray, List.set_cons_zero, List.set_cons_succ]
            obtain ⟨m4, hm4⟩ : ∃ m : Nat, m = m3 + x3 := ⟨_, rfl⟩
            have e4 : (m3 : Int) + (x3 : Int) = (m4 : Int) := by omega
            have f4 := wrap_i64_nat m4 (by omega)
            clear hm4 hx3
            have c4 : ∀ o, (wy3.alloc o).cell? ⟨w.heap.size + 1, 4, none⟩ = some v := fun o => (box6 (HX3.out.alloc o).li.box).1.2.2.2.2.1
            refine wpAnyH_take (i := 11) (v := .int .i64 (m4 : Int)) rfl (by kernel_rfl) (by kernel_rfl) (by kernel_rfl) (fun _ _ _ h => h) (Or.inl ⟨by rfl, ?_⟩) trivial ?_
            · intro w' _
              go_simp
            try simp only [Act.put, List.setIfInBounds_toArray, List.set_cons_zero, List.set_cons_succ]
            refine wpAnyH_ready (rs := [12]) (by kernel_rfl) (by simp) ?_
            refine AllReadyH.cons rfl (fun K hK => ?_) AllReadyH.nil
            go_simp
            refine hK.out _ _ trivial (fun _ => ?_)
            clear hK K
            try simp only [Act.put, List.setIfInBounds_toArray, List.set_cons_zero, List.set_cons_succ]
            refine wpAnyH_ready (rs := [13]) (by kernel_rfl) (by simp) ?_
            refine AllReadyH.cons rfl (fun K hK => ?_) AllReadyH.nil
            refine step_append_ints (by rfl) _ _ (by rfl) (w.heap.size + 1 + 1) v j cs (by rfl) (show OwnI _ _ _ _ _ from (HX3.out.alloc _).own) (some ⟨wy3.heap.size, 0, none⟩) 1 1 [(m4 : Int)] (by rfl) (show Ints _ _ _ from ints_one wy3 (m4 : Int)) rfl (by omega) (by have := lt_of_block HX3.out.li.box; simp; omega) ?_
            intro ya cy w8 hO8 hG8
            simp only [List.getElem_toArray, List.getElem_cons_succ, List.getElem_cons_zero, Act.put, List.setIfInBounds_toArray, List.set_cons_zero, List.set_cons_succ]
            have hL8 := (HX3.out.alloc _).grow hG8
            have HX8 : Hid (CX w (w8.setCell ⟨w.heap.size + 1, 4, none⟩ (.slice ya (j + 1) cy)) B (w.heap.size + 1) (q1 + 3) 4 d x y (.slice ya (j + 1) cy) (j + 1) (cs ++ [(m4 : Int)])) := ⟨hL8.set4 _, hO8.set (by omega)⟩
            obtain ⟨⟨z0, z1, z2, z3, z4, z5⟩, y0, y1, y2, y3, y4, y5⟩ := box6 hL8.box
            clear hO8 hG8 hL8
            refine hK.out _ _ trivial (fun _ => ?_)
            clear hK K
            try simp only [Act.put, List.setIfInBounds_toArray, List.set_cons_zero, List.set_cons_succ]
            refine wpAnyH_take (i := 14) (v := .pointer (some ⟨w.heap.size + 1, 4, none⟩)) rfl (by kernel_rfl) (by kernel_rfl) (by kernel_rfl) (fun _ _ _ h => h) (Or.inl ⟨by rfl, ?_⟩) trivial ?_
            · intro w' _
              go_simp
            try simp only [Act.put, List.setIfInBounds_toArray, List.set_cons_zero, List.set_cons_succ]
            refine wpAnyH_ready (rs := [15]) (by kernel_rfl) (by simp) ?_
            refine AllReadyH.cons rfl (fun K hK => ?_) AllReadyH.nil
            go_simp
            refine hK.out _ _ trivial (fun _ => ?_)
            clear hK K
            try simp only [Act.put, List.setIfInBounds_toArray, List.set_cons_zero, List.set_cons_succ]
            refine wpAnyH_done (by kernel_rfl) ?_ _
            clear z0 z1 z2 z3 z4 z5 y0 y1 y2 y3 y4 y5
            go_wp2_with fail
            go_roundw
            case rel => exact ⟨j + 1, q1 + 3, .slice ya (j + 1) cy, cs ++ [(m4 : Int)], by go_num, by omega, by omega, HX8.out⟩
            case measure => simp [intOf]; omega
          · go_simp
            refine (pick_named B (q1 + 0) _ _ HX0.out.li.rd (by omega) (by omega) (by omega)).mono ?_
            rintro e wy1 ⟨x1, rfl, hx1, hRy, hOy, hsy⟩
            have HX1 : Hid (CX w wy1 B (w.heap.size + 1) (q1 + 1) 4 d x y v j cs) := HX0.out.pick hRy hOy
            have c1 : wy1.cell? ⟨w.heap.size + 1, 4, none⟩ = some v := (box6 HX1.out.li.box).1.2.2.2.2.1
            clear hRy hOy hsy
            go_wp2_with fail
            refine hK.out _ _ trivial (fun _ => ?_)
            clear hK K
            try simp only [Act.put, List.setIfInBounds_toArray, List.set_cons_zero, List.set_cons_succ]
            obtain ⟨m1, hm1⟩ : ∃ m : Nat, m = x1 * 65536 := ⟨_, rfl⟩
            have e1 : (x1 : Int) * 65536 = (m1 : Int) := by omega
            have f1 := wrap_i64_nat m1 (by omega)
            have hm1' : m1 ≤ 16777216 := by omega
            clear hm1 hx1
            refine wpAnyH_take (i := 4) (v := .int .i64 (m1 : Int)) rfl (by kernel_rfl) (by kernel_rfl) (by kernel_rfl) (fun _ _ _ h => h) (Or.inl ⟨by rfl, ?_⟩) trivial ?_
            · intro w' _
              go_simp
            try simp only [Act.put, List.setIfInBounds_toArray, List.set_cons_zero, List.set_cons_succ]
            refine wpAnyH_ready (rs := [1, 6]) (by kernel_rfl) (by simp) ?_
            refine AllReadyH.cons rfl (fun K hK => ?_) (AllReadyH.cons rfl (fun K hK => ?_) AllReadyH.nil)
            · go_simp
              refine hK.out _ _ trivial (fun _ => ?_)
              clear hK K
              try simp only [Act.put, List.setIfInBounds_toArray, List.set_cons_zero, List.set_cons_succ]
              refine wpAnyH_ready (rs := [6]) (by kernel_rfl) (by simp) ?_
              refine AllReadyH.cons rfl (fun K hK => ?_) AllReadyH.nil
              go_simp
              refine (pick_named B (q1 + 1) _ _ HX1.out.li.rd (by omega) (by omega) (by omega)).mono ?_
              rintro e wy2 ⟨x2, rfl, hx2, hRy, hOy, hsy⟩
              have HX2 : Hid (CX w wy2 B (w.heap.size + 1) (q1 + 2) 4 d x y v j cs) := HX1.out.pick hRy hOy
              have c2 : wy2.cell? ⟨w.heap.size + 1, 4, none⟩ = some v := (box6 HX2.out.li.box).1.2.2.2.2.1
              clear hRy hOy hsy
              go_wp2_with fail
              refine hK.out _ _ trivial (fun _ => ?_)
              clear hK K
              try simp only [Act.put, List.setIfInBounds_toArray, List.set_cons_zero, List.set_cons_succ]
              obtain ⟨m2, hm2⟩ : ∃ m : Nat, m = x2 * 256 := ⟨_, rfl⟩
              have e2 : (x2 : Int) * 256 = (m2 : Int) := by omega
              have f2 := wrap_i64_nat m2 (by omega)
              obtain ⟨m3, hm3⟩ : ∃ m : Nat, m = m1 + m2 := ⟨_, rfl⟩
              have e3 : (m1 : Int) + (m2 : Int) = (m3 : Int) := by omega
              have f3 := wrap_i64_nat m3 (by omega)
              have hm3' : m3 ≤ 17777216 := by omega
              clear hm2 hm3 hx2
              refine wpAnyH_take (i := 7) (v := .int .i64 (m2 : Int)) rfl (by kernel_rfl) (by kernel_rfl) (by kernel_rfl) (fun _ _ _ h => h) (Or.inl ⟨by rfl, ?_⟩) trivial ?_
              · intro w' _
                go_simp
              try simp only [Act.put, List.setIfInBounds_toArray, List.set_cons_zero, List.set_cons_succ]
              refine wpAnyH_take (i := 8) (v := .int .i64 (m3 : Int)) rfl (by kernel_rfl) (by kernel_rfl) (by kernel_rfl) (fun _ _ _ h => h) (Or.inl ⟨by rfl, ?_⟩) trivial ?_
              · intro w' _
                go_simp
              try simp only [Act.put, List.setIfInBounds_toArray, List.set_cons_zero, List.set_cons_succ]
              refine wpAnyH_ready (rs := [10]) (by kernel_rfl) (by simp) ?_
              refine AllReadyH.cons rfl (fun K hK => ?_) AllReadyH.nil
              go_simp
              refine (pick_named B (q1 + 2) _ _ HX2.out.li.rd (by omega) (by omega) (by omega)).mono ?_
              rintro e wy3 ⟨x3, rfl, hx3, hRy, hOy, hsy⟩
              have HX3 : Hid (CX w wy3 B (w.heap.size + 1) (q1 + 3) 4 d x y v j cs) := HX2.out.pick hRy hOy
              have c3 : wy3.cell? ⟨w.heap.size + 1, 4, none⟩ = some v := (box6 HX3.out.li.box).1.2.2.2.2.1
              clear hRy hOy hsy
              go_wp2_with fail
              refine hK.out _ _ trivial (fun _ => ?_)
              clear hK K
              try simp only [Act.put, List.setIfInBounds_toArray, List.set_cons_zero, List.set_cons_succ]
              obtain ⟨m4, hm4⟩ : ∃ m : Nat, m = m3 + x3 := ⟨_, rfl⟩
              have e4 : (m3 : Int) + (x3 : Int) = (m4 : Int) := by omega
              have f4 := wrap_i64_nat m4 (by omega)
              clear hm4 hx3
              have c4 : ∀ o, (wy3.alloc o).cell? ⟨w.heap.size + 1, 4, none⟩ = some v := fun o => (box6 (HX3.out.alloc o).li.box).1.2.2.2.2.1
              refine wpAnyH_take (i := 11) (v := .int .i64 (m4 : Int)) rfl (by kernel_rfl) (by kernel_rfl) (by kernel_rfl) (fun _ _ _ h => h) (Or.inl ⟨by rfl, ?_⟩) trivial ?_
              · intro w' _
                go_simp
              try simp only [Act.put, List.setIfInBounds_toArray, List.set_cons_zero, List.set_cons_succ]
              refine wpAnyH_ready (rs := [12]) (by kernel_rfl) (by simp) ?_
              refine AllReadyH.cons rfl (fun K hK => ?_) AllReadyH.nil
              go_simp
              refine hK.out _ _ trivial (fun _ => ?_)
              clear hK K
              try simp only [Act.put, List.setIfInBounds_toArray, List.set_cons_zero, List.set_cons_succ]
              refine wpAnyH_ready (rs := [13]) (by kernel_rfl) (by simp) ?_
              refine AllReadyH.cons rfl (fun K hK => ?_) AllReadyH.nil
              refine step_append_ints (by rfl) _ _ (by rfl) (w.heap.size + 1 + 1) v j cs (by rfl) (show OwnI _ _ _ _ _ from (HX3.out.alloc _).own) (some ⟨wy3.heap.size, 0, none⟩) 1 1 [(m4 : Int)] (by rfl) (show Ints _ _ _ from ints_one wy3 (m4 : Int)) rfl (by omega) (by have := lt_of_block HX3.out.li.box; simp; omega) ?_
              intro ya cy w8 hO8 hG8
              simp only [List.getElem_toArray, List.getElem_cons_succ, List.getElem_cons_zero, Act.put, List.setIfInBounds_toArray, List.set_cons_zero, List.set_cons_succ]
              have hL8 := (HX3.out.alloc _).grow hG8
              have HX8 : Hid (CX w (w8.setCell ⟨w.heap.size + 1, 4, none⟩ (.slice ya (j + 1) cy)) B (w.heap.size + 1) (q1 + 3) 4 d x y (.slice ya (j + 1) cy) (j + 1) (cs ++ [(m4 : Int)])) := ⟨hL8.set4 _, hO8.set (by omega)⟩
              obtain ⟨⟨z0, z1, z2, z3, z4, z5⟩, y0, y1, y2, y3, y4, y5⟩ := box6 hL8.box
              clear hO8 hG8 hL8
              refine hK.out _ _ trivial (fun _ => ?_)
              clear hK K
              try simp only [Act.put, List.setIfInBounds_toArray, List.set_cons_zero, List.set_cons_succ]
              refine wpAnyH_take (i := 14) (v := .pointer (some ⟨w.heap.size + 1, 4, none⟩)) rfl (by kernel_rfl) (by kernel_rfl) (by kernel_rfl) (fun _ _ _ h => h) (Or.inl ⟨by rfl, ?_⟩) trivial ?_
              · intro w' _
                go_simp
              try simp only [Act.put, List.setIfInBounds_toArray, List.set_cons_zero, List.set_cons_succ]
              refine wpAnyH_ready (rs := [15]) (by kernel_rfl) (by simp) ?_
              refine AllReadyH.cons rfl (fun K hK => ?_) AllReadyH.nil
              go_simp
              refine hK.out _ _ trivial (fun _ => ?_)
              clear hK K
              try simp only [Act.put, List.setIfInBounds_toArray, List.set_cons_zero, List.set_cons_succ]
              refine wpAnyH_done (by kernel_rfl) ?_ _
              clear z0 z1 z2 z3 z4 z5 y0 y1 y2 y3 y4 y5
              go_wp2_with fail
              go_roundw
              case rel => exact ⟨j + 1, q1 + 3, .slice ya (j + 1) cy, cs ++ [(m4 : Int)], by go_num, by omega, by omega, HX8.out⟩
              case measure => simp [intOf]; omega
            · go_simp
              refine (pick_named B (q1 + 1) _ _ HX1.out.li.rd (by omega) (by omega) (by omega)).mono ?_
              rintro e wy2 ⟨x2, rfl, hx2, hRy, hOy, hsy⟩
              have HX2 : Hid (CX w wy2 B (w.heap.size + 1) (q1 + 2) 4 d x y v j cs) := HX1.out.pick hRy hOy
              have c2 : wy2.cell? ⟨w.heap.size + 1, 4, none⟩ = some v := (box6 HX2.out.li.box).1.2.2.2.2.1
              clear hRy hOy hsy
              go_wp2_with fail
              refine hK.out _ _ trivial (fun _ => ?_)
              clear hK K
              try simp only [Act.put, List.setIfInBounds_toArray, List.set_cons_zero, List.set_cons_succ]
              obtain ⟨m2, hm2⟩ : ∃ m : Nat, m = x2 * 256 := ⟨_, rfl⟩
              have e2 : (x2 : Int) * 256 = (m2 : Int) := by omega
              have f2 := wrap_i64_nat m2 (by omega)
              obtain ⟨m3, hm3⟩ : ∃ m : Nat, m = m1 + m2 := ⟨_, rfl⟩
              have e3 : (m1 : Int) + (m2 : Int) = (m3 : Int) := by omega
              have f3 := wrap_i64_nat m3 (by omega)
              have hm3' : m3 ≤ 17777216 := by omega
              clear hm2 hm3 hx2
              refine wpAnyH_take (i := 7) (v := .int .i64 (m2 : Int)) rfl (by kernel_rfl) (by kernel_rfl) (by kernel_rfl) (fun _ _ _ h => h) (Or.inl ⟨by rfl, ?_⟩) trivial ?_
              · intro w' _
                go_simp
              try simp only [Act.put, List.setIfInBounds_toArray, List.set_cons_zero, List.set_cons_succ]
              refine wpAnyH_take (i := 8) (v := .int .i64 (m3 : Int)) rfl (by kernel_rfl) (by kernel_rfl) (by kernel_rfl) (fun _ _ _ h => h) (Or.inl ⟨by rfl, ?_⟩) trivial ?_
              · intro w' _
                go_simp
              try simp only [Act.put, List.setIfInBounds_toArray, List.set_cons_zero, List.set_cons_succ]
              refine wpAnyH_ready (rs := [1, 10]) (by kernel_rfl) (by simp) ?_
              refine AllReadyH.cons rfl (fun K hK => ?_) (AllReadyH.cons rfl (fun K hK => ?_) AllReadyH.nil)
              · go_simp
                refine hK.out _ _ trivial (fun _ => ?_)
                clear hK K
                try simp only [Act.put, List.setIfInBounds_toArray, List.set_cons_zero, List.set_cons_succ]
                refine wpAnyH_ready (rs := [10]) (by kernel_rfl) (by simp) ?_
                refine AllReadyH.cons rfl (fun K hK => ?_) AllReadyH.nil
                go_simp
                refine (pick_named B (q1 + 2) _ _ HX2.out.li.rd (by omega) (by omega) (by omega)).mono ?_
                rintro e wy3 ⟨x3, rfl, hx3, hRy, hOy, hsy⟩
                have HX3 : Hid (CX w wy3 B (w.heap.size + 1) (q1 + 3) 4 d x y v j cs) := HX2.out.pick hRy hOy
                have c3 : wy3.cell? ⟨w.heap.size + 1, 4, none⟩ = some v := (box6 HX3.out.li.box).1.2.2.2.2.1
                clear hRy hOy hsy
                go_wp2_with fail
                refine hK.out _ _ trivial (fun _ => ?_)
                clear hK K
                try simp only [Act.put, List.setIfInBounds_toArray, List.set_cons_zero, List.set_cons_succ]
                obtain ⟨m4, hm4⟩ : ∃ m : Nat, m = m3 + x3 := ⟨_, rfl⟩
                have e4 : (m3 : Int) + (x3 : Int) = (m4 : Int) := by omega
                have f4 := wrap_i64_nat m4 (by omega)
                clear hm4 hx3
                have c4 : ∀ o, (wy3.alloc o).cell? ⟨w.heap.size + 1, 4, none⟩ = some v := fun o => (box6 (HX3.out.alloc o).li.box).1.2.2.2.2.1
                refine wpAnyH_take (i := 11) (v := .int .i64 (m4 : Int)) rfl (by kernel_rfl) (by kernel_rfl) (by kernel_rfl) (fun _ _ _ h => h) (Or.inl ⟨by rfl, ?_⟩) trivial ?_
                · intro w' _
                  go_simp
                try simp only [Act.put, List.setIfInBounds_toArray, List.set_cons_zero, List.set_cons_succ]
                refine wpAnyH_ready (rs := [12]) (by kernel_rfl) (by simp) ?_
                refine AllReadyH.cons rfl (fun K hK => ?_) AllReadyH.nil
                go_simp
                refine hK.out _ _ trivial (fun _ => ?_)
                clear hK K
                try simp only [Act.put, List.setIfInBounds_toArray, List.set_cons_zero, List.set_cons_succ]
                refine wpAnyH_ready (rs := [13]) (by kernel_rfl) (by simp) ?_
                refine AllReadyH.cons rfl (fun K hK => ?_) AllReadyH.nil
                refine step_append_ints (by rfl) _ _ (by rfl) (w.heap.size + 1 + 1) v j cs (by rfl) (show OwnI _ _ _ _ _ from (HX3.out.alloc _).own) (some ⟨wy3.heap.size, 0, none⟩) 1 1 [(m4 : Int)] (by rfl) (show Ints _ _ _ from ints_one wy3 (m4 : Int)) rfl (by omega) (by have := lt_of_block HX3.out.li.box; simp; omega) ?_
                intro ya cy w8 hO8 hG8
                simp only [List.getElem_toArray, List.getElem_cons_succ, List.getElem_cons_zero, Act.put, List.setIfInBounds_toArray, List.set_cons_zero, List.set_cons_succ]
                have hL8 := (HX3.out.alloc _).grow hG8
                have HX8 : Hid (CX w (w8.setCell ⟨w.heap.size + 1, 4, none⟩ (.slice ya (j + 1) cy)) B (w.heap.size + 1) (q1 + 3) 4 d x y (.slice ya (j + 1) cy) (j + 1) (cs ++ [(m4 : Int)])) := ⟨hL8.set4 _, hO8.set (by omega)⟩
                obtain ⟨⟨z0, z1, z2, z3, z4, z5⟩, y0, y1, y2, y3, y4, y5⟩ := box6 hL8.box
                clear hO8 hG8 hL8
                refine hK.out _ _ trivial (fun _ => ?_)
                clear hK K
                try simp only [Act.put, List.setIfInBounds_toArray, List.set_cons_zero, List.set_cons_succ]
                refine wpAnyH_take (i := 14) (v := .pointer (some ⟨w.heap.size + 1, 4, none⟩)) rfl (by kernel_rfl) (by kernel_rfl) (by kernel_rfl) (fun _ _ _ h => h) (Or.inl ⟨by rfl, ?_⟩) trivial ?_
                · intro w' _
                  go_simp
                try simp only [Act.put, List.setIfInBounds_toArray, List.set_cons_zero, List.set_cons_succ]
                refine wpAnyH_ready (rs := [15]) (by kernel_rfl) (by simp) ?_
                refine AllReadyH.cons rfl (fun K hK => ?_) AllReadyH.nil
                go_simp
                refine hK.out _ _ trivial (fun _ => ?_)
                clear hK K
                try simp only [Act.put, List.setIfInBounds_toArray, List.set_cons_zero, List.set_cons_succ]
                refine wpAnyH_done (by kernel_rfl) ?_ _
                clear z0 z1 z2 z3 z4 z5 y0 y1 y2 y3 y4 y5
                go_wp2_with fail
                go_roundw
                case rel => exact ⟨j + 1, q1 + 3, .slice ya (j + 1) cy, cs ++ [(m4 : Int)], by go_num, by omega, by omega, HX8.out⟩
                case measure => simp [intOf]; omega
              · go_simp
                refine (pick_named B (q1 + 2) _ _ HX2.out.li.rd (by omega) (by omega) (by omega)).mono ?_
                rintro e wy3 ⟨x3, rfl, hx3, hRy, hOy, hsy⟩
                have HX3 : Hid (CX w wy3 B (w.heap.size + 1) (q1 + 3) 4 d x y v j cs) := HX2.out.pick hRy hOy
                have c3 : wy3.cell? ⟨w.heap.size + 1, 4, none⟩ = some v := (box6 HX3.out.li.box).1.2.2.2.2.1
                clear hRy hOy hsy
                go_wp2_with fail
                refine hK.out _ _ trivial (fun _ => ?_)
                clear hK K
                try simp only [Act.put, List.setIfInBounds_toArray, List.set_cons_zero, List.set_cons_succ]
                obtain ⟨m4, hm4⟩ : ∃ m : Nat, m = m3 + x3 := ⟨_, rfl⟩
                have e4 : (m3 : Int) + (x3 : Int) = (m4 : Int) := by omega
                have f4 := wrap_i64_nat m4 (by omega)
                clear hm4 hx3
                have c4 : ∀ o, (wy3.alloc o).cell? ⟨w.heap.size + 1, 4, none⟩ = some v := fun o => (box6 (HX3.out.alloc o).li.box).1.2.2.2.2.1
                refine wpAnyH_take (i := 11) (v := .int .i64 (m4 : Int)) rfl (by kernel_rfl) (by kernel_rfl) (by kernel_rfl) (fun _ _ _ h => h) (Or.inl ⟨by rfl, ?_⟩) trivial ?_
                · intro w' _
                  go_simp
                try simp only [Act.put, List.setIfInBounds_toArray, List.set_cons_zero, List.set_cons_succ]
                refine wpAnyH_ready (rs := [1, 12]) (by kernel_rfl) (by simp) ?_
                refine AllReadyH.cons rfl (fun K hK => ?_) (AllReadyH.cons rfl (fun K hK => ?_) AllReadyH.nil)
                · go_simp
                  refine hK.out _ _ trivial (fun _ => ?_)
                  clear hK K
                  try simp only [Act.put, List.setIfInBounds_toArray, List.set_cons_zero, List.set_cons_succ]
                  refine wpAnyH_ready (rs := [12]) (by kernel_rfl) (by simp) ?_
                  refine AllReadyH.cons rfl (fun K hK => ?_) AllReadyH.nil
                  go_simp
                  refine hK.out _ _ trivial (fun _ => ?_)
                  clear hK K
                  try simp only [Act.put, List.setIfInBounds_toArray, List.set_cons_zero, List.set_cons_succ]
                  refine wpAnyH_ready (rs := [13]) (by kernel_rfl) (by simp) ?_
                  refine AllReadyH.cons rfl (fun K hK => ?_) AllReadyH.nil
                  refine step_append_ints (by rfl) _ _ (by rfl) (w.heap.size + 1 + 1) v j cs (by rfl) (show OwnI _ _ _ _ _ from (HX3.out.alloc _).own) (some ⟨wy3.heap.size, 0, none⟩) 1 1 [(m4 : Int)] (by rfl) (show Ints _ _ _ from ints_one wy3 (m4 : Int)) rfl (by omega) (by have := lt_of_block HX3.out.li.box; simp; omega) ?_
                  intro ya cy w8 hO8 hG8
                  simp only [List.getElem_toArray, List.getElem_cons_succ, List.getElem_cons_zero, Act.put, List.setIfInBounds_toArray, List.set_cons_zero, List.set_cons_succ]
                  have hL8 := (HX3.out.alloc _).grow hG8
                  have HX8 : Hid (CX w (w8.setCell ⟨w.heap.size + 1, 4, none⟩ (.slice ya (j + 1) cy)) B (w.heap.size + 1) (q1 + 3) 4 d x y (.slice ya (j + 1) cy) (j + 1) (cs ++ [(m4 : Int)])) := ⟨hL8.set4 _, hO8.set (by omega)⟩
                  obtain ⟨⟨z0, z1, z2, z3, z4, z5⟩, y0, y1, y2, y3, y4, y5⟩ := box6 hL8.box
                  clear hO8 hG8 hL8
                  refine hK.out _ _ trivial (fun _ => ?_)
                  clear hK K
                  try simp only [Act.put, List.setIfInBounds_toArray, List.set_cons_zero, List.set_cons_succ]
                  refine wpAnyH_take (i := 14) (v := .pointer (some ⟨w.heap.size + 1, 4, none⟩)) rfl (by kernel_rfl) (by kernel_rfl) (by kernel_rfl) (fun _ _ _ h => h) (Or.inl ⟨by rfl, ?_⟩) trivial ?_
                  · intro w' _
                    go_simp
                  try simp only [Act.put, List.setIfInBounds_toArray, List.set_cons_zero, List.set_cons_succ]
                  refine wpAnyH_ready (rs := [15]) (by kernel_rfl) (by simp) ?_
                  refine AllReadyH.cons rfl (fun K hK => ?_) AllReadyH.nil
                  go_simp
                  refine hK.out _ _ trivial (fun _ => ?_)
                  clear hK K
                  try simp only [Act.put, List.setIfInBounds_toArray, List.set_cons_zero, List.set_cons_succ]
                  refine wpAnyH_done (by kernel_rfl) ?_ _
                  clear z0 z1 z2 z3 z4 z5 y0 y1 y2 y3 y4 y5
                  go_wp2_with fail
                  go_roundw
                  case rel => exact ⟨j + 1, q1 + 3, .slice ya (j + 1) cy, cs ++ [(m4 : Int)], by go_num, by omega, by omega, HX8.out⟩
                  case measure => simp [intOf]; omega
                · go_simp
                  refine hK.out _ _ trivial (fun _ => ?_)
                  clear hK K
                  try simp only [Act.put, List.setIfInBounds_toArray, List.set_cons_zero, List.set_cons_succ]
                  refine wpAnyH_ready (rs := [1]) (by kernel_rfl) (by simp) ?_
                  refine AllReadyH.cons rfl (fun K hK => ?_) AllReadyH.nil
                  go_simp
                  refine hK.out _ _ trivial (fun _ => ?_)
                  clear hK K
                  try simp only [Act.put, List.setIfInBounds_toArray, List.set_cons_zero, List.set_cons_succ]
                  refine wpAnyH_ready (rs := [13]) (by kernel_rfl) (by simp) ?_
                  refine AllReadyH.cons rfl (fun K hK => ?_) AllReadyH.nil
                  refine step_append_ints (by rfl) _ _ (by rfl) (w.heap.size + 1 + 1) v j cs (by rfl) (show OwnI _ _ _ _ _ from (HX3.out.alloc _).own) (some ⟨wy3.heap.size, 0, none⟩) 1 1 [(m4 : Int)] (by rfl) (show Ints _ _ _ from ints_one wy3 (m4 : Int)) rfl (by omega) (by have := lt_of_block HX3.out.li.box; simp; omega) ?_
                  intro ya cy w8 hO8 hG8
                  simp only [List.getElem_toArray, List.getElem_cons_succ, List.getElem_cons_zero, Act.put, List.setIfInBounds_toArray, List.set_cons_zero, List.set_cons_succ]
                  have hL8 := (HX3.out.alloc _).grow hG8
                  have HX8 : Hid (CX w (w8.setCell ⟨w.heap.size + 1, 4, none⟩ (.slice ya (j + 1) cy)) B (w.heap.size + 1) (q1 + 3) 4 d x y (.slice ya (j + 1) cy) (j + 1) (cs ++ [(m4 : Int)])) := ⟨hL8.set4 _, hO8.set (by omega)⟩
                  obtain ⟨⟨z0, z1, z2, z3, z4, z5⟩, y0, y1, y2, y3, y4, y5⟩ := box6 hL8.box
                  clear hO8 hG8 hL8
                  refine hK.out _ _ trivial (fun _ => ?_)
                  clear hK K
                  try simp only [Act.put, List.setIfInBounds_toArray, List.set_cons_zero, List.set_cons_succ]
                  refine wpAnyH_take (i := 14) (v := .pointer (some ⟨w.heap.size + 1, 4, none⟩)) rfl (by kernel_rfl) (by kernel_rfl) (by kernel_rfl) (fun _ _ _ h => h) (Or.inl ⟨by rfl, ?_⟩) trivial ?_
                  · intro w' _
                    go_simp
                  try simp only [Act.put, List.setIfInBounds_toArray, List.set_cons_zero, List.set_cons_succ]
                  refine wpAnyH_ready (rs := [15]) (by kernel_rfl) (by simp) ?_
                  refine AllReadyH.cons rfl (fun K hK => ?_) AllReadyH.nil
                  go_simp
                  refine hK.out _ _ trivial (fun _ => ?_)
                  clear hK K
                  try simp only [Act.put, List.setIfInBounds_toArray, List.set_cons_zero, List.set_cons_succ]
                  refine wpAnyH_done (by kernel_rfl) ?_ _
                  clear z0 z1 z2 z3 z4 z5 y0 y1 y2 y3 y4 y5
                  go_wp2_with fail
                  go_roundw
                  case rel => exact ⟨j + 1, q1 + 3, .slice ya (j + 1) cy, cs ++ [(m4 : Int)], by go_num, by omega, by omega, HX8.out⟩
                  case measure => simp [intOf]; omega
        · have hji : ¬ (j : Int) < (n : Int) := by omega
          have hjn' : j = n := by omega
          subst hjn'
          have HX0 : Hid (CX w wr B (w.heap.size + 1) q1 4 d x y v j cs) := hX
          clear hX
          go_wp2_with fail
          go_meet
          exact ⟨q1, d, j, v, cs, by omega, by omega, by omega, by omega, by omega, HX0.out⟩
  case rest =>
  clear HL6 z0 z1 z2 z3 z4 z5 y0 y1 y2 y3 y4 y5 hd
  generalize wc = wb at *
  obtain ⟨q, d, n, v4, cs, hq, hd1, hd2, hn4, hn, hX⟩ := hcut
  obtain ⟨a4, c4, hv4, _⟩ := hX.own.owns
  subst hv4
  have HX : Hid (CX w _ B (w.heap.size + 1) q k d x y (.slice a4 n c4) n cs) := hX
  obtain ⟨Q, hQ⟩ : ∃ Q, Q = 2 ^ d := ⟨_, rfl⟩
  have hQ1 : 1 ≤ Q := by rw [hQ]; exact Nat.pow_pos (by omega)
  have hQ2 : Q ≤ 4294967296 := by rw [hQ]; exact Nat.le_trans (Nat.pow_le_pow_right (by omega) hd2) (by decide)
  have HP : Hid (∀ w, Calls Tryz.prog 27 #[.int .i64 (d : Int)] w fun e w' => e = .returned (.int .i64 (Q : Int)) ∧ w' = w) := by
    intro w; rw [hQ]; exact l1Pow_any d w (by omega)
  clear hQ
  obtain ⟨⟨z0, z1, z2, z3, z4, z5⟩, y0, y1, y2, y3, y4, y5⟩ := box6 hX.li.box
  clear hX
  go_wp2_with fail
  refine (HP.out _).mono ?_
  rintro e w7 ⟨rfl, hw7⟩
  have hw8 := hw7.symm
  subst hw8
  go_upto_if 81 with fail
  go_cut [6] (fun s6 wx => wx = wb ∧ ∃ most : Nat, s6 = .int .i64 (most : Int) ∧ 1 ≤ most ∧ most ≤ 4294967296)
  case first =>
    by_cases h4 : k = 4
    · have hn1 := hn4 h4
      clear hn4
      subst h4
      go_wp2_with fail
      go_meet
      exact ⟨rfl, n, rfl, hn1, by omega⟩
    · have h4i : ¬ (k : Int) = 4 := by omega
      go_wp2_with fail
      go_meet
      exact ⟨rfl, Q, rfl, hQ1, hQ2⟩
  case rest =>
  obtain ⟨hwx, most, rfl, hm1, hm2⟩ := hcut
  subst hwx
  clear HP hQ1 hQ2 hn4 z0 z1 z2 z3 z4 z5 y0 y1 y2 y3 y4 y5
  obtain ⟨N, hN⟩ : ∃ N, N = x * y := ⟨_, rfl⟩
  have HN : Hid (N = x * y) := hN
  have hNi : (x : Int) * (y : Int) = (N : Int) := by rw [hN]; simp
  have hN4 : N ≤ 20 * 20 := by rw [hN]; exact Nat.mul_le_mul hx2 hy2
  have fN := wrap_i64_nat N (by omega)
  clear hN
  have HS : Hid (PX w wc wc B (w.heap.size + 1) q k d x y (.slice a4 n c4) (.slice none 0 0) 0 []) := ⟨HX.out.li, World.ownsRow_nil _ _ _ _, fun _ _ _ => rfl, Nat.le_refl _, lt_of_block HX.out.li.box⟩
  go_wp2_with fail
  go_loopw [7, 8] (fun s7 i wr => ∃ (j q1 u : Nat) (v5 : Value) (ps : List Int), s7 = .int .i64 (u : Int) ∧ u < 4294967296 ∧ i = .int .i64 (j : Int) ∧ j ≤ N ∧ q1 ≤ q + 5 * j ∧ PX w wc wr B (w.heap.size + 1) q1 k d x y (.slice a4 n c4) v5 j ps) (fun _ i _ => N - (intOf i).toNat)
  case atStart => exact ⟨0, q, 0, .slice none 0 0, [], rfl, by omega, rfl, by omega, by omega, HS.out⟩
  case round =>
    obtain ⟨j, q1, u, v5, ps, rfl, hu, rfl, hj, hq1, hP⟩ := hrel
    clear HS
    obtain ⟨⟨z0, z1, z2, z3, z4, z5⟩, y0, y1, y2, y3, y4, y5⟩ := box6 hP.li.box
    by_cases hjN : j < N
    · have hji : (j : Int) < (N : Int) := by omega
      have HP0 : Hid (PX w wc wr B (w.heap.size + 1) q1 k d x y (.slice a4 n c4) v5 j ps) := hP
      clear hP
      go_wp2_with fail
      refine (pick_named B (q1) _ _ HP0.out.li.rd (by omega) (by omega) (by omega)).mono ?_
      rintro e wp3 ⟨t3, rfl, ht3, hRp, hOp, hsp⟩
      have HP3 : Hid (PX w wc wp3 B (w.heap.size + 1) (q1 + 1) k d x y (.slice a4 n c4) v5 j ps) := HP0.out.pick hRp hOp
      clear hRp hOp hsp z0 z1 z2 z3 z4 z5 y0 y1 y2 y3 y4 y5 HP0
      obtain ⟨⟨z0, z1, z2, z3, z4, z5⟩, y0, y1, y2, y3, y4, y5⟩ := box6 HP3.out.li.box
      by_cases h3 : 0 < t3
      · have h3i : (0 : Int) < (t3 : Int) := by omega
        go_wp2_with fail
        refine (pick_named B (q1 + 1) _ _ HP3.out.li.rd (by omega) (by omega) (by omega)).mono ?_
        rintro e wp4 ⟨t4, rfl, ht4, hRp, hOp, hsp⟩
        have HP4 : Hid (PX w wc wp4 B (w.heap.size + 1) (q1 + 1 + 1) k d x y (.slice a4 n c4) v5 j ps) := HP3.out.pick hRp hOp
        clear hRp hOp hsp z0 z1 z2 z3 z4 z5 y0 y1 y2 y3 y4 y5 HP3
        obtain ⟨⟨z0, z1, z2, z3, z4, z5⟩, y0, y1, y2, y3, y4, y5⟩ := box6 HP4.out.li.box
        go_wp2_with fail
        refine (pick_named B (q1 + 1 + 1) _ _ HP4.out.li.rd (by omega) (by omega) (by omega)).mono ?_
        rintro e wp5 ⟨t5, rfl, ht5, hRp, hOp, hsp⟩
        have HP5 : Hid (PX w wc wp5 B (w.heap.size + 1) (q1 + 1 + 1 + 1) k d x y (.slice a4 n c4) v5 j ps) := HP4.out.pick hRp hOp
        clear hRp hOp hsp z0 z1 z2 z3 z4 z5 y0 y1 y2 y3 y4 y5 HP4
        obtain ⟨⟨z0, z1, z2, z3, z4, z5⟩, y0, y1, y2, y3, y4, y5⟩ := box6 HP5.out.li.box
        go_wp2_with fail
        refine (pick_named B (q1 + 1 + 1 + 1) _ _ HP5.out.li.rd (by omega) (by omega) (by omega)).mono ?_
        rintro e wp6 ⟨t6, rfl, ht6, hRp, hOp, hsp⟩
        have HP6 : Hid (PX w wc wp6 B (w.heap.size + 1) (q1 + 1 + 1 + 1 + 1) k d x y (.slice a4 n c4) v5 j ps) := HP5.out.pick hRp hOp
        clear hRp hOp hsp z0 z1 z2 z3 z4 z5 y0 y1 y2 y3 y4 y5 HP5
        obtain ⟨⟨z0, z1, z2, z3, z4, z5⟩, y0, y1, y2, y3, y4, y5⟩ := box6 HP6.out.li.box
        obtain ⟨R, hR⟩ : ∃ R : Nat, R = (t4 * 16777216 + t5 * 65536 + t6) % most := ⟨_, rfl⟩
        have hRm : R < 4294967296 := by rw [hR]; exact Nat.lt_of_lt_of_le (Nat.mod_lt _ (by omega)) hm2
        have hRi : ((t4 : Int) * 16777216 + (t5 : Int) * 65536 + (t6 : Int)) % (most : Int) = (R : Int) := by rw [hR]; simp
        have hRt : ((t4 : Int) * 16777216 + (t5 : Int) * 65536 + (t6 : Int)).tmod (most : Int) = (R : Int) := by rw [Int.tmod_eq_emod_of_nonneg (by omega)]; exact hRi
        clear hR
        by_cases hk3 : k = 3
        · subst hk3
          go_wp2_with fail
          refine (pick_named B (q1 + 1 + 1 + 1 + 1) _ _ HP6.out.li.rd (by omega) (by omega) (by omega)).mono ?_
          rintro e wp7 ⟨t7, rfl, ht7, hRp, hOp, hsp⟩
          have HP7 : Hid (PX w wc wp7 B (w.heap.size + 1) (q1 + 1 + 1 + 1 + 1 + 1) ((3 : Nat) : Int) d x y (.slice a4 n c4) v5 j ps) := HP6.out.pick hRp hOp
          clear hRp hOp hsp z0 z1 z2 z3 z4 z5 y0 y1 y2 y3 y4 y5 HP6
          obtain ⟨⟨z0, z1, z2, z3, z4, z5⟩, y0, y1, y2, y3, y4, y5⟩ := box6 HP7.out.li.box
          by_cases h7 : t7 = 0
          · subst h7
            obtain ⟨g1, hg1⟩ : ∃ g1 : Nat, g1 = R / 256 := ⟨_, rfl⟩
            obtain ⟨g2, hg2⟩ : ∃ g2 : Nat, g2 = g1 * 256 := ⟨_, rfl⟩
            obtain ⟨g3, hg3⟩ : ∃ g3 : Nat, g3 = g2 + 255 := ⟨_, rfl⟩
            have e1 : (R : Int) / 256 = (g1 : Int) := by omega
            have e1' : (R : Int).tdiv 256 = (g1 : Int) := by rw [Int.tdiv_eq_ediv_of_nonneg (by omega)]; exact e1
            have e2 : (g1 : Int) * 256 = (g2 : Int) := by omega
            have e3 : (g2 : Int) + 255 = (g3 : Int) := by omega
            have hg : g3 < 4294967296 := by omega
            have f1 := wrap_i64_nat g1 (by omega)
            have f2 := wrap_i64_nat g2 (by omega)
            have f3 := wrap_i64_nat g3 (by omega)
            clear hg1 hg2 hg3
            go_wp2_with (at_builtin; refine wpList_append_ints (by rfl) _ _ (by rfl) wc.heap.size v5 j ps (by rfl) (show OwnI _ _ _ _ _ from HP7.out.own.old _) (some ⟨wp7.heap.size, 0, none⟩) 1 1 [(g3 : Int)] (by rfl) (show Ints _ _ _ from ints_one wp7 (g3 : Int)) rfl (by omega) (by have := HP7.out.size; simp; omega) ?_)
            intro ya cy w8 hO8 hG8
            have hqj : q1 + 1 + 1 + 1 + 1 + 1 ≤ q + 5 * (j + 1) := by clear z0 z1 z2 z3 z4 z5 y0 y1 y2 y3 y4 y5; omega
            have hmj : N - (intOf (Value.int .i64 ((j : Int) + 1))).toNat < N - (intOf (Value.int .i64 (j : Int))).toNat := by
              show N - ((j : Int) + 1).toNat < N - (j : Int).toNat
              clear z0 z1 z2 z3 z4 z5 y0 y1 y2 y3 y4 y5
              omega
            obtain ⟨hL8, hP8⟩ := HP7.out.push hO8 hG8
            have HP8 : Hid (PX w wc _ B (w.heap.size + 1) _ _ d x y (.slice a4 n c4) (.slice ya (j + 1) cy) (j + 1) _) := hP8
            clear z0 z1 z2 z3 z4 z5 y0 y1 y2 y3 y4 y5
            obtain ⟨⟨z0, z1, z2, z3, z4, z5⟩, y0, y1, y2, y3, y4, y5⟩ := box6 hL8.box
            clear hO8 hG8 hP8 hL8 HP7
            go_wp2_with fail
            go_roundw
            case rel => exact ⟨j + 1, q1 + 1 + 1 + 1 + 1 + 1, g3, .slice ya (j + 1) cy, ps ++ [(g3 : Int)], rfl, hg, congrArg (Value.int .i64) (Int.natCast_succ j).symm, hjN, hqj, HP8.out⟩
            case measure => exact hmj
          · have h7i : ¬ (t7 : Int) = 0 := by omega
            go_wp2_with (at_builtin; refine wpList_append_ints (by rfl) _ _ (by rfl) wc.heap.size v5 j ps (by rfl) (show OwnI _ _ _ _ _ from HP7.out.own.old _) (some ⟨wp7.heap.size, 0, none⟩) 1 1 [(R : Int)] (by rfl) (show Ints _ _ _ from ints_one wp7 (R : Int)) rfl (by omega) (by have := HP7.out.size; simp; omega) ?_)
            intro ya cy w8 hO8 hG8
            have hqj : q1 + 1 + 1 + 1 + 1 + 1 ≤ q + 5 * (j + 1) := by clear z0 z1 z2 z3 z4 z5 y0 y1 y2 y3 y4 y5; omega
            have hmj : N - (intOf (Value.int .i64 ((j : Int) + 1))).toNat < N - (intOf (Value.int .i64 (j : Int))).toNat := by
              show N - ((j : Int) + 1).toNat < N - (j : Int).toNat
              clear z0 z1 z2 z3 z4 z5 y0 y1 y2 y3 y4 y5
              omega
            obtain ⟨hL8, hP8⟩ := HP7.out.push hO8 hG8
            have HP8 : Hid (PX w wc _ B (w.heap.size + 1) _ _ d x y (.slice a4 n c4) (.slice ya (j + 1) cy) (j + 1) _) := hP8
            clear z0 z1 z2 z3 z4 z5 y0 y1 y2 y3 y4 y5
            obtain ⟨⟨z0, z1, z2, z3, z4, z5⟩, y0, y1, y2, y3, y4, y5⟩ := box6 hL8.box
            clear hO8 hG8 hP8 hL8 HP7
            go_wp2_with fail
            go_roundw
            case rel => exact ⟨j + 1, q1 + 1 + 1 + 1 + 1 + 1, R, .slice ya (j + 1) cy, ps ++ [(R : Int)], rfl, hRm, congrArg (Value.int .i64) (Int.natCast_succ j).symm, hjN, hqj, HP8.out⟩
            case measure => exact hmj
        · have hk3i : ¬ (k : Int) = 3 := by omega
          have hk3b : ((k : Int) == 3) = false := by rw [beq_eq_false_iff_ne]; exact hk3i
          go_wp2_with (at_builtin; refine wpList_append_ints (by rfl) _ _ (by rfl) wc.heap.size v5 j ps (by rfl) (show OwnI _ _ _ _ _ from HP6.out.own.old _) (some ⟨wp6.heap.size, 0, none⟩) 1 1 [(R : Int)] (by rfl) (show Ints _ _ _ from ints_one wp6 (R : Int)) rfl (by omega) (by have := HP6.out.size; simp; omega) ?_)
          intro ya cy w8 hO8 hG8
          have hqj : q1 + 1 + 1 + 1 + 1 ≤ q + 5 * (j + 1) := by clear z0 z1 z2 z3 z4 z5 y0 y1 y2 y3 y4 y5; omega
          have hmj : N - (intOf (Value.int .i64 ((j : Int) + 1))).toNat < N - (intOf (Value.int .i64 (j : Int))).toNat := by
            show N - ((j : Int) + 1).toNat < N - (j : Int).toNat
            clear z0 z1 z2 z3 z4 z5 y0 y1 y2 y3 y4 y5
            omega
          obtain ⟨hL8, hP8⟩ := HP6.out.push hO8 hG8
          have HP8 : Hid (PX w wc _ B (w.heap.size + 1) _ _ d x y (.slice a4 n c4) (.slice ya (j + 1) cy) (j + 1) _) := hP8
          clear z0 z1 z2 z3 z4 z5 y0 y1 y2 y3 y4 y5
          obtain ⟨⟨z0, z1, z2, z3, z4, z5⟩, y0, y1, y2, y3, y4, y5⟩ := box6 hL8.box
          clear hO8 hG8 hP8 hL8 HP6
          go_wp2_with fail
          go_roundw
          case rel => exact ⟨j + 1, q1 + 1 + 1 + 1 + 1, R, .slice ya (j + 1) cy, ps ++ [(R : Int)], rfl, hRm, congrArg (Value.int .i64) (Int.natCast_succ j).symm, hjN, hqj, HP8.out⟩
          case measure => exact hmj
      · have h3i : ¬ (0 : Int) < (t3 : Int) := by omega
        by_cases hk3 : k = 3
        · subst hk3
          go_wp2_with fail
          refine (pick_named B (q1 + 1) _ _ HP3.out.li.rd (by omega) (by omega) (by omega)).mono ?_
          rintro e wp7 ⟨t7, rfl, ht7, hRp, hOp, hsp⟩
          have HP7 : Hid (PX w wc wp7 B (w.heap.size + 1) (q1 + 1 + 1) ((3 : Nat) : Int) d x y (.slice a4 n c4) v5 j ps) := HP3.out.pick hRp hOp
          clear hRp hOp hsp z0 z1 z2 z3 z4 z5 y0 y1 y2 y3 y4 y5 HP3
          obtain ⟨⟨z0, z1, z2, z3, z4, z5⟩, y0, y1, y2, y3, y4, y5⟩ := box6 HP7.out.li.box
          by_cases h7 : t7 = 0
          · subst h7
            obtain ⟨g1, hg1⟩ : ∃ g1 : Nat, g1 = u / 256 := ⟨_, rfl⟩
            obtain ⟨g2, hg2⟩ : ∃ g2 : Nat, g2 = g1 * 256 := ⟨_, rfl⟩
            obtain ⟨g3, hg3⟩ : ∃ g3 : Nat, g3 = g2 + 255 := ⟨_, rfl⟩
            have e1 : (u : Int) / 256 = (g1 : Int) := by omega
            have e1' : (u : Int).tdiv 256 = (g1 : Int) := by rw [Int.tdiv_eq_ediv_of_nonneg (by omega)]; exact e1
            have e2 : (g1 : Int) * 256 = (g2 : Int) := by omega
            have e3 : (g2 : Int) + 255 = (g3 : Int) := by omega
            have hg : g3 < 4294967296 := by omega
            have f1 := wrap_i64_nat g1 (by omega)
            have f2 := wrap_i64_nat g2 (by omega)
            have f3 := wrap_i64_nat g3 (by omega)
            clear hg1 hg2 hg3
            go_wp2_with (at_builtin; refine wpList_append_ints (by rfl) _ _ (by rfl) wc.heap.size v5 j ps (by rfl) (show OwnI _ _ _ _ _ from HP7.out.own.old _) (some ⟨wp7.heap.size, 0, none⟩) 1 1 [(g3 : Int)] (by rfl) (show Ints _ _ _ from ints_one wp7 (g3 : Int)) rfl (by omega) (by have := HP7.out.size; simp; omega) ?_)
            intro ya cy w8 hO8 hG8
            have hqj : q1 + 1 + 1 ≤ q + 5 * (j + 1) := by clear z0 z1 z2 z3 z4 z5 y0 y1 y2 y3 y4 y5; omega
            have hmj : N - (intOf (Value.int .i64 ((j : Int) + 1))).toNat < N - (intOf (Value.int .i64 (j : Int))).toNat := by
              show N - ((j : Int) + 1).toNat < N - (j : Int).toNat
              clear z0 z1 z2 z3 z4 z5 y0 y1 y2 y3 y4 y5
              omega
            obtain ⟨hL8, hP8⟩ := HP7.out.push hO8 hG8
            have HP8 : Hid (PX w wc _ B (w.heap.size + 1) _ _ d x y (.slice a4 n c4) (.slice ya (j + 1) cy) (j + 1) _) := hP8
            clear z0 z1 z2 z3 z4 z5 y0 y1 y2 y3 y4 y5
            obtain ⟨⟨z0, z1, z2, z3, z4, z5⟩, y0, y1, y2, y3, y4, y5⟩ := box6 hL8.box
            clear hO8 hG8 hP8 hL8 HP7
            go_wp2_with fail
            go_roundw
            case rel => exact ⟨j + 1, q1 + 1 + 1, g3, .slice ya (j + 1) cy, ps ++ [(g3 : Int)], rfl, hg, congrArg (Value.int .i64) (Int.natCast_succ j).symm, hjN, hqj, HP8.out⟩
            case measure => exact hmj
          · have h7i : ¬ (t7 : Int) = 0 := by omega
            go_wp2_with (at_builtin; refine wpList_append_ints (by rfl) _ _ (by rfl) wc.heap.size v5 j ps (by rfl) (show OwnI _ _ _ _ _ from HP7.out.own.old _) (some ⟨wp7.heap.size, 0, none⟩) 1 1 [(u : Int)] (by rfl) (show Ints _ _ _ from ints_one wp7 (u : Int)) rfl (by omega) (by have := HP7.out.size; simp; omega) ?_)
            intro ya cy w8 hO8 hG8
            have hqj : q1 + 1 + 1 ≤ q + 5 * (j + 1) := by clear z0 z1 z2 z3 z4 z5 y0 y1 y2 y3 y4 y5; omega
            have hmj : N - (intOf (Value.int .i64 ((j : Int) + 1))).toNat < N - (intOf (Value.int .i64 (j : Int))).toNat := by
              show N - ((j : Int) + 1).toNat < N - (j : Int).toNat
              clear z0 z1 z2 z3 z4 z5 y0 y1 y2 y3 y4 y5
              omega
            obtain ⟨hL8, hP8⟩ := HP7.out.push hO8 hG8
            have HP8 : Hid (PX w wc _ B (w.heap.size + 1) _ _ d x y (.slice a4 n c4) (.slice ya (j + 1) cy) (j + 1) _) := hP8
            clear z0 z1 z2 z3 z4 z5 y0 y1 y2 y3 y4 y5
            obtain ⟨⟨z0, z1, z2, z3, z4, z5⟩, y0, y1, y2, y3, y4, y5⟩ := box6 hL8.box
            clear hO8 hG8 hP8 hL8 HP7
            go_wp2_with fail
            go_roundw
            case rel => exact ⟨j + 1, q1 + 1 + 1, u, .slice ya (j + 1) cy, ps ++ [(u : Int)], rfl, hu, congrArg (Value.int .i64) (Int.natCast_succ j).symm, hjN, hqj, HP8.out⟩
            case measure => exact hmj
        · have hk3i : ¬ (k : Int) = 3 := by omega
          have hk3b : ((k : Int) == 3) = false := by rw [beq_eq_false_iff_ne]; exact hk3i
          go_wp2_with (at_builtin; refine wpList_append_ints (by rfl) _ _ (by rfl) wc.heap.size v5 j ps (by rfl) (show OwnI _ _ _ _ _ from HP3.out.own.old _) (some ⟨wp3.heap.size, 0, none⟩) 1 1 [(u : Int)] (by rfl) (show Ints _ _ _ from ints_one wp3 (u : Int)) rfl (by omega) (by have := HP3.out.size; simp; omega) ?_)
          intro ya cy w8 hO8 hG8
          have hqj : q1 + 1 ≤ q + 5 * (j + 1) := by clear z0 z1 z2 z3 z4 z5 y0 y1 y2 y3 y4 y5; omega
          have hmj : N - (intOf (Value.int .i64 ((j : Int) + 1))).toNat < N - (intOf (Value.int .i64 (j : Int))).toNat := by
            show N - ((j : Int) + 1).toNat < N - (j : Int).toNat
            clear z0 z1 z2 z3 z4 z5 y0 y1 y2 y3 y4 y5
            omega
          obtain ⟨hL8, hP8⟩ := HP3.out.push hO8 hG8
          have HP8 : Hid (PX w wc _ B (w.heap.size + 1) _ _ d x y (.slice a4 n c4) (.slice ya (j + 1) cy) (j + 1) _) := hP8
          clear z0 z1 z2 z3 z4 z5 y0 y1 y2 y3 y4 y5
          obtain ⟨⟨z0, z1, z2, z3, z4, z5⟩, y0, y1, y2, y3, y4, y5⟩ := box6 hL8.box
          clear hO8 hG8 hP8 hL8 HP3
          go_wp2_with fail
          go_roundw
          case rel => exact ⟨j + 1, q1 + 1, u, .slice ya (j + 1) cy, ps ++ [(u : Int)], rfl, hu, congrArg (Value.int .i64) (Int.natCast_succ j).symm, hjN, hqj, HP8.out⟩
          case measure => exact hmj
    · have hji : ¬ (j : Int) < (N : Int) := by omega
      have hjN' : j = N := by omega
      subst hjN'
      obtain ⟨a5, c5, hv5, _⟩ := hP.own.owns
      subst hv5
      have hres := hP.li.res
      have hI6 : (Tryz.prog.info? 25).map (·.size) = some (#[Value.int .i64 (k : Int), .int .i64 (d : Int), .int .i64 (x : Int), .int .i64 (y : Int), .slice a4 n c4, .slice a5 j c5]).size := by kernel_rfl
      have h16 : (#[Value.int .i64 (k : Int), .int .i64 (d : Int), .int .i64 (x : Int), .int .i64 (y : Int), .slice a4 n c4, .slice a5 j c5]).all (·.oneCell') = true := by simp [Value.oneCell']
      have HOC : Hid (OwnI wr (w.heap.size + 1 + 1) (.slice a4 n c4) n cs) := HX.out.own.same (fun i hi hM => hP.keep i hi (by omega))
      have HP0 : Hid (PX w wc wr B (w.heap.size + 1) q1 k d x y (.slice a4 n c4) (.slice a5 j c5) j ps) := hP
      clear hP HX
      go_wp2_with (refine wpList_store_row rfl 25 (.tmp 2) (.tmp 127) rfl w.heap.size #[.int .i64 (k : Int), .int .i64 (d : Int), .int .i64 (x : Int), .int .i64 (y : Int), .slice a4 n c4, .slice a5 j c5] rfl rfl 25 #[.int .i64 0, .int .i64 0, .int .i64 0, .int .i64 0, .slice none 0 0, .slice none 0 0] hres hI6 rfl h16 ?_)
      have hs2 := setRow_heap wr w.heap.size _ #[.int .i64 (k : Int), .int .i64 (d : Int), .int .i64 (x : Int), .int .i64 (y : Int), .slice a4 n c4, .slice a5 j c5] _ _ hres
      refine bodyPost_ret_by (results_cell_row (p := 2) (ty := 25) (by kernel_rfl) _ _ w.heap.size 25 _ (0, 0) _ rfl hs2 Tryz.underlying25 rfl (by kernel_rfl)) rfl ⟨⟨k, d, x, y, a4, n, c4, cs, a5, j, c5, ps, rfl, (HOC.out.row (by omega) _).lower (by omega), (HP0.out.own.row (by have := HP0.out.hc; omega) _).lower (by have := HP0.out.hc; omega), HN.out, hx1, hx2, hy1, hy2, hn, hk4.1, hk4.2, by omega⟩, ⟨q1, by omega, HP0.out.li.rd.kept ((below_setRow _ _ _).mono hlt0)⟩, HP0.out.li.only.grown hlt0 (below_setRow _ _ _)⟩
end Go.Proofs.YteldjmocbbbinaaGreatDoor
