/- Texts laid together: DrawInf, LawInfLimit, LawInf. -/
import Derived.Test.YthfdnloeicbgkaaVFInflateDfTopS
import Derived.Test.YthfdnloeicbgkaaKFInflatex0
import Derived.Test.YthfdnloeicbgkaaKFInflatex4
import Derived.Test.YthfdnloeicbgkaaKFInflatex3
/- A packed text and a limit, drawn of a code. -/
namespace Go.Proofs.Ythfdnloeicbgkaa
open Go.RowKit

theorem pk_size (l : List UInt8) : (⟨l.toArray⟩ : ByteArray).size = l.length := by
  show l.toArray.size = l.length
  simp
/-- how long a text is that is drawn -/
def PkT (t : ByteArray) : Prop := t.size ≤ 40000 ∧ (t.size ≤ 8000 ∨ 9001 ≤ t.size ∨ T9 t)
theorem PkT.few {t : ByteArray} (h : t.size ≤ 8000) : PkT t := ⟨by omega, .inl h⟩
theorem PkT.text {t : ByteArray} (h : t.size ≤ 2400 ∨ t.size = 9001 ∨ T9 t) : PkT t := by
  rcases h with h | h | h
  · exact PkT.few (by omega)
  · exact ⟨by omega, .inr (.inl (by omega))⟩
  · exact ⟨by have := h.1; omega, .inr (.inr h)⟩
/-- how l14Packed ends -/
def PkEnd (w : World) (B p : Nat) (e : Ending) (w' : World) : Prop := (∃ t : ByteArray, e = .returned (.string t) ∧ PkT t) ∧ (∃ q, q ≤ p + 300 ∧ RdAt w' B q) ∧ Only B w w'
theorem pkEnd_mk {w w' : World} {B p q : Nat} {t : ByteArray} (ht : PkT t) (hq : q ≤ p + 300) (hR : RdAt w' B q) (hO : Only B w w') : PkEnd w B p (.returned (.string t)) w' := ⟨⟨t, rfl, ht⟩, ⟨q, hq, hR⟩, hO⟩
theorem bytes_size' (T : List Nat) : (Df.bytes T).size = T.length := by simp [Df.bytes, ByteArray.size]
theorem def_short {s : ByteArray} {k : Int} {w w' : World} {e : Ending} (hs : s.size ≤ 2400 ∨ 9000 ≤ s.size) (h : DefTop s k w e w') : (∃ t : ByteArray, e = .returned (.string t) ∧ t.size ≤ 5000) ∧ Below w.heap.size w w' := by
  refine ⟨?_, h.2⟩
  have h1 := h.1
  split at h1
  · rename_i hk
    obtain ⟨T, h2, h3⟩ := h1
    exact ⟨_, h2, by rw [bytes_size']; exact packed_short (by have := hk.1; omega) h3⟩
  · exact ⟨_, h1, by decide⟩

set_option linter.unusedSimpArgs false in
set_option maxHeartbeats 4000000 in
set_option maxRecDepth 20000 in
theorem l14Packed_any (B p : Nat) (w : World) (hr : RdAt w B p) (hp : p ≤ 50000) :
    Calls Try.prog 13 #[.pointer (some ⟨B, 0, none⟩)] w (PkEnd w B p) := by
  have HTX : Hid (∀ (p : Nat) (w : World), RdAt w B p → p ≤ 60000 → Calls Try.prog 28 #[.pointer (some ⟨B, 0, none⟩)] w fun e w' => (∃ t : ByteArray, e = .returned (.string t) ∧ (t.size ≤ 2400 ∨ t.size = 9001 ∨ T9 t)) ∧ (∃ q, q ≤ p + 100 ∧ RdAt w' B q) ∧ Only B w w') := fun p w h hp => text_three B p w h (by omega)
  have HDF : Hid (∀ (s : ByteArray) (k : Int) (w : World), (s.size ≤ 2400 ∨ 9000 ≤ s.size) → Calls Try.prog 10 #[.string s, .int .i64 k] w fun e w' => (∃ t : ByteArray, e = .returned (.string t) ∧ t.size ≤ 5000) ∧ Below w.heap.size w w') := fun s k w hs => by
    refine (spec_deflate s k w).mono ?_
    intro e w' h
    exact def_short hs h
  have HR0 : Hid (RdAt w B p) := hr
  clear hr
  go_enter Try.func13, Try.ntmps13
  go_wp2_with fail
  refine (HTX.out p w HR0.out (by omega)).mono ?_
  rintro e w1 ⟨⟨t1, rfl, ht1⟩, ⟨q1, hq1, hR1⟩, hO1⟩
  have H1 : Hid (RdAt w1 B q1 ∧ Only B w w1) := ⟨hR1, hO1⟩
  have ht1s : t1.size ≤ 2400 ∨ 9000 ≤ t1.size := by
    rcases ht1 with h | h | h
    · exact .inl h
    · exact .inr (by omega)
    · exact .inr (by have := h.1; omega)
  clear ht1
  clear hR1 hO1 HR0
  go_wp2_with fail
  refine (pick_named B q1 _ _ H1.out.1 (by omega) (by omega) (by omega)).mono ?_
  rintro e w2 ⟨k, rfl, hk, hR2, hO2, -⟩
  have H2 : Hid (RdAt w2 B (q1 + 1) ∧ Only B w w2) := ⟨hR2, H1.out.2.trans hO2⟩
  clear hR2 hO2 H1
  go_wp2_with fail
  refine (HDF.out t1 (k : Int) w2 ht1s).mono ?_
  rintro e w3 ⟨⟨s, rfl, hs⟩, b3⟩
  have H3 : Hid (RdAt w3 B (q1 + 1) ∧ Only B w w3) := ⟨H2.out.1.kept (b3.mono H2.out.1.lt), H2.out.2.trans (Only.of_below b3 H2.out.1.lt)⟩
  clear b3 H2 HDF
  go_wp2_with fail
  refine (pick_named B (q1 + 1) _ _ H3.out.1 (by omega) (by omega) (by omega)).mono ?_
  rintro e w4 ⟨j, rfl, hj, hR4, hO4, -⟩
  have H4 : Hid (RdAt w4 B (q1 + 1 + 1) ∧ Only B w w4) := ⟨hR4, H3.out.2.trans hO4⟩
  clear hR4 hO4 H3
  have hj10 : j = 0 ∨ j = 1 ∨ j = 2 ∨ j = 3 ∨ j = 4 ∨ 5 ≤ j := by omega
  rcases hj10 with rfl | rfl | rfl | rfl | rfl | hj5
  · have HBD : Hid (Calls Try.prog 30 #[.pointer (some ⟨B, 0, none⟩), .string s] w4 fun e w' => (∃ t : ByteArray, e = .returned (.string t) ∧ t.size = s.size) ∧ (∃ q, q ≤ q1 + 1 + 1 + 2 ∧ RdAt w' B q) ∧ Only B w4 w') := l14Bend_any B (q1 + 1 + 1) s w4 H4.out.1 (by omega) (by omega)
    go_wp2_with fail
    refine HBD.out.mono ?_
    rintro e w5 ⟨⟨t, rfl, ht⟩, ⟨q, hq, hR5⟩, hO5⟩
    have HE : Hid (PkEnd w B p (.returned (.string t)) w5) := pkEnd_mk (PkT.few (by omega)) (by omega) hR5 (H4.out.2.trans hO5)
    clear hR5 hO5 HBD H4
    go_wp2_with fail
    go_ret
    exact HE.out
  · have hs1 : (1 : Int) ≤ (s.size : Int) + 1 := by omega
    go_wp2_with fail
    refine (pick_named B (q1 + 1 + 1) _ _ H4.out.1 (by omega) (by omega) (by omega)).mono ?_
    rintro e w5 ⟨c, rfl, hc, hR5, hO5, -⟩
    have hcs : c ≤ s.size := by omega
    have hcsi : (c : Int) ≤ (s.size : Int) := by omega
    have HE : Hid (∀ t : ByteArray, t.size ≤ 5000 → PkEnd w B p (.returned (.string t)) w5) := fun t ht => pkEnd_mk (PkT.few (by omega)) (by omega) hR5 (H4.out.2.trans hO5)
    clear hR5 hO5 H4 hs1
    go_wp2_with fail
    go_ret
    exact HE.out _ (by rw [ByteArray.size_extract]; omega)
  · go_wp2_with fail
    refine (HTX.out (q1 + 1 + 1) w4 H4.out.1 (by omega)).mono ?_
    rintro e w5 ⟨⟨t, rfl, ht⟩, ⟨q5, hq5, hR5⟩, hO5⟩
    have H5 : Hid (RdAt w5 B q5 ∧ Only B w w5) := ⟨hR5, H4.out.2.trans hO5⟩
    have ht9 : t.size ≤ 9001 := by
      rcases ht with h | h | h
      · omega
      · omega
      · have := h.1; omega
    have HT2 : Hid (t.size ≤ 2400 ∨ 9000 ≤ t.size) := by
      rcases ht with h | h | h
      · exact .inl h
      · exact .inr (by omega)
      · exact .inr (by have := h.1; omega)
    clear hR5 hO5 H4 HTX ht
    obtain ⟨n, hn⟩ : ∃ n, n = t.size := ⟨_, rfl⟩
    have htn : t.size = n := hn.symm
    obtain ⟨x, hx⟩ : ∃ x, x = s.size := ⟨_, rfl⟩
    have hsx : s.size = x := hx.symm
    obtain ⟨m, hm⟩ : ∃ m, m = 65535 - n := ⟨_, rfl⟩
    have em : (65535 : Int) - (n : Int) = (m : Int) := by omega
    have wm := wrap_i64_nat m (by omega)
    have HL1 : Hid (∀ w : World, Calls Try.prog 31 #[.int .i64 (n : Int), .int .i64 2, .bool false] w fun e w' => e = .returned (.string ⟨(Pt.low n 2).toArray⟩) ∧ Below w.heap.size w w') := fun w => l1Num_low n 2 w (by omega) (by omega)
    have HL2 : Hid (∀ w : World, Calls Try.prog 31 #[.int .i64 (m : Int), .int .i64 2, .bool false] w fun e w' => e = .returned (.string ⟨(Pt.low m 2).toArray⟩) ∧ Below w.heap.size w w') := fun w => l1Num_low m 2 w (by omega) (by omega)
    have hl1 : (Pt.low n 2).length ≤ 2 := by rw [Pt.low_len]; omega
    have hg1 : 2 ≤ (Pt.low n 2).length := by rw [Pt.low_len]; omega
    have hg2 : 2 ≤ (Pt.low m 2).length := by rw [Pt.low_len]; omega
    have hl2 : (Pt.low m 2).length ≤ 2 := by rw [Pt.low_len]; omega
    generalize Pt.low n 2 = T1 at *
    generalize Pt.low m 2 = T2 at *
    obtain ⟨X1, hX1⟩ : ∃ X, X = [0].map UInt8.ofNat := ⟨_, rfl⟩
    have HX1 : Hid (X1 = [0].map UInt8.ofNat) := hX1
    have lX1 : X1.length ≤ 1 := by rw [hX1]; exact Nat.le_refl _
    obtain ⟨E1, hE1⟩ : ∃ X, X = X1 ++ T1 := ⟨_, rfl⟩
    have HE1 : Hid (E1 = X1 ++ T1) := hE1
    have lE1 : E1.length ≤ 3 := by rw [hE1, List.length_append]; omega
    obtain ⟨E2, hE2⟩ : ∃ X, X = E1 ++ T2 := ⟨_, rfl⟩
    have HE2 : Hid (E2 = E1 ++ T2) := hE2
    have lE2 : E2.length ≤ 5 := by rw [hE2, List.length_append]; omega
    obtain ⟨Y, hY⟩ : ∃ Y, Y = (⟨E2.toArray⟩ : ByteArray) ++ t := ⟨_, rfl⟩
    have HSB : Hid ((⟨E2.toArray⟩ : ByteArray) ++ t = Y) := hY.symm
    obtain ⟨y, hy⟩ : ∃ y, y = Y.size := ⟨_, rfl⟩
    have hyY : Y.size = y := hy.symm
    have hyb : y ≤ 9006 := by rw [hy, hY, ByteArray.size_append, pk_size]; omega
    obtain ⟨Z, hZ⟩ : ∃ Z, Z = Y ++ s := ⟨_, rfl⟩
    have HSZ : Hid (Y ++ s = Z) := hZ.symm
    have hE2s : 5 ≤ E2.length := by rw [hE2, List.length_append, hE1, List.length_append, hX1]; simp only [List.length_map, List.length_cons, List.length_nil]; omega
    have hYs : Y.size = E2.length + t.size := by rw [hY, ByteArray.size_append, pk_size]
    have HZs : Hid (PkT Z) := by
      have hzs : Z.size = Y.size + s.size := by rw [hZ, ByteArray.size_append]
      rcases HT2.out with h | h
      · exact PkT.few (by omega)
      · exact ⟨by omega, .inr (.inl (by omega))⟩
    have HE5 : Hid (∀ wz, Below w5.heap.size w5 wz → PkEnd w B p (.returned (.string Z)) wz) := fun wz b => pkEnd_mk HZs.out (show q5 ≤ p + 300 by omega) (H5.out.1.kept (b.mono H5.out.1.lt)) (H5.out.2.trans (Only.of_below b H5.out.1.lt))
    clear hm hn hx hX1 hE1 hE2 hY hy hZ HZs H5 hE2s hYs HT2 hg1 hg2
    go_upto_region 9 with fail
    refine wp_region_told (S := (fun wz => Below w5.heap.size w5 wz)) 15 54 [.lay [0], .is (.string ⟨(X1).toArray⟩), .is (.string t), .is (.int .i64 (n : Int)), .is (.string ⟨(T1).toArray⟩), .is (.string ⟨(E1).toArray⟩), .is (.string t), .is (.int .i64 (n : Int)), .is (.int .i64 (m : Int)), .is (.string ⟨(T2).toArray⟩), .is (.string ⟨(E2).toArray⟩), .is (.string t), .is (.string Y), .is (.string s), .is (.string Z)] (by kernel_rfl) (by kernel_rfl) (by rfl) (fun _ _ _ _ hd h => ⟨hd.trans h.1, h.2⟩) (fun vs => by simp only [puts, List.getElem?_toArray, List.getElem?_cons_succ, List.getElem?_cons_zero, Option.bind_some, Act.put, List.setIfInBounds_toArray, List.set_cons_zero, List.set_cons_succ]; exact rfl) ((Below.refl _ _).drew) ?_ ?_
    · refine TellsFrom.cons rfl (fun vs wz hS hd K hK => ?_) ?_
      · try dsimp only at hK ⊢
        try simp only [List.getElem_toArray, List.getElem_cons_succ, List.getElem_cons_zero, Act.put, List.setIfInBounds_toArray, List.set_cons_zero, List.set_cons_succ]
        go_simp
        exact hK.out _ _ (hS.trans (((Below.refl _ _).alloc (Nat.le_refl _) _).mono hS.size)) ((Below.refl _ _).alloc (Nat.le_refl _) _) (layD1 wz 0)
      refine TellsFrom.cons rfl (fun vs wz hS hd K hK => ?_) ?_
      · try dsimp only at hK ⊢
        have h0 : Lay (vs 0) wz [0] := hd 0 (by kernel_rfl)
        generalize vs 0 = x0 at *
        obtain ⟨B0, rfl, hB0, hC0⟩ := h0
        try simp only [List.getElem_toArray, List.getElem_cons_succ, List.getElem_cons_zero, Act.put, List.setIfInBounds_toArray, List.set_cons_zero, List.set_cons_succ]
        have ht : Sem.run Try.prog (convert 22 9 (.slice (some ⟨B0, 0, none⟩) 1 1)) wz = .ok (.string ⟨X1.toArray⟩) wz := by rw [HX1.out]; exact lay_textD hC0
        go_simp
        exact hK.out _ _ hS (Below.refl _ _) rfl
      refine TellsFrom.cons rfl (fun vs wz hS hd K hK => ?_) ?_
      · try dsimp only at hK ⊢
        try simp only [List.getElem_toArray, List.getElem_cons_succ, List.getElem_cons_zero, Act.put, List.setIfInBounds_toArray, List.set_cons_zero, List.set_cons_succ]
        go_simp
        exact hK.out _ _ hS (Below.refl _ _) rfl
      refine TellsFrom.cons rfl (fun vs wz hS hd K hK => ?_) ?_
      · try dsimp only at hK ⊢
        have h2 : vs 2 = (.string t) := hd 2 (by kernel_rfl)
        generalize vs 2 = x2 at *
        subst h2
        try simp only [List.getElem_toArray, List.getElem_cons_succ, List.getElem_cons_zero, Act.put, List.setIfInBounds_toArray, List.set_cons_zero, List.set_cons_succ]
        go_simp
        exact hK.out _ _ hS (Below.refl _ _) rfl
      refine TellsFrom.cons rfl (fun vs wz hS hd K hK => ?_) ?_
      · try dsimp only at hK ⊢
        have h3 : vs 3 = (.int .i64 (n : Int)) := hd 3 (by kernel_rfl)
        generalize vs 3 = x3 at *
        subst h3
        try simp only [List.getElem_toArray, List.getElem_cons_succ, List.getElem_cons_zero, Act.put, List.setIfInBounds_toArray, List.set_cons_zero, List.set_cons_succ]
        go_simp
        refine (HL1.out _).mono ?_
        rintro e v1 ⟨rfl, b1⟩
        exact hK.out _ _ (Below.trans hS (b1.mono hS.size)) b1 rfl
      refine TellsFrom.cons rfl (fun vs wz hS hd K hK => ?_) ?_
      · try dsimp only at hK ⊢
        have h1 : vs 1 = (.string ⟨(X1).toArray⟩) := hd 1 (by kernel_rfl)
        generalize vs 1 = x1 at *
        subst h1
        have h4 : vs 4 = (.string ⟨(T1).toArray⟩) := hd 4 (by kernel_rfl)
        generalize vs 4 = x4 at *
        subst h4
        try simp only [List.getElem_toArray, List.getElem_cons_succ, List.getElem_cons_zero, Act.put, List.setIfInBounds_toArray, List.set_cons_zero, List.set_cons_succ]
        have hlen : ¬ 9223372036854775807 < X1.length + T1.length := by omega
        go_simp
        first | exact hK.out _ _ hS (Below.refl _ _) (show Value.string ⟨(X1 ++ T1).toArray⟩ = .string ⟨E1.toArray⟩ by rw [HE1.out]) | exact hK.out _ _ hS (Below.refl _ _) (show Value.string (⟨X1.toArray⟩ ++ ⟨T1.toArray⟩) = .string ⟨E1.toArray⟩ by rw [HE1.out, ByteArray.mk_append_mk])
      refine TellsFrom.cons rfl (fun vs wz hS hd K hK => ?_) ?_
      · try dsimp only at hK ⊢
        try simp only [List.getElem_toArray, List.getElem_cons_succ, List.getElem_cons_zero, Act.put, List.setIfInBounds_toArray, List.set_cons_zero, List.set_cons_succ]
        go_simp
        exact hK.out _ _ hS (Below.refl _ _) rfl
      refine TellsFrom.cons rfl (fun vs wz hS hd K hK => ?_) ?_
      · try dsimp only at hK ⊢
        have h6 : vs 6 = (.string t) := hd 6 (by kernel_rfl)
        generalize vs 6 = x6 at *
        subst h6
        try simp only [List.getElem_toArray, List.getElem_cons_succ, List.getElem_cons_zero, Act.put, List.setIfInBounds_toArray, List.set_cons_zero, List.set_cons_succ]
        go_simp
        exact hK.out _ _ hS (Below.refl _ _) rfl
      refine TellsFrom.cons rfl (fun vs wz hS hd K hK => ?_) ?_
      · try dsimp only at hK ⊢
        have h7 : vs 7 = (.int .i64 (n : Int)) := hd 7 (by kernel_rfl)
        generalize vs 7 = x7 at *
        subst h7
        try simp only [List.getElem_toArray, List.getElem_cons_succ, List.getElem_cons_zero, Act.put, List.setIfInBounds_toArray, List.set_cons_zero, List.set_cons_succ]
        go_simp
        exact hK.out _ _ hS (Below.refl _ _) rfl
      refine TellsFrom.cons rfl (fun vs wz hS hd K hK => ?_) ?_
      · try dsimp only at hK ⊢
        have h8 : vs 8 = (.int .i64 (m : Int)) := hd 8 (by kernel_rfl)
        generalize vs 8 = x8 at *
        subst h8
        try simp only [List.getElem_toArray, List.getElem_cons_succ, List.getElem_cons_zero, Act.put, List.setIfInBounds_toArray, List.set_cons_zero, List.set_cons_succ]
        go_simp
        refine (HL2.out _).mono ?_
        rintro e v1 ⟨rfl, b1⟩
        exact hK.out _ _ (Below.trans hS (b1.mono hS.size)) b1 rfl
      refine TellsFrom.cons rfl (fun vs wz hS hd K hK => ?_) ?_
      · try dsimp only at hK ⊢
        have h5 : vs 5 = (.string ⟨(E1).toArray⟩) := hd 5 (by kernel_rfl)
        generalize vs 5 = x5 at *
        subst h5
        have h9 : vs 9 = (.string ⟨(T2).toArray⟩) := hd 9 (by kernel_rfl)
        generalize vs 9 = x9 at *
        subst h9
        try simp only [List.getElem_toArray, List.getElem_cons_succ, List.getElem_cons_zero, Act.put, List.setIfInBounds_toArray, List.set_cons_zero, List.set_cons_succ]
        have hlen : ¬ 9223372036854775807 < E1.length + T2.length := by omega
        go_simp
        first | exact hK.out _ _ hS (Below.refl _ _) (show Value.string ⟨(E1 ++ T2).toArray⟩ = .string ⟨E2.toArray⟩ by rw [HE2.out]) | exact hK.out _ _ hS (Below.refl _ _) (show Value.string (⟨E1.toArray⟩ ++ ⟨T2.toArray⟩) = .string ⟨E2.toArray⟩ by rw [HE2.out, ByteArray.mk_append_mk])
      refine TellsFrom.cons rfl (fun vs wz hS hd K hK => ?_) ?_
      · try dsimp only at hK ⊢
        try simp only [List.getElem_toArray, List.getElem_cons_succ, List.getElem_cons_zero, Act.put, List.setIfInBounds_toArray, List.set_cons_zero, List.set_cons_succ]
        go_simp
        exact hK.out _ _ hS (Below.refl _ _) rfl
      refine TellsFrom.cons rfl (fun vs wz hS hd K hK => ?_) ?_
      · try dsimp only at hK ⊢
        have h10 : vs 10 = (.string ⟨(E2).toArray⟩) := hd 10 (by kernel_rfl)
        generalize vs 10 = x10 at *
        subst h10
        have h11 : vs 11 = (.string t) := hd 11 (by kernel_rfl)
        generalize vs 11 = x11 at *
        subst h11
        try simp only [List.getElem_toArray, List.getElem_cons_succ, List.getElem_cons_zero, Act.put, List.setIfInBounds_toArray, List.set_cons_zero, List.set_cons_succ]
        have hlen : ¬ 9223372036854775807 < E2.length + n := by omega
        go_simp
        exact hK.out _ _ hS (Below.refl _ _) (by show Value.string _ = .string Y; rw [HSB.out])
      refine TellsFrom.cons rfl (fun vs wz hS hd K hK => ?_) ?_
      · try dsimp only at hK ⊢
        try simp only [List.getElem_toArray, List.getElem_cons_succ, List.getElem_cons_zero, Act.put, List.setIfInBounds_toArray, List.set_cons_zero, List.set_cons_succ]
        go_simp
        exact hK.out _ _ hS (Below.refl _ _) rfl
      refine TellsFrom.cons rfl (fun vs wz hS hd K hK => ?_) ?_
      · try dsimp only at hK ⊢
        have h12 : vs 12 = (.string Y) := hd 12 (by kernel_rfl)
        generalize vs 12 = x12 at *
        subst h12
        have h13 : vs 13 = (.string s) := hd 13 (by kernel_rfl)
        generalize vs 13 = x13 at *
        subst h13
        try simp only [List.getElem_toArray, List.getElem_cons_succ, List.getElem_cons_zero, Act.put, List.setIfInBounds_toArray, List.set_cons_zero, List.set_cons_succ]
        have hlen : ¬ 9223372036854775807 < y + x := by omega
        go_simp
        exact hK.out _ _ hS (Below.refl _ _) (by show Value.string _ = .string Z; rw [HSZ.out])
      exact TellsFrom.nil
    · intro vs wz hS hd
      try dsimp only
      have h14 : vs 14 = .string Z := hd 14 (by omega)
      clear hd
      generalize vs 0 = y0 at *
      generalize vs 1 = y1 at *
      generalize vs 2 = y2 at *
      generalize vs 3 = y3 at *
      generalize vs 4 = y4 at *
      generalize vs 5 = y5 at *
      generalize vs 6 = y6 at *
      generalize vs 7 = y7 at *
      generalize vs 8 = y8 at *
      generalize vs 9 = y9 at *
      generalize vs 10 = y10 at *
      generalize vs 11 = y11 at *
      generalize vs 12 = y12 at *
      generalize vs 13 = y13 at *
      generalize vs 14 = y14 at *
      subst h14
      refine wpAnyH_take (i := 15) (v := .string Z) rfl (by kernel_rfl) (by kernel_rfl) (by kernel_rfl) (fun _ _ _ h => h) (Or.inl ⟨by rfl, ?_⟩) trivial ?_
      · intro wy _
        go_simp
      refine wpAnyH_done (by kernel_rfl) ?_ _
      try simp only [List.getElem_toArray, List.getElem_cons_succ, List.getElem_cons_zero, Act.put, List.setIfInBounds_toArray, List.set_cons_zero, List.set_cons_succ]
      have HE : Hid (PkEnd w B p (.returned (.string Z)) wz) := HE5.out wz hS
      go_wp2_with fail
      go_ret
      exact HE.out
  · go_wp2_with fail
    refine (HTX.out (q1 + 1 + 1) w4 H4.out.1 (by omega)).mono ?_
    rintro e w5 ⟨⟨t, rfl, ht⟩, ⟨q5, hq5, hR5⟩, hO5⟩
    have HE : Hid (PkEnd w B p (.returned (.string t)) w5) := pkEnd_mk (PkT.text ht) (by omega) hR5 (H4.out.2.trans hO5)
    clear hR5 hO5 H4 HTX ht
    go_wp2_with fail
    go_ret
    exact HE.out
  · have HE : Hid (∀ t : ByteArray, t.size ≤ 5006 → PkEnd w B p (.returned (.string t)) w4) := fun t ht => pkEnd_mk (PkT.few (by omega)) (show q1 + 1 + 1 ≤ p + 300 by omega) H4.out.1 H4.out.2
    have hlen : ¬ 9223372036854775807 < s.size + 6 := by omega
    clear H4 HTX
    go_wp2_with fail
    go_ret
    exact HE.out _ (by rw [ByteArray.size_append]; show s.size + 6 ≤ _; omega)
  · have HE : Hid (PkEnd w B p (.returned (.string s)) w4) := pkEnd_mk (PkT.few (by omega)) (show q1 + 1 + 1 ≤ p + 300 by omega) H4.out.1 H4.out.2
    have n0 : ((j : Int) == 0) = false := by simp; omega
    have n1 : ((j : Int) == 1) = false := by simp; omega
    have n2 : ((j : Int) == 2) = false := by simp; omega
    have n3 : ((j : Int) == 3) = false := by simp; omega
    have n4 : ((j : Int) == 4) = false := by simp; omega
    clear H4 HTX
    go_wp2_with fail
    go_ret
    exact HE.out
/-- how DrawInflate ends -/
def InfDrawn (w : World) (e : Ending) (w' : World) : Prop := (∃ (t : ByteArray) (lm : Int), e = .returned (.tuple #[.string t, .int .i64 lm]) ∧ PkT t) ∧ Below w.heap.size w w'
set_option maxHeartbeats 2000000 in
theorem drawInflate_any (a : Option Addr) (len cap : Nat) (w : World) (h : Code8 w a len cap) :
    Calls Try.prog 6 #[.slice a len cap] w (InfDrawn w) := by
  have HOP : Hid (Calls Try.prog 12 #[.slice a len cap] w fun e w' => e = .returned (.pointer (some ⟨w.heap.size, 0, none⟩)) ∧ RdAt w' w.heap.size 0 ∧ Below w.heap.size w w') := open_any a len cap w h
  clear h
  go_enter Try.func6, Try.ntmps6
  go_wp2_with fail
  refine HOP.out.mono ?_
  rintro e w1 ⟨rfl, hR1, b1⟩
  obtain ⟨B, hB⟩ : ∃ B, B = w.heap.size := ⟨_, rfl⟩
  rw [← hB] at hR1 b1 ⊢
  have H1 : Hid (RdAt w1 B 0 ∧ Below B w w1 ∧ B = w.heap.size) := ⟨hR1, b1, hB⟩
  clear hR1 b1 HOP hB
  go_wp2_with fail
  refine (l14Packed_any B 0 w1 H1.out.1 (by omega)).mono ?_
  rintro e w2 ⟨⟨t, rfl, ht⟩, ⟨q2, hq2, hR2⟩, hO2⟩
  have H2 : Hid (RdAt w2 B q2 ∧ Below B w w2 ∧ B = w.heap.size) := ⟨hR2, H1.out.2.1.trans hO2.below, H1.out.2.2⟩
  clear hR2 hO2 H1
  go_wp2_with fail
  refine (l14Limit_any B q2 w2 H2.out.1 (by omega)).mono ?_
  rintro e w3 ⟨⟨lm, rfl⟩, hR3, hO3⟩
  have HF : Hid (InfDrawn w (.returned (.tuple #[.string t, .int .i64 lm])) w3) := ⟨⟨t, lm, rfl, ht⟩, by rw [← H2.out.2.2]; exact H2.out.2.1.trans hO3.below⟩
  clear hR3 hO3 H2
  go_wp2_with fail
  go_ret2
  exact HF.out
end Go.Proofs.Ythfdnloeicbgkaa

/- The law on the limit of Inflate, walked. -/
namespace Go.Proofs.Ythfdnloeicbgkaa
open Go.RowKit

theorem empty_str : (ByteArray.mk #[]).toList.isEmpty = true := by decide +kernel
theorem empty_eq : ((ByteArray.mk #[]).toList == (ByteArray.mk #[]).toList) = true := by decide +kernel
/-- Inflate, told in letters -/
theorem inf_call {s : ByteArray} {lim : Int} {O : ByteArray} {u c : Int} (h : infV s lim = .tuple #[.string O, .int .i64 u, .int .i64 c]) (hs : s.size ≤ 3000000) :
    (∀ w : World, Calls Try.prog 7 #[.string s, .int .i64 lim] w fun e w' => e = .returned (.tuple #[.string O, .int .i64 u, .int .i64 c]) ∧ Below w.heap.size w w') ∧ (∀ w : World, Calls Try.prog 8 #[.string s, .int .i64 lim] w fun e w' => e = .returned (.tuple #[.string O, .int .i64 u, .int .i64 c]) ∧ Below w.heap.size w w') :=
  ⟨fun w => by rw [← h]; exact impl_inflate s lim w hs, fun w => by rw [← h]; exact spec_inflate s lim w hs⟩

end Go.Proofs.Ythfdnloeicbgkaa

/- The law on Inflate, walked. -/
namespace Go.Proofs.Ythfdnloeicbgkaa
open Go.RowKit

def behindB : ByteArray := ⟨#[98, 101, 104, 105, 110, 100]⟩
theorem byteAt_left {s t : ByteArray} {i : Nat} (h : i < s.size) : byteAt (s ++ t) i = byteAt s i := by
  have e : byteAt (s ++ t) i = ((s.data.toList ++ t.data.toList).getD i 0).toNat := by
    unfold byteAt
    rw [ByteArray.data_append, Array.toList_append]
  have hl : s.data.toList.length = s.size := Array.length_toList
  rw [e, List.getD_eq_getElem?_getD, List.getElem?_append_left (by omega), ← List.getD_eq_getElem?_getD]
  rfl
theorem agr_app (s t : ByteArray) : Nf.Agr s (s ++ t) (8 * s.size) := by
  refine ⟨fun i hi => ?_, by rw [ByteArray.size_append]; omega⟩
  unfold bitAt
  rw [byteAt_left (by omega)]
theorem agr_cut (s : ByteArray) {u q : Nat} (hu : u ≤ s.size) (hq : q ≤ 8 * u) : Nf.Agr s (s.extract 0 u) q := by
  have hsz : (s.extract 0 u).size = u := by rw [ByteArray.size_extract]; omega
  refine ⟨fun i hi => ?_, by omega⟩
  unfold bitAt
  have : byteAt (s.extract 0 u) (i / 8) = byteAt s (i / 8) := by
    rw [← byteAt_eq _ (i / 8) (by omega), ← byteAt_eq _ (i / 8) (by omega), ByteArray.getElem_extract]
    congr 2
    omega
  rw [this]

set_option linter.unusedSimpArgs false in
set_option maxHeartbeats 4000000 in
set_option maxRecDepth 20000 in
theorem lawInflate (a : Option Addr) (len cap : Nat) (w : World) (h : Code8 w a len cap) :
    Calls Try.prog 3 #[.slice a len cap] w fun e w' => e = .returned (.bool true) ∧ Below w.heap.size w w' := by
  by_cases hbig : 1048576 < len
  · have d0 : decide ((len : Int) > 1048576) = true := by simp; omega
    clear h
    go_enter Try.func3, Try.ntmps3
    go_wp2_with fail
    go_ret
    exact ⟨rfl, Below.refl _ _⟩
  have HDR : Hid (Calls Try.prog 6 #[.slice a len cap] w (InfDrawn w)) := drawInflate_any a len cap w h
  have d0 : decide ((len : Int) > 1048576) = false := by simp; omega
  clear h
  go_enter Try.func3, Try.ntmps3
  go_wp2_with fail
  refine HDR.out.mono ?_
  rintro e w1 ⟨⟨s, lm, rfl, hs⟩, b1⟩
  have B1 : Hid (Below w.heap.size w w1) := b1
  clear b1 HDR
  have hem := empty_str
  have heq := empty_eq
  cases hR : Nf.res s lm with
  | error c =>
    have hc0 : c ≠ 0 := by
      unfold Nf.res at hR
      split at hR
      · exact inf_c0 hR
      · cases hR; decide
    have hcb : ((c : Int) != 0) = true := by simp; omega
    obtain ⟨hI, hS⟩ := inf_call (infV_no hR) (show s.size ≤ 3000000 by have := hs.1; omega)
    have HI : Hid (∀ w : World, Calls Try.prog 7 #[.string s, .int .i64 lm] w fun e w' => e = .returned (.tuple #[.string ⟨#[]⟩, .int .i64 0, .int .i64 (c : Int)]) ∧ Below w.heap.size w w') := hI
    have HS : Hid (∀ w : World, Calls Try.prog 8 #[.string s, .int .i64 lm] w fun e w' => e = .returned (.tuple #[.string ⟨#[]⟩, .int .i64 0, .int .i64 (c : Int)]) ∧ Below w.heap.size w w') := hS
    clear hI hS hR hc0 hs
    generalize ByteArray.mk #[] = E at *
    go_wp2_with fail
    refine (HI.out _).mono ?_
    rintro e w2 ⟨rfl, b2⟩
    have B2 : Hid (Below w.heap.size w w2) := B1.out.trans (b2.mono B1.out.size)
    clear b2 B1
    go_wp2_with fail
    refine (HS.out _).mono ?_
    rintro e w3 ⟨rfl, b3⟩
    have B3 : Hid (Below w.heap.size w w3) := B2.out.trans (b3.mono B2.out.size)
    clear b3 B2
    go_wp2_with fail
    go_ret
    exact ⟨rfl, B3.out⟩
  | ok R =>
    obtain ⟨⟨L, q⟩, ks⟩ := R
    have hv : s.size ≤ 9000 ∧ 0 ≤ lm ∧ lm ≤ 5000 := by
      unfold Nf.res at hR
      split at hR
      · assumption
      · cases hR
    obtain ⟨M, rfl⟩ := Int.eq_ofNat_of_zero_le hv.2.1
    have hs9 := hv.1
    have hM : M ≤ 5000 := by have := hv.2.2; omega
    have hin : Nf.inflate s M = .ok ((L, q), ks) := by rw [← Nf.res_ok hs9 hM]; exact hR
    have hs8 : s.size ≤ 8000 := by
      rcases hs.2 with h | h | h
      · exact h
      · omega
      · have := Nf.t9_inf h.1 h.2 M
        rw [this] at hin
        cases hin
    have hle := inf_le hin
    obtain ⟨O, hO⟩ : ∃ O : ByteArray, O = ⟨L.toArray⟩ := ⟨_, rfl⟩
    have hOs : O.size = L.length := by rw [hO]; simp [ByteArray.size]
    obtain ⟨u, hu⟩ : ∃ u : Nat, u = (q + 7) / 8 := ⟨_, rfl⟩
    have hus : u ≤ s.size := by omega
    obtain ⟨s2, hs2⟩ : ∃ s2, s2 = s ++ behindB := ⟨_, rfl⟩
    have hs2z : s2.size = s.size + 6 := by rw [hs2, ByteArray.size_append]; rfl
    obtain ⟨s3, hs3⟩ : ∃ s3, s3 = s.extract 0 u := ⟨_, rfl⟩
    have hs3z : s3.size = u := by rw [hs3, ByteArray.size_extract]; omega
    have hin2 : Nf.inflate s2 M = .ok ((L, q), ks) := by rw [hs2]; exact Nf.inflate_pre (agr_app s behindB) hin hle.1
    have hin3 : Nf.inflate s3 M = .ok ((L, q), ks) := by rw [hs3]; exact Nf.inflate_pre (Q := q) (agr_cut s hus (by omega)) hin (Nat.le_refl _)
    have v1 : infV s (M : Int) = .tuple #[.string O, .int .i64 (u : Int), .int .i64 0] := by rw [hO, hu]; exact infV_ok hR
    have v2 : infV s2 (M : Int) = .tuple #[.string O, .int .i64 (u : Int), .int .i64 0] := by rw [hO, hu]; exact infV_ok ((Nf.res_ok (by omega) hM).trans hin2)
    have v3 : infV s3 (M : Int) = .tuple #[.string O, .int .i64 (u : Int), .int .i64 0] := by rw [hO, hu]; exact infV_ok ((Nf.res_ok (by omega) hM).trans hin3)
    obtain ⟨hI, hS⟩ := inf_call v1 (show s.size ≤ 3000000 by omega)
    obtain ⟨hI2, _⟩ := inf_call v2 (show s2.size ≤ 3000000 by omega)
    obtain ⟨hI3, _⟩ := inf_call v3 (show s3.size ≤ 3000000 by omega)
    have HI : Hid (∀ w : World, Calls Try.prog 7 #[.string s, .int .i64 (M : Int)] w fun e w' => e = .returned (.tuple #[.string O, .int .i64 (u : Int), .int .i64 0]) ∧ Below w.heap.size w w') := hI
    have HS : Hid (∀ w : World, Calls Try.prog 8 #[.string s, .int .i64 (M : Int)] w fun e w' => e = .returned (.tuple #[.string O, .int .i64 (u : Int), .int .i64 0]) ∧ Below w.heap.size w w') := hS
    have HI2 : Hid (∀ w : World, Calls Try.prog 7 #[.string s2, .int .i64 (M : Int)] w fun e w' => e = .returned (.tuple #[.string O, .int .i64 (u : Int), .int .i64 0]) ∧ Below w.heap.size w w') := hI2
    have HI3 : Hid (∀ w : World, Calls Try.prog 7 #[.string s3, .int .i64 (M : Int)] w fun e w' => e = .returned (.tuple #[.string O, .int .i64 (u : Int), .int .i64 0]) ∧ Below w.heap.size w w') := hI3
    have hoo : (O.toList == O.toList) = true := by simp
    have hOM : (O.size : Int) ≤ (M : Int) := by omega
    have husi : (u : Int) ≤ (s.size : Int) := by omega
    have hlen : ¬ 9223372036854775807 < s.size + 6 := by omega
    have happ : s ++ (⟨#[98, 101, 104, 105, 110, 100]⟩ : ByteArray) = s2 := hs2.symm
    have hext : s.extract 0 u = s3 := hs3.symm
    clear hI hS hI2 hI3 hR hin hin2 hin3 v1 v2 v3 hO hu hOs hs2 hs3 hs2z hs3z hle hs hv
    go_wp2_with fail
    refine (HI.out _).mono ?_
    rintro e w2 ⟨rfl, b2⟩
    have B2 : Hid (Below w.heap.size w w2) := B1.out.trans (b2.mono B1.out.size)
    clear b2 B1
    go_wp2_with fail
    refine (HS.out _).mono ?_
    rintro e w3 ⟨rfl, b3⟩
    have B3 : Hid (Below w.heap.size w w3) := B2.out.trans (b3.mono B2.out.size)
    clear b3 B2
    go_wp2_with fail
    refine (HI2.out _).mono ?_
    rintro e w4 ⟨rfl, b4⟩
    have B4 : Hid (Below w.heap.size w w4) := B3.out.trans (b4.mono B3.out.size)
    clear b4 B3
    go_wp2_with fail
    refine (HI3.out _).mono ?_
    rintro e w5 ⟨rfl, b5⟩
    have B5 : Hid (Below w.heap.size w w5) := B4.out.trans (b5.mono B4.out.size)
    clear b5 B4
    go_wp2_with fail
    go_ret
    exact ⟨rfl, B5.out⟩
end Go.Proofs.Ythfdnloeicbgkaa
