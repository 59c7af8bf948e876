/- The specification's reader of LZW does what a number says: the next one, learnt. -/
import Derived.Test.YtjfihmpnbblomaaLzStep
namespace Go.Proofs.Ytjfihmpnbblomaa
open Go.RowKit

set_option linter.unusedSimpArgs false in
set_option linter.unusedVariables false in
set_option maxHeartbeats 2000000 in
set_option maxRecDepth 20000 in
theorem szStep_moreny (w0 : World) (base B b limit p v g n cap : Nat) (wide : Bool) (s last : ByteArray) (l : List ByteArray) (o : List UInt8) (cs : List Int) (ov cv : Value) (w : World) (hb : b ≤ 8) (hB : base ≤ B) (hn : n ≤ 4096) (hv4 : v ≤ 4096) (hlim : limit ≤ 5000) (hol : o.length ≤ 5000) (hlb : last.size ≤ 5001)
    (h : SzP w0 base B b wide s limit p l last o cs 0 g n cap ov cv w) (h1 : v ≠ 2 ^ b) (h2 : v ≠ 2 ^ b + 1) (hvn : v = n) (hl1 : 1 ≤ last.size) (t : ByteArray) (ht : t = last ++ last.extract 0 1) (htp : 1 ≤ t.size) (htb : t.size ≤ 5001) (hshort : o.length + t.size ≤ limit) (hlast : 1 ≤ last.size) (hn4 : n < 4096) :
    Calls Try.prog 56 #[.pointer (some ⟨B, 0, none⟩), .int .i64 (v : Int)] w fun e w' => e = .returned (.bool true) ∧ SzS w0 base B b wide s limit p (l ++ [last ++ t.extract 0 1]) t (o ++ t.data.toList) cs 0 w' := by
  have HPW : Hid (∀ w', Calls Try.prog 35 #[.int .i64 (b : Int)] w' fun e w'' => e = .returned (.int .i64 ((2 ^ b : Nat) : Int)) ∧ w'' = w') := fun w' => l1Pow_any b w' (by omega)
  have hpw := Lz.pow_le hb
  have HS : Hid (SzP w0 base B b wide s limit p l last o cs 0 g n cap ov cv w) := h
  have hln := h.ol.len
  have c1 := h.r.cell 1
  have c5 := h.r.cell 5
  have c6 := h.r.cell 6
  have c7 := h.r.cell 7
  have c9 := h.r.cell 9
  have f5 := h.r.free 5
  have f6 := h.r.free 6
  have f9 := h.r.free 9
  simp at c1 c5 c6 c7 c9
  subst hvn
  have hem := ne_empty hl1
  have hi1 : (1 : Int) ≤ (last.size : Int) := by omega
  have hng : ¬ (v : Int) < (v : Int) := by omega
  have hlz : ¬ 9223372036854775807 < last.size + (last.extract 0 1).size := by rw [ByteArray.size_extract]; omega
  have hlz2 : last.size + (last.extract 0 1).size ≤ 9223372036854775807 := by omega
  have HT : Hid (last ++ last.extract 0 1 = t) := ht.symm
  clear ht
  have eA : IntKind.i64.wrap ((o.length : Int) + (t.size : Int)) = ((o.length + t.size : Nat) : Int) := by
    have := wrap_i64_nat (o.length + t.size) (by omega)
    simpa using this
  obtain ⟨ao, ocap, rfl⟩ : ∃ ao ocap, ov = .slice ao o.length ocap := by
    rcases h.ot.2 with ⟨rfl, h0⟩ | ⟨g', cap', cur, rfl, _⟩
    · exact ⟨none, 0, by rw [h0]⟩
    · exact ⟨_, _, rfl⟩
  have c3 := h.r.cell 3
  simp at c3
  have hne1 : ¬ (v : Int) = ((2 ^ b : Nat) : Int) := by omega
  have hne2 : ¬ (v : Int) = ((2 ^ b : Nat) : Int) + 1 := by omega
  have hqb : ((2 ^ b : Nat) : Int) ≤ 256 := by omega
  clear h
  obtain ⟨i0, hi0, hz0, hz1, hz2⟩ := info_parts info_u8t
  have hbase : base ≤ w.heap.size := by have := HS.out.r.lt; omega
  have hml : o.length + t.size ≤ maxLen := by unfold maxLen; omega
  have hne6 := ne_empty hlast
  have hnb : (v : Int) < 4096 := by omega
  obtain ⟨u, hu⟩ : ∃ u, u = t.extract 0 1 := ⟨_, rfl⟩
  have hus : u.size = 1 := by rw [hu, ByteArray.size_extract]; omega
  have hlen : ¬ 9223372036854775807 < last.size + 1 := by omega
  have hti : (1 : Int) ≤ (t.size : Int) := by omega
  obtain ⟨X, hX⟩ : ∃ X, X = last ++ u := ⟨_, rfl⟩
  rw [← hu, ← hX]
  have HU : Hid (u = t.extract 0 1) := hu
  have HX : Hid (X = last ++ u) := hX
  clear hu hX
  have hdl : ¬ (limit : Int) < (o.length : Int) + (t.size : Int) := by omega
  generalize 2 ^ b = Q at *
  go_enter Try.func56, Try.ntmps56
  go_wp2_with fail
  refine (HPW.out _).mono ?_
  rintro e w1 ⟨rfl, hw1⟩
  replace hw1 := hw1.symm
  subst hw1
  go_wp2_with fail
  try rw [HT.out]
  go_quiet (fail)
  generalize hwr : w.drewN nq = w1
  have HS1 : Hid (SzP w0 base B b wide s limit p l last o cs 0 g v cap (.slice ao o.length ocap) cv w1) := by rw [← hwr]; exact HS.out.drewN _
  have hbase1 : base ≤ w1.heap.size := by rw [← hwr]; exact hbase
  clear hwr c1 c3 c5 c6 c7 c9 f5 f6 f9 HS hbase
  have c7 := HS1.out.r.cell 7
  simp at c7
  go_wp2_with (at_builtin; refine Go.Lib.wpList_append_own_string _ (by rfl) _ _ _ _ (by rfl) base 5 i0 Try.underlying22 Try.underlying9 hi0 hz0 hz1 hz2 (.slice ao o.length ocap) o.length (u8V o) (by rfl) HS1.out.ot t (by rfl) hml (by omega) hbase1 ?_)
  intro ov2 w2 hown2 hg2 hat2
  clear hat2
  rw [u8V_str, u8V_append] at hown2
  obtain ⟨ao2, n2, ocap2, rfl⟩ : ∃ ao n cap, ov2 = .slice ao n cap := by
    rcases hown2.2 with ⟨rfl, _⟩ | ⟨g', cap', cur, rfl, _⟩
    · exact ⟨_, _, _, rfl⟩
    · exact ⟨_, _, _, rfl⟩
  have hlo2 : (o ++ t.data.toList).length = o.length + t.size := by rw [List.length_append]; rfl
  have hoB : (Value.slice ao o.length ocap).ownBlock ≠ some B := HS1.out.r.apart HS1.out.ot (by decide)
  have hr2 : SzR w2 B b wide s limit p (.slice (some ⟨g, 0, none⟩) v cap) last (.slice ao o.length ocap) cv 0 := HS1.out.r.same (hg2.block _ HS1.out.r.lt (fun e => hoB e.symm))
  have hol2 : OwnL w2 base (.slice (some ⟨g, 0, none⟩) v cap) v l := ownsRow_besides HS1.out.ol (fun k hk => hg2.block k (World.ownsRow.lt HS1.out.ol k hk).2 (fun e => rows_apart HS1.out.ot HS1.out.ol (by decide) k e.symm hk))
  have hoi2 : OwnI w2 base cv cs.length cs := ownsRow_besides HS1.out.oi (fun k hk => hg2.block k (World.ownsRow.lt HS1.out.oi k hk).2 (fun e => rows_apart HS1.out.ot HS1.out.oi (by decide) k e.symm hk))
  have hbel2 : Below base w0 w2 := HS1.out.bel.grown hg2 hbase1 (fun k hk => (World.ownsRow.lt HS1.out.ot k hk).1)
  obtain ⟨W3, hW3⟩ : ∃ W3, W3 = w2.setCell ⟨B, 7, none⟩ (.slice ao2 n2 ocap2) := ⟨_, rfl⟩
  have hP3 : SzP w0 base B b wide s limit p l last (o ++ t.data.toList) cs 0 g v cap (.slice ao2 n2 ocap2) cv W3 := by
    rw [hW3]
    exact ⟨hr2.set rfl, row_set hol2 (hr2.apart hol2 (by decide)), row_set (by rw [hlo2]; exact hown2) (hr2.apart hown2 (by decide)), row_set hoi2 (hr2.apart hoi2 (by decide)), hbel2.setCell hB _⟩
  have HP3 : Hid (SzP w0 base B b wide s limit p l last (o ++ t.data.toList) cs 0 g v cap (.slice ao2 n2 ocap2) cv W3) := hP3
  have k7 := hr2.cell 7
  have kf7 := hr2.free 7
  have k5 := hP3.r.cell 5
  have kf5 := hP3.r.free 5
  have k6 := hP3.r.cell 6
  have kf6 := hP3.r.free 6
  simp at k5 k6 k7
  have hbase3 : base ≤ W3.heap.size := by have := hP3.r.lt; omega
  rw [hW3] at k5 kf5 k6 kf6
  have HW3 : Hid (w2.setCell ⟨B, 7, none⟩ (.slice ao2 n2 ocap2) = W3) := hW3.symm
  clear hown2 hg2 hlo2 hoB hr2 hol2 hoi2 hbel2 hP3 HS1 c7 hW3
  go_wp2_with fail
  rw [HW3.out]
  refine wp_region_any (by kernel_rfl) ?_
  refine wpAny_take (i := 0) (v := (.pointer (some ⟨B, 0, none⟩))) rfl (by kernel_rfl) (by kernel_rfl) (by kernel_rfl) (fun _ _ _ h => h) (Or.inl ⟨by rfl, ?_⟩) ?_
  · intro wy
    go_simp
  try simp only [List.getElem_toArray, List.getElem_cons_succ, List.getElem_cons_zero, Act.put, List.setIfInBounds_toArray, List.set_cons_zero, List.set_cons_succ]
  refine wpAny_told (S := (fun wy => SzR wy B b wide s limit p (.slice (some ⟨g, 0, none⟩) v cap) last (.slice ao2 n2 ocap2) cv 0 ∧ Below W3.heap.size W3 wy)) [0] 13 139 [.is (.pointer (some ⟨B, 0, none⟩)), .is (.pointer (some ⟨B, 0, none⟩)), .is (.pointer (some ⟨B, 0, none⟩)), .is (.pointer (some ⟨B, 5, none⟩)), .is (.slice (some ⟨g, 0, none⟩) v cap), .is (.pointer (some ⟨B, 0, none⟩)), .is (.pointer (some ⟨B, 0, none⟩)), .is (.pointer (some ⟨B, 6, none⟩)), .is (.string last), .is (.string t), .is (.string u), .is (.string X), .own (fun v w => LayT v w X) (fun _ _ _ b h => h.kept b)] (fun j => if j = 0 then (.pointer (some ⟨B, 0, none⟩)) else undef) (by kernel_rfl) (by kernel_rfl) (by kernel_rfl) (by kernel_rfl) (by kernel_rfl) (by rfl) (fun _ _ _ _ hd h => ⟨hd.trans h.1, h.2⟩) (by kernel_rfl) (fun j hj => by simp only [List.mem_cons, List.not_mem_nil, or_false] at hj; rcases hj with rfl <;> rfl) (fun vs => by simp only [puts, List.getElem?_toArray, List.getElem?_cons_succ, List.getElem?_cons_zero, Option.bind_some, Act.put, List.setIfInBounds_toArray, List.set_cons_zero, List.set_cons_succ]; exact rfl) ⟨HP3.out.r.drew, (Below.refl _ _).drew⟩ ?_ ?_
  · refine TellsFrom.cons rfl (fun vs wz hS hd K hK => ?_) ?_
    · try dsimp only at hK ⊢
      try simp only [List.getElem_toArray, List.getElem_cons_succ, List.getElem_cons_zero, Act.put, List.setIfInBounds_toArray, List.set_cons_zero, List.set_cons_succ]
      have s5 := hS.1.cell 5
      have s6 := hS.1.cell 6
      simp at s5 s6
      go_simp
      exact hK.out _ _ hS (Below.refl _ _) rfl
    refine TellsFrom.cons rfl (fun vs wz hS hd K hK => ?_) ?_
    · try dsimp only at hK ⊢
      try simp only [List.getElem_toArray, List.getElem_cons_succ, List.getElem_cons_zero, Act.put, List.setIfInBounds_toArray, List.set_cons_zero, List.set_cons_succ]
      have s5 := hS.1.cell 5
      have s6 := hS.1.cell 6
      simp at s5 s6
      go_simp
      exact hK.out _ _ hS (Below.refl _ _) rfl
    refine TellsFrom.cons rfl (fun vs wz hS hd K hK => ?_) ?_
    · try dsimp only at hK ⊢
      have h1 : vs 1 = (.pointer (some ⟨B, 0, none⟩)) := hd 1 (by kernel_rfl)
      generalize vs 1 = x1 at *
      subst h1
      try simp only [List.getElem_toArray, List.getElem_cons_succ, List.getElem_cons_zero, Act.put, List.setIfInBounds_toArray, List.set_cons_zero, List.set_cons_succ]
      have s5 := hS.1.cell 5
      have s6 := hS.1.cell 6
      simp at s5 s6
      go_simp
      exact hK.out _ _ hS (Below.refl _ _) rfl
    refine TellsFrom.cons rfl (fun vs wz hS hd K hK => ?_) ?_
    · try dsimp only at hK ⊢
      have h2 : vs 2 = (.pointer (some ⟨B, 0, none⟩)) := hd 2 (by kernel_rfl)
      generalize vs 2 = x2 at *
      subst h2
      try simp only [List.getElem_toArray, List.getElem_cons_succ, List.getElem_cons_zero, Act.put, List.setIfInBounds_toArray, List.set_cons_zero, List.set_cons_succ]
      have s5 := hS.1.cell 5
      have s6 := hS.1.cell 6
      simp at s5 s6
      go_simp
      exact hK.out _ _ hS (Below.refl _ _) rfl
    refine TellsFrom.cons rfl (fun vs wz hS hd K hK => ?_) ?_
    · try dsimp only at hK ⊢
      have h3 : vs 3 = (.pointer (some ⟨B, 5, none⟩)) := hd 3 (by kernel_rfl)
      generalize vs 3 = x3 at *
      subst h3
      try simp only [List.getElem_toArray, List.getElem_cons_succ, List.getElem_cons_zero, Act.put, List.setIfInBounds_toArray, List.set_cons_zero, List.set_cons_succ]
      have s5 := hS.1.cell 5
      have s6 := hS.1.cell 6
      simp at s5 s6
      go_simp
      exact hK.out _ _ hS (Below.refl _ _) rfl
    refine TellsFrom.cons rfl (fun vs wz hS hd K hK => ?_) ?_
    · try dsimp only at hK ⊢
      try simp only [List.getElem_toArray, List.getElem_cons_succ, List.getElem_cons_zero, Act.put, List.setIfInBounds_toArray, List.set_cons_zero, List.set_cons_succ]
      have s5 := hS.1.cell 5
      have s6 := hS.1.cell 6
      simp at s5 s6
      go_simp
      exact hK.out _ _ hS (Below.refl _ _) rfl
    refine TellsFrom.cons rfl (fun vs wz hS hd K hK => ?_) ?_
    · try dsimp only at hK ⊢
      have h5 : vs 5 = (.pointer (some ⟨B, 0, none⟩)) := hd 5 (by kernel_rfl)
      generalize vs 5 = x5 at *
      subst h5
      try simp only [List.getElem_toArray, List.getElem_cons_succ, List.getElem_cons_zero, Act.put, List.setIfInBounds_toArray, List.set_cons_zero, List.set_cons_succ]
      have s5 := hS.1.cell 5
      have s6 := hS.1.cell 6
      simp at s5 s6
      go_simp
      exact hK.out _ _ hS (Below.refl _ _) rfl
    refine TellsFrom.cons rfl (fun vs wz hS hd K hK => ?_) ?_
    · try dsimp only at hK ⊢
      have h6 : vs 6 = (.pointer (some ⟨B, 0, none⟩)) := hd 6 (by kernel_rfl)
      generalize vs 6 = x6 at *
      subst h6
      try simp only [List.getElem_toArray, List.getElem_cons_succ, List.getElem_cons_zero, Act.put, List.setIfInBounds_toArray, List.set_cons_zero, List.set_cons_succ]
      have s5 := hS.1.cell 5
      have s6 := hS.1.cell 6
      simp at s5 s6
      go_simp
      exact hK.out _ _ hS (Below.refl _ _) rfl
    refine TellsFrom.cons rfl (fun vs wz hS hd K hK => ?_) ?_
    · try dsimp only at hK ⊢
      have h7 : vs 7 = (.pointer (some ⟨B, 6, none⟩)) := hd 7 (by kernel_rfl)
      generalize vs 7 = x7 at *
      subst h7
      try simp only [List.getElem_toArray, List.getElem_cons_succ, List.getElem_cons_zero, Act.put, List.setIfInBounds_toArray, List.set_cons_zero, List.set_cons_succ]
      have s5 := hS.1.cell 5
      have s6 := hS.1.cell 6
      simp at s5 s6
      go_simp
      exact hK.out _ _ hS (Below.refl _ _) rfl
    refine TellsFrom.cons rfl (fun vs wz hS hd K hK => ?_) ?_
    · try dsimp only at hK ⊢
      try simp only [List.getElem_toArray, List.getElem_cons_succ, List.getElem_cons_zero, Act.put, List.setIfInBounds_toArray, List.set_cons_zero, List.set_cons_succ]
      have s5 := hS.1.cell 5
      have s6 := hS.1.cell 6
      simp at s5 s6
      go_simp
      exact hK.out _ _ hS (Below.refl _ _) rfl
    refine TellsFrom.cons rfl (fun vs wz hS hd K hK => ?_) ?_
    · try dsimp only at hK ⊢
      have h9 : vs 9 = (.string t) := hd 9 (by kernel_rfl)
      generalize vs 9 = x9 at *
      subst h9
      try simp only [List.getElem_toArray, List.getElem_cons_succ, List.getElem_cons_zero, Act.put, List.setIfInBounds_toArray, List.set_cons_zero, List.set_cons_succ]
      go_simp
      exact hK.out _ _ hS (Below.refl _ _) (show Value.string _ = Value.string u by rw [HU.out])
    refine TellsFrom.cons rfl (fun vs wz hS hd K hK => ?_) ?_
    · try dsimp only at hK ⊢
      have h8 : vs 8 = (.string last) := hd 8 (by kernel_rfl)
      generalize vs 8 = x8 at *
      subst h8
      have h10 : vs 10 = (.string u) := hd 10 (by kernel_rfl)
      generalize vs 10 = x10 at *
      subst h10
      try simp only [List.getElem_toArray, List.getElem_cons_succ, List.getElem_cons_zero, Act.put, List.setIfInBounds_toArray, List.set_cons_zero, List.set_cons_succ]
      go_simp
      exact hK.out _ _ hS (Below.refl _ _) (show Value.string _ = Value.string X by rw [HX.out])
    refine TellsFrom.cons rfl (fun vs wz hS hd K hK => ?_) ?_
    · try dsimp only at hK ⊢
      have h11 : vs 11 = (.string X) := hd 11 (by kernel_rfl)
      generalize vs 11 = x11 at *
      subst h11
      try simp only [List.getElem_toArray, List.getElem_cons_succ, List.getElem_cons_zero, Act.put, List.setIfInBounds_toArray, List.set_cons_zero, List.set_cons_succ]
      go_simp
      exact hK.out _ _ ⟨hS.1.same (((Below.refl _ _).alloc (Nat.le_refl _) _).block _ hS.1.lt), hS.2.trans (((Below.refl _ _).alloc (Nat.le_refl _) _).mono hS.2.size)⟩ ((Below.refl _ _).alloc (Nat.le_refl _) _) (layT_new wz X)
    exact TellsFrom.nil
  · intro vs wz hS hd
    try dsimp only
    have h12 : LayT (vs 12) wz X := hd 12 (by omega)
    have h0 : vs 0 = .pointer (some ⟨B, 0, none⟩) := hd 0 (by omega)
    have h4 : vs 4 = .slice (some ⟨g, 0, none⟩) v cap := hd 4 (by omega)
    clear hd
    generalize vs 0 = y0 at *
    generalize vs 1 = y1 at *
    generalize vs 2 = y2 at *
    generalize vs 3 = y3 at *
    generalize vs 4 = y4 at *
    generalize vs 5 = y5 at *
    generalize vs 6 = y6 at *
    generalize vs 7 = y7 at *
    generalize vs 8 = y8 at *
    generalize vs 9 = y9 at *
    generalize vs 10 = y10 at *
    generalize vs 11 = y11 at *
    generalize vs 12 = y12 at *
    subst h0
    subst h4
    obtain ⟨Bn, rfl, hCn⟩ := h12
    have HL1 : Hid (SzR wz B b wide s limit p (.slice (some ⟨g, 0, none⟩) v cap) last (.slice ao2 n2 ocap2) cv 0) := hS.1
    have HB1 : Hid (Below W3.heap.size W3 wz) := hS.2
    clear hS
    refine wpAnyH_ready (rs := [13]) (by kernel_rfl) (by simp) ?_
    refine AllReadyH.cons rfl (fun K hK => ?_) AllReadyH.nil
    refine step_appT wz rfl (.tmp 123) (.tmp 131) rfl base (.slice (some ⟨g, 0, none⟩) v cap) v l X Bn rfl (ownsRow_besides HP3.out.ol (fun k hk => HB1.out.block k (World.ownsRow.lt HP3.out.ol k hk).2)) rfl hCn (by omega) (Nat.le_trans hbase3 HB1.out.size) ?_
    intro g2 cap2 w4 ho4 hg4
    have hgB : (Value.slice (some ⟨g, 0, none⟩) v cap).ownBlock ≠ some B := HP3.out.r.apart HP3.out.ol (by decide)
    have hr4 : SzR w4 B b wide s limit p (.slice (some ⟨g, 0, none⟩) v cap) last (.slice ao2 n2 ocap2) cv 0 := HL1.out.same (hg4.block B HL1.out.lt (fun e => hgB e.symm))
    have hb3 := HB1.out.size
    have hot4 : OwnT w4 base (.slice ao2 n2 ocap2) (o ++ t.data.toList).length (o ++ t.data.toList) := ownsRow_besides HP3.out.ot (fun k hk => (hg4.block k (by have := (World.ownsRow.lt HP3.out.ot k hk).2; omega) (fun e => rows_apart HP3.out.ot HP3.out.ol (by decide) k hk e.symm)).trans (HB1.out.block k (World.ownsRow.lt HP3.out.ot k hk).2))
    have hoi4 : OwnI w4 base cv cs.length cs := ownsRow_besides HP3.out.oi (fun k hk => (hg4.block k (by have := (World.ownsRow.lt HP3.out.oi k hk).2; omega) (fun e => rows_apart HP3.out.oi HP3.out.ol (by decide) k hk e.symm)).trans (HB1.out.block k (World.ownsRow.lt HP3.out.oi k hk).2))
    have hbel4 : Below base w0 w4 := hg4.below (HP3.out.bel.trans (HB1.out.mono hbase3)) (Nat.le_refl _) (by omega)
    have hP5 : SzP w0 base B b wide s limit p (l ++ [X]) last (o ++ t.data.toList) cs 0 g2 (v + 1) cap2 (.slice ao2 n2 ocap2) cv (w4.setCell ⟨B, 5, none⟩ (.slice (some ⟨g2, 0, none⟩) (v + 1) cap2)) :=
      ⟨hr4.set rfl, row_set ho4 (hr4.apart ho4 (by decide)), row_set hot4 (hr4.apart hot4 (by decide)), row_set hoi4 (hr4.apart hoi4 (by decide)), hbel4.setCell hB _⟩
    have HP5 : Hid (SzP w0 base B b wide s limit p (l ++ [X]) last (o ++ t.data.toList) cs 0 g2 (v + 1) cap2 (.slice ao2 n2 ocap2) cv (w4.setCell ⟨B, 5, none⟩ (.slice (some ⟨g2, 0, none⟩) (v + 1) cap2))) := hP5
    have d5 := hr4.cell 5
    have df5 := hr4.free 5
    have m6 := hP5.r.cell 6
    have mf6 := hP5.r.free 6
    simp at d5 m6
    clear ho4 hg4 hgB hr4 hot4 hoi4 hbel4 hP5 hb3 HB1 HL1 HP3
    refine hK.out _ _ trivial (fun _ => ?_)
    clear hK K
    try simp only [List.getElem_toArray, List.getElem_cons_succ, List.getElem_cons_zero, Act.put, List.setIfInBounds_toArray, List.set_cons_zero, List.set_cons_succ]
    refine wpAnyH_take (i := 14) (v := .pointer (some ⟨B, 0, none⟩)) rfl (by kernel_rfl) (by kernel_rfl) (by kernel_rfl) (fun _ _ _ h => h) (Or.inl ⟨by rfl, ?_⟩) trivial ?_
    · intro wy _
      go_simp
    try simp only [List.getElem_toArray, List.getElem_cons_succ, List.getElem_cons_zero, Act.put, List.setIfInBounds_toArray, List.set_cons_zero, List.set_cons_succ]
    refine wpAnyH_take (i := 15) (v := .pointer (some ⟨B, 5, none⟩)) rfl (by kernel_rfl) (by kernel_rfl) (by kernel_rfl) (fun _ _ _ h => h) (Or.inl ⟨by rfl, ?_⟩) trivial ?_
    · intro wy _
      go_simp
    try simp only [List.getElem_toArray, List.getElem_cons_succ, List.getElem_cons_zero, Act.put, List.setIfInBounds_toArray, List.set_cons_zero, List.set_cons_succ]
    refine wpAnyH_ready (rs := [16]) (by kernel_rfl) (by simp) ?_
    refine AllReadyH.cons rfl (fun K hK => ?_) AllReadyH.nil
    go_simp
    refine hK.out _ _ trivial (fun _ => ?_)
    clear hK K
    refine wpAnyH_done (by kernel_rfl) ?_ _
    try simp only [List.getElem_toArray, List.getElem_cons_succ, List.getElem_cons_zero, Act.put, List.setIfInBounds_toArray, List.set_cons_zero, List.set_cons_succ]
    go_wp2_with fail
    go_ret
    exact ⟨rfl, _, _, _, _, _, HP5.out.set hB rfl⟩
end Go.Proofs.Ytjfihmpnbblomaa
