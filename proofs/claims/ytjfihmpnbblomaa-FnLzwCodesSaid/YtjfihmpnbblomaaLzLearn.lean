/- What a reader of LZW learns. -/
import Derived.Test.YtjfihmpnbblomaaLzRdr
namespace Go.Proofs.Ytjfihmpnbblomaa
open Go.RowKit

set_option linter.unusedSimpArgs false in
set_option maxHeartbeats 2000000 in
set_option maxRecDepth 20000 in
theorem lzLearn_yes (B b p left lo n g cap : Nat) (wide : Bool) (s last t : ByteArray) (l : List ByteArray) (w : World) (h : LzR w B b wide s p (.slice (some ⟨g, 0, none⟩) n cap) last left) (ho : OwnL w lo (.slice (some ⟨g, 0, none⟩) n cap) n l) (hgB : g ≠ B) (hlo : lo ≤ w.heap.size) (hn : n < 4096) (hlast : 1 ≤ last.size) (hlb : last.size ≤ 5001) (ht : 1 ≤ t.size) (htb : t.size ≤ 5001) :
    Calls Try.prog 73 #[.pointer (some ⟨B, 0, none⟩), .string t] w fun e w' => e = .returned (.tuple #[]) ∧ ∃ g2 cap2, g2 ≠ B ∧ LzR w' B b wide s p (.slice (some ⟨g2, 0, none⟩) (n + 1) cap2) t left ∧ OwnL w' lo (.slice (some ⟨g2, 0, none⟩) (n + 1) cap2) (n + 1) (l ++ [last ++ t.extract 0 1]) ∧ LzG B (.slice (some ⟨g, 0, none⟩) n cap) (.slice (some ⟨g2, 0, none⟩) (n + 1) cap2) w w' := by
  have HL : Hid (LzR w B b wide s p (.slice (some ⟨g, 0, none⟩) n cap) last left) := h
  have HO : Hid (OwnL w lo (.slice (some ⟨g, 0, none⟩) n cap) n l) := ho
  have hc5 := h.c5
  have hc6 := h.c6
  have hwB : w.heap.size ≠ B := fun e => by have := h.lt; omega
  clear h ho
  have hne2 : last.toList.isEmpty = false := by
    rw [← Bool.not_eq_true, List.isEmpty_iff]; exact fun e => by have h := congrArg List.length e; rw [toList_len] at h; have h2 : last.size = 0 := h; omega
  have hnb : (n : Int) < 4096 := by omega
  have ht1 : (1 : Int) ≤ (t.size : Int) := by omega
  obtain ⟨u, hu⟩ : ∃ u, u = t.extract 0 1 := ⟨_, rfl⟩
  have hus : u.size = 1 := by rw [hu, ByteArray.size_extract]; omega
  have hlen : ¬ 9223372036854775807 < last.size + 1 := by omega
  obtain ⟨X, hX⟩ : ∃ X, X = last ++ u := ⟨_, rfl⟩
  rw [← hu, ← hX]
  have HU : Hid (u = t.extract 0 1) := hu
  have HX : Hid (X = last ++ u) := hX
  clear hu hX
  go_enter Try.func73, Try.ntmps73
  go_wp2_with fail
  refine wp_region_any (by kernel_rfl) ?_
  refine wpAny_take (i := 0) (v := (.pointer (some ⟨B, 0, none⟩))) rfl (by kernel_rfl) (by kernel_rfl) (by kernel_rfl) (fun _ _ _ h => h) (Or.inl ⟨by rfl, ?_⟩) ?_
  · intro wy
    go_simp
  try simp only [List.getElem_toArray, List.getElem_cons_succ, List.getElem_cons_zero, Act.put, List.setIfInBounds_toArray, List.set_cons_zero, List.set_cons_succ]
  refine wpAny_told (S := (fun wy => LzR wy B b wide s p (.slice (some ⟨g, 0, none⟩) n cap) last left ∧ Below w.heap.size w wy)) [0] 13 37 [.is (.pointer (some ⟨B, 0, none⟩)), .is (.pointer (some ⟨B, 0, none⟩)), .is (.pointer (some ⟨B, 0, none⟩)), .is (.pointer (some ⟨B, 5, none⟩)), .is (.slice (some ⟨g, 0, none⟩) n cap), .is (.pointer (some ⟨B, 0, none⟩)), .is (.pointer (some ⟨B, 0, none⟩)), .is (.pointer (some ⟨B, 6, none⟩)), .is (.string last), .is (.string t), .is (.string u), .is (.string X), .own (fun v w => LayT v w X) (fun _ _ _ b h => h.kept b)] (fun j => if j = 0 then (.pointer (some ⟨B, 0, none⟩)) else undef) (by kernel_rfl) (by kernel_rfl) (by kernel_rfl) (by kernel_rfl) (by kernel_rfl) (by rfl) (fun _ _ _ _ hd h => ⟨hd.trans h.1, h.2⟩) (by kernel_rfl) (fun j hj => by simp only [List.mem_cons, List.not_mem_nil, or_false] at hj; rcases hj with rfl <;> rfl) (fun vs => by simp only [puts, List.getElem?_toArray, List.getElem?_cons_succ, List.getElem?_cons_zero, Option.bind_some, Act.put, List.setIfInBounds_toArray, List.set_cons_zero, List.set_cons_succ]; exact rfl) ⟨HL.out.drew, (Below.refl _ _).drew⟩ ?_ ?_
  · refine TellsFrom.cons rfl (fun vs wz hS hd K hK => ?_) ?_
    · try dsimp only at hK ⊢
      try simp only [List.getElem_toArray, List.getElem_cons_succ, List.getElem_cons_zero, Act.put, List.setIfInBounds_toArray, List.set_cons_zero, List.set_cons_succ]
      have s5 := hS.1.c5
      have s6 := hS.1.c6
      go_simp
      exact hK.out _ _ hS (Below.refl _ _) rfl
    refine TellsFrom.cons rfl (fun vs wz hS hd K hK => ?_) ?_
    · try dsimp only at hK ⊢
      try simp only [List.getElem_toArray, List.getElem_cons_succ, List.getElem_cons_zero, Act.put, List.setIfInBounds_toArray, List.set_cons_zero, List.set_cons_succ]
      have s5 := hS.1.c5
      have s6 := hS.1.c6
      go_simp
      exact hK.out _ _ hS (Below.refl _ _) rfl
    refine TellsFrom.cons rfl (fun vs wz hS hd K hK => ?_) ?_
    · try dsimp only at hK ⊢
      have h1 : vs 1 = (.pointer (some ⟨B, 0, none⟩)) := hd 1 (by kernel_rfl)
      generalize vs 1 = x1 at *
      subst h1
      try simp only [List.getElem_toArray, List.getElem_cons_succ, List.getElem_cons_zero, Act.put, List.setIfInBounds_toArray, List.set_cons_zero, List.set_cons_succ]
      have s5 := hS.1.c5
      have s6 := hS.1.c6
      go_simp
      exact hK.out _ _ hS (Below.refl _ _) rfl
    refine TellsFrom.cons rfl (fun vs wz hS hd K hK => ?_) ?_
    · try dsimp only at hK ⊢
      have h2 : vs 2 = (.pointer (some ⟨B, 0, none⟩)) := hd 2 (by kernel_rfl)
      generalize vs 2 = x2 at *
      subst h2
      try simp only [List.getElem_toArray, List.getElem_cons_succ, List.getElem_cons_zero, Act.put, List.setIfInBounds_toArray, List.set_cons_zero, List.set_cons_succ]
      have s5 := hS.1.c5
      have s6 := hS.1.c6
      go_simp
      exact hK.out _ _ hS (Below.refl _ _) rfl
    refine TellsFrom.cons rfl (fun vs wz hS hd K hK => ?_) ?_
    · try dsimp only at hK ⊢
      have h3 : vs 3 = (.pointer (some ⟨B, 5, none⟩)) := hd 3 (by kernel_rfl)
      generalize vs 3 = x3 at *
      subst h3
      try simp only [List.getElem_toArray, List.getElem_cons_succ, List.getElem_cons_zero, Act.put, List.setIfInBounds_toArray, List.set_cons_zero, List.set_cons_succ]
      have s5 := hS.1.c5
      have s6 := hS.1.c6
      go_simp
      exact hK.out _ _ hS (Below.refl _ _) rfl
    refine TellsFrom.cons rfl (fun vs wz hS hd K hK => ?_) ?_
    · try dsimp only at hK ⊢
      try simp only [List.getElem_toArray, List.getElem_cons_succ, List.getElem_cons_zero, Act.put, List.setIfInBounds_toArray, List.set_cons_zero, List.set_cons_succ]
      have s5 := hS.1.c5
      have s6 := hS.1.c6
      go_simp
      exact hK.out _ _ hS (Below.refl _ _) rfl
    refine TellsFrom.cons rfl (fun vs wz hS hd K hK => ?_) ?_
    · try dsimp only at hK ⊢
      have h5 : vs 5 = (.pointer (some ⟨B, 0, none⟩)) := hd 5 (by kernel_rfl)
      generalize vs 5 = x5 at *
      subst h5
      try simp only [List.getElem_toArray, List.getElem_cons_succ, List.getElem_cons_zero, Act.put, List.setIfInBounds_toArray, List.set_cons_zero, List.set_cons_succ]
      have s5 := hS.1.c5
      have s6 := hS.1.c6
      go_simp
      exact hK.out _ _ hS (Below.refl _ _) rfl
    refine TellsFrom.cons rfl (fun vs wz hS hd K hK => ?_) ?_
    · try dsimp only at hK ⊢
      have h6 : vs 6 = (.pointer (some ⟨B, 0, none⟩)) := hd 6 (by kernel_rfl)
      generalize vs 6 = x6 at *
      subst h6
      try simp only [List.getElem_toArray, List.getElem_cons_succ, List.getElem_cons_zero, Act.put, List.setIfInBounds_toArray, List.set_cons_zero, List.set_cons_succ]
      have s5 := hS.1.c5
      have s6 := hS.1.c6
      go_simp
      exact hK.out _ _ hS (Below.refl _ _) rfl
    refine TellsFrom.cons rfl (fun vs wz hS hd K hK => ?_) ?_
    · try dsimp only at hK ⊢
      have h7 : vs 7 = (.pointer (some ⟨B, 6, none⟩)) := hd 7 (by kernel_rfl)
      generalize vs 7 = x7 at *
      subst h7
      try simp only [List.getElem_toArray, List.getElem_cons_succ, List.getElem_cons_zero, Act.put, List.setIfInBounds_toArray, List.set_cons_zero, List.set_cons_succ]
      have s5 := hS.1.c5
      have s6 := hS.1.c6
      go_simp
      exact hK.out _ _ hS (Below.refl _ _) rfl
    refine TellsFrom.cons rfl (fun vs wz hS hd K hK => ?_) ?_
    · try dsimp only at hK ⊢
      try simp only [List.getElem_toArray, List.getElem_cons_succ, List.getElem_cons_zero, Act.put, List.setIfInBounds_toArray, List.set_cons_zero, List.set_cons_succ]
      have s5 := hS.1.c5
      have s6 := hS.1.c6
      go_simp
      exact hK.out _ _ hS (Below.refl _ _) rfl
    refine TellsFrom.cons rfl (fun vs wz hS hd K hK => ?_) ?_
    · try dsimp only at hK ⊢
      have h9 : vs 9 = (.string t) := hd 9 (by kernel_rfl)
      generalize vs 9 = x9 at *
      subst h9
      try simp only [List.getElem_toArray, List.getElem_cons_succ, List.getElem_cons_zero, Act.put, List.setIfInBounds_toArray, List.set_cons_zero, List.set_cons_succ]
      go_simp
      exact hK.out _ _ hS (Below.refl _ _) (show Value.string _ = Value.string u by rw [HU.out])
    refine TellsFrom.cons rfl (fun vs wz hS hd K hK => ?_) ?_
    · try dsimp only at hK ⊢
      have h8 : vs 8 = (.string last) := hd 8 (by kernel_rfl)
      generalize vs 8 = x8 at *
      subst h8
      have h10 : vs 10 = (.string u) := hd 10 (by kernel_rfl)
      generalize vs 10 = x10 at *
      subst h10
      try simp only [List.getElem_toArray, List.getElem_cons_succ, List.getElem_cons_zero, Act.put, List.setIfInBounds_toArray, List.set_cons_zero, List.set_cons_succ]
      go_simp
      exact hK.out _ _ hS (Below.refl _ _) (show Value.string _ = Value.string X by rw [HX.out])
    refine TellsFrom.cons rfl (fun vs wz hS hd K hK => ?_) ?_
    · try dsimp only at hK ⊢
      have h11 : vs 11 = (.string X) := hd 11 (by kernel_rfl)
      generalize vs 11 = x11 at *
      subst h11
      try simp only [List.getElem_toArray, List.getElem_cons_succ, List.getElem_cons_zero, Act.put, List.setIfInBounds_toArray, List.set_cons_zero, List.set_cons_succ]
      go_simp
      exact hK.out _ _ ⟨hS.1.kept ((Below.refl _ _).alloc (Nat.le_refl _) _), hS.2.trans (((Below.refl _ _).alloc (Nat.le_refl _) _).mono hS.2.size)⟩ ((Below.refl _ _).alloc (Nat.le_refl _) _) (layT_new wz X)
    exact TellsFrom.nil
  · intro vs wz hS hd
    try dsimp only
    have h12 : LayT (vs 12) wz X := hd 12 (by omega)
    have h0 : vs 0 = .pointer (some ⟨B, 0, none⟩) := hd 0 (by omega)
    have h4 : vs 4 = .slice (some ⟨g, 0, none⟩) n cap := hd 4 (by omega)
    clear hd
    generalize vs 0 = y0 at *
    generalize vs 1 = y1 at *
    generalize vs 2 = y2 at *
    generalize vs 3 = y3 at *
    generalize vs 4 = y4 at *
    generalize vs 5 = y5 at *
    generalize vs 6 = y6 at *
    generalize vs 7 = y7 at *
    generalize vs 8 = y8 at *
    generalize vs 9 = y9 at *
    generalize vs 10 = y10 at *
    generalize vs 11 = y11 at *
    generalize vs 12 = y12 at *
    subst h0
    subst h4
    obtain ⟨Bn, rfl, hCn⟩ := h12
    have HL1 : Hid (LzR wz B b wide s p (.slice (some ⟨g, 0, none⟩) n cap) last left) := hS.1
    have HB1 : Hid (Below w.heap.size w wz) := hS.2
    clear hS
    refine wpAnyH_ready (rs := [13]) (by kernel_rfl) (by simp) ?_
    refine AllReadyH.cons rfl (fun K hK => ?_) AllReadyH.nil
    refine step_appT wz rfl (.tmp 21) (.tmp 29) rfl lo (.slice (some ⟨g, 0, none⟩) n cap) n l X Bn rfl (HO.out.up HB1.out) rfl hCn (by omega) (Nat.le_trans hlo HB1.out.size) ?_
    intro g2 cap2 w2 ho2 hg2
    have HO2 : Hid (OwnL w2 lo (.slice (some ⟨g2, 0, none⟩) (n + 1) cap2) (n + 1) (l ++ [X])) := ho2
    have HG2 : Hid (LzG B (.slice (some ⟨g, 0, none⟩) n cap) (.slice (some ⟨g2, 0, none⟩) (n + 1) cap2) w w2) := (LzG.of_below HB1.out).trans (LzG.of_grew hg2 rfl)
    have HL2 : Hid (LzR w2 B b wide s p (.slice (some ⟨g, 0, none⟩) n cap) last left) := HL1.out.same (hg2.block B HL1.out.lt (fun e => hgB (by cases e; rfl)))
    have hgB2 : g2 ≠ B := fun e => by
      rcases hg2.at_ with e2 | e2
      · cases e2; exact hgB e
      · have h1 := HL1.out.lt
        omega
    have d5 := HL2.out.c5
    have df5 := HL2.out.f5
    clear ho2 hg2
    refine hK.out _ _ trivial (fun _ => ?_)
    clear hK K
    try simp only [List.getElem_toArray, List.getElem_cons_succ, List.getElem_cons_zero, Act.put, List.setIfInBounds_toArray, List.set_cons_zero, List.set_cons_succ]
    refine wpAnyH_take (i := 14) (v := .pointer (some ⟨B, 0, none⟩)) rfl (by kernel_rfl) (by kernel_rfl) (by kernel_rfl) (fun _ _ _ h => h) (Or.inl ⟨by rfl, ?_⟩) trivial ?_
    · intro wy _
      go_simp
    try simp only [List.getElem_toArray, List.getElem_cons_succ, List.getElem_cons_zero, Act.put, List.setIfInBounds_toArray, List.set_cons_zero, List.set_cons_succ]
    refine wpAnyH_take (i := 15) (v := .pointer (some ⟨B, 5, none⟩)) rfl (by kernel_rfl) (by kernel_rfl) (by kernel_rfl) (fun _ _ _ h => h) (Or.inl ⟨by rfl, ?_⟩) trivial ?_
    · intro wy _
      go_simp
    try simp only [List.getElem_toArray, List.getElem_cons_succ, List.getElem_cons_zero, Act.put, List.setIfInBounds_toArray, List.set_cons_zero, List.set_cons_succ]
    refine wpAnyH_ready (rs := [16]) (by kernel_rfl) (by simp) ?_
    refine AllReadyH.cons rfl (fun K hK => ?_) AllReadyH.nil
    go_simp
    refine hK.out _ _ trivial (fun _ => ?_)
    clear hK K
    refine wpAnyH_done (by kernel_rfl) ?_ _
    try simp only [List.getElem_toArray, List.getElem_cons_succ, List.getElem_cons_zero, Act.put, List.setIfInBounds_toArray, List.set_cons_zero, List.set_cons_succ]
    have HL3 : Hid (LzR (w2.setCell ⟨B, 5, none⟩ (.slice (some ⟨g2, 0, none⟩) (n + 1) cap2)) B b wide s p (.slice (some ⟨g2, 0, none⟩) (n + 1) cap2) last left) := HL2.out.set5 _
    have k6 := HL3.out.c6
    have kf6 := HL3.out.f6
    clear d5 df5
    go_wp2_with fail
    go_end0
    exact ⟨rfl, g2, cap2, hgB2, HL3.out.set6 _, ((HO2.out.turned ((Turned.refl B w2).set 5 _) (fun e => hgB2 (by cases e; rfl))).turned ((Turned.refl B _).set 6 _) (fun e => hgB2 (by cases e; rfl))), (HG2.out.set 5 _).set 6 _⟩

set_option maxHeartbeats 1000000 in
theorem lzLearn_no (B b p left lo n g cap : Nat) (wide : Bool) (s last t : ByteArray) (l : List ByteArray) (w : World) (h : LzR w B b wide s p (.slice (some ⟨g, 0, none⟩) n cap) last left) (ho : OwnL w lo (.slice (some ⟨g, 0, none⟩) n cap) n l) (hgB : g ≠ B) (hn : n ≤ 4096) (hno : ¬ (0 < last.size ∧ n < 4096)) :
    Calls Try.prog 73 #[.pointer (some ⟨B, 0, none⟩), .string t] w fun e w' => e = .returned (.tuple #[]) ∧ LzR w' B b wide s p (.slice (some ⟨g, 0, none⟩) n cap) t left ∧ OwnL w' lo (.slice (some ⟨g, 0, none⟩) n cap) n l ∧ LzG B (.slice (some ⟨g, 0, none⟩) n cap) (.slice (some ⟨g, 0, none⟩) n cap) w w' := by
  have HL : Hid (LzR w B b wide s p (.slice (some ⟨g, 0, none⟩) n cap) last left) := h
  have HO : Hid (OwnL w lo (.slice (some ⟨g, 0, none⟩) n cap) n l) := ho
  have hc5 := h.c5
  have hc6 := h.c6
  have hf6 := h.f6
  clear h ho
  have fin : LzR (w.setCell ⟨B, 6, none⟩ (.string t)) B b wide s p (.slice (some ⟨g, 0, none⟩) n cap) t left ∧ OwnL (w.setCell ⟨B, 6, none⟩ (.string t)) lo (.slice (some ⟨g, 0, none⟩) n cap) n l ∧ LzG B (.slice (some ⟨g, 0, none⟩) n cap) (.slice (some ⟨g, 0, none⟩) n cap) w (w.setCell ⟨B, 6, none⟩ (.string t)) :=
    ⟨HL.out.set6 _, HO.out.turned ((Turned.refl B _).set 6 _) (fun e => hgB (by cases e; rfl)), (LzG.refl _ _ _).set 6 _⟩
  have FIN : Hid _ := fin
  clear fin HL HO
  by_cases hz : last.size = 0
  · have e := empty_of_size hz
    subst e
    go_enter Try.func73, Try.ntmps73
    go_wp2_with fail
    go_end0
    exact ⟨rfl, FIN.out⟩
  · have hne2 : last.toList.isEmpty = false := by
      rw [← Bool.not_eq_true, List.isEmpty_iff]; exact fun e => by have h := congrArg List.length e; rw [toList_len] at h; have h2 : last.size = 0 := h; omega
    have hnb : ¬ (n : Int) < 4096 := by omega
    go_enter Try.func73, Try.ntmps73
    go_wp2_with fail
    go_end0
    exact ⟨rfl, FIN.out⟩
end Go.Proofs.Ytjfihmpnbblomaa
