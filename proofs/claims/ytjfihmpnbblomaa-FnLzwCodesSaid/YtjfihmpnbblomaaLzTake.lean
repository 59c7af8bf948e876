/- The reader of LZW takes one number. -/
import Derived.Test.YtjfihmpnbblomaaLzLearn
namespace Go.Proofs.Ytjfihmpnbblomaa
open Go.RowKit

set_option linter.unusedSimpArgs false in
set_option linter.unusedVariables false in
set_option maxHeartbeats 2000000 in
set_option maxRecDepth 20000 in
theorem lzTake_short (B b p left lo n g cap N : Nat) (wide : Bool) (s last : ByteArray) (l : List ByteArray) (w : World) (hb : b ≤ 8) (hsz : s.size ≤ 9000) (hp : p ≤ 8 * s.size) (h : LzR w B b wide s p (.slice (some ⟨g, 0, none⟩) n cap) last left) (ho : OwnL w lo (.slice (some ⟨g, 0, none⟩) n cap) n l) (hgB : g ≠ B) (hlo : lo ≤ w.heap.size) (hcap : n ≤ cap) (gd : Lz.Good b l last) (hN : N = Lz.width b wide n) (hno : 8 * s.size < p + N) :
    Calls Try.prog 53 #[.pointer (some ⟨B, 0, none⟩)] w fun e w' => e = fault 2 ∧ LzG B (.slice (some ⟨g, 0, none⟩) n cap) (.slice (some ⟨g, 0, none⟩) n cap) w w' := by
  have HL : Hid (LzR w B b wide s p (.slice (some ⟨g, 0, none⟩) n cap) last left) := h
  have HO : Hid (OwnL w lo (.slice (some ⟨g, 0, none⟩) n cap) n l) := ho
  have hln := ho.len
  have hNb := Lz.width_bd hb wide n
  rw [← hN] at hNb
  have hn : n ≤ 4096 := by have := gd.ge; omega
  have HW : Hid (∀ w', Calls Try.prog 59 #[.agg #[.int .i64 (b : Int), .bool wide], .int .i64 (n : Int)] w' fun e w'' => e = .returned (.int .i64 (N : Int)) ∧ Below w'.heap.size w' w'') := fun w' => by rw [hN]; exact lzWidth_any b n hb (by omega) wide w'
  have HGD : Hid (Lz.Good b l last) := gd
  clear h ho gd hN
  go_enter Try.func53, Try.ntmps53
  go_wp2_with fail
  refine wp_region_told (S := (fun wy => LzR wy B b wide s p (.slice (some ⟨g, 0, none⟩) n cap) last left ∧ Below w.heap.size w wy)) 13 64 [.is (.pointer (some ⟨B, 0, none⟩)), .is (.pointer (some ⟨B, 0, none⟩)), .is (.pointer (some ⟨B, 2, none⟩)), .is (.pointer (some ⟨B, 0, none⟩)), .is (.pointer (some ⟨B, 0, none⟩)), .is (.pointer (some ⟨B, 0, none⟩)), .is (.agg #[.int .i64 (b : Int), .bool wide]), .is (.pointer (some ⟨B, 0, none⟩)), .is (.pointer (some ⟨B, 0, none⟩)), .is (.pointer (some ⟨B, 5, none⟩)), .is (.slice (some ⟨g, 0, none⟩) n cap), .is (.int .i64 (n : Int)), .is (.int .i64 (N : Int))] (by kernel_rfl) (by kernel_rfl) (by rfl) (fun _ _ _ _ hd h => ⟨hd.trans h.1, h.2⟩) (fun vs => by simp only [puts, List.getElem?_toArray, List.getElem?_cons_succ, List.getElem?_cons_zero, Option.bind_some, Act.put, List.setIfInBounds_toArray, List.set_cons_zero, List.set_cons_succ]; exact rfl) ⟨HL.out.drew, (Below.refl _ _).drew⟩ ?_ ?_
  · refine TellsFrom.cons rfl (fun vs wz hS hd K hK => ?_) ?_
    · try dsimp only at hK ⊢
      try simp only [List.getElem_toArray, List.getElem_cons_succ, List.getElem_cons_zero, Act.put, List.setIfInBounds_toArray, List.set_cons_zero, List.set_cons_succ]
      have s0 := hS.1.c0
      have s1 := hS.1.c1
      have s5 := hS.1.c5
      go_simp
      exact hK.out _ _ hS (Below.refl _ _) rfl
    refine TellsFrom.cons rfl (fun vs wz hS hd K hK => ?_) ?_
    · try dsimp only at hK ⊢
      have h0 : vs 0 = (.pointer (some ⟨B, 0, none⟩)) := hd 0 (by kernel_rfl)
      generalize vs 0 = x0 at *
      subst h0
      try simp only [List.getElem_toArray, List.getElem_cons_succ, List.getElem_cons_zero, Act.put, List.setIfInBounds_toArray, List.set_cons_zero, List.set_cons_succ]
      have s0 := hS.1.c0
      have s1 := hS.1.c1
      have s5 := hS.1.c5
      go_simp
      exact hK.out _ _ hS (Below.refl _ _) rfl
    refine TellsFrom.cons rfl (fun vs wz hS hd K hK => ?_) ?_
    · try dsimp only at hK ⊢
      have h1 : vs 1 = (.pointer (some ⟨B, 0, none⟩)) := hd 1 (by kernel_rfl)
      generalize vs 1 = x1 at *
      subst h1
      try simp only [List.getElem_toArray, List.getElem_cons_succ, List.getElem_cons_zero, Act.put, List.setIfInBounds_toArray, List.set_cons_zero, List.set_cons_succ]
      have s0 := hS.1.c0
      have s1 := hS.1.c1
      have s5 := hS.1.c5
      go_simp
      exact hK.out _ _ hS (Below.refl _ _) rfl
    refine TellsFrom.cons rfl (fun vs wz hS hd K hK => ?_) ?_
    · try dsimp only at hK ⊢
      try simp only [List.getElem_toArray, List.getElem_cons_succ, List.getElem_cons_zero, Act.put, List.setIfInBounds_toArray, List.set_cons_zero, List.set_cons_succ]
      have s0 := hS.1.c0
      have s1 := hS.1.c1
      have s5 := hS.1.c5
      go_simp
      exact hK.out _ _ hS (Below.refl _ _) rfl
    refine TellsFrom.cons rfl (fun vs wz hS hd K hK => ?_) ?_
    · try dsimp only at hK ⊢
      have h3 : vs 3 = (.pointer (some ⟨B, 0, none⟩)) := hd 3 (by kernel_rfl)
      generalize vs 3 = x3 at *
      subst h3
      try simp only [List.getElem_toArray, List.getElem_cons_succ, List.getElem_cons_zero, Act.put, List.setIfInBounds_toArray, List.set_cons_zero, List.set_cons_succ]
      have s0 := hS.1.c0
      have s1 := hS.1.c1
      have s5 := hS.1.c5
      go_simp
      exact hK.out _ _ hS (Below.refl _ _) rfl
    refine TellsFrom.cons rfl (fun vs wz hS hd K hK => ?_) ?_
    · try dsimp only at hK ⊢
      have h4 : vs 4 = (.pointer (some ⟨B, 0, none⟩)) := hd 4 (by kernel_rfl)
      generalize vs 4 = x4 at *
      subst h4
      try simp only [List.getElem_toArray, List.getElem_cons_succ, List.getElem_cons_zero, Act.put, List.setIfInBounds_toArray, List.set_cons_zero, List.set_cons_succ]
      have s0 := hS.1.c0
      have s1 := hS.1.c1
      have s5 := hS.1.c5
      go_simp
      exact hK.out _ _ hS (Below.refl _ _) rfl
    refine TellsFrom.cons rfl (fun vs wz hS hd K hK => ?_) ?_
    · try dsimp only at hK ⊢
      have h5 : vs 5 = (.pointer (some ⟨B, 0, none⟩)) := hd 5 (by kernel_rfl)
      generalize vs 5 = x5 at *
      subst h5
      try simp only [List.getElem_toArray, List.getElem_cons_succ, List.getElem_cons_zero, Act.put, List.setIfInBounds_toArray, List.set_cons_zero, List.set_cons_succ]
      have s0 := hS.1.c0
      have s1 := hS.1.c1
      have s5 := hS.1.c5
      go_simp
      exact hK.out _ _ hS (Below.refl _ _) rfl
    refine TellsFrom.cons rfl (fun vs wz hS hd K hK => ?_) ?_
    · try dsimp only at hK ⊢
      try simp only [List.getElem_toArray, List.getElem_cons_succ, List.getElem_cons_zero, Act.put, List.setIfInBounds_toArray, List.set_cons_zero, List.set_cons_succ]
      have s0 := hS.1.c0
      have s1 := hS.1.c1
      have s5 := hS.1.c5
      go_simp
      exact hK.out _ _ hS (Below.refl _ _) rfl
    refine TellsFrom.cons rfl (fun vs wz hS hd K hK => ?_) ?_
    · try dsimp only at hK ⊢
      have h7 : vs 7 = (.pointer (some ⟨B, 0, none⟩)) := hd 7 (by kernel_rfl)
      generalize vs 7 = x7 at *
      subst h7
      try simp only [List.getElem_toArray, List.getElem_cons_succ, List.getElem_cons_zero, Act.put, List.setIfInBounds_toArray, List.set_cons_zero, List.set_cons_succ]
      have s0 := hS.1.c0
      have s1 := hS.1.c1
      have s5 := hS.1.c5
      go_simp
      exact hK.out _ _ hS (Below.refl _ _) rfl
    refine TellsFrom.cons rfl (fun vs wz hS hd K hK => ?_) ?_
    · try dsimp only at hK ⊢
      have h8 : vs 8 = (.pointer (some ⟨B, 0, none⟩)) := hd 8 (by kernel_rfl)
      generalize vs 8 = x8 at *
      subst h8
      try simp only [List.getElem_toArray, List.getElem_cons_succ, List.getElem_cons_zero, Act.put, List.setIfInBounds_toArray, List.set_cons_zero, List.set_cons_succ]
      have s0 := hS.1.c0
      have s1 := hS.1.c1
      have s5 := hS.1.c5
      go_simp
      exact hK.out _ _ hS (Below.refl _ _) rfl
    refine TellsFrom.cons rfl (fun vs wz hS hd K hK => ?_) ?_
    · try dsimp only at hK ⊢
      have h9 : vs 9 = (.pointer (some ⟨B, 5, none⟩)) := hd 9 (by kernel_rfl)
      generalize vs 9 = x9 at *
      subst h9
      try simp only [List.getElem_toArray, List.getElem_cons_succ, List.getElem_cons_zero, Act.put, List.setIfInBounds_toArray, List.set_cons_zero, List.set_cons_succ]
      have s0 := hS.1.c0
      have s1 := hS.1.c1
      have s5 := hS.1.c5
      go_simp
      exact hK.out _ _ hS (Below.refl _ _) rfl
    refine TellsFrom.cons rfl (fun vs wz hS hd K hK => ?_) ?_
    · try dsimp only at hK ⊢
      have h10 : vs 10 = (.slice (some ⟨g, 0, none⟩) n cap) := hd 10 (by kernel_rfl)
      generalize vs 10 = x10 at *
      subst h10
      try simp only [List.getElem_toArray, List.getElem_cons_succ, List.getElem_cons_zero, Act.put, List.setIfInBounds_toArray, List.set_cons_zero, List.set_cons_succ]
      have s0 := hS.1.c0
      have s1 := hS.1.c1
      have s5 := hS.1.c5
      go_simp
      exact hK.out _ _ hS (Below.refl _ _) rfl
    refine TellsFrom.cons rfl (fun vs wz hS hd K hK => ?_) ?_
    · try dsimp only at hK ⊢
      have h6 : vs 6 = (.agg #[.int .i64 (b : Int), .bool wide]) := hd 6 (by kernel_rfl)
      generalize vs 6 = x6 at *
      subst h6
      have h11 : vs 11 = (.int .i64 (n : Int)) := hd 11 (by kernel_rfl)
      generalize vs 11 = x11 at *
      subst h11
      try simp only [List.getElem_toArray, List.getElem_cons_succ, List.getElem_cons_zero, Act.put, List.setIfInBounds_toArray, List.set_cons_zero, List.set_cons_succ]
      go_simp
      refine (HW.out _).mono ?_
      rintro e v1 ⟨rfl, b1⟩
      exact hK.out _ _ ⟨hS.1.kept b1, hS.2.trans (b1.mono hS.2.size)⟩ b1 rfl
    exact TellsFrom.nil
  · intro vs wz hS hd
    try dsimp only
    have h2 : vs 2 = .pointer (some ⟨B, 2, none⟩) := hd 2 (by omega)
    have h12 : vs 12 = .int .i64 (N : Int) := hd 12 (by omega)
    clear hd
    generalize vs 0 = y0 at *
    generalize vs 1 = y1 at *
    generalize vs 2 = y2 at *
    generalize vs 3 = y3 at *
    generalize vs 4 = y4 at *
    generalize vs 5 = y5 at *
    generalize vs 6 = y6 at *
    generalize vs 7 = y7 at *
    generalize vs 8 = y8 at *
    generalize vs 9 = y9 at *
    generalize vs 10 = y10 at *
    generalize vs 11 = y11 at *
    generalize vs 12 = y12 at *
    subst h2
    subst h12
    have HL1 : Hid (LzR wz B b wide s p (.slice (some ⟨g, 0, none⟩) n cap) last left) := hS.1
    have HB1 : Hid (Below w.heap.size w wz) := hS.2
    clear hS HW HL
    refine wpAnyH_ready (rs := [13]) (by kernel_rfl) (by simp) ?_
    refine AllReadyH.cons rfl (fun K hK => ?_) AllReadyH.nil
    go_simp
    refine (numberM_no B p N wide s wz HL1.out.rd hsz hp hno (by omega)).mono ?_
    rintro e w1 ⟨rfl, hm1⟩
    have HG2 : Hid (LzG B (.slice (some ⟨g, 0, none⟩) n cap) (.slice (some ⟨g, 0, none⟩) n cap) w w1) := (LzG.of_below HB1.out).trans (LzG.of_turned hm1.turned)
    clear hm1 HL1 HB1 HO hK
    unfold fault
    exact ⟨rfl, rfl, HG2.out⟩

set_option linter.unusedSimpArgs false in
set_option linter.unusedVariables false in
set_option maxHeartbeats 2000000 in
set_option maxRecDepth 20000 in
theorem lzTake_clear (B b p left lo n g cap N v : Nat) (wide : Bool) (s last : ByteArray) (l : List ByteArray) (w : World) (hb : b ≤ 8) (hsz : s.size ≤ 9000) (hp : p ≤ 8 * s.size) (h : LzR w B b wide s p (.slice (some ⟨g, 0, none⟩) n cap) last left) (ho : OwnL w lo (.slice (some ⟨g, 0, none⟩) n cap) n l) (hgB : g ≠ B) (hlo : lo ≤ w.heap.size) (hcap : n ≤ cap) (gd : Lz.Good b l last) (hN : N = Lz.width b wide n) (hin : p + N ≤ 8 * s.size) (hv : Lz.num s wide p N = v) (h2 : v = 2 ^ b) :
    Calls Try.prog 53 #[.pointer (some ⟨B, 0, none⟩)] w fun e w' => e = .returned (.tuple #[.int .i64 (v : Int), .string ⟨#[]⟩]) ∧ LzR w' B b wide s (p + N) (.slice (some ⟨g, 0, none⟩) (2 ^ b + 2) cap) ⟨#[]⟩ left ∧ OwnL w' lo (.slice (some ⟨g, 0, none⟩) (2 ^ b + 2) cap) (2 ^ b + 2) (Lz.start b) ∧ LzG B (.slice (some ⟨g, 0, none⟩) n cap) (.slice (some ⟨g, 0, none⟩) (2 ^ b + 2) cap) w w' := by
  have HL : Hid (LzR w B b wide s p (.slice (some ⟨g, 0, none⟩) n cap) last left) := h
  have HO : Hid (OwnL w lo (.slice (some ⟨g, 0, none⟩) n cap) n l) := ho
  have hln := ho.len
  have hNb := Lz.width_bd hb wide n
  rw [← hN] at hNb
  have hn : n ≤ 4096 := by have := gd.ge; omega
  have HW : Hid (∀ w', Calls Try.prog 59 #[.agg #[.int .i64 (b : Int), .bool wide], .int .i64 (n : Int)] w' fun e w'' => e = .returned (.int .i64 (N : Int)) ∧ Below w'.heap.size w' w'') := fun w' => by rw [hN]; exact lzWidth_any b n hb (by omega) wide w'
  have HGD : Hid (Lz.Good b l last) := gd
  have HV : Hid (Bg.num (fun i => bitAt s wide (p + i)) N wide = v) := hv
  have HCL : Hid (∀ w', Calls Try.prog 57 #[.agg #[.int .i64 (b : Int), .bool wide]] w' fun e w'' => e = .returned (.int .i64 ((2 ^ b : Nat) : Int)) ∧ Below w'.heap.size w' w'') := fun w' => lzClear_any b hb wide w'
  clear hv
  have HPR : Hid (l.take (2 ^ b + 2) = Lz.start b) := gd.pre
  have hle : 2 ^ b + 2 ≤ n := by have := gd.le; omega
  have HFO : Hid (∀ w', LzR w' B b wide s (p + N) (.slice (some ⟨g, 0, none⟩) n cap) last left → OwnL w' lo (.slice (some ⟨g, 0, none⟩) n cap) n l → Calls Try.prog 70 #[.pointer (some ⟨B, 0, none⟩)] w' fun e w'' => e = .returned (.tuple #[]) ∧ LzR w'' B b wide s (p + N) (.slice (some ⟨g, 0, none⟩) (2 ^ b + 2) cap) ⟨#[]⟩ left ∧ OwnL w'' lo (.slice (some ⟨g, 0, none⟩) (2 ^ b + 2) cap) (2 ^ b + 2) (l.take (2 ^ b + 2)) ∧ LzG B (.slice (some ⟨g, 0, none⟩) n cap) (.slice (some ⟨g, 0, none⟩) (2 ^ b + 2) cap) w' w'') := fun w' h1 h2 => lzForget B b (p + N) left lo n g cap wide s last l w' hb h1 h2 hgB hle hcap
  obtain ⟨P, hP⟩ : ∃ P : Nat, P = 2 ^ b := ⟨_, rfl⟩
  obtain ⟨M, hM⟩ : ∃ M : Nat, M = 2 ^ b + 2 := ⟨_, rfl⟩
  rw [← hM] at HFO HPR
  rw [← hP] at HCL h2
  rw [← hM]
  clear hM hP hle
  clear h ho gd hN
  go_enter Try.func53, Try.ntmps53
  go_wp2_with fail
  refine wp_region_told (S := (fun wy => LzR wy B b wide s p (.slice (some ⟨g, 0, none⟩) n cap) last left ∧ Below w.heap.size w wy)) 13 64 [.is (.pointer (some ⟨B, 0, none⟩)), .is (.pointer (some ⟨B, 0, none⟩)), .is (.pointer (some ⟨B, 2, none⟩)), .is (.pointer (some ⟨B, 0, none⟩)), .is (.pointer (some ⟨B, 0, none⟩)), .is (.pointer (some ⟨B, 0, none⟩)), .is (.agg #[.int .i64 (b : Int), .bool wide]), .is (.pointer (some ⟨B, 0, none⟩)), .is (.pointer (some ⟨B, 0, none⟩)), .is (.pointer (some ⟨B, 5, none⟩)), .is (.slice (some ⟨g, 0, none⟩) n cap), .is (.int .i64 (n : Int)), .is (.int .i64 (N : Int))] (by kernel_rfl) (by kernel_rfl) (by rfl) (fun _ _ _ _ hd h => ⟨hd.trans h.1, h.2⟩) (fun vs => by simp only [puts, List.getElem?_toArray, List.getElem?_cons_succ, List.getElem?_cons_zero, Option.bind_some, Act.put, List.setIfInBounds_toArray, List.set_cons_zero, List.set_cons_succ]; exact rfl) ⟨HL.out.drew, (Below.refl _ _).drew⟩ ?_ ?_
  · refine TellsFrom.cons rfl (fun vs wz hS hd K hK => ?_) ?_
    · try dsimp only at hK ⊢
      try simp only [List.getElem_toArray, List.getElem_cons_succ, List.getElem_cons_zero, Act.put, List.setIfInBounds_toArray, List.set_cons_zero, List.set_cons_succ]
      have s0 := hS.1.c0
      have s1 := hS.1.c1
      have s5 := hS.1.c5
      go_simp
      exact hK.out _ _ hS (Below.refl _ _) rfl
    refine TellsFrom.cons rfl (fun vs wz hS hd K hK => ?_) ?_
    · try dsimp only at hK ⊢
      have h0 : vs 0 = (.pointer (some ⟨B, 0, none⟩)) := hd 0 (by kernel_rfl)
      generalize vs 0 = x0 at *
      subst h0
      try simp only [List.getElem_toArray, List.getElem_cons_succ, List.getElem_cons_zero, Act.put, List.setIfInBounds_toArray, List.set_cons_zero, List.set_cons_succ]
      have s0 := hS.1.c0
      have s1 := hS.1.c1
      have s5 := hS.1.c5
      go_simp
      exact hK.out _ _ hS (Below.refl _ _) rfl
    refine TellsFrom.cons rfl (fun vs wz hS hd K hK => ?_) ?_
    · try dsimp only at hK ⊢
      have h1 : vs 1 = (.pointer (some ⟨B, 0, none⟩)) := hd 1 (by kernel_rfl)
      generalize vs 1 = x1 at *
      subst h1
      try simp only [List.getElem_toArray, List.getElem_cons_succ, List.getElem_cons_zero, Act.put, List.setIfInBounds_toArray, List.set_cons_zero, List.set_cons_succ]
      have s0 := hS.1.c0
      have s1 := hS.1.c1
      have s5 := hS.1.c5
      go_simp
      exact hK.out _ _ hS (Below.refl _ _) rfl
    refine TellsFrom.cons rfl (fun vs wz hS hd K hK => ?_) ?_
    · try dsimp only at hK ⊢
      try simp only [List.getElem_toArray, List.getElem_cons_succ, List.getElem_cons_zero, Act.put, List.setIfInBounds_toArray, List.set_cons_zero, List.set_cons_succ]
      have s0 := hS.1.c0
      have s1 := hS.1.c1
      have s5 := hS.1.c5
      go_simp
      exact hK.out _ _ hS (Below.refl _ _) rfl
    refine TellsFrom.cons rfl (fun vs wz hS hd K hK => ?_) ?_
    · try dsimp only at hK ⊢
      have h3 : vs 3 = (.pointer (some ⟨B, 0, none⟩)) := hd 3 (by kernel_rfl)
      generalize vs 3 = x3 at *
      subst h3
      try simp only [List.getElem_toArray, List.getElem_cons_succ, List.getElem_cons_zero, Act.put, List.setIfInBounds_toArray, List.set_cons_zero, List.set_cons_succ]
      have s0 := hS.1.c0
      have s1 := hS.1.c1
      have s5 := hS.1.c5
      go_simp
      exact hK.out _ _ hS (Below.refl _ _) rfl
    refine TellsFrom.cons rfl (fun vs wz hS hd K hK => ?_) ?_
    · try dsimp only at hK ⊢
      have h4 : vs 4 = (.pointer (some ⟨B, 0, none⟩)) := hd 4 (by kernel_rfl)
      generalize vs 4 = x4 at *
      subst h4
      try simp only [List.getElem_toArray, List.getElem_cons_succ, List.getElem_cons_zero, Act.put, List.setIfInBounds_toArray, List.set_cons_zero, List.set_cons_succ]
      have s0 := hS.1.c0
      have s1 := hS.1.c1
      have s5 := hS.1.c5
      go_simp
      exact hK.out _ _ hS (Below.refl _ _) rfl
    refine TellsFrom.cons rfl (fun vs wz hS hd K hK => ?_) ?_
    · try dsimp only at hK ⊢
      have h5 : vs 5 = (.pointer (some ⟨B, 0, none⟩)) := hd 5 (by kernel_rfl)
      generalize vs 5 = x5 at *
      subst h5
      try simp only [List.getElem_toArray, List.getElem_cons_succ, List.getElem_cons_zero, Act.put, List.setIfInBounds_toArray, List.set_cons_zero, List.set_cons_succ]
      have s0 := hS.1.c0
      have s1 := hS.1.c1
      have s5 := hS.1.c5
      go_simp
      exact hK.out _ _ hS (Below.refl _ _) rfl
    refine TellsFrom.cons rfl (fun vs wz hS hd K hK => ?_) ?_
    · try dsimp only at hK ⊢
      try simp only [List.getElem_toArray, List.getElem_cons_succ, List.getElem_cons_zero, Act.put, List.setIfInBounds_toArray, List.set_cons_zero, List.set_cons_succ]
      have s0 := hS.1.c0
      have s1 := hS.1.c1
      have s5 := hS.1.c5
      go_simp
      exact hK.out _ _ hS (Below.refl _ _) rfl
    refine TellsFrom.cons rfl (fun vs wz hS hd K hK => ?_) ?_
    · try dsimp only at hK ⊢
      have h7 : vs 7 = (.pointer (some ⟨B, 0, none⟩)) := hd 7 (by kernel_rfl)
      generalize vs 7 = x7 at *
      subst h7
      try simp only [List.getElem_toArray, List.getElem_cons_succ, List.getElem_cons_zero, Act.put, List.setIfInBounds_toArray, List.set_cons_zero, List.set_cons_succ]
      have s0 := hS.1.c0
      have s1 := hS.1.c1
      have s5 := hS.1.c5
      go_simp
      exact hK.out _ _ hS (Below.refl _ _) rfl
    refine TellsFrom.cons rfl (fun vs wz hS hd K hK => ?_) ?_
    · try dsimp only at hK ⊢
      have h8 : vs 8 = (.pointer (some ⟨B, 0, none⟩)) := hd 8 (by kernel_rfl)
      generalize vs 8 = x8 at *
      subst h8
      try simp only [List.getElem_toArray, List.getElem_cons_succ, List.getElem_cons_zero, Act.put, List.setIfInBounds_toArray, List.set_cons_zero, List.set_cons_succ]
      have s0 := hS.1.c0
      have s1 := hS.1.c1
      have s5 := hS.1.c5
      go_simp
      exact hK.out _ _ hS (Below.refl _ _) rfl
    refine TellsFrom.cons rfl (fun vs wz hS hd K hK => ?_) ?_
    · try dsimp only at hK ⊢
      have h9 : vs 9 = (.pointer (some ⟨B, 5, none⟩)) := hd 9 (by kernel_rfl)
      generalize vs 9 = x9 at *
      subst h9
      try simp only [List.getElem_toArray, List.getElem_cons_succ, List.getElem_cons_zero, Act.put, List.setIfInBounds_toArray, List.set_cons_zero, List.set_cons_succ]
      have s0 := hS.1.c0
      have s1 := hS.1.c1
      have s5 := hS.1.c5
      go_simp
      exact hK.out _ _ hS (Below.refl _ _) rfl
    refine TellsFrom.cons rfl (fun vs wz hS hd K hK => ?_) ?_
    · try dsimp only at hK ⊢
      have h10 : vs 10 = (.slice (some ⟨g, 0, none⟩) n cap) := hd 10 (by kernel_rfl)
      generalize vs 10 = x10 at *
      subst h10
      try simp only [List.getElem_toArray, List.getElem_cons_succ, List.getElem_cons_zero, Act.put, List.setIfInBounds_toArray, List.set_cons_zero, List.set_cons_succ]
      have s0 := hS.1.c0
      have s1 := hS.1.c1
      have s5 := hS.1.c5
      go_simp
      exact hK.out _ _ hS (Below.refl _ _) rfl
    refine TellsFrom.cons rfl (fun vs wz hS hd K hK => ?_) ?_
    · try dsimp only at hK ⊢
      have h6 : vs 6 = (.agg #[.int .i64 (b : Int), .bool wide]) := hd 6 (by kernel_rfl)
      generalize vs 6 = x6 at *
      subst h6
      have h11 : vs 11 = (.int .i64 (n : Int)) := hd 11 (by kernel_rfl)
      generalize vs 11 = x11 at *
      subst h11
      try simp only [List.getElem_toArray, List.getElem_cons_succ, List.getElem_cons_zero, Act.put, List.setIfInBounds_toArray, List.set_cons_zero, List.set_cons_succ]
      go_simp
      refine (HW.out _).mono ?_
      rintro e v1 ⟨rfl, b1⟩
      exact hK.out _ _ ⟨hS.1.kept b1, hS.2.trans (b1.mono hS.2.size)⟩ b1 rfl
    exact TellsFrom.nil
  · intro vs wz hS hd
    try dsimp only
    have h2 : vs 2 = .pointer (some ⟨B, 2, none⟩) := hd 2 (by omega)
    have h12 : vs 12 = .int .i64 (N : Int) := hd 12 (by omega)
    clear hd
    generalize vs 0 = y0 at *
    generalize vs 1 = y1 at *
    generalize vs 2 = y2 at *
    generalize vs 3 = y3 at *
    generalize vs 4 = y4 at *
    generalize vs 5 = y5 at *
    generalize vs 6 = y6 at *
    generalize vs 7 = y7 at *
    generalize vs 8 = y8 at *
    generalize vs 9 = y9 at *
    generalize vs 10 = y10 at *
    generalize vs 11 = y11 at *
    generalize vs 12 = y12 at *
    subst h2
    subst h12
    have HL1 : Hid (LzR wz B b wide s p (.slice (some ⟨g, 0, none⟩) n cap) last left) := hS.1
    have HB1 : Hid (Below w.heap.size w wz) := hS.2
    clear hS HW HL
    refine wpAnyH_ready (rs := [13]) (by kernel_rfl) (by simp) ?_
    refine AllReadyH.cons rfl (fun K hK => ?_) AllReadyH.nil
    go_simp
    refine (numberM_yes B p N wide s wz HL1.out.rd hsz (by omega) (by omega)).mono ?_
    rintro e w1 ⟨rfl, hr1, hm1⟩
    rw [HV.out]
    have HL2 : Hid (LzR w1 B b wide s (p + N) (.slice (some ⟨g, 0, none⟩) n cap) last left) := HL1.out.moved hm1 hr1
    have HO2 : Hid (OwnL w1 lo (.slice (some ⟨g, 0, none⟩) n cap) n l) := (HO.out.up HB1.out).turned hm1.turned (fun e => hgB (by cases e; rfl))
    have HG2 : Hid (LzG B (.slice (some ⟨g, 0, none⟩) n cap) (.slice (some ⟨g, 0, none⟩) n cap) w w1) := (LzG.of_below HB1.out).trans (LzG.of_turned hm1.turned)
    have hlo2 : lo ≤ w1.heap.size := Nat.le_trans hlo HG2.out.size
    have d0 := HL2.out.c0
    have d1 := HL2.out.c1
    clear hr1 hm1 HL1 HB1 HO
    refine hK.out _ _ trivial (fun _ => ?_)
    clear hK K
    try simp only [List.getElem_toArray, List.getElem_cons_succ, List.getElem_cons_zero, Act.put, List.setIfInBounds_toArray, List.set_cons_zero, List.set_cons_succ]
    refine wpAnyH_take (i := 14) (v := .int .i64 (v : Int)) rfl (by kernel_rfl) (by kernel_rfl) (by kernel_rfl) (fun _ _ _ h => h) (Or.inl ⟨by rfl, ?_⟩) trivial ?_
    · intro wy _
      go_simp
    refine wpAnyH_done (by kernel_rfl) ?_ _
    try simp only [List.getElem_toArray, List.getElem_cons_succ, List.getElem_cons_zero, Act.put, List.setIfInBounds_toArray, List.set_cons_zero, List.set_cons_succ]
    go_wp2_with fail
    refine (HCL.out _).mono ?_
    rintro e w2 ⟨rfl, b2⟩
    have HL3 : Hid (LzR w2 B b wide s (p + N) (.slice (some ⟨g, 0, none⟩) n cap) last left) := HL2.out.kept b2
    have HO3 : Hid (OwnL w2 lo (.slice (some ⟨g, 0, none⟩) n cap) n l) := HO2.out.up b2
    have HG3 : Hid (LzG B (.slice (some ⟨g, 0, none⟩) n cap) (.slice (some ⟨g, 0, none⟩) n cap) w w2) := HG2.out.trans (LzG.of_below b2)
    have hlo3 : lo ≤ w2.heap.size := Nat.le_trans hlo HG3.out.size
    have f0 := HL3.out.c0
    have f1 := HL3.out.c1
    clear b2 d0 d1 HL2 HO2 HG2 hlo2 HCL
    subst h2
    go_wp2_with fail
    refine (HFO.out _ HL3.out HO3.out).mono ?_
    rintro e w3 ⟨rfl, hl3, ho3, hg3⟩
    rw [HPR.out] at ho3
    have FIN : Hid (LzR w3 B b wide s (p + N) (.slice (some ⟨g, 0, none⟩) M cap) ⟨#[]⟩ left ∧ OwnL w3 lo (.slice (some ⟨g, 0, none⟩) M cap) M (Lz.start b) ∧ LzG B (.slice (some ⟨g, 0, none⟩) n cap) (.slice (some ⟨g, 0, none⟩) M cap) w w3) := ⟨hl3, ho3, HG3.out.trans hg3⟩
    clear hl3 ho3 hg3 f0 f1 HL3 HO3 HG3 HFO
    go_wp2_with fail
    go_ret2
    exact ⟨rfl, FIN.out⟩

set_option linter.unusedSimpArgs false in
set_option linter.unusedVariables false in
set_option maxHeartbeats 2000000 in
set_option maxRecDepth 20000 in
theorem lzTake_end (B b p left lo n g cap N v : Nat) (wide : Bool) (s last : ByteArray) (l : List ByteArray) (w : World) (hb : b ≤ 8) (hsz : s.size ≤ 9000) (hp : p ≤ 8 * s.size) (h : LzR w B b wide s p (.slice (some ⟨g, 0, none⟩) n cap) last left) (ho : OwnL w lo (.slice (some ⟨g, 0, none⟩) n cap) n l) (hgB : g ≠ B) (hlo : lo ≤ w.heap.size) (hcap : n ≤ cap) (gd : Lz.Good b l last) (hN : N = Lz.width b wide n) (hin : p + N ≤ 8 * s.size) (hv : Lz.num s wide p N = v) (h2 : v = 2 ^ b + 1) :
    Calls Try.prog 53 #[.pointer (some ⟨B, 0, none⟩)] w fun e w' => e = .returned (.tuple #[.int .i64 (v : Int), .string ⟨#[]⟩]) ∧ LzR w' B b wide s (p + N) (.slice (some ⟨g, 0, none⟩) n cap) last left ∧ OwnL w' lo (.slice (some ⟨g, 0, none⟩) n cap) n l ∧ LzG B (.slice (some ⟨g, 0, none⟩) n cap) (.slice (some ⟨g, 0, none⟩) n cap) w w' := by
  have HL : Hid (LzR w B b wide s p (.slice (some ⟨g, 0, none⟩) n cap) last left) := h
  have HO : Hid (OwnL w lo (.slice (some ⟨g, 0, none⟩) n cap) n l) := ho
  have hln := ho.len
  have hNb := Lz.width_bd hb wide n
  rw [← hN] at hNb
  have hn : n ≤ 4096 := by have := gd.ge; omega
  have HW : Hid (∀ w', Calls Try.prog 59 #[.agg #[.int .i64 (b : Int), .bool wide], .int .i64 (n : Int)] w' fun e w'' => e = .returned (.int .i64 (N : Int)) ∧ Below w'.heap.size w' w'') := fun w' => by rw [hN]; exact lzWidth_any b n hb (by omega) wide w'
  have HGD : Hid (Lz.Good b l last) := gd
  have HV : Hid (Bg.num (fun i => bitAt s wide (p + i)) N wide = v) := hv
  have HCL : Hid (∀ w', Calls Try.prog 57 #[.agg #[.int .i64 (b : Int), .bool wide]] w' fun e w'' => e = .returned (.int .i64 ((2 ^ b : Nat) : Int)) ∧ Below w'.heap.size w' w'') := fun w' => lzClear_any b hb wide w'
  clear hv
  have HEN : Hid (∀ w', Calls Try.prog 42 #[.agg #[.int .i64 (b : Int), .bool wide]] w' fun e w'' => e = .returned (.int .i64 ((2 ^ b + 1 : Nat) : Int)) ∧ Below w'.heap.size w' w'') := fun w' => lzEnd_any b hb wide w'
  obtain ⟨P, hP⟩ : ∃ P : Nat, P = 2 ^ b := ⟨_, rfl⟩
  obtain ⟨E, hE⟩ : ∃ E : Nat, E = 2 ^ b + 1 := ⟨_, rfl⟩
  rw [← hE] at HEN h2
  rw [← hP] at HCL
  have hne1 : ¬ (v : Int) = (P : Int) := by omega
  clear hE hP
  clear h ho gd hN
  go_enter Try.func53, Try.ntmps53
  go_wp2_with fail
  refine wp_region_told (S := (fun wy => LzR wy B b wide s p (.slice (some ⟨g, 0, none⟩) n cap) last left ∧ Below w.heap.size w wy)) 13 64 [.is (.pointer (some ⟨B, 0, none⟩)), .is (.pointer (some ⟨B, 0, none⟩)), .is (.pointer (some ⟨B, 2, none⟩)), .is (.pointer (some ⟨B, 0, none⟩)), .is (.pointer (some ⟨B, 0, none⟩)), .is (.pointer (some ⟨B, 0, none⟩)), .is (.agg #[.int .i64 (b : Int), .bool wide]), .is (.pointer (some ⟨B, 0, none⟩)), .is (.pointer (some ⟨B, 0, none⟩)), .is (.pointer (some ⟨B, 5, none⟩)), .is (.slice (some ⟨g, 0, none⟩) n cap), .is (.int .i64 (n : Int)), .is (.int .i64 (N : Int))] (by kernel_rfl) (by kernel_rfl) (by rfl) (fun _ _ _ _ hd h => ⟨hd.trans h.1, h.2⟩) (fun vs => by simp only [puts, List.getElem?_toArray, List.getElem?_cons_succ, List.getElem?_cons_zero, Option.bind_some, Act.put, List.setIfInBounds_toArray, List.set_cons_zero, List.set_cons_succ]; exact rfl) ⟨HL.out.drew, (Below.refl _ _).drew⟩ ?_ ?_
  · refine TellsFrom.cons rfl (fun vs wz hS hd K hK => ?_) ?_
    · try dsimp only at hK ⊢
      try simp only [List.getElem_toArray, List.getElem_cons_succ, List.getElem_cons_zero, Act.put, List.setIfInBounds_toArray, List.set_cons_zero, List.set_cons_succ]
      have s0 := hS.1.c0
      have s1 := hS.1.c1
      have s5 := hS.1.c5
      go_simp
      exact hK.out _ _ hS (Below.refl _ _) rfl
    refine TellsFrom.cons rfl (fun vs wz hS hd K hK => ?_) ?_
    · try dsimp only at hK ⊢
      have h0 : vs 0 = (.pointer (some ⟨B, 0, none⟩)) := hd 0 (by kernel_rfl)
      generalize vs 0 = x0 at *
      subst h0
      try simp only [List.getElem_toArray, List.getElem_cons_succ, List.getElem_cons_zero, Act.put, List.setIfInBounds_toArray, List.set_cons_zero, List.set_cons_succ]
      have s0 := hS.1.c0
      have s1 := hS.1.c1
      have s5 := hS.1.c5
      go_simp
      exact hK.out _ _ hS (Below.refl _ _) rfl
    refine TellsFrom.cons rfl (fun vs wz hS hd K hK => ?_) ?_
    · try dsimp only at hK ⊢
      have h1 : vs 1 = (.pointer (some ⟨B, 0, none⟩)) := hd 1 (by kernel_rfl)
      generalize vs 1 = x1 at *
      subst h1
      try simp only [List.getElem_toArray, List.getElem_cons_succ, List.getElem_cons_zero, Act.put, List.setIfInBounds_toArray, List.set_cons_zero, List.set_cons_succ]
      have s0 := hS.1.c0
      have s1 := hS.1.c1
      have s5 := hS.1.c5
      go_simp
      exact hK.out _ _ hS (Below.refl _ _) rfl
    refine TellsFrom.cons rfl (fun vs wz hS hd K hK => ?_) ?_
    · try dsimp only at hK ⊢
      try simp only [List.getElem_toArray, List.getElem_cons_succ, List.getElem_cons_zero, Act.put, List.setIfInBounds_toArray, List.set_cons_zero, List.set_cons_succ]
      have s0 := hS.1.c0
      have s1 := hS.1.c1
      have s5 := hS.1.c5
      go_simp
      exact hK.out _ _ hS (Below.refl _ _) rfl
    refine TellsFrom.cons rfl (fun vs wz hS hd K hK => ?_) ?_
    · try dsimp only at hK ⊢
      have h3 : vs 3 = (.pointer (some ⟨B, 0, none⟩)) := hd 3 (by kernel_rfl)
      generalize vs 3 = x3 at *
      subst h3
      try simp only [List.getElem_toArray, List.getElem_cons_succ, List.getElem_cons_zero, Act.put, List.setIfInBounds_toArray, List.set_cons_zero, List.set_cons_succ]
      have s0 := hS.1.c0
      have s1 := hS.1.c1
      have s5 := hS.1.c5
      go_simp
      exact hK.out _ _ hS (Below.refl _ _) rfl
    refine TellsFrom.cons rfl (fun vs wz hS hd K hK => ?_) ?_
    · try dsimp only at hK ⊢
      have h4 : vs 4 = (.pointer (some ⟨B, 0, none⟩)) := hd 4 (by kernel_rfl)
      generalize vs 4 = x4 at *
      subst h4
      try simp only [List.getElem_toArray, List.getElem_cons_succ, List.getElem_cons_zero, Act.put, List.setIfInBounds_toArray, List.set_cons_zero, List.set_cons_succ]
      have s0 := hS.1.c0
      have s1 := hS.1.c1
      have s5 := hS.1.c5
      go_simp
      exact hK.out _ _ hS (Below.refl _ _) rfl
    refine TellsFrom.cons rfl (fun vs wz hS hd K hK => ?_) ?_
    · try dsimp only at hK ⊢
      have h5 : vs 5 = (.pointer (some ⟨B, 0, none⟩)) := hd 5 (by kernel_rfl)
      generalize vs 5 = x5 at *
      subst h5
      try simp only [List.getElem_toArray, List.getElem_cons_succ, List.getElem_cons_zero, Act.put, List.setIfInBounds_toArray, List.set_cons_zero, List.set_cons_succ]
      have s0 := hS.1.c0
      have s1 := hS.1.c1
      have s5 := hS.1.c5
      go_simp
      exact hK.out _ _ hS (Below.refl _ _) rfl
    refine TellsFrom.cons rfl (fun vs wz hS hd K hK => ?_) ?_
    · try dsimp only at hK ⊢
      try simp only [List.getElem_toArray, List.getElem_cons_succ, List.getElem_cons_zero, Act.put, List.setIfInBounds_toArray, List.set_cons_zero, List.set_cons_succ]
      have s0 := hS.1.c0
      have s1 := hS.1.c1
      have s5 := hS.1.c5
      go_simp
      exact hK.out _ _ hS (Below.refl _ _) rfl
    refine TellsFrom.cons rfl (fun vs wz hS hd K hK => ?_) ?_
    · try dsimp only at hK ⊢
      have h7 : vs 7 = (.pointer (some ⟨B, 0, none⟩)) := hd 7 (by kernel_rfl)
      generalize vs 7 = x7 at *
      subst h7
      try simp only [List.getElem_toArray, List.getElem_cons_succ, List.getElem_cons_zero, Act.put, List.setIfInBounds_toArray, List.set_cons_zero, List.set_cons_succ]
      have s0 := hS.1.c0
      have s1 := hS.1.c1
      have s5 := hS.1.c5
      go_simp
      exact hK.out _ _ hS (Below.refl _ _) rfl
    refine TellsFrom.cons rfl (fun vs wz hS hd K hK => ?_) ?_
    · try dsimp only at hK ⊢
      have h8 : vs 8 = (.pointer (some ⟨B, 0, none⟩)) := hd 8 (by kernel_rfl)
      generalize vs 8 = x8 at *
      subst h8
      try simp only [List.getElem_toArray, List.getElem_cons_succ, List.getElem_cons_zero, Act.put, List.setIfInBounds_toArray, List.set_cons_zero, List.set_cons_succ]
      have s0 := hS.1.c0
      have s1 := hS.1.c1
      have s5 := hS.1.c5
      go_simp
      exact hK.out _ _ hS (Below.refl _ _) rfl
    refine TellsFrom.cons rfl (fun vs wz hS hd K hK => ?_) ?_
    · try dsimp only at hK ⊢
      have h9 : vs 9 = (.pointer (some ⟨B, 5, none⟩)) := hd 9 (by kernel_rfl)
      generalize vs 9 = x9 at *
      subst h9
      try simp only [List.getElem_toArray, List.getElem_cons_succ, List.getElem_cons_zero, Act.put, List.setIfInBounds_toArray, List.set_cons_zero, List.set_cons_succ]
      have s0 := hS.1.c0
      have s1 := hS.1.c1
      have s5 := hS.1.c5
      go_simp
      exact hK.out _ _ hS (Below.refl _ _) rfl
    refine TellsFrom.cons rfl (fun vs wz hS hd K hK => ?_) ?_
    · try dsimp only at hK ⊢
      have h10 : vs 10 = (.slice (some ⟨g, 0, none⟩) n cap) := hd 10 (by kernel_rfl)
      generalize vs 10 = x10 at *
      subst h10
      try simp only [List.getElem_toArray, List.getElem_cons_succ, List.getElem_cons_zero, Act.put, List.setIfInBounds_toArray, List.set_cons_zero, List.set_cons_succ]
      have s0 := hS.1.c0
      have s1 := hS.1.c1
      have s5 := hS.1.c5
      go_simp
      exact hK.out _ _ hS (Below.refl _ _) rfl
    refine TellsFrom.cons rfl (fun vs wz hS hd K hK => ?_) ?_
    · try dsimp only at hK ⊢
      have h6 : vs 6 = (.agg #[.int .i64 (b : Int), .bool wide]) := hd 6 (by kernel_rfl)
      generalize vs 6 = x6 at *
      subst h6
      have h11 : vs 11 = (.int .i64 (n : Int)) := hd 11 (by kernel_rfl)
      generalize vs 11 = x11 at *
      subst h11
      try simp only [List.getElem_toArray, List.getElem_cons_succ, List.getElem_cons_zero, Act.put, List.setIfInBounds_toArray, List.set_cons_zero, List.set_cons_succ]
      go_simp
      refine (HW.out _).mono ?_
      rintro e v1 ⟨rfl, b1⟩
      exact hK.out _ _ ⟨hS.1.kept b1, hS.2.trans (b1.mono hS.2.size)⟩ b1 rfl
    exact TellsFrom.nil
  · intro vs wz hS hd
    try dsimp only
    have h2 : vs 2 = .pointer (some ⟨B, 2, none⟩) := hd 2 (by omega)
    have h12 : vs 12 = .int .i64 (N : Int) := hd 12 (by omega)
    clear hd
    generalize vs 0 = y0 at *
    generalize vs 1 = y1 at *
    generalize vs 2 = y2 at *
    generalize vs 3 = y3 at *
    generalize vs 4 = y4 at *
    generalize vs 5 = y5 at *
    generalize vs 6 = y6 at *
    generalize vs 7 = y7 at *
    generalize vs 8 = y8 at *
    generalize vs 9 = y9 at *
    generalize vs 10 = y10 at *
    generalize vs 11 = y11 at *
    generalize vs 12 = y12 at *
    subst h2
    subst h12
    have HL1 : Hid (LzR wz B b wide s p (.slice (some ⟨g, 0, none⟩) n cap) last left) := hS.1
    have HB1 : Hid (Below w.heap.size w wz) := hS.2
    clear hS HW HL
    refine wpAnyH_ready (rs := [13]) (by kernel_rfl) (by simp) ?_
    refine AllReadyH.cons rfl (fun K hK => ?_) AllReadyH.nil
    go_simp
    refine (numberM_yes B p N wide s wz HL1.out.rd hsz (by omega) (by omega)).mono ?_
    rintro e w1 ⟨rfl, hr1, hm1⟩
    rw [HV.out]
    have HL2 : Hid (LzR w1 B b wide s (p + N) (.slice (some ⟨g, 0, none⟩) n cap) last left) := HL1.out.moved hm1 hr1
    have HO2 : Hid (OwnL w1 lo (.slice (some ⟨g, 0, none⟩) n cap) n l) := (HO.out.up HB1.out).turned hm1.turned (fun e => hgB (by cases e; rfl))
    have HG2 : Hid (LzG B (.slice (some ⟨g, 0, none⟩) n cap) (.slice (some ⟨g, 0, none⟩) n cap) w w1) := (LzG.of_below HB1.out).trans (LzG.of_turned hm1.turned)
    have hlo2 : lo ≤ w1.heap.size := Nat.le_trans hlo HG2.out.size
    have d0 := HL2.out.c0
    have d1 := HL2.out.c1
    clear hr1 hm1 HL1 HB1 HO
    refine hK.out _ _ trivial (fun _ => ?_)
    clear hK K
    try simp only [List.getElem_toArray, List.getElem_cons_succ, List.getElem_cons_zero, Act.put, List.setIfInBounds_toArray, List.set_cons_zero, List.set_cons_succ]
    refine wpAnyH_take (i := 14) (v := .int .i64 (v : Int)) rfl (by kernel_rfl) (by kernel_rfl) (by kernel_rfl) (fun _ _ _ h => h) (Or.inl ⟨by rfl, ?_⟩) trivial ?_
    · intro wy _
      go_simp
    refine wpAnyH_done (by kernel_rfl) ?_ _
    try simp only [List.getElem_toArray, List.getElem_cons_succ, List.getElem_cons_zero, Act.put, List.setIfInBounds_toArray, List.set_cons_zero, List.set_cons_succ]
    go_wp2_with fail
    refine (HCL.out _).mono ?_
    rintro e w2 ⟨rfl, b2⟩
    have HL3 : Hid (LzR w2 B b wide s (p + N) (.slice (some ⟨g, 0, none⟩) n cap) last left) := HL2.out.kept b2
    have HO3 : Hid (OwnL w2 lo (.slice (some ⟨g, 0, none⟩) n cap) n l) := HO2.out.up b2
    have HG3 : Hid (LzG B (.slice (some ⟨g, 0, none⟩) n cap) (.slice (some ⟨g, 0, none⟩) n cap) w w2) := HG2.out.trans (LzG.of_below b2)
    have hlo3 : lo ≤ w2.heap.size := Nat.le_trans hlo HG3.out.size
    have f0 := HL3.out.c0
    have f1 := HL3.out.c1
    clear b2 d0 d1 HL2 HO2 HG2 hlo2 HCL
    go_wp2_with fail
    refine (HEN.out _).mono ?_
    rintro e w3 ⟨rfl, b3⟩
    have HL4 : Hid (LzR w3 B b wide s (p + N) (.slice (some ⟨g, 0, none⟩) n cap) last left) := HL3.out.kept b3
    have HO4 : Hid (OwnL w3 lo (.slice (some ⟨g, 0, none⟩) n cap) n l) := HO3.out.up b3
    have HG4 : Hid (LzG B (.slice (some ⟨g, 0, none⟩) n cap) (.slice (some ⟨g, 0, none⟩) n cap) w w3) := HG3.out.trans (LzG.of_below b3)
    have hlo4 : lo ≤ w3.heap.size := Nat.le_trans hlo HG4.out.size
    clear b3 f0 f1 HL3 HO3 HG3 hlo3 HEN
    subst h2
    go_wp2_with fail
    go_ret2
    exact ⟨rfl, HL4.out, HO4.out, HG4.out⟩
end Go.Proofs.Ytjfihmpnbblomaa
