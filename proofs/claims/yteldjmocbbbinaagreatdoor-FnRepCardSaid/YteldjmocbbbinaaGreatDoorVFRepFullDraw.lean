/- The draw of a picture that has all its colours: l14Full. -/
import Derived.Deep.DeepCutAuto
import Derived.Deep.CutBlock
import Derived.Deep.RegionHeld3
import Derived.Test.YteldjmocbbbinaaGreatDoorKFRepx0
import Derived.Test.YteldjmocbbbinaaGreatDoorKFRepx1
namespace Go.Proofs.YteldjmocbbbinaaGreatDoor
open Go.RowKit

/-- how many of three have come up -/
def cnt3 (l : Array Bool) : Nat := (l.getD 2 false).toNat + (l.getD 6 false).toNat + (l.getD 9 false).toNat
theorem toNat_le1 (b : Bool) : b.toNat ≤ 1 := by cases b <;> decide
theorem cnt3_le (l : Array Bool) : cnt3 l ≤ 3 := by
  have h1 := toNat_le1 (l.getD 2 false)
  have h2 := toNat_le1 (l.getD 6 false)
  have h3 := toNat_le1 (l.getD 9 false)
  unfold cnt3
  omega
theorem cnt3_other {l : Array Bool} {i : Nat} (h2 : 2 ≠ i) (h6 : 6 ≠ i) (h9 : 9 ≠ i) : cnt3 (l.setIfInBounds i true) = cnt3 l := by
  unfold cnt3
  rw [getD_set_other h2, getD_set_other h6, getD_set_other h9]
theorem cnt3_2 {l : Array Bool} (h : l.getD 2 false = false) (hz : 2 < l.size) : cnt3 (l.setIfInBounds 2 true) = cnt3 l + 1 := by
  unfold cnt3
  rw [getD_set_eq hz, getD_set_other (by decide), getD_set_other (by decide), h]
  simp only [Bool.toNat_true, Bool.toNat_false] <;> omega
theorem cnt3_6 {l : Array Bool} (h : l.getD 6 false = false) (hz : 6 < l.size) : cnt3 (l.setIfInBounds 6 true) = cnt3 l + 1 := by
  unfold cnt3
  rw [getD_set_eq hz, getD_set_other (by decide), getD_set_other (by decide), h]
  simp only [Bool.toNat_true, Bool.toNat_false] <;> omega
theorem cnt3_9 {l : Array Bool} (h : l.getD 9 false = false) (hz : 9 < l.size) : cnt3 (l.setIfInBounds 9 true) = cnt3 l + 1 := by
  unfold cnt3
  rw [getD_set_eq hz, getD_set_other (by decide), getD_set_other (by decide), h]
  simp only [Bool.toNat_true, Bool.toNat_false] <;> omega
/-- four depths in a block -/
def Four (b B : Nat) (w : World) : Prop := b ≠ B ∧ b < w.heap.size ∧ ∀ g, g < 4 → ∃ d : Nat, (d = 1 ∨ d = 2 ∨ d = 4 ∨ d = 8) ∧ w.cell? ⟨b, g, none⟩ = some (.int .i64 (d : Int))
theorem four_new {w : World} {B : Nat} (h : B < w.heap.size) : Four w.heap.size B (w.alloc (.cells #[.int .i64 1, .int .i64 2, .int .i64 4, .int .i64 8] 3)) := by
  have hh := heap_alloc_new w (.cells #[.int .i64 1, .int .i64 2, .int .i64 4, .int .i64 8] 3)
  refine ⟨by omega, by simp, fun g hg => ?_⟩
  rcases (by omega : g = 0 ∨ g = 1 ∨ g = 2 ∨ g = 3) with rfl | rfl | rfl | rfl
  · exact ⟨1, by simp, by simp only [World.cell?, hh]; rfl⟩
  · exact ⟨2, by simp, by simp only [World.cell?, hh]; rfl⟩
  · exact ⟨4, by simp, by simp only [World.cell?, hh]; rfl⟩
  · exact ⟨8, by simp, by simp only [World.cell?, hh]; rfl⟩
theorem Four.kept {b B : Nat} {w w' : World} (h : Four b B w) (ho : Only B w w') : Four b B w' :=
  ⟨h.1, Nat.lt_of_lt_of_le h.2.1 ho.below.size, fun g hg => by
    obtain ⟨d, h1, h2⟩ := h.2.2 g hg
    exact ⟨d, h1, (ho.cell b g h.2.1 h.1).trans h2⟩⟩
/-- what is told of each answer -/
def FullR (B lo : Nat) : Nat → Value → World → Prop
  | 0, v, w => ∃ b, v = .slice (some ⟨b, 0, none⟩) 4 4 ∧ Four b B w
  | 1, v, _ => v = .pointer (some ⟨B, 0, none⟩)
  | 2, v, _ => ∃ g : Nat, v = .int .i64 (g : Int) ∧ g < 4
  | 3, v, w => ∃ b g : Nat, v = .pointer (some ⟨b, g, none⟩) ∧ g < 4 ∧ Four b B w
  | 4, v, _ => ∃ d : Nat, v = .int .i64 (d : Int) ∧ (d = 1 ∨ d = 2 ∨ d = 4 ∨ d = 8)
  | 5, v, _ => v = .pointer (some ⟨B, 0, none⟩)
  | 6, v, _ => ∃ g : Nat, v = .int .i64 (g : Int) ∧ g < 12
  | 7, v, _ => ∃ x : Nat, v = .int .i64 (x : Int) ∧ 1 ≤ x ∧ x ≤ 12
  | 8, v, _ => v = .pointer (some ⟨B, 0, none⟩)
  | 9, v, _ => ∃ g : Nat, v = .int .i64 (g : Int) ∧ g < 12
  | 10, v, _ => ∃ x : Nat, v = .int .i64 (x : Int) ∧ 1 ≤ x ∧ x ≤ 12
  | 11, v, _ => ∃ d x y : Nat, v = .agg #[.int .i64 4, .int .i64 (d : Int), .int .i64 (x : Int), .int .i64 (y : Int), .slice none 0 0, .slice none 0 0] ∧ (d = 1 ∨ d = 2 ∨ d = 4 ∨ d = 8) ∧ 1 ≤ x ∧ x ≤ 12 ∧ 1 ≤ y ∧ y ≤ 12
  | 12, v, w => ∃ M, v = .pointer (some ⟨M, 0, none⟩) ∧ lo < M ∧ M < w.heap.size ∧ w.heap[M]? = some (.cells #[.int .i64 0, .int .i64 0, .int .i64 0, .int .i64 0, .slice none 0 0, .slice none 0 0] 25 (0, 0))
  | _, _, _ => True
theorem fullR_kept {B lo : Nat} (hB : B < lo) : ∀ {j : Nat} {v : Value} {w w' : World}, Only B w w' → FullR B lo j v w → FullR B lo j v w'
  | 0, _, _, _, ho, h => by obtain ⟨b, h1, h2⟩ := h; exact ⟨b, h1, h2.kept ho⟩
  | 1, _, _, _, _, h => h
  | 2, _, _, _, _, h => h
  | 3, _, _, _, ho, h => by obtain ⟨b, g, h1, h2, h3⟩ := h; exact ⟨b, g, h1, h2, h3.kept ho⟩
  | 4, _, _, _, _, h => h
  | 5, _, _, _, _, h => h
  | 6, _, _, _, _, h => h
  | 7, _, _, _, _, h => h
  | 8, _, _, _, _, h => h
  | 9, _, _, _, _, h => h
  | 10, _, _, _, _, h => h
  | 11, _, _, _, _, h => h
  | 12, _, _, _, ho, h => by obtain ⟨M, h1, h2, h3, h4⟩ := h; exact ⟨M, h1, h2, Nat.lt_of_lt_of_le h3 ho.below.size, (ho.rest M h3 (by omega)).trans h4⟩
  | _ + 13, _, _, _, _, _ => trivial
/-- what holds beside -/
def FullS (p B lo : Nat) (W0 : World) (l : Array Bool) (w : World) : Prop := RdAt w B (p + cnt3 l) ∧ Only B W0 w ∧ lo < w.heap.size
theorem FullS.other {p B lo i : Nat} {W0 w : World} {l : Array Bool} (h : FullS p B lo W0 l w) (h2 : 2 ≠ i) (h6 : 6 ≠ i) (h9 : 9 ≠ i) : FullS p B lo W0 (l.setIfInBounds i true) w := ⟨by rw [cnt3_other h2 h6 h9]; exact h.1, h.2⟩
theorem FullS.made {p B lo i : Nat} {W0 w : World} {l : Array Bool} (h : FullS p B lo W0 l w) (h2 : 2 ≠ i) (h6 : 6 ≠ i) (h9 : 9 ≠ i) (o : Obj) : FullS p B lo W0 (l.setIfInBounds i true) (w.alloc o) := ⟨by rw [cnt3_other h2 h6 h9]; exact h.1.alloc _, h.2.1.alloc h.1.lt o, by have := h.2.2; simp; omega⟩
theorem Only.drew1 {B : Nat} {w w' : World} (h : Only B w w') : Only B w w'.drew := ⟨h.below.drew, h.rest⟩

set_option linter.unusedSimpArgs false in
set_option maxHeartbeats 4000000 in
set_option maxRecDepth 20000 in
theorem l14Full_any (B p : Nat) (w : World) (hr : RdAt w B p) (hp : p ≤ 100000) :
    Calls Tryz.prog 31 #[.pointer (some ⟨B, 0, none⟩)] w fun e w' => PicOut w.heap.size e w' ∧ (∃ q, q ≤ p + 5000 ∧ RdAt w' B q) ∧ Only B w w' := by
  have hlt0 := hr.lt
  obtain ⟨W0, hW0⟩ : ∃ W0, W0 = w.alloc (.cells #[.int .i64 0, .int .i64 0, .int .i64 0, .int .i64 0, .slice none 0 0, .slice none 0 0] 25) := ⟨_, rfl⟩
  have hs0 : W0.heap.size = w.heap.size + 1 := by rw [hW0]; simp
  have HR0 : Hid (RdAt W0 B p) := by rw [hW0]; exact hr.alloc _
  have HO0 : Hid (Only B w W0) := by rw [hW0]; exact (Only.refl B w).alloc hlt0 _
  have HZ0 : Hid (W0.heap[w.heap.size]? = some (.cells #[.int .i64 0, .int .i64 0, .int .i64 0, .int .i64 0, .slice none 0 0, .slice none 0 0] 25 (0, 0))) := by rw [hW0]; exact heap_alloc_new _ _
  clear hr
  go_enter Tryz.func31, Tryz.ntmps31
  go_upto_region 1 with fail
  rw [← hW0]
  clear hW0
  go_cut [3] (fun s3 wx => ∃ (M q d x y : Nat), s3 = .pointer (some ⟨M, 0, none⟩) ∧ q ≤ p + 10 ∧ (d = 1 ∨ d = 2 ∨ d = 4 ∨ d = 8) ∧ 1 ≤ x ∧ x ≤ 20 ∧ 1 ≤ y ∧ y ≤ 20 ∧ LI w wx B M q 4 (d : Int) (x : Int) (y : Int) (.slice none 0 0) (.slice none 0 0))
  case first =>
    refine wp_region_toldM (R := FullR B w.heap.size) (S := FullS p B w.heap.size W0) (E := Only B) 13 55 (by kernel_rfl) (by kernel_rfl) (by rfl) (fun _ _ _ _ hd h => ⟨hd.trans h.1, h.2⟩) (fun j v _ _ h1 h2 => fullR_kept hlt0 h1 h2) (fun vs => by simp only [puts, List.getElem?_toArray, List.getElem?_cons_succ, List.getElem?_cons_zero, Option.bind_some, Act.put, List.setIfInBounds_toArray, List.set_cons_zero, List.set_cons_succ]; exact rfl) ⟨HR0.out.drew, (Only.refl B W0).drew1, by show w.heap.size < W0.heap.size; omega⟩ ?_ ?_
    · refine TellsFromM.cons rfl (fun vs l wz hS hl hz hd K hK => ?_) ?_
      · try dsimp only at hK ⊢
        try simp only [List.getElem_toArray, List.getElem_cons_succ, List.getElem_cons_zero, Act.put, List.setIfInBounds_toArray, List.set_cons_zero, List.set_cons_succ]
        go_simp
        exact hK.out _ _ (hS.made (by decide) (by decide) (by decide) _) ((Only.refl B wz).alloc hS.1.lt _) ⟨wz.heap.size, rfl, four_new hS.1.lt⟩
      refine TellsFromM.cons rfl (fun vs l wz hS hl hz hd K hK => ?_) ?_
      · try dsimp only at hK ⊢
        try simp only [List.getElem_toArray, List.getElem_cons_succ, List.getElem_cons_zero, Act.put, List.setIfInBounds_toArray, List.set_cons_zero, List.set_cons_succ]
        go_simp
        exact hK.out _ _ (hS.other (by decide) (by decide) (by decide)) (Only.refl B wz) rfl
      refine TellsFromM.cons rfl (fun vs l wz hS hl hz hd K hK => ?_) ?_
      · try dsimp only at hK ⊢
        have h1 : vs 1 = .pointer (some ⟨B, 0, none⟩) := hd 1 (by kernel_rfl)
        generalize vs 1 = x1 at *
        subst h1
        try simp only [List.getElem_toArray, List.getElem_cons_succ, List.getElem_cons_zero, Act.put, List.setIfInBounds_toArray, List.set_cons_zero, List.set_cons_succ]
        go_simp
        refine (pick_named B (p + cnt3 l) 4 wz hS.1 (by omega) (by omega) (by have := cnt3_le l; omega)).mono ?_
        rintro e wy ⟨v, rfl, hv, hR, hO, hsy⟩
        exact hK.out _ _ ⟨by rw [cnt3_2 hl hz, ← Nat.add_assoc]; exact hR, hS.2.1.trans hO, Nat.lt_of_lt_of_le hS.2.2 hO.below.size⟩ hO ⟨v, rfl, by omega⟩
      refine TellsFromM.cons rfl (fun vs l wz hS hl hz hd K hK => ?_) ?_
      · try dsimp only at hK ⊢
        obtain ⟨b, h0, hb⟩ : FullR B w.heap.size 0 (vs 0) wz := hd 0 (by kernel_rfl)
        generalize vs 0 = x0 at *
        subst h0
        obtain ⟨g, h2, hg4⟩ : FullR B w.heap.size 2 (vs 2) wz := hd 2 (by kernel_rfl)
        generalize vs 2 = x2 at *
        subst h2
        try simp only [List.getElem_toArray, List.getElem_cons_succ, List.getElem_cons_zero, Act.put, List.setIfInBounds_toArray, List.set_cons_zero, List.set_cons_succ]
        have hgi : (g : Int) < 4 := by omega
        go_simp
        exact hK.out _ _ (hS.other (by decide) (by decide) (by decide)) (Only.refl B wz) ⟨b, g, rfl, hg4, hb⟩
      refine TellsFromM.cons rfl (fun vs l wz hS hl hz hd K hK => ?_) ?_
      · try dsimp only at hK ⊢
        obtain ⟨b, g, h3, hg4, hb⟩ : FullR B w.heap.size 3 (vs 3) wz := hd 3 (by kernel_rfl)
        generalize vs 3 = x3 at *
        subst h3
        try simp only [List.getElem_toArray, List.getElem_cons_succ, List.getElem_cons_zero, Act.put, List.setIfInBounds_toArray, List.set_cons_zero, List.set_cons_succ]
        obtain ⟨d, hd8, hcd⟩ := hb.2.2 g hg4
        go_simp
        exact hK.out _ _ (hS.other (by decide) (by decide) (by decide)) (Only.refl B wz) ⟨d, rfl, hd8⟩
      refine TellsFromM.cons rfl (fun vs l wz hS hl hz hd K hK => ?_) ?_
      · try dsimp only at hK ⊢
        try simp only [List.getElem_toArray, List.getElem_cons_succ, List.getElem_cons_zero, Act.put, List.setIfInBounds_toArray, List.set_cons_zero, List.set_cons_succ]
        go_simp
        exact hK.out _ _ (hS.other (by decide) (by decide) (by decide)) (Only.refl B wz) rfl
      refine TellsFromM.cons rfl (fun vs l wz hS hl hz hd K hK => ?_) ?_
      · try dsimp only at hK ⊢
        have h5 : vs 5 = .pointer (some ⟨B, 0, none⟩) := hd 5 (by kernel_rfl)
        generalize vs 5 = x5 at *
        subst h5
        try simp only [List.getElem_toArray, List.getElem_cons_succ, List.getElem_cons_zero, Act.put, List.setIfInBounds_toArray, List.set_cons_zero, List.set_cons_succ]
        go_simp
        refine (pick_named B (p + cnt3 l) 12 wz hS.1 (by omega) (by omega) (by have := cnt3_le l; omega)).mono ?_
        rintro e wy ⟨v, rfl, hv, hR, hO, hsy⟩
        exact hK.out _ _ ⟨by rw [cnt3_6 hl hz, ← Nat.add_assoc]; exact hR, hS.2.1.trans hO, Nat.lt_of_lt_of_le hS.2.2 hO.below.size⟩ hO ⟨v, rfl, by omega⟩
      refine TellsFromM.cons rfl (fun vs l wz hS hl hz hd K hK => ?_) ?_
      · try dsimp only at hK ⊢
        obtain ⟨g, h6, hg⟩ : FullR B w.heap.size 6 (vs 6) wz := hd 6 (by kernel_rfl)
        generalize vs 6 = x6 at *
        subst h6
        try simp only [List.getElem_toArray, List.getElem_cons_succ, List.getElem_cons_zero, Act.put, List.setIfInBounds_toArray, List.set_cons_zero, List.set_cons_succ]
        obtain ⟨u, hu⟩ : ∃ u : Nat, u = g + 1 := ⟨_, rfl⟩
        have e1 : (1 : Int) + (g : Int) = (u : Int) := by omega
        have e2 : (g : Int) + 1 = (u : Int) := by omega
        have f1 := wrap_i64_nat u (by omega)
        have hub : 1 ≤ u ∧ u ≤ 12 := by omega
        clear hu
        go_simp
        exact hK.out _ _ (hS.other (by decide) (by decide) (by decide)) (Only.refl B wz) ⟨u, rfl, hub.1, hub.2⟩
      refine TellsFromM.cons rfl (fun vs l wz hS hl hz hd K hK => ?_) ?_
      · try dsimp only at hK ⊢
        try simp only [List.getElem_toArray, List.getElem_cons_succ, List.getElem_cons_zero, Act.put, List.setIfInBounds_toArray, List.set_cons_zero, List.set_cons_succ]
        go_simp
        exact hK.out _ _ (hS.other (by decide) (by decide) (by decide)) (Only.refl B wz) rfl
      refine TellsFromM.cons rfl (fun vs l wz hS hl hz hd K hK => ?_) ?_
      · try dsimp only at hK ⊢
        have h8 : vs 8 = .pointer (some ⟨B, 0, none⟩) := hd 8 (by kernel_rfl)
        generalize vs 8 = x8 at *
        subst h8
        try simp only [List.getElem_toArray, List.getElem_cons_succ, List.getElem_cons_zero, Act.put, List.setIfInBounds_toArray, List.set_cons_zero, List.set_cons_succ]
        go_simp
        refine (pick_named B (p + cnt3 l) 12 wz hS.1 (by omega) (by omega) (by have := cnt3_le l; omega)).mono ?_
        rintro e wy ⟨v, rfl, hv, hR, hO, hsy⟩
        exact hK.out _ _ ⟨by rw [cnt3_9 hl hz, ← Nat.add_assoc]; exact hR, hS.2.1.trans hO, Nat.lt_of_lt_of_le hS.2.2 hO.below.size⟩ hO ⟨v, rfl, by omega⟩
      refine TellsFromM.cons rfl (fun vs l wz hS hl hz hd K hK => ?_) ?_
      · try dsimp only at hK ⊢
        obtain ⟨g, h9, hg⟩ : FullR B w.heap.size 9 (vs 9) wz := hd 9 (by kernel_rfl)
        generalize vs 9 = x9 at *
        subst h9
        try simp only [List.getElem_toArray, List.getElem_cons_succ, List.getElem_cons_zero, Act.put, List.setIfInBounds_toArray, List.set_cons_zero, List.set_cons_succ]
        obtain ⟨u, hu⟩ : ∃ u : Nat, u = g + 1 := ⟨_, rfl⟩
        have e1 : (1 : Int) + (g : Int) = (u : Int) := by omega
        have e2 : (g : Int) + 1 = (u : Int) := by omega
        have f1 := wrap_i64_nat u (by omega)
        have hub : 1 ≤ u ∧ u ≤ 12 := by omega
        clear hu
        go_simp
        exact hK.out _ _ (hS.other (by decide) (by decide) (by decide)) (Only.refl B wz) ⟨u, rfl, hub.1, hub.2⟩
      refine TellsFromM.cons rfl (fun vs l wz hS hl hz hd K hK => ?_) ?_
      · try dsimp only at hK ⊢
        obtain ⟨d, h4, hd8⟩ : FullR B w.heap.size 4 (vs 4) wz := hd 4 (by kernel_rfl)
        generalize vs 4 = x4 at *
        subst h4
        obtain ⟨x, h7, hx1, hx2⟩ : FullR B w.heap.size 7 (vs 7) wz := hd 7 (by kernel_rfl)
        generalize vs 7 = x7 at *
        subst h7
        obtain ⟨y, h10, hy1, hy2⟩ : FullR B w.heap.size 10 (vs 10) wz := hd 10 (by kernel_rfl)
        generalize vs 10 = x10 at *
        subst h10
        try simp only [List.getElem_toArray, List.getElem_cons_succ, List.getElem_cons_zero, Act.put, List.setIfInBounds_toArray, List.set_cons_zero, List.set_cons_succ]
        go_simp
        exact hK.out _ _ (hS.other (by decide) (by decide) (by decide)) (Only.refl B wz) ⟨d, x, y, rfl, hd8, hx1, hx2, hy1, hy2⟩
      refine TellsFromM.cons rfl (fun vs l wz hS hl hz hd K hK => ?_) ?_
      · try dsimp only at hK ⊢
        try simp only [List.getElem_toArray, List.getElem_cons_succ, List.getElem_cons_zero, Act.put, List.setIfInBounds_toArray, List.set_cons_zero, List.set_cons_succ]
        go_simp
        exact hK.out _ _ (hS.made (by decide) (by decide) (by decide) _) ((Only.refl B wz).alloc hS.1.lt _) ⟨wz.heap.size, rfl, hS.2.2, by simp, heap_alloc_new _ _⟩
      exact TellsFromM.nil
    · intro vs l wz hl hS hd
      try dsimp only
      obtain ⟨d, x, y, h11, hd8, hx1, hx2, hy1, hy2⟩ : FullR B w.heap.size 11 (vs 11) wz := hd 11 (by omega)
      obtain ⟨M, h12, hM1, hM2, hM3⟩ : FullR B w.heap.size 12 (vs 12) wz := hd 12 (by omega)
      clear hd
      generalize vs 0 = y0 at *
      generalize vs 1 = y1 at *
      generalize vs 2 = y2 at *
      generalize vs 3 = y3 at *
      generalize vs 4 = y4 at *
      generalize vs 5 = y5 at *
      generalize vs 6 = y6 at *
      generalize vs 7 = y7 at *
      generalize vs 8 = y8 at *
      generalize vs 9 = y9 at *
      generalize vs 10 = y10 at *
      generalize vs 11 = y11 at *
      generalize vs 12 = y12 at *
      subst h11
      subst h12
      have hI6 : (Tryz.prog.info? 25).map (·.size) = some (#[Value.int .i64 4, .int .i64 (d : Int), .int .i64 (x : Int), .int .i64 (y : Int), .slice none 0 0, .slice none 0 0]).size := by kernel_rfl
      have h16 : (#[Value.int .i64 4, .int .i64 (d : Int), .int .i64 (x : Int), .int .i64 (y : Int), .slice none 0 0, .slice none 0 0]).all (·.oneCell') = true := by simp [Value.oneCell']
      refine wpAnyH_ready (rs := [13]) (by kernel_rfl) (by simp) ?_
      refine AllReadyH.cons rfl (fun K hK => ?_) AllReadyH.nil
      refine wp_store_row 25 (.tmp 3) (.tmp 17) rfl M #[.int .i64 4, .int .i64 (d : Int), .int .i64 (x : Int), .int .i64 (y : Int), .slice none 0 0, .slice none 0 0] rfl rfl 25 #[.int .i64 0, .int .i64 0, .int .i64 0, .int .i64 0, .slice none 0 0, .slice none 0 0] hM3 hI6 rfl h16 ?_
      refine hK.out _ _ trivial (fun _ => ?_)
      clear hK K
      try simp only [List.getElem_toArray, List.getElem_cons_succ, List.getElem_cons_zero, Act.put, List.setIfInBounds_toArray, List.set_cons_zero, List.set_cons_succ]
      refine wpAnyH_done (by kernel_rfl) ?_ _
      try simp only [List.getElem_toArray, List.getElem_cons_succ, List.getElem_cons_zero, Act.put, List.setIfInBounds_toArray, List.set_cons_zero, List.set_cons_succ]
      have hL : LI w (wz.setRow M #[.int .i64 4, .int .i64 (d : Int), .int .i64 (x : Int), .int .i64 (y : Int), .slice none 0 0, .slice none 0 0]) B M (p + cnt3 l) 4 (d : Int) (x : Int) (y : Int) (.slice none 0 0) (.slice none 0 0) :=
        ⟨hS.1.kept ((below_setRow _ _ _).mono (by omega)), (HO0.out.trans hS.2.1).grown hlt0 ((below_setRow _ _ _).mono (by omega)), (setRow_other _ _ _ _ (by omega)).trans ((hS.2.1.rest _ (by omega) (by omega)).trans HZ0.out), setRow_heap _ _ _ _ _ _ hM3, hlt0, hM1⟩
      have hc := cnt3_le l
      go_wp2_with fail
      go_meet
      exact ⟨M, p + cnt3 l, d, x, y, rfl, by omega, hd8, hx1, by omega, hy1, by omega, hL⟩
  case rest =>
  clear HR0 HO0 HZ0 hs0
  obtain ⟨M, q, d, x, y, rfl, hq, hd, hx1, hx2, hy1, hy2, hL⟩ := hcut
  have hd1 : 1 ≤ d ∧ d ≤ 8 := by omega
  clear hd
  have hMw := hL.hM
  obtain ⟨Q, hQ⟩ : ∃ Q, Q = 2 ^ d := ⟨_, rfl⟩
  have hQ1 : 1 ≤ Q := by rw [hQ]; exact Nat.pow_pos (by omega)
  have hQ2 : Q ≤ 256 := by rw [hQ]; exact Nat.le_trans (Nat.pow_le_pow_right (by omega) hd1.2) (by decide)
  have HPW : Hid (∀ w, Calls Tryz.prog 27 #[.int .i64 (d : Int)] w fun e w' => e = .returned (.int .i64 (Q : Int)) ∧ w' = w) := by
    intro w; rw [hQ]; exact l1Pow_any d w (by omega)
  clear hQ
  have HX : Hid (CX w wc B M q 4 d x y (.slice none 0 0) 0 []) := ⟨hL, World.ownsRow_nil _ _ _ _⟩
  clear hL
  go_wp2_with fail
  go_loopw [4] (fun i wr => ∃ (j q1 : Nat) (v : Value) (cs : List Int), i = .int .i64 (j : Int) ∧ j ≤ Q ∧ q1 ≤ q + j ∧ CX w wr B M q1 4 d x y v j cs) (fun i _ => Q - (intOf i).toNat)
  case atStart => exact ⟨0, q, .slice none 0 0, [], rfl, by omega, by omega, HX.out⟩
  case round =>
    obtain ⟨j, q1, v, cs, rfl, hj, hq1, hX⟩ := hrel
    clear HX
    have HXr : Hid (CX w wr B M q1 4 d x y v j cs) := hX
    obtain ⟨⟨z0, z1, z2, z3, z4, z5⟩, y0, y1, y2, y3, y4, y5⟩ := box6 hX.li.box
    clear hX
    go_wp2_with fail
    refine (HPW.out _).mono ?_
    rintro e wz ⟨rfl, rfl⟩
    clear z0 z1 z2 z3 z4 z5 y0 y1 y2 y3 y4 y5
    by_cases hjn : j < Q
    · have hji : (j : Int) < (Q : Int) := by omega
      have HX0 : Hid (CX w _ B M (q1 + 0) 4 d x y v j cs) := HXr.out.drew
      have c0 := (box6 HXr.out.li.box).1.2.2.2.2.1
      clear HXr
      go_wp2_with fail
      refine wp_region_held_drew (S := fun _ => True) (by kernel_rfl) trivial (fun _ => ?_)
      refine wpAnyH_take (i := 0) (v := .pointer (some ⟨M, 4, none⟩)) rfl (by kernel_rfl) (by kernel_rfl) (by kernel_rfl) (fun _ _ _ h => h) (Or.inl ⟨by rfl, ?_⟩) trivial ?_
      · intro w' _
        go_simp
      try simp only [Act.put, List.setIfInBounds_toArray, List.set_cons_zero, List.set_cons_succ]
      refine wpAnyH_take (i := 2) (v := .pointer (some ⟨B, 0, none⟩)) rfl (by kernel_rfl) (by kernel_rfl) (by kernel_rfl) (fun _ _ _ h => h) (Or.inl ⟨by rfl, ?_⟩) trivial ?_
      · intro w' _
        go_simp
      try simp only [Act.put, List.setIfInBounds_toArray, List.set_cons_zero, List.set_cons_succ]
      refine wpAnyH_take (i := 5) (v := .int .i64 (j : Int)) rfl (by kernel_rfl) (by kernel_rfl) (by kernel_rfl) (fun _ _ _ h => h) (Or.inl ⟨by rfl, ?_⟩) trivial ?_
      · intro w' _
        go_simp
      try simp only [Act.put, List.setIfInBounds_toArray, List.set_cons_zero, List.set_cons_succ]
      refine wpAnyH_ready (rs := [1, 3]) (by kernel_rfl) (by simp) ?_
      refine AllReadyH.cons rfl (fun K hK => ?_) (AllReadyH.cons rfl (fun K hK => ?_) AllReadyH.nil)
      · go_simp
        refine hK.out _ _ trivial (fun _ => ?_)
        clear hK K
        try simp only [Act.put, List.setIfInBounds_toArray, List.set_cons_zero, List.set_cons_succ]
        refine wpAnyH_ready (rs := [3]) (by kernel_rfl) (by simp) ?_
        refine AllReadyH.cons rfl (fun K hK => ?_) AllReadyH.nil
        go_simp
        refine (pick_named B q1 _ _ HX0.out.li.rd (by omega) (by omega) (by omega)).mono ?_
        rintro e wy ⟨x1, rfl, hx1, hRy, hOy, hsy⟩
        have HX1 : Hid (CX w wy B M (q1 + 1) 4 d x y v j cs) := HX0.out.pick hRy hOy
        have c1 : wy.cell? ⟨M, 4, none⟩ = some v := (box6 HX1.out.li.box).1.2.2.2.2.1
        have c4 : ∀ o, (wy.alloc o).cell? ⟨M, 4, none⟩ = some v := fun o => (box6 (HX1.out.alloc o).li.box).1.2.2.2.2.1
        clear hRy hOy hsy
        go_wp2_with fail
        refine hK.out _ _ trivial (fun _ => ?_)
        clear hK K
        try simp only [Act.put, List.setIfInBounds_toArray, List.set_cons_zero, List.set_cons_succ]
        obtain ⟨m1, hm1⟩ : ∃ m : Nat, m = x1 * 65536 := ⟨_, rfl⟩
        have e1 : (x1 : Int) * 65536 = (m1 : Int) := by omega
        have f1 := wrap_i64_nat m1 (by omega)
        obtain ⟨m2, hm2⟩ : ∃ m : Nat, m = m1 + j := ⟨_, rfl⟩
        have e2 : (m1 : Int) + (j : Int) = (m2 : Int) := by omega
        have f2 := wrap_i64_nat m2 (by omega)
        clear hm1 hm2 hx1
        refine wpAnyH_take (i := 4) (v := .int .i64 (m1 : Int)) rfl (by kernel_rfl) (by kernel_rfl) (by kernel_rfl) (fun _ _ _ h => h) (Or.inl ⟨by rfl, ?_⟩) trivial ?_
        · intro w' _
          go_simp
        try simp only [Act.put, List.setIfInBounds_toArray, List.set_cons_zero, List.set_cons_succ]
        refine wpAnyH_take (i := 6) (v := .int .i64 (m2 : Int)) rfl (by kernel_rfl) (by kernel_rfl) (by kernel_rfl) (fun _ _ _ h => h) (Or.inl ⟨by rfl, ?_⟩) trivial ?_
        · intro w' _
          go_simp
        try simp only [Act.put, List.setIfInBounds_toArray, List.set_cons_zero, List.set_cons_succ]
        refine wpAnyH_ready (rs := [7]) (by kernel_rfl) (by simp) ?_
        refine AllReadyH.cons rfl (fun K hK => ?_) AllReadyH.nil
        go_simp
        refine hK.out _ _ trivial (fun _ => ?_)
        clear hK K
        try simp only [Act.put, List.setIfInBounds_toArray, List.set_cons_zero, List.set_cons_succ]
        refine wpAnyH_ready (rs := [8]) (by kernel_rfl) (by simp) ?_
        refine AllReadyH.cons rfl (fun K hK => ?_) AllReadyH.nil
        refine step_append_ints (by rfl) _ _ (by rfl) (M + 1) v j cs (by rfl) (show OwnI _ _ _ _ _ from (HX1.out.alloc _).own) (some ⟨wy.heap.size, 0, none⟩) 1 1 [(m2 : Int)] (by rfl) (show Ints _ _ _ from ints_one wy (m2 : Int)) rfl (by omega) (by have := lt_of_block HX1.out.li.box; simp; omega) ?_
        intro ya cy w8 hO8 hG8
        simp only [List.getElem_toArray, List.getElem_cons_succ, List.getElem_cons_zero, Act.put, List.setIfInBounds_toArray, List.set_cons_zero, List.set_cons_succ]
        have hL8 := (HX1.out.alloc _).grow hG8
        have HX8 : Hid (CX w (w8.setCell ⟨M, 4, none⟩ (.slice ya (j + 1) cy)) B M (q1 + 1) 4 d x y (.slice ya (j + 1) cy) (j + 1) (cs ++ [(m2 : Int)])) := ⟨hL8.set4 _, hO8.set (by omega)⟩
        obtain ⟨⟨z0, z1, z2, z3, z4, z5⟩, y0, y1, y2, y3, y4, y5⟩ := box6 hL8.box
        clear hO8 hG8 hL8
        refine hK.out _ _ trivial (fun _ => ?_)
        clear hK K
        try simp only [Act.put, List.setIfInBounds_toArray, List.set_cons_zero, List.set_cons_succ]
        refine wpAnyH_take (i := 9) (v := .pointer (some ⟨M, 4, none⟩)) rfl (by kernel_rfl) (by kernel_rfl) (by kernel_rfl) (fun _ _ _ h => h) (Or.inl ⟨by rfl, ?_⟩) trivial ?_
        · intro w' _
          go_simp
        try simp only [Act.put, List.setIfInBounds_toArray, List.set_cons_zero, List.set_cons_succ]
        refine wpAnyH_ready (rs := [10]) (by kernel_rfl) (by simp) ?_
        refine AllReadyH.cons rfl (fun K hK => ?_) AllReadyH.nil
        go_simp
        refine hK.out _ _ trivial (fun _ => ?_)
        clear hK K
        try simp only [Act.put, List.setIfInBounds_toArray, List.set_cons_zero, List.set_cons_succ]
        refine wpAnyH_done (by kernel_rfl) ?_ _
        clear z0 z1 z2 z3 z4 z5 y0 y1 y2 y3 y4 y5
        go_wp2_with fail
        go_roundw
        case rel => exact ⟨j + 1, q1 + 1, .slice ya (j + 1) cy, cs ++ [(m2 : Int)], by go_num, by omega, by omega, HX8.out⟩
        case measure => simp [intOf]; omega
      · go_simp
        refine (pick_named B q1 _ _ HX0.out.li.rd (by omega) (by omega) (by omega)).mono ?_
        rintro e wy ⟨x1, rfl, hx1, hRy, hOy, hsy⟩
        have HX1 : Hid (CX w wy B M (q1 + 1) 4 d x y v j cs) := HX0.out.pick hRy hOy
        have c1 : wy.cell? ⟨M, 4, none⟩ = some v := (box6 HX1.out.li.box).1.2.2.2.2.1
        have c4 : ∀ o, (wy.alloc o).cell? ⟨M, 4, none⟩ = some v := fun o => (box6 (HX1.out.alloc o).li.box).1.2.2.2.2.1
        clear hRy hOy hsy
        go_wp2_with fail
        refine hK.out _ _ trivial (fun _ => ?_)
        clear hK K
        try simp only [Act.put, List.setIfInBounds_toArray, List.set_cons_zero, List.set_cons_succ]
        obtain ⟨m1, hm1⟩ : ∃ m : Nat, m = x1 * 65536 := ⟨_, rfl⟩
        have e1 : (x1 : Int) * 65536 = (m1 : Int) := by omega
        have f1 := wrap_i64_nat m1 (by omega)
        obtain ⟨m2, hm2⟩ : ∃ m : Nat, m = m1 + j := ⟨_, rfl⟩
        have e2 : (m1 : Int) + (j : Int) = (m2 : Int) := by omega
        have f2 := wrap_i64_nat m2 (by omega)
        clear hm1 hm2 hx1
        refine wpAnyH_take (i := 4) (v := .int .i64 (m1 : Int)) rfl (by kernel_rfl) (by kernel_rfl) (by kernel_rfl) (fun _ _ _ h => h) (Or.inl ⟨by rfl, ?_⟩) trivial ?_
        · intro w' _
          go_simp
        try simp only [Act.put, List.setIfInBounds_toArray, List.set_cons_zero, List.set_cons_succ]
        refine wpAnyH_take (i := 6) (v := .int .i64 (m2 : Int)) rfl (by kernel_rfl) (by kernel_rfl) (by kernel_rfl) (fun _ _ _ h => h) (Or.inl ⟨by rfl, ?_⟩) trivial ?_
        · intro w' _
          go_simp
        try simp only [Act.put, List.setIfInBounds_toArray, List.set_cons_zero, List.set_cons_succ]
        refine wpAnyH_ready (rs := [1, 7]) (by kernel_rfl) (by simp) ?_
        refine AllReadyH.cons rfl (fun K hK => ?_) (AllReadyH.cons rfl (fun K hK => ?_) AllReadyH.nil)
        · go_simp
          refine hK.out _ _ trivial (fun _ => ?_)
          clear hK K
          try simp only [Act.put, List.setIfInBounds_toArray, List.set_cons_zero, List.set_cons_succ]
          refine wpAnyH_ready (rs := [7]) (by kernel_rfl) (by simp) ?_
          refine AllReadyH.cons rfl (fun K hK => ?_) AllReadyH.nil
          go_simp
          refine hK.out _ _ trivial (fun _ => ?_)
          clear hK K
          try simp only [Act.put, List.setIfInBounds_toArray, List.set_cons_zero, List.set_cons_succ]
          refine wpAnyH_ready (rs := [8]) (by kernel_rfl) (by simp) ?_
          refine AllReadyH.cons rfl (fun K hK => ?_) AllReadyH.nil
          refine step_append_ints (by rfl) _ _ (by rfl) (M + 1) v j cs (by rfl) (show OwnI _ _ _ _ _ from (HX1.out.alloc _).own) (some ⟨wy.heap.size, 0, none⟩) 1 1 [(m2 : Int)] (by rfl) (show Ints _ _ _ from ints_one wy (m2 : Int)) rfl (by omega) (by have := lt_of_block HX1.out.li.box; simp; omega) ?_
          intro ya cy w8 hO8 hG8
          simp only [List.getElem_toArray, List.getElem_cons_succ, List.getElem_cons_zero, Act.put, List.setIfInBounds_toArray, List.set_cons_zero, List.set_cons_succ]
          have hL8 := (HX1.out.alloc _).grow hG8
          have HX8 : Hid (CX w (w8.setCell ⟨M, 4, none⟩ (.slice ya (j + 1) cy)) B M (q1 + 1) 4 d x y (.slice ya (j + 1) cy) (j + 1) (cs ++ [(m2 : Int)])) := ⟨hL8.set4 _, hO8.set (by omega)⟩
          obtain ⟨⟨z0, z1, z2, z3, z4, z5⟩, y0, y1, y2, y3, y4, y5⟩ := box6 hL8.box
          clear hO8 hG8 hL8
          refine hK.out _ _ trivial (fun _ => ?_)
          clear hK K
          try simp only [Act.put, List.setIfInBounds_toArray, List.set_cons_zero, List.set_cons_succ]
          refine wpAnyH_take (i := 9) (v := .pointer (some ⟨M, 4, none⟩)) rfl (by kernel_rfl) (by kernel_rfl) (by kernel_rfl) (fun _ _ _ h => h) (Or.inl ⟨by rfl, ?_⟩) trivial ?_
          · intro w' _
            go_simp
          try simp only [Act.put, List.setIfInBounds_toArray, List.set_cons_zero, List.set_cons_succ]
          refine wpAnyH_ready (rs := [10]) (by kernel_rfl) (by simp) ?_
          refine AllReadyH.cons rfl (fun K hK => ?_) AllReadyH.nil
          go_simp
          refine hK.out _ _ trivial (fun _ => ?_)
          clear hK K
          try simp only [Act.put, List.setIfInBounds_toArray, List.set_cons_zero, List.set_cons_succ]
          refine wpAnyH_done (by kernel_rfl) ?_ _
          clear z0 z1 z2 z3 z4 z5 y0 y1 y2 y3 y4 y5
          go_wp2_with fail
          go_roundw
          case rel => exact ⟨j + 1, q1 + 1, .slice ya (j + 1) cy, cs ++ [(m2 : Int)], by go_num, by omega, by omega, HX8.out⟩
          case measure => simp [intOf]; omega
        · go_simp
          refine hK.out _ _ trivial (fun _ => ?_)
          clear hK K
          try simp only [Act.put, List.setIfInBounds_toArray, List.set_cons_zero, List.set_cons_succ]
          refine wpAnyH_ready (rs := [1]) (by kernel_rfl) (by simp) ?_
          refine AllReadyH.cons rfl (fun K hK => ?_) AllReadyH.nil
          go_simp
          refine hK.out _ _ trivial (fun _ => ?_)
          clear hK K
          try simp only [Act.put, List.setIfInBounds_toArray, List.set_cons_zero, List.set_cons_succ]
          refine wpAnyH_ready (rs := [8]) (by kernel_rfl) (by simp) ?_
          refine AllReadyH.cons rfl (fun K hK => ?_) AllReadyH.nil
          refine step_append_ints (by rfl) _ _ (by rfl) (M + 1) v j cs (by rfl) (show OwnI _ _ _ _ _ from (HX1.out.alloc _).own) (some ⟨wy.heap.size, 0, none⟩) 1 1 [(m2 : Int)] (by rfl) (show Ints _ _ _ from ints_one wy (m2 : Int)) rfl (by omega) (by have := lt_of_block HX1.out.li.box; simp; omega) ?_
          intro ya cy w8 hO8 hG8
          simp only [List.getElem_toArray, List.getElem_cons_succ, List.getElem_cons_zero, Act.put, List.setIfInBounds_toArray, List.set_cons_zero, List.set_cons_succ]
          have hL8 := (HX1.out.alloc _).grow hG8
          have HX8 : Hid (CX w (w8.setCell ⟨M, 4, none⟩ (.slice ya (j + 1) cy)) B M (q1 + 1) 4 d x y (.slice ya (j + 1) cy) (j + 1) (cs ++ [(m2 : Int)])) := ⟨hL8.set4 _, hO8.set (by omega)⟩
          obtain ⟨⟨z0, z1, z2, z3, z4, z5⟩, y0, y1, y2, y3, y4, y5⟩ := box6 hL8.box
          clear hO8 hG8 hL8
          refine hK.out _ _ trivial (fun _ => ?_)
          clear hK K
          try simp only [Act.put, List.setIfInBounds_toArray, List.set_cons_zero, List.set_cons_succ]
          refine wpAnyH_take (i := 9) (v := .pointer (some ⟨M, 4, none⟩)) rfl (by kernel_rfl) (by kernel_rfl) (by kernel_rfl) (fun _ _ _ h => h) (Or.inl ⟨by rfl, ?_⟩) trivial ?_
          · intro w' _
            go_simp
          try simp only [Act.put, List.setIfInBounds_toArray, List.set_cons_zero, List.set_cons_succ]
          refine wpAnyH_ready (rs := [10]) (by kernel_rfl) (by simp) ?_
          refine AllReadyH.cons rfl (fun K hK => ?_) AllReadyH.nil
          go_simp
          refine hK.out _ _ trivial (fun _ => ?_)
          clear hK K
          try simp only [Act.put, List.setIfInBounds_toArray, List.set_cons_zero, List.set_cons_succ]
          refine wpAnyH_done (by kernel_rfl) ?_ _
          clear z0 z1 z2 z3 z4 z5 y0 y1 y2 y3 y4 y5
          go_wp2_with fail
          go_roundw
          case rel => exact ⟨j + 1, q1 + 1, .slice ya (j + 1) cy, cs ++ [(m2 : Int)], by go_num, by omega, by omega, HX8.out⟩
          case measure => simp [intOf]; omega
    · have hji : ¬ (j : Int) < (Q : Int) := by omega
      have hjn' : Q = j := by omega
      subst hjn'
      obtain ⟨a4, c4, hv4, _⟩ := HXr.out.own.owns
      subst hv4
      have HX : Hid (CX w _ B M q1 4 d x y (.slice a4 Q c4) Q cs) := HXr.out
      clear HXr
      generalize q1 = q2 at *
      generalize wz = wb at *
      obtain ⟨N, hN⟩ : ∃ N, N = x * y := ⟨_, rfl⟩
      have HN : Hid (N = x * y) := hN
      have hNi : (x : Int) * (y : Int) = (N : Int) := by rw [hN]; simp
      have hN4 : N ≤ 20 * 20 := by rw [hN]; exact Nat.mul_le_mul hx2 hy2
      have fN := wrap_i64_nat N (by omega)
      clear hN
      have HS : Hid (PX w wb wb B M q2 4 d x y (.slice a4 Q c4) (.slice none 0 0) 0 []) := ⟨HX.out.li, World.ownsRow_nil _ _ _ _, fun _ _ _ => rfl, Nat.le_refl _, lt_of_block HX.out.li.box⟩
      go_wp2_with fail
      go_loopw [5] (fun i wr => ∃ (j q1 : Nat) (v5 : Value) (ps : List Int), i = .int .i64 (j : Int) ∧ j ≤ N ∧ q1 ≤ q2 + j ∧ PX w wb wr B M q1 4 d x y (.slice a4 Q c4) v5 j ps) (fun i _ => N - (intOf i).toNat)
      case atStart => exact ⟨0, q2, .slice none 0 0, [], rfl, by omega, by omega, HS.out⟩
      case round =>
        obtain ⟨j, q1, v5, ps, rfl, hj, hq1, hP⟩ := hrel
        clear HS
        by_cases hjN : j < N
        · have hji : (j : Int) < (N : Int) := by omega
          have HX0 : Hid (PX w wb wr.drew B M q1 4 d x y (.slice a4 Q c4) v5 j ps) := ⟨hP.li.drew, hP.own, hP.keep, hP.size, hP.hc⟩
          obtain ⟨⟨z0, z1, z2, z3, z4, z5⟩, y0, y1, y2, y3, y4, y5⟩ := box6 hP.li.box
          clear hP
          go_wp2_with fail
          refine wp_region_held_drew (S := fun _ => True) (by kernel_rfl) trivial (fun _ => ?_)
          refine wpAnyH_take (i := 0) (v := .pointer (some ⟨M, 5, none⟩)) rfl (by kernel_rfl) (by kernel_rfl) (by kernel_rfl) (fun _ _ _ h => h) (Or.inl ⟨by rfl, ?_⟩) trivial ?_
          · intro w' _
            go_simp
          try simp only [Act.put, List.setIfInBounds_toArray, List.set_cons_zero, List.set_cons_succ]
          refine wpAnyH_take (i := 2) (v := .pointer (some ⟨B, 0, none⟩)) rfl (by kernel_rfl) (by kernel_rfl) (by kernel_rfl) (fun _ _ _ h => h) (Or.inl ⟨by rfl, ?_⟩) trivial ?_
          · intro w' _
            go_simp
          try simp only [Act.put, List.setIfInBounds_toArray, List.set_cons_zero, List.set_cons_succ]
          refine wpAnyH_take (i := 3) (v := .pointer (some ⟨M, 1, none⟩)) rfl (by kernel_rfl) (by kernel_rfl) (by kernel_rfl) (fun _ _ _ h => h) (Or.inl ⟨by rfl, ?_⟩) trivial ?_
          · intro w' _
            go_simp
          try simp only [Act.put, List.setIfInBounds_toArray, List.set_cons_zero, List.set_cons_succ]
          refine wpAnyH_ready (rs := [1, 4]) (by kernel_rfl) (by simp) ?_
          refine AllReadyH.cons rfl (fun K hK => ?_) (AllReadyH.cons rfl (fun K hK => ?_) AllReadyH.nil)
          · go_simp
            refine hK.out _ _ trivial (fun _ => ?_)
            clear hK K
            try simp only [Act.put, List.setIfInBounds_toArray, List.set_cons_zero, List.set_cons_succ]
            refine wpAnyH_ready (rs := [4]) (by kernel_rfl) (by simp) ?_
            refine AllReadyH.cons rfl (fun K hK => ?_) AllReadyH.nil
            go_simp
            refine hK.out _ _ trivial (fun _ => ?_)
            clear hK K
            try simp only [Act.put, List.setIfInBounds_toArray, List.set_cons_zero, List.set_cons_succ]
            refine wpAnyH_ready (rs := [5]) (by kernel_rfl) (by simp) ?_
            refine AllReadyH.cons rfl (fun K hK => ?_) AllReadyH.nil
            go_simp
            refine (HPW.out _).mono ?_
            rintro e wz ⟨rfl, rfl⟩
            go_wp2_with fail
            refine hK.out _ _ trivial (fun _ => ?_)
            clear hK K
            try simp only [Act.put, List.setIfInBounds_toArray, List.set_cons_zero, List.set_cons_succ]
            refine wpAnyH_ready (rs := [6]) (by kernel_rfl) (by simp) ?_
            refine AllReadyH.cons rfl (fun K hK => ?_) AllReadyH.nil
            go_simp
            refine (pick_named B q1 _ _ HX0.out.li.rd (by omega) (by omega) (by omega)).mono ?_
            rintro e wy ⟨x1, rfl, hx1, hRy, hOy, hsy⟩
            have HX1 : Hid (PX w wb wy B M (q1 + 1) 4 d x y (.slice a4 Q c4) v5 j ps) := HX0.out.pick hRy hOy
            have c1 : wy.cell? ⟨M, 5, none⟩ = some v5 := (box6 HX1.out.li.box).1.2.2.2.2.2
            have c4' : ∀ o, (wy.alloc o).cell? ⟨M, 5, none⟩ = some v5 := fun o => (box6 (HX1.out.li.alloc o).box).1.2.2.2.2.2
            clear hRy hOy hsy hx1
            go_wp2_with fail
            refine hK.out _ _ trivial (fun _ => ?_)
            clear hK K
            try simp only [Act.put, List.setIfInBounds_toArray, List.set_cons_zero, List.set_cons_succ]
            refine wpAnyH_ready (rs := [7]) (by kernel_rfl) (by simp) ?_
            refine AllReadyH.cons rfl (fun K hK => ?_) AllReadyH.nil
            go_simp
            refine hK.out _ _ trivial (fun _ => ?_)
            clear hK K
            try simp only [Act.put, List.setIfInBounds_toArray, List.set_cons_zero, List.set_cons_succ]
            refine wpAnyH_ready (rs := [8]) (by kernel_rfl) (by simp) ?_
            refine AllReadyH.cons rfl (fun K hK => ?_) AllReadyH.nil
            refine step_append_ints (by rfl) _ _ (by rfl) wb.heap.size v5 j ps (by rfl) (show OwnI _ _ _ _ _ from HX1.out.own.old _) (some ⟨wy.heap.size, 0, none⟩) 1 1 [(x1 : Int)] (by rfl) (show Ints _ _ _ from ints_one wy (x1 : Int)) rfl (by omega) (by have := HX1.out.size; simp; omega) ?_
            intro ya cy w8 hO8 hG8
            simp only [List.getElem_toArray, List.getElem_cons_succ, List.getElem_cons_zero, Act.put, List.setIfInBounds_toArray, List.set_cons_zero, List.set_cons_succ]
            obtain ⟨hL8, hP8⟩ := HX1.out.push hO8 hG8
            have HX8 : Hid (PX w wb _ B M _ _ d x y (.slice a4 Q c4) (.slice ya (j + 1) cy) (j + 1) _) := hP8
            obtain ⟨⟨z0, z1, z2, z3, z4, z5⟩, y0, y1, y2, y3, y4, y5⟩ := box6 hL8.box
            clear hO8 hG8 hL8 hP8
            refine hK.out _ _ trivial (fun _ => ?_)
            clear hK K
            try simp only [Act.put, List.setIfInBounds_toArray, List.set_cons_zero, List.set_cons_succ]
            refine wpAnyH_take (i := 9) (v := .pointer (some ⟨M, 5, none⟩)) rfl (by kernel_rfl) (by kernel_rfl) (by kernel_rfl) (fun _ _ _ h => h) (Or.inl ⟨by rfl, ?_⟩) trivial ?_
            · intro w' _
              go_simp
            try simp only [Act.put, List.setIfInBounds_toArray, List.set_cons_zero, List.set_cons_succ]
            refine wpAnyH_ready (rs := [10]) (by kernel_rfl) (by simp) ?_
            refine AllReadyH.cons rfl (fun K hK => ?_) AllReadyH.nil
            go_simp
            refine hK.out _ _ trivial (fun _ => ?_)
            clear hK K
            try simp only [Act.put, List.setIfInBounds_toArray, List.set_cons_zero, List.set_cons_succ]
            refine wpAnyH_done (by kernel_rfl) ?_ _
            clear z0 z1 z2 z3 z4 z5 y0 y1 y2 y3 y4 y5
            go_wp2_with fail
            go_roundw
            case rel => exact ⟨j + 1, q1 + 1, .slice ya (j + 1) cy, ps ++ [(x1 : Int)], by go_num, by omega, by omega, HX8.out⟩
            case measure => simp [intOf]; omega
          · go_simp
            refine hK.out _ _ trivial (fun _ => ?_)
            clear hK K
            try simp only [Act.put, List.setIfInBounds_toArray, List.set_cons_zero, List.set_cons_succ]
            refine wpAnyH_ready (rs := [1, 5]) (by kernel_rfl) (by simp) ?_
            refine AllReadyH.cons rfl (fun K hK => ?_) (AllReadyH.cons rfl (fun K hK => ?_) AllReadyH.nil)
            · go_simp
              refine hK.out _ _ trivial (fun _ => ?_)
              clear hK K
              try simp only [Act.put, List.setIfInBounds_toArray, List.set_cons_zero, List.set_cons_succ]
              refine wpAnyH_ready (rs := [5]) (by kernel_rfl) (by simp) ?_
              refine AllReadyH.cons rfl (fun K hK => ?_) AllReadyH.nil
              go_simp
              refine (HPW.out _).mono ?_
              rintro e wz ⟨rfl, rfl⟩
              go_wp2_with fail
              refine hK.out _ _ trivial (fun _ => ?_)
              clear hK K
              try simp only [Act.put, List.setIfInBounds_toArray, List.set_cons_zero, List.set_cons_succ]
              refine wpAnyH_ready (rs := [6]) (by kernel_rfl) (by simp) ?_
              refine AllReadyH.cons rfl (fun K hK => ?_) AllReadyH.nil
              go_simp
              refine (pick_named B q1 _ _ HX0.out.li.rd (by omega) (by omega) (by omega)).mono ?_
              rintro e wy ⟨x1, rfl, hx1, hRy, hOy, hsy⟩
              have HX1 : Hid (PX w wb wy B M (q1 + 1) 4 d x y (.slice a4 Q c4) v5 j ps) := HX0.out.pick hRy hOy
              have c1 : wy.cell? ⟨M, 5, none⟩ = some v5 := (box6 HX1.out.li.box).1.2.2.2.2.2
              have c4' : ∀ o, (wy.alloc o).cell? ⟨M, 5, none⟩ = some v5 := fun o => (box6 (HX1.out.li.alloc o).box).1.2.2.2.2.2
              clear hRy hOy hsy hx1
              go_wp2_with fail
              refine hK.out _ _ trivial (fun _ => ?_)
              clear hK K
              try simp only [Act.put, List.setIfInBounds_toArray, List.set_cons_zero, List.set_cons_succ]
              refine wpAnyH_ready (rs := [7]) (by kernel_rfl) (by simp) ?_
              refine AllReadyH.cons rfl (fun K hK => ?_) AllReadyH.nil
              go_simp
              refine hK.out _ _ trivial (fun _ => ?_)
              clear hK K
              try simp only [Act.put, List.setIfInBounds_toArray, List.set_cons_zero, List.set_cons_succ]
              refine wpAnyH_ready (rs := [8]) (by kernel_rfl) (by simp) ?_
              refine AllReadyH.cons rfl (fun K hK => ?_) AllReadyH.nil
              refine step_append_ints (by rfl) _ _ (by rfl) wb.heap.size v5 j ps (by rfl) (show OwnI _ _ _ _ _ from HX1.out.own.old _) (some ⟨wy.heap.size, 0, none⟩) 1 1 [(x1 : Int)] (by rfl) (show Ints _ _ _ from ints_one wy (x1 : Int)) rfl (by omega) (by have := HX1.out.size; simp; omega) ?_
              intro ya cy w8 hO8 hG8
              simp only [List.getElem_toArray, List.getElem_cons_succ, List.getElem_cons_zero, Act.put, List.setIfInBounds_toArray, List.set_cons_zero, List.set_cons_succ]
              obtain ⟨hL8, hP8⟩ := HX1.out.push hO8 hG8
              have HX8 : Hid (PX w wb _ B M _ _ d x y (.slice a4 Q c4) (.slice ya (j + 1) cy) (j + 1) _) := hP8
              obtain ⟨⟨z0, z1, z2, z3, z4, z5⟩, y0, y1, y2, y3, y4, y5⟩ := box6 hL8.box
              clear hO8 hG8 hL8 hP8
              refine hK.out _ _ trivial (fun _ => ?_)
              clear hK K
              try simp only [Act.put, List.setIfInBounds_toArray, List.set_cons_zero, List.set_cons_succ]
              refine wpAnyH_take (i := 9) (v := .pointer (some ⟨M, 5, none⟩)) rfl (by kernel_rfl) (by kernel_rfl) (by kernel_rfl) (fun _ _ _ h => h) (Or.inl ⟨by rfl, ?_⟩) trivial ?_
              · intro w' _
                go_simp
              try simp only [Act.put, List.setIfInBounds_toArray, List.set_cons_zero, List.set_cons_succ]
              refine wpAnyH_ready (rs := [10]) (by kernel_rfl) (by simp) ?_
              refine AllReadyH.cons rfl (fun K hK => ?_) AllReadyH.nil
              go_simp
              refine hK.out _ _ trivial (fun _ => ?_)
              clear hK K
              try simp only [Act.put, List.setIfInBounds_toArray, List.set_cons_zero, List.set_cons_succ]
              refine wpAnyH_done (by kernel_rfl) ?_ _
              clear z0 z1 z2 z3 z4 z5 y0 y1 y2 y3 y4 y5
              go_wp2_with fail
              go_roundw
              case rel => exact ⟨j + 1, q1 + 1, .slice ya (j + 1) cy, ps ++ [(x1 : Int)], by go_num, by omega, by omega, HX8.out⟩
              case measure => simp [intOf]; omega
            · go_simp
              refine (HPW.out _).mono ?_
              rintro e wz ⟨rfl, rfl⟩
              go_wp2_with fail
              refine hK.out _ _ trivial (fun _ => ?_)
              clear hK K
              try simp only [Act.put, List.setIfInBounds_toArray, List.set_cons_zero, List.set_cons_succ]
              refine wpAnyH_ready (rs := [1, 6]) (by kernel_rfl) (by simp) ?_
              refine AllReadyH.cons rfl (fun K hK => ?_) (AllReadyH.cons rfl (fun K hK => ?_) AllReadyH.nil)
              · go_simp
                refine hK.out _ _ trivial (fun _ => ?_)
                clear hK K
                try simp only [Act.put, List.setIfInBounds_toArray, List.set_cons_zero, List.set_cons_succ]
                refine wpAnyH_ready (rs := [6]) (by kernel_rfl) (by simp) ?_
                refine AllReadyH.cons rfl (fun K hK => ?_) AllReadyH.nil
                go_simp
                refine (pick_named B q1 _ _ HX0.out.li.rd (by omega) (by omega) (by omega)).mono ?_
                rintro e wy ⟨x1, rfl, hx1, hRy, hOy, hsy⟩
                have HX1 : Hid (PX w wb wy B M (q1 + 1) 4 d x y (.slice a4 Q c4) v5 j ps) := HX0.out.pick hRy hOy
                have c1 : wy.cell? ⟨M, 5, none⟩ = some v5 := (box6 HX1.out.li.box).1.2.2.2.2.2
                have c4' : ∀ o, (wy.alloc o).cell? ⟨M, 5, none⟩ = some v5 := fun o => (box6 (HX1.out.li.alloc o).box).1.2.2.2.2.2
                clear hRy hOy hsy hx1
                go_wp2_with fail
                refine hK.out _ _ trivial (fun _ => ?_)
                clear hK K
                try simp only [Act.put, List.setIfInBounds_toArray, List.set_cons_zero, List.set_cons_succ]
                refine wpAnyH_ready (rs := [7]) (by kernel_rfl) (by simp) ?_
                refine AllReadyH.cons rfl (fun K hK => ?_) AllReadyH.nil
                go_simp
                refine hK.out _ _ trivial (fun _ => ?_)
                clear hK K
                try simp only [Act.put, List.setIfInBounds_toArray, List.set_cons_zero, List.set_cons_succ]
                refine wpAnyH_ready (rs := [8]) (by kernel_rfl) (by simp) ?_
                refine AllReadyH.cons rfl (fun K hK => ?_) AllReadyH.nil
                refine step_append_ints (by rfl) _ _ (by rfl) wb.heap.size v5 j ps (by rfl) (show OwnI _ _ _ _ _ from HX1.out.own.old _) (some ⟨wy.heap.size, 0, none⟩) 1 1 [(x1 : Int)] (by rfl) (show Ints _ _ _ from ints_one wy (x1 : Int)) rfl (by omega) (by have := HX1.out.size; simp; omega) ?_
                intro ya cy w8 hO8 hG8
                simp only [List.getElem_toArray, List.getElem_cons_succ, List.getElem_cons_zero, Act.put, List.setIfInBounds_toArray, List.set_cons_zero, List.set_cons_succ]
                obtain ⟨hL8, hP8⟩ := HX1.out.push hO8 hG8
                have HX8 : Hid (PX w wb _ B M _ _ d x y (.slice a4 Q c4) (.slice ya (j + 1) cy) (j + 1) _) := hP8
                obtain ⟨⟨z0, z1, z2, z3, z4, z5⟩, y0, y1, y2, y3, y4, y5⟩ := box6 hL8.box
                clear hO8 hG8 hL8 hP8
                refine hK.out _ _ trivial (fun _ => ?_)
                clear hK K
                try simp only [Act.put, List.setIfInBounds_toArray, List.set_cons_zero, List.set_cons_succ]
                refine wpAnyH_take (i := 9) (v := .pointer (some ⟨M, 5, none⟩)) rfl (by kernel_rfl) (by kernel_rfl) (by kernel_rfl) (fun _ _ _ h => h) (Or.inl ⟨by rfl, ?_⟩) trivial ?_
                · intro w' _
                  go_simp
                try simp only [Act.put, List.setIfInBounds_toArray, List.set_cons_zero, List.set_cons_succ]
                refine wpAnyH_ready (rs := [10]) (by kernel_rfl) (by simp) ?_
                refine AllReadyH.cons rfl (fun K hK => ?_) AllReadyH.nil
                go_simp
                refine hK.out _ _ trivial (fun _ => ?_)
                clear hK K
                try simp only [Act.put, List.setIfInBounds_toArray, List.set_cons_zero, List.set_cons_succ]
                refine wpAnyH_done (by kernel_rfl) ?_ _
                clear z0 z1 z2 z3 z4 z5 y0 y1 y2 y3 y4 y5
                go_wp2_with fail
                go_roundw
                case rel => exact ⟨j + 1, q1 + 1, .slice ya (j + 1) cy, ps ++ [(x1 : Int)], by go_num, by omega, by omega, HX8.out⟩
                case measure => simp [intOf]; omega
              · go_simp
                refine (pick_named B q1 _ _ HX0.out.li.rd (by omega) (by omega) (by omega)).mono ?_
                rintro e wy ⟨x1, rfl, hx1, hRy, hOy, hsy⟩
                have HX1 : Hid (PX w wb wy B M (q1 + 1) 4 d x y (.slice a4 Q c4) v5 j ps) := HX0.out.pick hRy hOy
                have c1 : wy.cell? ⟨M, 5, none⟩ = some v5 := (box6 HX1.out.li.box).1.2.2.2.2.2
                have c4' : ∀ o, (wy.alloc o).cell? ⟨M, 5, none⟩ = some v5 := fun o => (box6 (HX1.out.li.alloc o).box).1.2.2.2.2.2
                clear hRy hOy hsy hx1
                go_wp2_with fail
                refine hK.out _ _ trivial (fun _ => ?_)
                clear hK K
                try simp only [Act.put, List.setIfInBounds_toArray, List.set_cons_zero, List.set_cons_succ]
                refine wpAnyH_ready (rs := [1, 7]) (by kernel_rfl) (by simp) ?_
                refine AllReadyH.cons rfl (fun K hK => ?_) (AllReadyH.cons rfl (fun K hK => ?_) AllReadyH.nil)
                · go_simp
                  refine hK.out _ _ trivial (fun _ => ?_)
                  clear hK K
                  try simp only [Act.put, List.setIfInBounds_toArray, List.set_cons_zero, List.set_cons_succ]
                  refine wpAnyH_ready (rs := [7]) (by kernel_rfl) (by simp) ?_
                  refine AllReadyH.cons rfl (fun K hK => ?_) AllReadyH.nil
                  go_simp
                  refine hK.out _ _ trivial (fun _ => ?_)
                  clear hK K
                  try simp only [Act.put, List.setIfInBounds_toArray, List.set_cons_zero, List.set_cons_succ]
                  refine wpAnyH_ready (rs := [8]) (by kernel_rfl) (by simp) ?_
                  refine AllReadyH.cons rfl (fun K hK => ?_) AllReadyH.nil
                  refine step_append_ints (by rfl) _ _ (by rfl) wb.heap.size v5 j ps (by rfl) (show OwnI _ _ _ _ _ from HX1.out.own.old _) (some ⟨wy.heap.size, 0, none⟩) 1 1 [(x1 : Int)] (by rfl) (show Ints _ _ _ from ints_one wy (x1 : Int)) rfl (by omega) (by have := HX1.out.size; simp; omega) ?_
                  intro ya cy w8 hO8 hG8
                  simp only [List.getElem_toArray, List.getElem_cons_succ, List.getElem_cons_zero, Act.put, List.setIfInBounds_toArray, List.set_cons_zero, List.set_cons_succ]
                  obtain ⟨hL8, hP8⟩ := HX1.out.push hO8 hG8
                  have HX8 : Hid (PX w wb _ B M _ _ d x y (.slice a4 Q c4) (.slice ya (j + 1) cy) (j + 1) _) := hP8
                  obtain ⟨⟨z0, z1, z2, z3, z4, z5⟩, y0, y1, y2, y3, y4, y5⟩ := box6 hL8.box
                  clear hO8 hG8 hL8 hP8
                  refine hK.out _ _ trivial (fun _ => ?_)
                  clear hK K
                  try simp only [Act.put, List.setIfInBounds_toArray, List.set_cons_zero, List.set_cons_succ]
                  refine wpAnyH_take (i := 9) (v := .pointer (some ⟨M, 5, none⟩)) rfl (by kernel_rfl) (by kernel_rfl) (by kernel_rfl) (fun _ _ _ h => h) (Or.inl ⟨by rfl, ?_⟩) trivial ?_
                  · intro w' _
                    go_simp
                  try simp only [Act.put, List.setIfInBounds_toArray, List.set_cons_zero, List.set_cons_succ]
                  refine wpAnyH_ready (rs := [10]) (by kernel_rfl) (by simp) ?_
                  refine AllReadyH.cons rfl (fun K hK => ?_) AllReadyH.nil
                  go_simp
                  refine hK.out _ _ trivial (fun _ => ?_)
                  clear hK K
                  try simp only [Act.put, List.setIfInBounds_toArray, List.set_cons_zero, List.set_cons_succ]
                  refine wpAnyH_done (by kernel_rfl) ?_ _
                  clear z0 z1 z2 z3 z4 z5 y0 y1 y2 y3 y4 y5
                  go_wp2_with fail
                  go_roundw
                  case rel => exact ⟨j + 1, q1 + 1, .slice ya (j + 1) cy, ps ++ [(x1 : Int)], by go_num, by omega, by omega, HX8.out⟩
                  case measure => simp [intOf]; omega
                · go_simp
                  refine hK.out _ _ trivial (fun _ => ?_)
                  clear hK K
                  try simp only [Act.put, List.setIfInBounds_toArray, List.set_cons_zero, List.set_cons_succ]
                  refine wpAnyH_ready (rs := [1]) (by kernel_rfl) (by simp) ?_
                  refine AllReadyH.cons rfl (fun K hK => ?_) AllReadyH.nil
                  go_simp
                  refine hK.out _ _ trivial (fun _ => ?_)
                  clear hK K
                  try simp only [Act.put, List.setIfInBounds_toArray, List.set_cons_zero, List.set_cons_succ]
                  refine wpAnyH_ready (rs := [8]) (by kernel_rfl) (by simp) ?_
                  refine AllReadyH.cons rfl (fun K hK => ?_) AllReadyH.nil
                  refine step_append_ints (by rfl) _ _ (by rfl) wb.heap.size v5 j ps (by rfl) (show OwnI _ _ _ _ _ from HX1.out.own.old _) (some ⟨wy.heap.size, 0, none⟩) 1 1 [(x1 : Int)] (by rfl) (show Ints _ _ _ from ints_one wy (x1 : Int)) rfl (by omega) (by have := HX1.out.size; simp; omega) ?_
                  intro ya cy w8 hO8 hG8
                  simp only [List.getElem_toArray, List.getElem_cons_succ, List.getElem_cons_zero, Act.put, List.setIfInBounds_toArray, List.set_cons_zero, List.set_cons_succ]
                  obtain ⟨hL8, hP8⟩ := HX1.out.push hO8 hG8
                  have HX8 : Hid (PX w wb _ B M _ _ d x y (.slice a4 Q c4) (.slice ya (j + 1) cy) (j + 1) _) := hP8
                  obtain ⟨⟨z0, z1, z2, z3, z4, z5⟩, y0, y1, y2, y3, y4, y5⟩ := box6 hL8.box
                  clear hO8 hG8 hL8 hP8
                  refine hK.out _ _ trivial (fun _ => ?_)
                  clear hK K
                  try simp only [Act.put, List.setIfInBounds_toArray, List.set_cons_zero, List.set_cons_succ]
                  refine wpAnyH_take (i := 9) (v := .pointer (some ⟨M, 5, none⟩)) rfl (by kernel_rfl) (by kernel_rfl) (by kernel_rfl) (fun _ _ _ h => h) (Or.inl ⟨by rfl, ?_⟩) trivial ?_
                  · intro w' _
                    go_simp
                  try simp only [Act.put, List.setIfInBounds_toArray, List.set_cons_zero, List.set_cons_succ]
                  refine wpAnyH_ready (rs := [10]) (by kernel_rfl) (by simp) ?_
                  refine AllReadyH.cons rfl (fun K hK => ?_) AllReadyH.nil
                  go_simp
                  refine hK.out _ _ trivial (fun _ => ?_)
                  clear hK K
                  try simp only [Act.put, List.setIfInBounds_toArray, List.set_cons_zero, List.set_cons_succ]
                  refine wpAnyH_done (by kernel_rfl) ?_ _
                  clear z0 z1 z2 z3 z4 z5 y0 y1 y2 y3 y4 y5
                  go_wp2_with fail
                  go_roundw
                  case rel => exact ⟨j + 1, q1 + 1, .slice ya (j + 1) cy, ps ++ [(x1 : Int)], by go_num, by omega, by omega, HX8.out⟩
                  case measure => simp [intOf]; omega
        · have hji : ¬ (j : Int) < (N : Int) := by omega
          have hjN' : j = N := by omega
          subst hjN'
          obtain ⟨a5, c5, hv5, _⟩ := hP.own.owns
          subst hv5
          obtain ⟨⟨z0, z1, z2, z3, z4, z5⟩, y0, y1, y2, y3, y4, y5⟩ := box6 hP.li.box
          have hres := hP.li.res
          have hI6 : (Tryz.prog.info? 25).map (·.size) = some (#[Value.int .i64 4, .int .i64 (d : Int), .int .i64 (x : Int), .int .i64 (y : Int), .slice a4 Q c4, .slice a5 j c5]).size := by kernel_rfl
          have h16 : (#[Value.int .i64 4, .int .i64 (d : Int), .int .i64 (x : Int), .int .i64 (y : Int), .slice a4 Q c4, .slice a5 j c5]).all (·.oneCell') = true := by simp [Value.oneCell']
          have HOC : Hid (OwnI wr (M + 1) (.slice a4 Q c4) Q cs) := HX.out.own.same (fun i hi hM => hP.keep i hi (by omega))
          have HP0 : Hid (PX w wb wr B M q1 4 d x y (.slice a4 Q c4) (.slice a5 j c5) j ps) := hP
          clear hP HX
          go_wp2_with (refine wpList_store_row rfl 25 (.tmp 2) (.tmp 54) rfl w.heap.size #[.int .i64 4, .int .i64 (d : Int), .int .i64 (x : Int), .int .i64 (y : Int), .slice a4 Q c4, .slice a5 j c5] rfl rfl 25 #[.int .i64 0, .int .i64 0, .int .i64 0, .int .i64 0, .slice none 0 0, .slice none 0 0] hres hI6 rfl h16 ?_)
          have hs2 := setRow_heap wr w.heap.size _ #[.int .i64 4, .int .i64 (d : Int), .int .i64 (x : Int), .int .i64 (y : Int), .slice a4 Q c4, .slice a5 j c5] _ _ hres
          refine bodyPost_ret_by (results_cell_row (p := 2) (ty := 25) (by kernel_rfl) _ _ w.heap.size 25 _ (0, 0) _ rfl hs2 Tryz.underlying25 rfl (by kernel_rfl)) rfl ⟨⟨4, d, x, y, a4, Q, c4, cs, a5, j, c5, ps, rfl, (HOC.out.row (by omega) _).lower (by omega), (HP0.out.own.row (by have := HP0.out.hc; omega) _).lower (by have := HP0.out.hc; omega), HN.out, hx1, hx2, hy1, hy2, hQ2, by omega, by omega, by omega⟩, ⟨q1, by omega, HP0.out.li.rd.kept ((below_setRow _ _ _).mono hlt0)⟩, HP0.out.li.only.grown hlt0 (below_setRow _ _ _)⟩
end Go.Proofs.YteldjmocbbbinaaGreatDoor
