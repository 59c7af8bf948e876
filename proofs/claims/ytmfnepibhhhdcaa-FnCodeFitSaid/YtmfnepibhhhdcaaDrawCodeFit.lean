/- How often each comes, and a limit, drawn. -/
import Derived.Test.YtmfnepibhhhdcaaDrawOften
import Derived.Deep.RegionHeld
namespace Go.Proofs.Ytmfnepibhhhdcaa
open Go.RowKit

def sixs : Nat → Int
  | 0 => 15
  | 1 => 7
  | 2 => 4
  | 3 => 3
  | 4 => 0
  | _ => 16
theorem six_cell (W : World) (y : Nat) (hy : y < 6) : (W.alloc (.cells #[.int .i64 15, .int .i64 7, .int .i64 4, .int .i64 3, .int .i64 0, .int .i64 16] 3)).cell? ⟨W.heap.size, y, none⟩ = some (.int .i64 (sixs y)) := by
  rw [World.cell?_alloc_at _ _ _ _ rfl]
  have : y = 0 ∨ y = 1 ∨ y = 2 ∨ y = 3 ∨ y = 4 ∨ y = 5 := by omega
  rcases this with rfl | rfl | rfl | rfl | rfl | rfl <;> rfl
/-- the six numbers lie there -/
def Six (B b : Nat) (w : World) : Prop := b < w.heap.size ∧ b ≠ B ∧ ∀ y, y < 6 → w.cell? ⟨b, y, none⟩ = some (.int .i64 (sixs y))
theorem Six.new {B : Nat} (W : World) (h : B < W.heap.size) : Six B W.heap.size (W.alloc (.cells #[.int .i64 15, .int .i64 7, .int .i64 4, .int .i64 3, .int .i64 0, .int .i64 16] 3)) := ⟨by simp, by omega, fun y hy => six_cell W y hy⟩
theorem Six.only {B b : Nat} {w w' : World} (h : Six B b w) (ho : Only B w w') : Six B b w' := ⟨Nat.lt_of_lt_of_le h.1 ho.below.size, h.2.1, fun y hy => (ho.cell b y h.1 h.2.1).trans (h.2.2 y hy)⟩
theorem six_at {y : Nat} (hy : (y : Int) < 14) : ∃ Y k : Nat, IntKind.i64.wrap ((y : Int) * 6) = (Y : Int) ∧ (y : Int) * 6 = (Y : Int) ∧ (Y : Int).tdiv 14 = (k : Int) ∧ IntKind.i64.wrap (k : Int) = (k : Int) ∧ (k : Int) < 6 ∧ k < 6 ∧ Y ≤ 100 ∧ (Y : Int) / 14 = (k : Int) ∧ IntKind.i64.wrap ((Y : Int).tdiv 14) = (k : Int) ∧ IntKind.i64.wrap (Y : Int) = (Y : Int) := by
  refine ⟨y * 6, y * 6 / 14, ?_, by omega, ?_, ?_, by omega, by omega, by omega, by omega, ?_, ?_⟩
  · rw [show (y : Int) * 6 = ((y * 6 : Nat) : Int) by omega]
    simp [IntKind.wrap, IntKind.bits, IntKind.signed]; omega
  · rw [Int.tdiv_eq_ediv_of_nonneg (by omega)]; omega
  · simp [IntKind.wrap, IntKind.bits, IntKind.signed]; omega
  · rw [Int.tdiv_eq_ediv_of_nonneg (by omega), show (((y * 6 : Nat) : Int) / 14) = ((y * 6 / 14 : Nat) : Int) by omega]
    simp [IntKind.wrap, IntKind.bits, IntKind.signed]; omega
  · simp [IntKind.wrap, IntKind.bits, IntKind.signed]; omega
/-- what is drawn -/
def FitDrawn (w : World) (e : Ending) (w' : World) : Prop :=
  (∃ (a : Option Addr) (n c : Nat) (l : List Int) (m : Int), e = .returned (.tuple #[.slice a n c, .int .i64 m]) ∧ Ints w' a l ∧ l.length = n ∧ n ≤ 301 ∧ OftenOk l) ∧ Below w.heap.size w w'
set_option maxHeartbeats 2000000 in
set_option maxRecDepth 20000 in
set_option linter.unusedSimpArgs false in
theorem drawCodeFit_any (a : Option Addr) (len cap : Nat) (w : World) (h : Code8 w a len cap) :
    Calls Try.prog 29 #[.slice a len cap] w (FitDrawn w) := by
  have HOP : Hid (Calls Try.prog 50 #[.slice a len cap] w fun e w' => e = .returned (.pointer (some ⟨w.heap.size, 0, none⟩)) ∧ RdAt w' w.heap.size 0 ∧ Below w.heap.size w w') := open_any a len cap w h
  clear h
  go_enter Try.func29, Try.ntmps29
  go_wp2_with fail
  refine HOP.out.mono ?_
  rintro e w1 ⟨rfl, hR1, b1⟩
  clear HOP
  obtain ⟨B, hB⟩ : ∃ B, B = w.heap.size := ⟨_, rfl⟩
  have HR1 : Hid (RdAt w1 B 0) := by rw [hB]; exact hR1
  have HB1 : Hid (Below B w w1) := by rw [hB]; exact b1
  have HBB : Hid (B = w.heap.size) := hB
  rw [← hB]
  clear hR1 b1 hB
  have hlt1 := HR1.out.lt
  have HFIN : Hid (∀ (a2 : Option Addr) (n c : Nat) (l : List Int) (m : Int) (w' : World), OwnI w' (B + 1) (.slice a2 n c) n l → n ≤ 301 → OftenOk l → Below B w w' → FitDrawn w (.returned (.tuple #[.slice a2 n c, .int .i64 m])) w') := by
    intro a2 n c l m w' h1 h2 h3 h4
    rw [HBB.out] at h4
    refine ⟨⟨a2, n, c, l, m, rfl, ?_, h1.len, h2, h3⟩, h4⟩
    obtain ⟨a7, c7, e7, h7⟩ := h1.owns
    cases e7
    exact h7.ints
  go_wp2_with fail
  refine wp_region_held_drew (S := fun _ => True) (by kernel_rfl) trivial (fun hHeld => ?_)
  refine wpAnyH_take (i := 0) (v := .pointer (some ⟨B, 0, none⟩)) rfl (by kernel_rfl) (by kernel_rfl) (by kernel_rfl) (fun _ _ _ h => h) (Or.inl ⟨by rfl, ?_⟩) hHeld ?_
  · intro w' _
    go_simp
  try simp only [List.getElem_toArray, List.getElem_cons_succ, List.getElem_cons_zero, Act.put, List.setIfInBounds_toArray, List.set_cons_zero, List.set_cons_succ]
  refine wpAnyH_take (i := 3) (v := .pointer (some ⟨B, 0, none⟩)) rfl (by kernel_rfl) (by kernel_rfl) (by kernel_rfl) (fun _ _ _ h => h) (Or.inl ⟨by rfl, ?_⟩) hHeld ?_
  · intro w' _
    go_simp
  try simp only [List.getElem_toArray, List.getElem_cons_succ, List.getElem_cons_zero, Act.put, List.setIfInBounds_toArray, List.set_cons_zero, List.set_cons_succ]
  refine wpAnyH_ready (rs := [1, 2]) (by kernel_rfl) (by simp) ?_
  refine AllReadyH.cons rfl (fun K hK => ?_) (AllReadyH.cons rfl (fun K hK => ?_) AllReadyH.nil)
  · go_simp
    refine (l14Often_own B 0 _ HR1.out.drew (by omega)).mono ?_
    rintro e w2 ⟨⟨a2, n, c, l, rfl, hI, hn, hok⟩, ⟨q, hq, hR2⟩, hO⟩
    have H2 : Hid (OwnI w2 (B + 1) (.slice a2 n c) n l ∧ OftenOk l ∧ RdAt w2 B q ∧ Below B w w2) := ⟨hI, hok, hR2, HB1.out.drew.trans hO.below⟩
    skip
    clear hI hok hR2 hO
    refine hK.out _ _ trivial (fun hHeld => ?_)
    clear hK K
    try simp only [List.getElem_toArray, List.getElem_cons_succ, List.getElem_cons_zero, Act.put, List.setIfInBounds_toArray, List.set_cons_zero, List.set_cons_succ]
    refine wpAnyH_ready (rs := [2, 4]) (by kernel_rfl) (by simp) ?_
    refine AllReadyH.cons rfl (fun K hK => ?_) (AllReadyH.cons rfl (fun K hK => ?_) AllReadyH.nil)
    · go_simp
      refine hK.out _ _ trivial (fun hHeld => ?_)
      clear hK K
      try simp only [List.getElem_toArray, List.getElem_cons_succ, List.getElem_cons_zero, Act.put, List.setIfInBounds_toArray, List.set_cons_zero, List.set_cons_succ]
      refine wpAnyH_ready (rs := [4]) (by kernel_rfl) (by simp) ?_
      refine AllReadyH.cons rfl (fun K hK => ?_) AllReadyH.nil
      go_simp
      refine (pick_named B q _ _ (H2.out.2.2.1.alloc _) (by omega) (by omega) (by omega)).mono ?_
      rintro e w3 ⟨y, rfl, hy, hR3, hO3, -⟩
      obtain ⟨Y, k, y1, y2, y3, y4, y5, y6, y7, y8, y9, y10⟩ := six_at hy
      have H3 : Hid (OwnI w3 (B + 1) (.slice a2 n c) n l ∧ OftenOk l ∧ Below B w w3 ∧ B < w3.heap.size) := ⟨OwnI.only (OwnI.alloc H2.out.1 _) hO3 (by omega), H2.out.2.1, (H2.out.2.2.2.alloc (Nat.le_of_lt H2.out.2.2.1.lt) _).trans hO3.below, hR3.lt⟩
      have S3 : Hid (Six B w2.heap.size w3) := (Six.new w2 H2.out.2.2.1.lt).only hO3
      clear hR3 hO3 H2 hy
      refine hK.out _ _ trivial (fun hHeld => ?_)
      clear hK K
      try simp only [List.getElem_toArray, List.getElem_cons_succ, List.getElem_cons_zero, Act.put, List.setIfInBounds_toArray, List.set_cons_zero, List.set_cons_succ]
      refine wpAnyH_take (i := 5) (v := .int .i64 (Y : Int)) rfl (by kernel_rfl) (by kernel_rfl) (by kernel_rfl) (fun _ _ _ h => h) (Or.inl ⟨by rfl, ?_⟩) hHeld ?_
      · intro w' _
        go_simp
      try simp only [List.getElem_toArray, List.getElem_cons_succ, List.getElem_cons_zero, Act.put, List.setIfInBounds_toArray, List.set_cons_zero, List.set_cons_succ]
      refine wpAnyH_take (i := 6) (v := .int .i64 (k : Int)) rfl (by kernel_rfl) (by kernel_rfl) (by kernel_rfl) (fun _ _ _ h => h) (Or.inl ⟨by rfl, ?_⟩) hHeld ?_
      · intro w' _
        go_simp
      try simp only [List.getElem_toArray, List.getElem_cons_succ, List.getElem_cons_zero, Act.put, List.setIfInBounds_toArray, List.set_cons_zero, List.set_cons_succ]
      refine wpAnyH_take (i := 7) (v := .pointer (some ⟨w2.heap.size, k, none⟩)) rfl (by kernel_rfl) (by kernel_rfl) (by kernel_rfl) (fun _ _ _ h => h) (Or.inl ⟨by rfl, ?_⟩) hHeld ?_
      · intro w' _
        go_simp
      try simp only [List.getElem_toArray, List.getElem_cons_succ, List.getElem_cons_zero, Act.put, List.setIfInBounds_toArray, List.set_cons_zero, List.set_cons_succ]
      refine wpAnyH_take (i := 9) (v := .slice a2 n c) rfl (by kernel_rfl) (by kernel_rfl) (by kernel_rfl) (fun _ _ _ h => h) (Or.inl ⟨by rfl, ?_⟩) hHeld ?_
      · intro w' _
        go_simp
      try simp only [List.getElem_toArray, List.getElem_cons_succ, List.getElem_cons_zero, Act.put, List.setIfInBounds_toArray, List.set_cons_zero, List.set_cons_succ]
      have c3 := S3.out.2.2 k y6
      clear y1 y2 y3 y4 y5 y6 y7 y8 y9 y10
      refine wpAnyH_ready (rs := [8]) (by kernel_rfl) (by simp) ?_
      refine AllReadyH.cons rfl (fun K hK => ?_) AllReadyH.nil
      go_simp
      refine hK.out _ _ trivial (fun hHeld => ?_)
      clear hK K
      try simp only [List.getElem_toArray, List.getElem_cons_succ, List.getElem_cons_zero, Act.put, List.setIfInBounds_toArray, List.set_cons_zero, List.set_cons_succ]
      refine wpAnyH_take (i := 10) (v := .int .i64 (sixs k)) rfl (by kernel_rfl) (by kernel_rfl) (by kernel_rfl) (fun _ _ _ h => h) (Or.inl ⟨by rfl, ?_⟩) hHeld ?_
      · intro w' _
        go_simp
      try simp only [List.getElem_toArray, List.getElem_cons_succ, List.getElem_cons_zero, Act.put, List.setIfInBounds_toArray, List.set_cons_zero, List.set_cons_succ]
      refine wpAnyH_done (by kernel_rfl) ?_ _
      try simp only [List.getElem_toArray, List.getElem_cons_succ, List.getElem_cons_zero, Act.put, List.setIfInBounds_toArray, List.set_cons_zero, List.set_cons_succ]
      have HF : Hid (FitDrawn w (.returned (.tuple #[.slice a2 n c, .int .i64 (sixs k)])) w3) := HFIN.out a2 n c l _ _ H3.out.1 hn H3.out.2.1 H3.out.2.2.1
      clear H3 c3 HFIN S3
      go_wp2_with fail
      exact bodyPost_ret (v := .tuple #[.slice a2 n c, .int .i64 (sixs k)]) (by simp [results, Try.results29, go_sem]) rfl HF.out
    · go_simp
      refine (pick_named B q _ _ H2.out.2.2.1 (by omega) (by omega) (by omega)).mono ?_
      rintro e w3 ⟨y, rfl, hy, hR3, hO3, -⟩
      obtain ⟨Y, k, y1, y2, y3, y4, y5, y6, y7, y8, y9, y10⟩ := six_at hy
      have H3 : Hid (OwnI w3 (B + 1) (.slice a2 n c) n l ∧ OftenOk l ∧ Below B w w3 ∧ B < w3.heap.size) := ⟨OwnI.only H2.out.1 hO3 (by omega), H2.out.2.1, H2.out.2.2.2.trans hO3.below, hR3.lt⟩
      have S3 : Hid (Six B w3.heap.size (w3.alloc (.cells #[.int .i64 15, .int .i64 7, .int .i64 4, .int .i64 3, .int .i64 0, .int .i64 16] 3))) := Six.new w3 hR3.lt
      clear hR3 hO3 H2 hy
      refine hK.out _ _ trivial (fun hHeld => ?_)
      clear hK K
      try simp only [List.getElem_toArray, List.getElem_cons_succ, List.getElem_cons_zero, Act.put, List.setIfInBounds_toArray, List.set_cons_zero, List.set_cons_succ]
      refine wpAnyH_take (i := 5) (v := .int .i64 (Y : Int)) rfl (by kernel_rfl) (by kernel_rfl) (by kernel_rfl) (fun _ _ _ h => h) (Or.inl ⟨by rfl, ?_⟩) hHeld ?_
      · intro w' _
        go_simp
      try simp only [List.getElem_toArray, List.getElem_cons_succ, List.getElem_cons_zero, Act.put, List.setIfInBounds_toArray, List.set_cons_zero, List.set_cons_succ]
      refine wpAnyH_take (i := 6) (v := .int .i64 (k : Int)) rfl (by kernel_rfl) (by kernel_rfl) (by kernel_rfl) (fun _ _ _ h => h) (Or.inl ⟨by rfl, ?_⟩) hHeld ?_
      · intro w' _
        go_simp
      try simp only [List.getElem_toArray, List.getElem_cons_succ, List.getElem_cons_zero, Act.put, List.setIfInBounds_toArray, List.set_cons_zero, List.set_cons_succ]
      refine wpAnyH_take (i := 9) (v := .slice a2 n c) rfl (by kernel_rfl) (by kernel_rfl) (by kernel_rfl) (fun _ _ _ h => h) (Or.inl ⟨by rfl, ?_⟩) hHeld ?_
      · intro w' _
        go_simp
      try simp only [List.getElem_toArray, List.getElem_cons_succ, List.getElem_cons_zero, Act.put, List.setIfInBounds_toArray, List.set_cons_zero, List.set_cons_succ]
      refine wpAnyH_ready (rs := [2]) (by kernel_rfl) (by simp) ?_
      refine AllReadyH.cons rfl (fun K hK => ?_) AllReadyH.nil
      go_simp
      refine hK.out _ _ trivial (fun hHeld => ?_)
      clear hK K
      try simp only [List.getElem_toArray, List.getElem_cons_succ, List.getElem_cons_zero, Act.put, List.setIfInBounds_toArray, List.set_cons_zero, List.set_cons_succ]
      refine wpAnyH_take (i := 7) (v := .pointer (some ⟨w3.heap.size, k, none⟩)) rfl (by kernel_rfl) (by kernel_rfl) (by kernel_rfl) (fun _ _ _ h => h) (Or.inl ⟨by rfl, ?_⟩) hHeld ?_
      · intro w' _
        go_simp
      try simp only [List.getElem_toArray, List.getElem_cons_succ, List.getElem_cons_zero, Act.put, List.setIfInBounds_toArray, List.set_cons_zero, List.set_cons_succ]
      have c3 := S3.out.2.2 k y6
      clear y1 y2 y3 y4 y5 y6 y7 y8 y9 y10
      refine wpAnyH_ready (rs := [8]) (by kernel_rfl) (by simp) ?_
      refine AllReadyH.cons rfl (fun K hK => ?_) AllReadyH.nil
      go_simp
      refine hK.out _ _ trivial (fun hHeld => ?_)
      clear hK K
      try simp only [List.getElem_toArray, List.getElem_cons_succ, List.getElem_cons_zero, Act.put, List.setIfInBounds_toArray, List.set_cons_zero, List.set_cons_succ]
      refine wpAnyH_take (i := 10) (v := .int .i64 (sixs k)) rfl (by kernel_rfl) (by kernel_rfl) (by kernel_rfl) (fun _ _ _ h => h) (Or.inl ⟨by rfl, ?_⟩) hHeld ?_
      · intro w' _
        go_simp
      try simp only [List.getElem_toArray, List.getElem_cons_succ, List.getElem_cons_zero, Act.put, List.setIfInBounds_toArray, List.set_cons_zero, List.set_cons_succ]
      refine wpAnyH_done (by kernel_rfl) ?_ _
      try simp only [List.getElem_toArray, List.getElem_cons_succ, List.getElem_cons_zero, Act.put, List.setIfInBounds_toArray, List.set_cons_zero, List.set_cons_succ]
      have HF : Hid (FitDrawn w (.returned (.tuple #[.slice a2 n c, .int .i64 (sixs k)])) (w3.alloc (.cells #[.int .i64 15, .int .i64 7, .int .i64 4, .int .i64 3, .int .i64 0, .int .i64 16] 3))) := HFIN.out a2 n c l _ _ (OwnI.alloc H3.out.1 _) hn H3.out.2.1 (H3.out.2.2.1.alloc (Nat.le_of_lt H3.out.2.2.2) _)
      clear H3 c3 HFIN S3
      go_wp2_with fail
      exact bodyPost_ret (v := .tuple #[.slice a2 n c, .int .i64 (sixs k)]) (by simp [results, Try.results29, go_sem]) rfl HF.out
  · go_simp
    refine hK.out _ _ trivial (fun hHeld => ?_)
    clear hK K
    try simp only [List.getElem_toArray, List.getElem_cons_succ, List.getElem_cons_zero, Act.put, List.setIfInBounds_toArray, List.set_cons_zero, List.set_cons_succ]
    refine wpAnyH_ready (rs := [1]) (by kernel_rfl) (by simp) ?_
    refine AllReadyH.cons rfl (fun K hK => ?_) AllReadyH.nil
    go_simp
    refine (l14Often_own B 0 _ (HR1.out.drew.alloc _) (by omega)).mono ?_
    rintro e w2 ⟨⟨a2, n, c, l, rfl, hI, hn, hok⟩, ⟨q, hq, hR2⟩, hO⟩
    have H2 : Hid (OwnI w2 (B + 1) (.slice a2 n c) n l ∧ OftenOk l ∧ RdAt w2 B q ∧ Below B w w2) := ⟨hI, hok, hR2, (HB1.out.drew.alloc (Nat.le_of_lt hlt1) _).trans hO.below⟩
    have S2 : Hid (Six B w1.heap.size w2) := (Six.new w1.drew hlt1).only hO
    clear hI hok hR2 hO
    refine hK.out _ _ trivial (fun hHeld => ?_)
    clear hK K
    try simp only [List.getElem_toArray, List.getElem_cons_succ, List.getElem_cons_zero, Act.put, List.setIfInBounds_toArray, List.set_cons_zero, List.set_cons_succ]
    refine wpAnyH_ready (rs := [4]) (by kernel_rfl) (by simp) ?_
    refine AllReadyH.cons rfl (fun K hK => ?_) AllReadyH.nil
    go_simp
    refine (pick_named B q _ _ H2.out.2.2.1 (by omega) (by omega) (by omega)).mono ?_
    rintro e w3 ⟨y, rfl, hy, hR3, hO3, -⟩
    obtain ⟨Y, k, y1, y2, y3, y4, y5, y6, y7, y8, y9, y10⟩ := six_at hy
    have H3 : Hid (OwnI w3 (B + 1) (.slice a2 n c) n l ∧ OftenOk l ∧ Below B w w3 ∧ B < w3.heap.size) := ⟨OwnI.only H2.out.1 hO3 (by omega), H2.out.2.1, H2.out.2.2.2.trans hO3.below, hR3.lt⟩
    have S3 : Hid (Six B w1.heap.size w3) := S2.out.only hO3
    clear hR3 hO3 H2 hy
    refine hK.out _ _ trivial (fun hHeld => ?_)
    clear hK K
    try simp only [List.getElem_toArray, List.getElem_cons_succ, List.getElem_cons_zero, Act.put, List.setIfInBounds_toArray, List.set_cons_zero, List.set_cons_succ]
    refine wpAnyH_take (i := 5) (v := .int .i64 (Y : Int)) rfl (by kernel_rfl) (by kernel_rfl) (by kernel_rfl) (fun _ _ _ h => h) (Or.inl ⟨by rfl, ?_⟩) hHeld ?_
    · intro w' _
      go_simp
    try simp only [List.getElem_toArray, List.getElem_cons_succ, List.getElem_cons_zero, Act.put, List.setIfInBounds_toArray, List.set_cons_zero, List.set_cons_succ]
    refine wpAnyH_take (i := 6) (v := .int .i64 (k : Int)) rfl (by kernel_rfl) (by kernel_rfl) (by kernel_rfl) (fun _ _ _ h => h) (Or.inl ⟨by rfl, ?_⟩) hHeld ?_
    · intro w' _
      go_simp
    try simp only [List.getElem_toArray, List.getElem_cons_succ, List.getElem_cons_zero, Act.put, List.setIfInBounds_toArray, List.set_cons_zero, List.set_cons_succ]
    refine wpAnyH_take (i := 7) (v := .pointer (some ⟨w1.heap.size, k, none⟩)) rfl (by kernel_rfl) (by kernel_rfl) (by kernel_rfl) (fun _ _ _ h => h) (Or.inl ⟨by rfl, ?_⟩) hHeld ?_
    · intro w' _
      go_simp
    try simp only [List.getElem_toArray, List.getElem_cons_succ, List.getElem_cons_zero, Act.put, List.setIfInBounds_toArray, List.set_cons_zero, List.set_cons_succ]
    refine wpAnyH_take (i := 9) (v := .slice a2 n c) rfl (by kernel_rfl) (by kernel_rfl) (by kernel_rfl) (fun _ _ _ h => h) (Or.inl ⟨by rfl, ?_⟩) hHeld ?_
    · intro w' _
      go_simp
    try simp only [List.getElem_toArray, List.getElem_cons_succ, List.getElem_cons_zero, Act.put, List.setIfInBounds_toArray, List.set_cons_zero, List.set_cons_succ]
    have c3 := S3.out.2.2 k y6
    clear y1 y2 y3 y4 y5 y6 y7 y8 y9 y10
    refine wpAnyH_ready (rs := [8]) (by kernel_rfl) (by simp) ?_
    refine AllReadyH.cons rfl (fun K hK => ?_) AllReadyH.nil
    go_simp
    refine hK.out _ _ trivial (fun hHeld => ?_)
    clear hK K
    try simp only [List.getElem_toArray, List.getElem_cons_succ, List.getElem_cons_zero, Act.put, List.setIfInBounds_toArray, List.set_cons_zero, List.set_cons_succ]
    refine wpAnyH_take (i := 10) (v := .int .i64 (sixs k)) rfl (by kernel_rfl) (by kernel_rfl) (by kernel_rfl) (fun _ _ _ h => h) (Or.inl ⟨by rfl, ?_⟩) hHeld ?_
    · intro w' _
      go_simp
    try simp only [List.getElem_toArray, List.getElem_cons_succ, List.getElem_cons_zero, Act.put, List.setIfInBounds_toArray, List.set_cons_zero, List.set_cons_succ]
    refine wpAnyH_done (by kernel_rfl) ?_ _
    try simp only [List.getElem_toArray, List.getElem_cons_succ, List.getElem_cons_zero, Act.put, List.setIfInBounds_toArray, List.set_cons_zero, List.set_cons_succ]
    have HF : Hid (FitDrawn w (.returned (.tuple #[.slice a2 n c, .int .i64 (sixs k)])) w3) := HFIN.out a2 n c l _ _ H3.out.1 hn H3.out.2.1 H3.out.2.2.1
    clear H3 c3 HFIN S3 S2
    go_wp2_with fail
    exact bodyPost_ret (v := .tuple #[.slice a2 n c, .int .i64 (sixs k)]) (by simp [results, Try.results29, go_sem]) rfl HF.out
end Go.Proofs.Ytmfnepibhhhdcaa
