/- Tokens, drawn of a code (the walk). -/
import Derived.Test.YtddlldbljnhfmaaDrawTokens
namespace Go.Proofs.Ytddlldbljnhfmaa
open Go.RowKit

theorem OwnK.base {w : World} {B B' n : Nat} {v : Value} {l : List Tk} (h : OwnK w B v n l) (hb : B' ≤ B) : OwnK w B' v n l := by
  refine ⟨h.1, ?_⟩
  rcases h.2 with h2 | ⟨g, cap, cur, hv, hg, r⟩
  · exact .inl h2
  · exact .inr ⟨g, cap, cur, hv, Nat.le_trans hb hg, r⟩
theorem OwnK.row {w : World} {B n cap : Nat} {ao : Option Addr} {l : List Tk} (h : OwnK w B (.slice ao n cap) n l) (hn : 0 < n) : ∃ g, ao = some ⟨g, 0, none⟩ ∧ B ≤ g := by
  rcases h.2 with ⟨_, h0⟩ | ⟨g, c, cur, e, hg, _⟩
  · omega
  · cases e; exact ⟨g, rfl, hg⟩

set_option maxHeartbeats 4000000 in
set_option maxRecDepth 20000 in
theorem drawTokensOut_any (a : Option Addr) (len cap : Nat) (w : World) (h : Code8 w a len cap) :
    Calls Try.prog 4 #[.slice a len cap] w (OutDrawn w) := by
  have HOP : Hid (Calls Try.prog 7 #[.slice a len cap] w fun e w' => e = .returned (.pointer (some ⟨w.heap.size, 0, none⟩)) ∧ RdAt w' w.heap.size 0 ∧ Below w.heap.size w w') := open_any a len cap w h
  clear h
  go_enter Try.func4, Try.ntmps4
  go_wp2_with fail
  refine HOP.out.mono ?_
  rintro e w1 ⟨rfl, hR1, b1⟩
  clear HOP
  obtain ⟨B, hB⟩ : ∃ B, B = w.heap.size := ⟨_, rfl⟩
  rw [← hB] at hR1 b1 ⊢
  have HBB : Hid (B = w.heap.size) := hB
  have HTX : Hid (Calls Try.prog 9 #[.pointer (some ⟨B, 0, none⟩)] w1 fun e w' => (∃ t : ByteArray, e = .returned (.string t) ∧ t.size ≤ 9001) ∧ ∃ q, q ≤ 100 ∧ RdAt w' B q ∧ Below B w w') := by
    refine (text_any B 0 w1 hR1 (by omega)).mono ?_
    rintro e w' ⟨h1, ⟨q, h2, h3⟩, h4⟩
    exact ⟨h1, q, by omega, h3, b1.trans h4.below⟩
  clear hR1 b1 hB
  go_wp2_with fail
  refine HTX.out.mono ?_
  rintro e w2 ⟨⟨t, rfl, htz⟩, q, hq, hR2, hB2⟩
  have HTO : Hid (Calls Try.prog 8 #[.string t] w2 fun e w' => ∃ (l : List Tk) (ao : Option Addr) (n cp : Nat), e = .returned (.slice ao n cp) ∧ n ≤ 5000 ∧ Tst w B q ao n cp l w') := by
    refine (spec_tokensOf_some t w2 htz).mono ?_
    rintro e w' ⟨l, ao, cp, rfl, h1, h2, h3⟩
    exact ⟨l, ao, l.length, cp, rfl, h1, hR2.kept (h3.mono hR2.lt), h2.base hR2.lt, hB2.trans (h3.mono (Nat.le_of_lt hR2.lt))⟩
  clear HTX hR2 hB2 htz
  go_wp2_with fail
  refine HTO.out.mono ?_
  rintro e w3 ⟨l, ao, n, cp, rfl, hn, hT3⟩
  have HT3 : Hid (Tst w B q ao n cp l w3) := hT3
  clear hT3 HTO
  by_cases h0 : 0 < n
  rotate_left
  · have h0i : ¬ (0 : Int) < (n : Int) := by omega
    have d0 : decide ((n : Int) > 0) = false := decide_eq_false h0i
    have HF : Hid (OutDrawn w (.returned (.slice ao n cp)) w3) := outDrawn_own HT3.out.2.1 (by omega) (by rw [← HBB.out]; exact HT3.out.2.2)
    clear HT3
    go_wp2_with fail
    go_ret
    exact HF.out
  have h0i : (0 : Int) < (n : Int) := by omega
  have d0 : decide ((n : Int) > 0) = true := decide_eq_true h0i
  have HPK : Hid (∀ (m : Int) (q' : Nat) (w4 : World), 1 ≤ m → m ≤ 100000 → q' ≤ 1000 → Tst w B q' ao n cp l w4 → Calls Try.prog 10 #[.pointer (some ⟨B, 0, none⟩), .int .i64 m] w4 fun e w' => ∃ v : Nat, e = .returned (.int .i64 (v : Int)) ∧ (v : Int) < m ∧ Tst w B (q' + 1) ao n cp l w') := fun m q' w4 h1 h2 h3 hT => by
    refine (pick_named B q' m w4 hT.1 h1 (by omega) (by omega)).mono ?_
    rintro e w' ⟨v, h1, h2, h3, h4, -⟩
    exact ⟨v, h1, h2, hT.next h4 h3⟩
  obtain ⟨g, rfl, hg⟩ := HT3.out.2.1.row h0
  go_wp2_with fail
  refine (HPK.out 4 q w3 (by omega) (by omega) (by omega) HT3.out).mono ?_
  rintro e w4 ⟨x, rfl, hx, hT4⟩
  have HT4 : Hid (Tst w B (q + 1) (some ⟨g, 0, none⟩) n cp l w4) := hT4
  clear hT4 HT3
  by_cases hx0 : x = 0
  rotate_left
  · have hxb : ((x : Int) == 0) = false := by rw [beq_eq_false_iff_ne]; omega
    have HF : Hid (OutDrawn w (.returned (.slice (some ⟨g, 0, none⟩) n cp)) w4) := outDrawn_own HT4.out.2.1 (by omega) (by rw [← HBB.out]; exact HT4.out.2.2)
    clear HT4 HPK
    go_wp2_with fail
    go_ret
    exact HF.out
  subst hx0
  go_wp2_with fail
  refine (HPK.out (n : Int) (q + 1) w4 (by omega) (by omega) (by omega) HT4.out).mono ?_
  rintro e w5 ⟨k, rfl, hk, hT5⟩
  have HT5 : Hid (Tst w B (q + 1 + 1) (some ⟨g, 0, none⟩) n cp l w5) := hT5
  have hkn : k < n := by omega
  clear hT5 HT4
  go_wp2_with fail
  refine (HPK.out 4 (q + 1 + 1) w5 (by omega) (by omega) (by omega) HT5.out).mono ?_
  rintro e w6 ⟨y, rfl, hy, hT6⟩
  have HT6 : Hid (Tst w B (q + 1 + 1 + 1) (some ⟨g, 0, none⟩) n cp l w6) := hT6
  clear hT6 HT5 hx d0
  by_cases hy0 : y = 0
  · subst hy0
    obtain ⟨WA, hWA⟩ : ∃ WA, WA = w6.alloc (.cells #[.int .i64 (-1), .int .i64 256, .int .i64 7] 3) := ⟨_, rfl⟩
    have hWA' : w6.alloc (.cells #[.int .i64 (-1), .int .i64 256, .int .i64 7] 3) = WA := hWA.symm
    have HTA : Hid (Tst w B (q + 1 + 1 + 1) (some ⟨g, 0, none⟩) n cp l WA ∧ w6.heap.size < WA.heap.size ∧ ∀ z, z < 3 → ∃ u : Int, WA.cell? ⟨w6.heap.size, z, none⟩ = some (.int .i64 u)) := by
      rw [hWA]
      exact ⟨HT6.out.next ((Only.refl B w6).alloc HT6.out.1.lt _) (HT6.out.1.alloc _), by simp, fun z hz => three_cell w6 _ _ _ z hz⟩
    have hLB : w6.heap.size ≠ B := by have := HT6.out.1.lt; omega
    clear hWA
    have HPL : Hid (Calls Try.prog 10 #[.pointer (some ⟨B, 0, none⟩), .int .i64 3] WA fun e w' => ∃ (v : Nat) (u : Int), e = .returned (.int .i64 (v : Int)) ∧ v < 3 ∧ w'.cell? ⟨w6.heap.size, v, none⟩ = some (.int .i64 u) ∧ Tst w B (q + 1 + 1 + 1 + 1) (some ⟨g, 0, none⟩) n cp l w') := by
      refine (pick_named B (q + 1 + 1 + 1) 3 WA HTA.out.1.1 (by omega) (by omega) (by omega)).mono ?_
      rintro e w' ⟨v, h1, h2, h3, h4, -⟩
      obtain ⟨u, hu⟩ := HTA.out.2.2 v (by omega)
      exact ⟨v, u, h1, by omega, (h4.cell w6.heap.size v HTA.out.2.1 hLB).trans hu, HTA.out.1.next h4 h3⟩
    clear HT6 HPK
    go_wp2_with fail
    refine HPL.out.mono ?_
    rintro e w7 ⟨z, u, rfl, hz, hcu, hT7⟩
    have hzi : (z : Int) < 3 := by omega
    obtain ⟨c0, hc0⟩ : ∃ c0 : Int, w7.cell? ⟨g, k * 3 + 0, none⟩ = some (.int .i64 c0) := by
      have hl := hT7.2.1.len
      obtain ⟨x1, x2, x3⟩ := tkCells_get l k (by omega)
      exact ⟨_, (World.ownsRow.cellAt (show World.ownsRow _ _ _ _ _ _ _ from hT7.2.1) (k * 3 + 0) (by omega)).trans x1⟩
    have hz0 : w7.frozen? ⟨g, k * 3 + 0, none⟩ = false := World.ownsRow.frozenAt (show World.ownsRow _ _ _ _ _ _ _ from hT7.2.1) (k * 3 + 0)
    obtain ⟨l', hl'⟩ := hT7.put hkn (show 0 < 3 by omega) u
    have HF : Hid (OutDrawn w (.returned (.slice (some ⟨g, 0, none⟩) n cp)) (w7.setCell ⟨g, k * 3 + 0, none⟩ (.int .i64 u))) := outDrawn_own hl' (by omega) (by rw [← HBB.out]; exact hT7.2.2.setCell (p := ⟨g, k * 3 + 0, none⟩) (by show B ≤ g; omega) _)
    clear hT7 hl' HTA HPL hWA'
    try simp only [Nat.add_zero] at hc0 hz0 HF
    go_wp2_with fail
    go_ret
    exact HF.out
  have g0 : ((y : Int) == 0) = false := by rw [beq_eq_false_iff_ne]; omega
  by_cases hy1 : y = 1
  · subst hy1
    obtain ⟨WA, hWA⟩ : ∃ WA, WA = w6.alloc (.cells #[.int .i64 2, .int .i64 259, .int .i64 5] 3) := ⟨_, rfl⟩
    have hWA' : w6.alloc (.cells #[.int .i64 2, .int .i64 259, .int .i64 5] 3) = WA := hWA.symm
    have HTA : Hid (Tst w B (q + 1 + 1 + 1) (some ⟨g, 0, none⟩) n cp l WA ∧ w6.heap.size < WA.heap.size ∧ ∀ z, z < 3 → ∃ u : Int, WA.cell? ⟨w6.heap.size, z, none⟩ = some (.int .i64 u)) := by
      rw [hWA]
      exact ⟨HT6.out.next ((Only.refl B w6).alloc HT6.out.1.lt _) (HT6.out.1.alloc _), by simp, fun z hz => three_cell w6 _ _ _ z hz⟩
    have hLB : w6.heap.size ≠ B := by have := HT6.out.1.lt; omega
    clear hWA
    have HPL : Hid (Calls Try.prog 10 #[.pointer (some ⟨B, 0, none⟩), .int .i64 3] WA fun e w' => ∃ (v : Nat) (u : Int), e = .returned (.int .i64 (v : Int)) ∧ v < 3 ∧ w'.cell? ⟨w6.heap.size, v, none⟩ = some (.int .i64 u) ∧ Tst w B (q + 1 + 1 + 1 + 1) (some ⟨g, 0, none⟩) n cp l w') := by
      refine (pick_named B (q + 1 + 1 + 1) 3 WA HTA.out.1.1 (by omega) (by omega) (by omega)).mono ?_
      rintro e w' ⟨v, h1, h2, h3, h4, -⟩
      obtain ⟨u, hu⟩ := HTA.out.2.2 v (by omega)
      exact ⟨v, u, h1, by omega, (h4.cell w6.heap.size v HTA.out.2.1 hLB).trans hu, HTA.out.1.next h4 h3⟩
    clear HT6 HPK
    go_wp2_with fail
    refine HPL.out.mono ?_
    rintro e w7 ⟨z, u, rfl, hz, hcu, hT7⟩
    have hzi : (z : Int) < 3 := by omega
    obtain ⟨c0, hc0⟩ : ∃ c0 : Int, w7.cell? ⟨g, k * 3 + 1, none⟩ = some (.int .i64 c0) := by
      have hl := hT7.2.1.len
      obtain ⟨x1, x2, x3⟩ := tkCells_get l k (by omega)
      exact ⟨_, (World.ownsRow.cellAt (show World.ownsRow _ _ _ _ _ _ _ from hT7.2.1) (k * 3 + 1) (by omega)).trans x2⟩
    have hz0 : w7.frozen? ⟨g, k * 3 + 1, none⟩ = false := World.ownsRow.frozenAt (show World.ownsRow _ _ _ _ _ _ _ from hT7.2.1) (k * 3 + 1)
    obtain ⟨l', hl'⟩ := hT7.put hkn (show 1 < 3 by omega) u
    have HF : Hid (OutDrawn w (.returned (.slice (some ⟨g, 0, none⟩) n cp)) (w7.setCell ⟨g, k * 3 + 1, none⟩ (.int .i64 u))) := outDrawn_own hl' (by omega) (by rw [← HBB.out]; exact hT7.2.2.setCell (p := ⟨g, k * 3 + 1, none⟩) (by show B ≤ g; omega) _)
    clear hT7 hl' HTA HPL hWA'
    try simp only [Nat.add_zero] at hc0 hz0 HF
    go_wp2_with fail
    go_ret
    exact HF.out
  have g1 : ((y : Int) == 1) = false := by rw [beq_eq_false_iff_ne]; omega
  by_cases hy2 : y = 2
  · subst hy2
    obtain ⟨WA, hWA⟩ : ∃ WA, WA = w6.alloc (.cells #[.int .i64 0, .int .i64 4, .int .i64 6000] 3) := ⟨_, rfl⟩
    have hWA' : w6.alloc (.cells #[.int .i64 0, .int .i64 4, .int .i64 6000] 3) = WA := hWA.symm
    have HTA : Hid (Tst w B (q + 1 + 1 + 1) (some ⟨g, 0, none⟩) n cp l WA ∧ w6.heap.size < WA.heap.size ∧ ∀ z, z < 3 → ∃ u : Int, WA.cell? ⟨w6.heap.size, z, none⟩ = some (.int .i64 u)) := by
      rw [hWA]
      exact ⟨HT6.out.next ((Only.refl B w6).alloc HT6.out.1.lt _) (HT6.out.1.alloc _), by simp, fun z hz => three_cell w6 _ _ _ z hz⟩
    have hLB : w6.heap.size ≠ B := by have := HT6.out.1.lt; omega
    clear hWA
    have HPL : Hid (Calls Try.prog 10 #[.pointer (some ⟨B, 0, none⟩), .int .i64 3] WA fun e w' => ∃ (v : Nat) (u : Int), e = .returned (.int .i64 (v : Int)) ∧ v < 3 ∧ w'.cell? ⟨w6.heap.size, v, none⟩ = some (.int .i64 u) ∧ Tst w B (q + 1 + 1 + 1 + 1) (some ⟨g, 0, none⟩) n cp l w') := by
      refine (pick_named B (q + 1 + 1 + 1) 3 WA HTA.out.1.1 (by omega) (by omega) (by omega)).mono ?_
      rintro e w' ⟨v, h1, h2, h3, h4, -⟩
      obtain ⟨u, hu⟩ := HTA.out.2.2 v (by omega)
      exact ⟨v, u, h1, by omega, (h4.cell w6.heap.size v HTA.out.2.1 hLB).trans hu, HTA.out.1.next h4 h3⟩
    clear HT6 HPK
    go_wp2_with fail
    refine HPL.out.mono ?_
    rintro e w7 ⟨z, u, rfl, hz, hcu, hT7⟩
    have hzi : (z : Int) < 3 := by omega
    obtain ⟨c0, hc0⟩ : ∃ c0 : Int, w7.cell? ⟨g, k * 3 + 2, none⟩ = some (.int .i64 c0) := by
      have hl := hT7.2.1.len
      obtain ⟨x1, x2, x3⟩ := tkCells_get l k (by omega)
      exact ⟨_, (World.ownsRow.cellAt (show World.ownsRow _ _ _ _ _ _ _ from hT7.2.1) (k * 3 + 2) (by omega)).trans x3⟩
    have hz0 : w7.frozen? ⟨g, k * 3 + 2, none⟩ = false := World.ownsRow.frozenAt (show World.ownsRow _ _ _ _ _ _ _ from hT7.2.1) (k * 3 + 2)
    obtain ⟨l', hl'⟩ := hT7.put hkn (show 2 < 3 by omega) u
    have HF : Hid (OutDrawn w (.returned (.slice (some ⟨g, 0, none⟩) n cp)) (w7.setCell ⟨g, k * 3 + 2, none⟩ (.int .i64 u))) := outDrawn_own hl' (by omega) (by rw [← HBB.out]; exact hT7.2.2.setCell (p := ⟨g, k * 3 + 2, none⟩) (by show B ≤ g; omega) _)
    clear hT7 hl' HTA HPL hWA'
    try simp only [Nat.add_zero] at hc0 hz0 HF
    go_wp2_with fail
    go_ret
    exact HF.out
  have g2 : ((y : Int) == 2) = false := by rw [beq_eq_false_iff_ne]; omega
  obtain ⟨i0, hi0, hz0, hz1, hz2⟩ := info_parts info_tok
  have hown := HT6.out.2.1
  have hbel := HT6.out.2.2
  have hBl := HT6.out.1.lt
  have hl := hown.len
  obtain ⟨v0, v1, v2, x0, x1, x2⟩ : ∃ v0 v1 v2 : Int, w6.cell? ⟨g, k * 3, none⟩ = some (.int .i64 v0) ∧ w6.cell? ⟨g, k * 3 + 1, none⟩ = some (.int .i64 v1) ∧ w6.cell? ⟨g, k * 3 + 2, none⟩ = some (.int .i64 v2) := by
    obtain ⟨x1, x2, x3⟩ := tkCells_get l k (by omega)
    exact ⟨_, _, _, (World.ownsRow.cellAt (show World.ownsRow _ _ _ _ _ _ _ from hown) (k * 3) (by omega)).trans x1, (World.ownsRow.cellAt (show World.ownsRow _ _ _ _ _ _ _ from hown) (k * 3 + 1) (by omega)).trans x2, (World.ownsRow.cellAt (show World.ownsRow _ _ _ _ _ _ _ from hown) (k * 3 + 2) (by omega)).trans x3⟩
  have hlt0 := World.ownsRow.lt (show World.ownsRow _ _ _ _ _ _ _ from hown)
  have hm63 : n + 1 ≤ maxLen := by unfold maxLen; omega
  have hlen : (n + 1) * 24 ≤ 140737488355328 := by omega
  have hone : ∀ u ∈ [Value.int .i64 v0, Value.int .i64 v1, Value.int .i64 v2], u.oneCell' = true := by intro u hu; simp at hu; rcases hu with rfl | rfl | rfl <;> rfl
  have HL : Hid (l.length = n) := hl
  clear HT6 HPK hl
  go_wp2_with (at_builtin; refine wpList_append_lies _ (by rfl) _ _ _ (by rfl) (B + 1) 35 i0 (.agg #[.int .i64 0, .int .i64 0, .int .i64 0]) 3 24 Try.underlying23 hi0 hz0 hz1 hz2 rfl (by decide) _ n (tkCells l) (by rfl) (World.ownsRow.alloc (show World.ownsRow _ _ _ _ _ _ _ from hown) _) ⟨w6.heap.size, 0, none⟩ 1 1 [.int .i64 v0, .int .i64 v1, .int .i64 v2] (by rfl) rfl (World.news_of_block (heap_alloc_new _ _)) hone (by decide) hm63 hlen (by simp; omega) _ rfl ?_)
  intro g' cap2 w8 hown8 hgrow hat hlt8
  have hb8 : Below B w w8 := (hbel.alloc (Nat.le_of_lt hBl) _).grown hgrow (by simp; omega) (fun k hk => by have := (hlt0 k hk).1; omega)
  have HF : Hid (OutDrawn w (.returned (.slice (some ⟨g', 0, none⟩) (n + 1) cap2)) w8) := outDrawn_own (OwnK.more hown8) (by omega) (by rw [← HBB.out]; exact hb8)
  clear hown8 hgrow hat hlt0 hown hbel hone hm63 hlen hlt8 hb8 x0 x1 x2
  go_wp2_with fail
  go_ret
  exact HF.out
end Go.Proofs.Ytddlldbljnhfmaa
