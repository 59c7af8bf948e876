/- Numbers and a size, drawn of a code. -/
import Derived.Test.YtmcjdilmmabiaaaDrawRun
import Derived.Test.YtmcjdilmmabiaaaPowWalks
namespace Go.Proofs.Ytmcjdilmmabiaaa
open Go.RowKit

/-- numbers and a size -/
def RunDrawn (w : World) (e : Ending) (w' : World) : Prop :=
  (∃ (a : Option Addr) (n c : Nat) (l : List Int) (sz : Int), e = .returned (.tuple #[.slice a n c, .int .i64 sz]) ∧ Ints w' a l ∧ l.length = n ∧ n ≤ 400 ∧ n ≤ c ∧ 0 ≤ sz ∧ sz ≤ 5) ∧ Below w.heap.size w w'
theorem runDrawn_mk {w w' : World} {e : Ending} {lo : Nat} (a : Option Addr) (n c : Nat) (l : List Int) (sz : Int) (h1 : e = .returned (.tuple #[.slice a n c, .int .i64 sz])) (h2 : OwnI w' lo (.slice a n c) n l) (h3 : n ≤ 400) (h4 : 0 ≤ sz) (h5 : sz ≤ 5) (h6 : Below w.heap.size w w') : RunDrawn w e w' :=
  ⟨⟨a, n, c, l, sz, h1, own_ints h2, h2.len, h3, h2.cap', h4, h5⟩, h6⟩

set_option maxHeartbeats 4000000 in
set_option maxRecDepth 20000 in
theorem drawRunPut_any (a : Option Addr) (len cap : Nat) (w : World) (h : Code8 w a len cap) :
    Calls Try.prog 13 #[.slice a len cap] w (RunDrawn w) := by
  have HOP : Hid (Calls Try.prog 20 #[.slice a len cap] w fun e w' => e = .returned (.pointer (some ⟨w.heap.size, 0, none⟩)) ∧ RdAt w' w.heap.size 0 ∧ Below w.heap.size w w') := open_any a len cap w h
  clear h
  go_enter Try.func13, Try.ntmps13
  go_wp2_with fail
  refine HOP.out.mono ?_
  rintro e w1 ⟨rfl, hR1, b1⟩
  clear HOP
  have HR1 : Hid (RdAt w1 w.heap.size 0) := hR1
  have HB1 : Hid (Below w.heap.size w w1) := b1
  have hlt : w.heap.size < w1.heap.size := hR1.lt
  clear hR1 b1
  generalize hBB : w.heap.size = B at *
  go_wp2_with fail
  refine (pick_named B 0 _ _ HR1.out (by omega) (by omega) (by omega)).mono ?_
  rintro e w2 ⟨s0, rfl, hs0, hR2, hO2, -⟩
  have HB2 : Hid (Below B w w2) := HB1.out.trans hO2.below
  have hlt2 : B < w2.heap.size := hR2.lt
  have HN : Hid (Calls Try.prog 35 #[.pointer (some ⟨B, 0, none⟩), .int .i64 200] w2 fun e w' => (∃ (v : Value) (n : Nat) (l : List Int), e = .returned v ∧ OwnI w' w2.heap.size v n l ∧ n ≤ 300) ∧ (∃ q, q ≤ 0 + 1 + 40 ∧ RdAt w' B q) ∧ Only B w2 w') := l14Nums_any B (0 + 1) 200 w2 hR2 (by omega) (by omega) (by omega)
  clear hR2 hO2 HR1 HB1 hlt
  obtain ⟨S, hS⟩ : ∃ S : Nat, S = 1 + s0 := ⟨_, rfl⟩
  have eS : (1 : Int) + (s0 : Int) = (S : Int) := by omega
  have hSb : 1 ≤ S ∧ S ≤ 4 := by omega
  clear hS hs0
  go_wp2_with fail
  refine HN.out.mono ?_
  rintro e w3 ⟨⟨v, n, l, rfl, hD, hn⟩, ⟨q, hq, hR3⟩, hO3⟩
  obtain ⟨a5, c5, e5, _⟩ := hD.owns
  subst e5
  have HD3 : Hid (OwnI w3 (B + 1) (.slice a5 n c5) n l) := hD.lower hlt2
  have HR3 : Hid (RdAt w3 B q) := hR3
  have HB3 : Hid (Below B w w3) := HB2.out.trans hO3.below
  clear hD hR3 hO3 HB2 HN hlt2
  go_wp2_with fail
  refine (pick_named B q _ _ HR3.out (by omega) (by omega) (by omega)).mono ?_
  rintro e w4 ⟨x, rfl, hx, hR4, hO4, -⟩
  have HD4 : Hid (OwnI w4 (B + 1) (.slice a5 n c5) n l) := HD3.out.only hO4 (by omega)
  have HR4 : Hid (RdAt w4 B (q + 1)) := hR4
  have HB4 : Hid (Below B w w4) := HB3.out.trans hO4.below
  clear hR4 hO4 HD3 HR3 HB3
  by_cases hx0 : x = 0
  · subst hx0
    have hR5 : RdAt (w4.alloc (.cells #[.int .i64 0, .int .i64 5] 3)) B (q + 1) := HR4.out.alloc _
    have HD5 : Hid (OwnI (w4.alloc (.cells #[.int .i64 0, .int .i64 5] 3)) (B + 1) (.slice a5 n c5) n l) := HD4.out.alloc _
    have HB5 : Hid (Below B w (w4.alloc (.cells #[.int .i64 0, .int .i64 5] 3))) := HB4.out.alloc (Nat.le_of_lt HR4.out.lt) _
    have hnb : w4.heap.size ≠ B := by have := HR4.out.lt; omega
    have HC : Hid ((w4.alloc (.cells #[.int .i64 0, .int .i64 5] 3)).cell? ⟨w4.heap.size, 0, none⟩ = some (.int .i64 0) ∧ (w4.alloc (.cells #[.int .i64 0, .int .i64 5] 3)).cell? ⟨w4.heap.size, 1, none⟩ = some (.int .i64 5)) := ⟨by rw [World.cell?_alloc_at _ _ _ _ rfl]; rfl, by rw [World.cell?_alloc_at _ _ _ _ rfl]; rfl⟩
    have hlt5 : w4.heap.size < (w4.alloc (.cells #[.int .i64 0, .int .i64 5] 3)).heap.size := by simp
    go_wp2_with fail
    generalize w4.alloc (.cells #[.int .i64 0, .int .i64 5] 3) = W5 at *
    generalize w4.heap.size = G at *
    refine (pick_named B (q + 1) _ _ hR5 (by omega) (by omega) (by omega)).mono ?_
    rintro e w6 ⟨y, rfl, hy, _, hO6, -⟩
    have c0 : w6.cell? ⟨G, 0, none⟩ = some (.int .i64 0) := (hO6.cell G 0 hlt5 hnb).trans HC.out.1
    have c1 : w6.cell? ⟨G, 1, none⟩ = some (.int .i64 5) := (hO6.cell G 1 hlt5 hnb).trans HC.out.2
    have HF : Hid (OwnI w6 (B + 1) (.slice a5 n c5) n l ∧ Below B w w6) := ⟨HD5.out.only hO6 (by omega), HB5.out.trans hO6.below⟩
    clear hO6 HD5 HB5 HC hR5 HD4 HR4 HB4
    have hy2 : y = 0 ∨ y = 1 := by omega
    rcases hy2 with rfl | rfl
    all_goals
      go_wp2_with fail
      go_ret2
      exact runDrawn_mk a5 n c5 l _ rfl HF.out.1 (by omega) (by omega) (by omega) (hBB ▸ HF.out.2)
  · have hx0b : ((x : Int) == 0) = false := by rw [beq_eq_false_iff_ne]; omega
    by_cases hx1 : x = 1
    · subst hx1
      obtain ⟨E, hE⟩ : ∃ E, E = 8 * S := ⟨_, rfl⟩
      have eE : (8 : Int) * (S : Int) = (E : Int) := by omega
      obtain ⟨P, hP⟩ : ∃ P : Nat, P = 2 ^ E := ⟨_, rfl⟩
      have HP : Hid (∀ w, Calls Try.prog 36 #[.int .i64 (E : Int)] w fun e w' => e = .returned (.int .i64 (P : Int)) ∧ w' = w) := by
        intro w; rw [hP]; exact l1Pow_any E w (by omega)
      clear hE hP
      go_wp2_with fail
      refine (HP.out _).mono ?_
      rintro e w5 ⟨rfl, hw5⟩
      replace hw5 := hw5.symm
      subst hw5
      have hR5 : RdAt (w4.alloc (.cells #[.int .i64 (-1), .int .i64 (P : Int)] 3)) B (q + 1) := HR4.out.alloc _
      have HD5 : Hid (OwnI (w4.alloc (.cells #[.int .i64 (-1), .int .i64 (P : Int)] 3)) (B + 1) (.slice a5 n c5) n l) := HD4.out.alloc _
      have HB5 : Hid (Below B w (w4.alloc (.cells #[.int .i64 (-1), .int .i64 (P : Int)] 3))) := HB4.out.alloc (Nat.le_of_lt HR4.out.lt) _
      have hnb : w4.heap.size ≠ B := by have := HR4.out.lt; omega
      have HC : Hid ((w4.alloc (.cells #[.int .i64 (-1), .int .i64 (P : Int)] 3)).cell? ⟨w4.heap.size, 0, none⟩ = some (.int .i64 (-1)) ∧ (w4.alloc (.cells #[.int .i64 (-1), .int .i64 (P : Int)] 3)).cell? ⟨w4.heap.size, 1, none⟩ = some (.int .i64 (P : Int))) := ⟨by rw [World.cell?_alloc_at _ _ _ _ rfl]; rfl, by rw [World.cell?_alloc_at _ _ _ _ rfl]; rfl⟩
      have hlt5 : w4.heap.size < (w4.alloc (.cells #[.int .i64 (-1), .int .i64 (P : Int)] 3)).heap.size := by simp
      go_wp2_with fail
      generalize w4.alloc (.cells #[.int .i64 (-1), .int .i64 (P : Int)] 3) = W5 at *
      generalize w4.heap.size = G at *
      refine (pick_named B (q + 1) _ _ hR5 (by omega) (by omega) (by omega)).mono ?_
      rintro e w6 ⟨y, rfl, hy, hR6, hO6, -⟩
      have c0 : w6.cell? ⟨G, 0, none⟩ = some (.int .i64 (-1)) := (hO6.cell G 0 hlt5 hnb).trans HC.out.1
      have c1 : w6.cell? ⟨G, 1, none⟩ = some (.int .i64 (P : Int)) := (hO6.cell G 1 hlt5 hnb).trans HC.out.2
      have hown6 : OwnI w6 (B + 1) (.slice a5 n c5) n l := HD5.out.only hO6 (by omega)
      have HB6 : Hid (Below B w w6) := HB5.out.trans hO6.below
      have hs6 : B + 1 ≤ w6.heap.size := hR6.lt
      clear hO6 HD5 HB5 HC hR5 HD4 HR4 HB4 hR6
      have hy2 : y = 0 ∨ y = 1 := by omega
      rcases hy2 with rfl | rfl
      · go_wp2_with (at_builtin; refine wpList_app1 w6 (by rfl) _ _ (by rfl) (B + 1) _ n l (-1) (by rfl) hown6 (by rfl) (by omega) hs6 ?_)
        intro g cap2 w7 hown7 hgr
        have hb7 : Below B w w7 := hgr.below HB6.out (by omega) (by omega)
        clear hgr hown6 HB6 c0 c1
        go_wp2_with fail
        go_ret2
        exact runDrawn_mk _ (n + 1) cap2 _ _ rfl hown7 (by omega) (by omega) (by omega) (hBB ▸ hb7)
      · go_wp2_with (at_builtin; refine wpList_app1 w6 (by rfl) _ _ (by rfl) (B + 1) _ n l (P : Int) (by rfl) hown6 (by rfl) (by omega) hs6 ?_)
        intro g cap2 w7 hown7 hgr
        have hb7 : Below B w w7 := hgr.below HB6.out (by omega) (by omega)
        clear hgr hown6 HB6 c0 c1
        go_wp2_with fail
        go_ret2
        exact runDrawn_mk _ (n + 1) cap2 _ _ rfl hown7 (by omega) (by omega) (by omega) (hBB ▸ hb7)
    · have hx1b : ((x : Int) == 1) = false := by rw [beq_eq_false_iff_ne]; omega
      clear HR4
      go_wp2_with fail
      go_ret2
      exact runDrawn_mk a5 n c5 l _ rfl HD4.out (by omega) (by omega) (by omega) (hBB ▸ HB4.out)
end Go.Proofs.Ytmcjdilmmabiaaa
