/- A row and its depth, drawn. -/
import Derived.Test.YtjikjjganloobaaDrawRow
namespace Go.Proofs.Ytjikjjganloobaa
open Go.RowKit

theorem arr6 (w : World) (v : Nat) (hv : (v : Int) < 6) : ∃ D : Nat, D ≤ 32 ∧ (w.alloc (.cells #[.int .i64 1, .int .i64 2, .int .i64 4, .int .i64 8, .int .i64 24, .int .i64 32] 3)).cell? ⟨w.heap.size, v, none⟩ = some (.int .i64 (D : Int)) := by
  have h : v = 0 ∨ v = 1 ∨ v = 2 ∨ v = 3 ∨ v = 4 ∨ v = 5 := by omega
  rcases h with rfl | rfl | rfl | rfl | rfl | rfl
  · exact ⟨1, by omega, by rw [World.cell?_alloc_at _ _ _ _ rfl]; rfl⟩
  · exact ⟨2, by omega, by rw [World.cell?_alloc_at _ _ _ _ rfl]; rfl⟩
  · exact ⟨4, by omega, by rw [World.cell?_alloc_at _ _ _ _ rfl]; rfl⟩
  · exact ⟨8, by omega, by rw [World.cell?_alloc_at _ _ _ _ rfl]; rfl⟩
  · exact ⟨24, by omega, by rw [World.cell?_alloc_at _ _ _ _ rfl]; rfl⟩
  · exact ⟨32, by omega, by rw [World.cell?_alloc_at _ _ _ _ rfl]; rfl⟩
theorem arr3 (w : World) (v : Nat) (hv : (v : Int) < 3) : ∃ D : Nat, D ≤ 32 ∧ (w.alloc (.cells #[.int .i64 0, .int .i64 3, .int .i64 16] 3)).cell? ⟨w.heap.size, v, none⟩ = some (.int .i64 (D : Int)) := by
  have h : v = 0 ∨ v = 1 ∨ v = 2 := by omega
  rcases h with rfl | rfl | rfl
  · exact ⟨0, by omega, by rw [World.cell?_alloc_at _ _ _ _ rfl]; rfl⟩
  · exact ⟨3, by omega, by rw [World.cell?_alloc_at _ _ _ _ rfl]; rfl⟩
  · exact ⟨16, by omega, by rw [World.cell?_alloc_at _ _ _ _ rfl]; rfl⟩
theorem arr2 (w : World) (Q v : Nat) (hQ : Q ≤ 4294967296) (hv : (v : Int) < 2) : ∃ z : Int, -1 ≤ z ∧ z ≤ 4294967296 ∧ (w.alloc (.cells #[.int .i64 (-1), .int .i64 (Q : Int)] 3)).cell? ⟨w.heap.size, v, none⟩ = some (.int .i64 z) := by
  have h : v = 0 ∨ v = 1 := by omega
  rcases h with rfl | rfl
  · exact ⟨-1, by omega, by omega, by rw [World.cell?_alloc_at _ _ _ _ rfl]; rfl⟩
  · exact ⟨(Q : Int), by omega, by omega, by rw [World.cell?_alloc_at _ _ _ _ rfl]; rfl⟩

set_option maxHeartbeats 2000000 in
set_option maxRecDepth 20000 in
theorem drawRowPut_any (a : Option Addr) (len cap : Nat) (w : World) (h : Code8 w a len cap) :
    Calls Try.prog 14 #[.slice a len cap] w fun e w' => (∃ (v : Value) (n : Nat) (l : List Int) (d : Int), e = .returned (.tuple #[v, .int .i64 d]) ∧ OwnI w' w.heap.size v n l ∧ n ≤ 12 ∧ (∀ z ∈ l, -1 ≤ z ∧ z ≤ 4294967296) ∧ 0 ≤ d ∧ d ≤ 32) ∧ Below w.heap.size w w' := by
  obtain ⟨i0, hi0, hz0, hz1, hz2⟩ := info_parts info_int
  go_enter Try.func14, Try.ntmps14
  go_wp2_with fail
  refine (open_any a len cap w h).mono ?_
  rintro e w1 ⟨rfl, hR, bel⟩
  clear h
  have hlt1 := hR.lt
  have HR1 : Hid (RdAt _ w.heap.size 0) := hR.alloc (.cells #[.int .i64 1, .int .i64 2, .int .i64 4, .int .i64 8, .int .i64 24, .int .i64 32] 3)
  have HB1 : Hid (Below w.heap.size w (w1.alloc (.cells #[.int .i64 1, .int .i64 2, .int .i64 4, .int .i64 8, .int .i64 24, .int .i64 32] 3))) := bel.alloc bel.size _
  clear hR bel
  go_wp2_with fail
  refine (pick_named w.heap.size 0 _ _ HR1.out (by omega) (by omega) (by omega)).mono ?_
  rintro e w2 ⟨v, rfl, hv, hR2, hO2, hs2⟩
  obtain ⟨D, hD, hc⟩ := arr6 w1 v hv
  have hc2 : w2.cell? ⟨w1.heap.size, v, none⟩ = some (.int .i64 (D : Int)) := (hO2.cell w1.heap.size v (by simp) (by omega)).trans hc
  have HR2 : Hid (RdAt w2 w.heap.size 1) := hR2
  have HB2 : Hid (Below w.heap.size w w2) := HB1.out.trans hO2.below
  clear HR1 HB1 hR2 hO2 hs2 hc
  have hlt2 : w.heap.size < w2.heap.size := HR2.out.lt
  go_wp2_with fail
  refine (l14Row_any w.heap.size 1 D w2 HR2.out (by omega) hD).mono ?_
  rintro e w3 ⟨⟨vv, n, l, rfl, hown, hn, hz⟩, ⟨q, hq, hR3⟩, hO3⟩
  have HB3 : Hid (Below w.heap.size w w3) := HB2.out.trans hO3.below
  have HR3 : Hid (RdAt w3 w.heap.size q) := hR3
  have HD3 : Hid (OwnI w3 (w.heap.size + 1) vv n l) := hown.lower hlt2
  have HZ : Hid (∀ z ∈ l, 0 ≤ z ∧ z ≤ 4294967296) := hz
  clear HR2 HB2 hR3 hO3 hown hz hc2 hlt2
  go_wp2_with fail
  refine (pick_named w.heap.size q _ _ HR3.out (by omega) (by omega) (by omega)).mono ?_
  rintro e w4 ⟨u, rfl, hu, hR4, hO4, hs4⟩
  have HB4 : Hid (Below w.heap.size w w4) := HB3.out.trans hO4.below
  have HR4 : Hid (RdAt w4 w.heap.size (q + 1)) := hR4
  have HD4 : Hid (OwnI w4 (w.heap.size + 1) vv n l) := HD3.out.only hO4 (by omega)
  have hlt4 : w.heap.size < w4.heap.size := hR4.lt
  clear HB3 HR3 HD3 hR4 hO4 hs4
  by_cases hu0 : u = 0
  · subst hu0
    have HR5 : Hid (RdAt _ w.heap.size (q + 1)) := HR4.out.alloc (.cells #[.int .i64 0, .int .i64 3, .int .i64 16] 3)
    have HB5 : Hid (Below w.heap.size w (w4.alloc (.cells #[.int .i64 0, .int .i64 3, .int .i64 16] 3))) := HB4.out.alloc (by omega) _
    have HD5 : Hid (OwnI (w4.alloc (.cells #[.int .i64 0, .int .i64 3, .int .i64 16] 3)) (w.heap.size + 1) vv n l) := World.ownsRow.alloc HD4.out _
    clear HR4 HB4 HD4
    go_wp2_with fail
    refine (pick_named w.heap.size (q + 1) _ _ HR5.out (by omega) (by omega) (by omega)).mono ?_
    rintro e w6 ⟨v2, rfl, hv2, hR6, hO6, hs6⟩
    obtain ⟨D2, hD2, hcc⟩ := arr3 w4 v2 hv2
    have hc6 : w6.cell? ⟨w4.heap.size, v2, none⟩ = some (.int .i64 (D2 : Int)) := (hO6.cell w4.heap.size v2 (by simp) (by omega)).trans hcc
    have HF : Hid (OwnI w6 w.heap.size vv n l ∧ Below w.heap.size w w6) := ⟨(HD5.out.only hO6 (by omega)).lower (by omega), HB5.out.trans hO6.below⟩
    clear HR5 HB5 HD5 hR6 hO6 hs6 hcc
    go_wp2_with fail
    go_ret2
    exact ⟨⟨vv, n, l, _, rfl, HF.out.1, by omega, fun z hz => by have := HZ.out z hz; omega, by omega, by omega⟩, HF.out.2⟩
  · have hui : ((u : Int) == 0) = false := by simp; omega
    by_cases hu1 : u = 1
    · subst hu1
      obtain ⟨Q, hQ⟩ : ∃ Q, Q = 2 ^ D := ⟨_, rfl⟩
      have hQ2 : Q ≤ 4294967296 := by rw [hQ]; exact Nat.le_trans (Nat.pow_le_pow_right (by omega) hD) (by decide)
      have HP : Hid (Calls Try.prog 37 #[.int .i64 (D : Int)] w4 fun e w' => e = .returned (.int .i64 (Q : Int)) ∧ w' = w4) := by
        rw [hQ]; exact l1Pow_any D w4 (by omega)
      clear hQ
      go_wp2_with fail
      refine HP.out.mono ?_
      rintro e w5 ⟨rfl, hw5⟩
      subst hw5
      have HR5 : Hid (RdAt _ w.heap.size (q + 1)) := HR4.out.alloc (.cells #[.int .i64 (-1), .int .i64 (Q : Int)] 3)
      have HB5 : Hid (Below w.heap.size w (w5.alloc (.cells #[.int .i64 (-1), .int .i64 (Q : Int)] 3))) := HB4.out.alloc (by omega) _
      have HD5 : Hid (OwnI (w5.alloc (.cells #[.int .i64 (-1), .int .i64 (Q : Int)] 3)) (w.heap.size + 1) vv n l) := World.ownsRow.alloc HD4.out _
      clear HR4 HB4 HD4 HP
      go_wp2_with fail
      refine (pick_named w.heap.size (q + 1) _ _ HR5.out (by omega) (by omega) (by omega)).mono ?_
      rintro e w6 ⟨v2, rfl, hv2, hR6, hO6, hs6⟩
      obtain ⟨z, hz1', hz2', hcc⟩ := arr2 w5 Q v2 hQ2 hv2
      have hc6 : w6.cell? ⟨w5.heap.size, v2, none⟩ = some (.int .i64 z) := (hO6.cell w5.heap.size v2 (by simp) (by omega)).trans hcc
      have hown := HD5.out.only hO6 (by omega)
      have hbel : Below w.heap.size w w6 := HB5.out.trans hO6.below
      have hbs : w.heap.size + 1 ≤ w6.heap.size := hR6.lt
      clear HR5 HB5 HD5 hR6 hO6 hs6 hcc
      have hm63 : n + 1 ≤ maxLen := by unfold maxLen; omega
      have hlen : (n + 1) * 8 ≤ 140737488355328 := by omega
      have hone : ∀ u ∈ [Value.int .i64 z], u.oneCell' = true := by intro u hu; simp at hu; subst hu; rfl
      go_wp2_with (at_builtin; refine wpList_append_lies _ (by rfl) _ _ _ (by rfl) (w.heap.size + 1) 3 i0 (.int .i64 0) 1 8 Try.underlying22 hi0 hz0 hz1 hz2 rfl (by decide) _ n (intsV l) (by rfl) (World.ownsRow.alloc (show World.ownsRow _ _ _ _ _ _ _ from hown) _) ⟨w6.heap.size, 0, none⟩ 1 1 [.int .i64 z] (by rfl) rfl (World.news_of_block (heap_alloc_new _ _)) hone (by decide) hm63 hlen (by simp; omega) _ rfl ?_)
      intro g cap2 w7 hown7 hgrow hat hlt7
      have hlt0 := World.ownsRow.lt hown
      have hb7 : Below w.heap.size w w7 := (hbel.alloc (by omega) _).grown hgrow (by simp; omega) (fun k hk => by have := (hlt0 k hk).1; omega)
      have H7 : Hid (OwnI w7 w.heap.size (.slice (some ⟨g, 0, none⟩) (n + 1) cap2) (n + 1) (l ++ [z])) := (OwnI.more hown7).lower (by omega)
      clear hown7 hgrow hat hlt0 hown hbel hone hm63 hlen hlt7 hc6 hbs
      go_wp2_with fail
      go_ret2
      refine ⟨⟨_, n + 1, l ++ [z], _, rfl, H7.out, by omega, fun y hy => ?_, by omega, by omega⟩, hb7⟩
      rcases List.mem_append.1 hy with h | h
      · have := HZ.out y h; omega
      · simp at h; subst h; exact ⟨hz1', hz2'⟩
    · have hui1 : ((u : Int) == 1) = false := by simp; omega
      have HF : Hid (OwnI w4 w.heap.size vv n l ∧ Below w.heap.size w w4) := ⟨HD4.out.lower (by omega), HB4.out⟩
      clear HD4 HB4 HR4
      go_wp2_with fail
      go_ret2
      exact ⟨⟨vv, n, l, _, rfl, HF.out.1, by omega, fun z hz => by have := HZ.out z hz; omega, by omega, by omega⟩, HF.out.2⟩
end Go.Proofs.Ytjikjjganloobaa
