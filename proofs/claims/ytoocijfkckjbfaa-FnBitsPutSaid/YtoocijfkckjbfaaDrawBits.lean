/- The draw of the law on packed bits. -/
import Derived.Test.YtoocijfkckjbfaaDrawSums
import Derived.Test.YtoocijfkckjbfaaBitOwn
import Derived.Test.YtoocijfkckjbfaaPowWalks
namespace Go.Proofs.Ytoocijfkckjbfaa
open Go.RowKit

/-- what is drawn: a few bits, of numbers that an int holds -/
structure Drawn (w0 w : World) (v : Value) (l : List (Int × Int)) : Prop where
  own : OwnP w (w0.heap.size + 1) v l.length l
  few : l.length ≤ 7
  fits : ∀ p ∈ l, -1 ≤ p.1 ∧ p.1 ≤ 16777216
  bel : Below w0.heap.size w0 w

theorem Drawn.only {w0 w w' : World} {v : Value} {l : List (Int × Int)} (h : Drawn w0 w v l) (ho : Only w0.heap.size w w') : Drawn w0 w' v l :=
  ⟨h.own.same (fun k hk hB => ho.rest k hk (by omega)), h.few, h.fits, h.bel.trans ho.below⟩

theorem Drawn.alloc {w0 w : World} {v : Value} {l : List (Int × Int)} (h : Drawn w0 w v l) (o : Obj) : Drawn w0 (w.alloc o) v l :=
  ⟨World.ownsRow.alloc h.own o, h.few, h.fits, h.bel.alloc h.bel.size o⟩

/-- one more -/
theorem Drawn.more {w0 w w1 : World} {v : Value} {l : List (Int × Int)} {g cap : Nat} {x s : Int} {o : Obj} (h : Drawn w0 w v l) (hr : w0.heap.size < w.heap.size) (hl : l.length ≤ 6) (hx : -1 ≤ x) (hx2 : x ≤ 16777216)
    (hown : w1.ownsRow (w0.heap.size + 1) 30 2 (.slice (some ⟨g, 0, none⟩) (l.length + 1) cap) (l.length + 1) (cellsOf l ++ [.int .i64 x, .int .i64 s])) (hg : (w.alloc o).grownBy w1 v.ownBlock) :
    Drawn w0 w1 (.slice (some ⟨g, 0, none⟩) (l.length + 1) cap) (l ++ [(x, s)]) ∧ ∀ p, RdAt w w0.heap.size p → RdAt w1 w0.heap.size p := by
  have hlt := World.ownsRow.lt h.own
  have hb1 : Below (w0.heap.size + 1) w w1 := ((Below.refl (w0.heap.size + 1) w).alloc hr o).grown hg (by have := Below.size ((Below.refl (w0.heap.size + 1) w).alloc hr o); omega) (fun k hk => (hlt k hk).1)
  refine ⟨⟨?_, by simp; omega, ?_, h.bel.trans (hb1.mono (by omega))⟩, ?_⟩
  · rw [List.length_append]; exact OwnP.more hown
  · intro p hp
    rcases List.mem_append.1 hp with hp | hp
    · exact h.fits p hp
    · simp at hp; subst hp; exact ⟨hx, hx2⟩
  · intro p hp; exact hp.kept hb1

set_option maxHeartbeats 2000000 in
set_option maxRecDepth 20000 in
theorem drawBitsPut_any (a : Option Addr) (len cap : Nat) (w : World) (h : Code8 w a len cap) :
    Calls Try.prog 9 #[.slice a len cap] w fun e w' => (∃ (ao : Option Addr) (n c : Nat) (l : List (Int × Int)) (hi : Bool), e = .returned (.tuple #[.slice ao n c, .bool hi]) ∧ Bits2 w' ao l ∧ l.length = n ∧ n ≤ 7 ∧ ∀ p ∈ l, -1 ≤ p.1 ∧ p.1 ≤ 16777216) ∧ Below w.heap.size w w' := by
  obtain ⟨i0, hi0, hz0, hz1, hz2⟩ := info_parts info_bit
  go_enter Try.func9, Try.ntmps9
  go_wp2_with fail
  refine (open_any a len cap w h).mono ?_
  rintro e w1 ⟨rfl, hR, bel⟩
  clear h
  have hlt1 := hR.lt
  have hD0 : Drawn w (w1.alloc (.cells #[] 30)) (.slice (some ⟨w1.heap.size, 0, none⟩) 0 0) [] :=
    ⟨World.ownsRow_lit w1 #[] 0 (by omega) (by decide) rfl, by simp, fun p hp => by simp at hp, bel.alloc bel.size _⟩
  have hR0 := hR.alloc (.cells #[] 30)
  have HD0 : Hid (Drawn w _ _ _) := hD0
  have HR0 : Hid (RdAt _ _ _) := hR0
  clear hD0 hR0 bel hR
  go_wp2_with fail
  refine (pick_named w.heap.size 0 _ _ HR0.out (by omega) (by omega) (by omega)).mono ?_
  rintro e w2 ⟨k0, rfl, hk0, hR2, hO2, hs2⟩
  have HD2 : Hid (Drawn w w2 _ _) := HD0.out.only hO2
  have HR2 : Hid (RdAt w2 w.heap.size 1) := hR2
  clear HD0 HR0 hO2 hs2 hR2
  have hk7 : k0 ≤ 7 := by omega
  clear hk0
  go_wp2_with fail
  go_loopw [5, 6] (fun v i wr => ∃ (k p : Nat) (l : List (Int × Int)), k ≤ 7 ∧ i = .int .i64 k ∧ l.length + k ≤ 7 ∧ p + 3 * k ≤ 40 ∧ RdAt wr w.heap.size p ∧ Drawn w wr v l) (fun _ i _ => (intOf i).toNat)
  case atStart => exact ⟨k0, 1, [], hk7, rfl, by simpa using hk7, by omega, HR2.out, HD2.out⟩
  case round =>
    obtain ⟨k, p, l, hk, rfl, hlk, hpk, hR, hD⟩ := hrel
    clear HR2 HD2
    have HR : Hid (RdAt wr w.heap.size p) := hR
    have HD : Hid (Drawn w wr _ l) := hD
    clear hR hD
    by_cases hk0 : 0 < k
    · have hki : (0 : Int) < (k : Int) := by omega
      go_wp2_with fail
      refine (pick_named w.heap.size p _ _ HR.out (by omega) (by omega) (by omega)).mono ?_
      rintro e w3 ⟨s, rfl, hs, hR3, hO3, hs3⟩
      have HD3 : Hid (Drawn w w3 _ l) := HD.out.only hO3
      have HR3 : Hid (RdAt w3 w.heap.size (p + 1)) := hR3
      clear HR HD hR3 hO3 hs3
      go_wp2_with fail
      refine (pick_named w.heap.size (p + 1) _ _ HR3.out (by omega) (by omega) (by omega)).mono ?_
      rintro e w4 ⟨x, rfl, hx, hR4, hO4, hs4⟩
      have HD4 : Hid (Drawn w w4 _ l) := HD3.out.only hO4
      have HR4 : Hid (RdAt w4 w.heap.size (p + 2)) := hR4
      clear HR3 HD3 hR4 hO4 hs4
      go_wp2_with fail
      refine (pick_named w.heap.size (p + 2) _ _ HR4.out (by omega) (by omega) (by omega)).mono ?_
      rintro e w5 ⟨y, rfl, hy, hR5, hO5, hs5⟩
      have HD5 : Hid (Drawn w w5 _ l) := HD4.out.only hO5
      have HR5 : Hid (RdAt w5 w.heap.size (p + 3)) := hR5
      clear HR4 HD4 hR5 hO5 hs5
      obtain ⟨Q, hQ⟩ : ∃ Q, Q = 2 ^ s := ⟨_, rfl⟩
      have hQ1 : 0 < Q := by rw [hQ]; exact Nat.pow_pos (by omega)
      have hQ2 : Q ≤ 16777216 := by rw [hQ]; exact Nat.le_trans (Nat.pow_le_pow_right (by omega) (show s ≤ 24 by omega)) (by decide)
      have HP : Hid (Calls Try.prog 36 #[.int .i64 (s : Int)] w5 fun e w' => e = .returned (.int .i64 (Q : Int)) ∧ w' = w5) := by
        rw [hQ]; exact l1Pow_any s w5 (by omega)
      clear hQ
      go_wp2_with fail
      refine HP.out.mono ?_
      rintro e w6 ⟨rfl, hw6⟩
      subst hw6
      obtain ⟨M, hM⟩ : ∃ M : Nat, M = (x * 4096 + y) % Q := ⟨_, rfl⟩
      have hMQ : M < Q := by rw [hM]; exact Nat.mod_lt _ hQ1
      have hMi : ((x : Int) * 4096 + (y : Int)) % (Q : Int) = (M : Int) := by rw [hM]; simp
      have hlt6 := HR5.out.lt
      obtain ⟨hown, _, _, hbel⟩ := HD5.out
      have HL : Hid (l.length ≤ 6) := by show _ ≤ _; omega
      have hm63 : l.length + 1 ≤ maxLen := by unfold maxLen; omega
      have hlen : (l.length + 1) * 16 ≤ 140737488355328 := by omega
      have hone : ∀ u ∈ [Value.int .i64 (M : Int), Value.int .i64 (s : Int)], u.oneCell' = true := by intro u hu; simp at hu; rcases hu with rfl | rfl <;> rfl
      clear hM HP hx hy hbel
      go_wp2_with (at_builtin; refine wpList_append_lies _ (by rfl) _ _ _ (by rfl) (w.heap.size + 1) 30 i0 (.agg #[.int .i64 0, .int .i64 0]) 2 16 Try.underlying23 hi0 hz0 hz1 hz2 rfl (by decide) _ l.length (cellsOf l) (by rfl) (World.ownsRow.alloc (show World.ownsRow _ _ _ _ _ _ _ from hown) _) ⟨w6.heap.size, 0, none⟩ 1 1 [.int .i64 (M : Int), .int .i64 (s : Int)] (by rfl) rfl (World.news_of_block (heap_alloc_new _ _)) hone (by decide) hm63 hlen (by simp; omega) _ rfl ?_)
      intro g cap2 w7 hown7 hgrow hat hlt7
      obtain ⟨hD7, hR7⟩ := HD5.out.more hlt6 HL.out (by omega) (by omega) hown7 hgrow
      have HD7 : Hid (Drawn w w7 _ _) := hD7
      have HR7 : Hid (RdAt w7 w.heap.size (p + 3)) := hR7 _ HR5.out
      clear hD7 hR7 hown7 hgrow hat hown HD5 HR5 hone hm63 hlen
      go_wp2_with fail
      go_roundw
      case rel => exact ⟨k - 1, p + 3, l ++ [((M : Int), (s : Int))], by omega, by go_num, by simp; omega, by omega, HR7.out, HD7.out⟩
      case measure => simp [intOf]; omega
    · have hk' : k = 0 := by omega
      subst hk'
      cases l with
      | nil =>
        have HD' := HD.out.own
        obtain ⟨ao, c, rfl, hB⟩ := HD'.bits
        have hz : ([] : List (Int × Int)).length = 0 := rfl
        rw [hz] at HD
        rw [hz]
        clear HD' hB hz
        go_wp2_with fail
        refine (pick_named w.heap.size p _ _ HR.out (by omega) (by omega) (by omega)).mono ?_
        rintro e w3 ⟨u, rfl, hu, hR3, hO3, hs3⟩
        have HD3 : Hid (Drawn w w3 (.slice ao 0 c) []) := HD.out.only hO3
        clear HR HD hR3 hO3 hs3
        go_wp2_with fail
        go_ret2
        obtain ⟨ao', c', e', hB3⟩ := HD3.out.own.bits
        simp only [Value.slice.injEq] at e'
        obtain ⟨rfl, _, rfl⟩ := e'
        exact ⟨⟨ao, 0, c, [], _, rfl, hB3, rfl, by omega, fun p hp => by simp at hp⟩, HD3.out.bel⟩
      | cons q l =>
        have HD' := HD.out.own
        obtain ⟨g, c, rfl, hgB, hgl⟩ := World.ownsRow.form HD' (by simp)
        obtain ⟨n, hn⟩ : ∃ n, n = (q :: l).length := ⟨_, rfl⟩
        have hn1 : 1 ≤ n := by rw [hn]; simp
        have hn7 : n ≤ 7 := by omega
        have HN : Hid (n = (q :: l).length) := hn
        rw [← hn] at HD
        rw [← hn]
        clear HD' hn hlk
        go_wp2_with fail
        refine (pick_named w.heap.size p _ _ HR.out (by omega) (by omega) (by omega)).mono ?_
        rintro e w3 ⟨u, rfl, hu, hR3, hO3, hs3⟩
        have HD3 : Hid (Drawn w w3 (.slice (some ⟨g, 0, none⟩) n c) (q :: l)) := HD.out.only hO3
        have HR3 : Hid (RdAt w3 w.heap.size (p + 1)) := hR3
        have hgl3 : g < w3.heap.size := by omega
        clear HR HD hR3 hO3 hs3 hgl
        by_cases hu0 : u = 0
        · subst hu0
          go_wp2_with fail
          refine (pick_named w.heap.size (p + 1) _ _ (HR3.out.alloc _) (by omega) (by omega) (by omega)).mono ?_
          rintro e w4 ⟨u2, rfl, hu2, hR4, hO4, hs4⟩
          have hlt3 := HR3.out.lt
          have hcs := hO4.cell w3.heap.size
          have hne3 : w3.heap.size ≠ w.heap.size := by omega
          have HD4 : Hid (Drawn w w4 (.slice (some ⟨g, 0, none⟩) n c) (q :: l)) := (HD3.out.alloc _).only hO4
          have HR4 : Hid (RdAt w4 w.heap.size (p + 2)) := hR4
          have hown4 := HD4.out.own
          rw [← HN.out] at hown4
          have g0 : w4.cell? ⟨g, 0, none⟩ = some (.int .i64 q.1) := (World.ownsRow.cellAt hown4 0 (by omega)).trans rfl
          have g1 : w4.cell? ⟨g, 1, none⟩ = some (.int .i64 q.2) := (World.ownsRow.cellAt hown4 1 (by omega)).trans rfl
          have z0 := World.ownsRow.frozenAt hown4 0
          have z1 := World.ownsRow.frozenAt hown4 1
          have c0 : w4.cell? ⟨w3.heap.size, 0, none⟩ = some (.int .i64 (-1)) := (hcs 0 (by simp) hne3).trans (by rw [World.cell?_alloc_at _ _ _ _ rfl]; rfl)
          have c1 : w4.cell? ⟨w3.heap.size, 1, none⟩ = some (.int .i64 3) := (hcs 1 (by simp) hne3).trans (by rw [World.cell?_alloc_at _ _ _ _ rfl]; rfl)
          have c2 : w4.cell? ⟨w3.heap.size, 2, none⟩ = some (.int .i64 8) := (hcs 2 (by simp) hne3).trans (by rw [World.cell?_alloc_at _ _ _ _ rfl]; rfl)
          have c3 : w4.cell? ⟨w3.heap.size, 3, none⟩ = some (.int .i64 3) := (hcs 3 (by simp) hne3).trans (by rw [World.cell?_alloc_at _ _ _ _ rfl]; rfl)
          have c4 : w4.cell? ⟨w3.heap.size, 4, none⟩ = some (.int .i64 0) := (hcs 4 (by simp) hne3).trans (by rw [World.cell?_alloc_at _ _ _ _ rfl]; rfl)
          have c5 : w4.cell? ⟨w3.heap.size, 5, none⟩ = some (.int .i64 25) := (hcs 5 (by simp) hne3).trans (by rw [World.cell?_alloc_at _ _ _ _ rfl]; rfl)
          have c6 : w4.cell? ⟨w3.heap.size, 6, none⟩ = some (.int .i64 0) := (hcs 6 (by simp) hne3).trans (by rw [World.cell?_alloc_at _ _ _ _ rfl]; rfl)
          have c7 : w4.cell? ⟨w3.heap.size, 7, none⟩ = some (.int .i64 (-1)) := (hcs 7 (by simp) hne3).trans (by rw [World.cell?_alloc_at _ _ _ _ rfl]; rfl)
          have HFI : Hid (∀ (x s : Int), -1 ≤ x → x ≤ 16777216 → Drawn w ((w4.setCell ⟨g, 0, none⟩ (.int .i64 x)).setCell ⟨g, 1, none⟩ (.int .i64 s)) (.slice (some ⟨g, 0, none⟩) n c) ((x, s) :: l) ∧ RdAt ((w4.setCell ⟨g, 0, none⟩ (.int .i64 x)).setCell ⟨g, 1, none⟩ (.int .i64 s)) w.heap.size (p + 2)) := by
            intro x s h1 h2
            have hf := hown4.first x s
            rw [HN.out] at hf
            refine ⟨⟨?_, HD4.out.few, ?_, ?_⟩, ?_⟩
            · rw [HN.out]; exact hf
            · intro p hp
              rcases List.mem_cons.1 hp with rfl | hp
              · exact ⟨h1, h2⟩
              · exact HD4.out.fits p (List.mem_cons_of_mem _ hp)
            · exact ((HD4.out.bel).setCell (p := ⟨g, 0, none⟩) (by show _ ≤ g; omega) _).setCell (p := ⟨g, 1, none⟩) (by show _ ≤ g; omega) _
            · exact HR4.out.kept (((Below.refl (w.heap.size + 1) w4).setCell (p := ⟨g, 0, none⟩) hgB _).setCell (p := ⟨g, 1, none⟩) hgB _)
          have hn1i : (0 : Int) < (n : Int) := by omega
          clear hcs hown4 HD3 HR3 hR4 hO4 hs4
          have hu4 : u2 = 0 ∨ u2 = 1 ∨ u2 = 2 ∨ u2 = 3 := by omega
          rcases hu4 with rfl | rfl | rfl | rfl
          · go_wp2_with fail
            refine (pick_named w.heap.size (p + 2) _ _ (HFI.out (-1) (3) (by omega) (by omega)).2 (by omega) (by omega) (by omega)).mono ?_
            rintro e w5 ⟨u3, rfl, hu3, hR5, hO5, hs5⟩
            have HD5 : Hid (Drawn w w5 (.slice (some ⟨g, 0, none⟩) n c) (((-1 : Int), (3 : Int)) :: l)) := (HFI.out (-1) (3) (by omega) (by omega)).1.only hO5
            clear hR5 hO5 hs5 HFI c0 c1 c2 c3 c4 c5 c6 c7 g0 g1 z0 z1
            go_wp2_with fail
            go_ret2
            have hw := HD5.out.own
            rw [show (((-1 : Int), (3 : Int)) :: l).length = n from HN.out.symm] at hw
            obtain ⟨ao', c', e', hB3⟩ := hw.bits
            simp only [Value.slice.injEq] at e'
            obtain ⟨rfl, _, rfl⟩ := e'
            exact ⟨⟨_, n, c, _, _, rfl, hB3, HN.out.symm, hn7, HD5.out.fits⟩, HD5.out.bel⟩
          · go_wp2_with fail
            refine (pick_named w.heap.size (p + 2) _ _ (HFI.out (8) (3) (by omega) (by omega)).2 (by omega) (by omega) (by omega)).mono ?_
            rintro e w5 ⟨u3, rfl, hu3, hR5, hO5, hs5⟩
            have HD5 : Hid (Drawn w w5 (.slice (some ⟨g, 0, none⟩) n c) (((8 : Int), (3 : Int)) :: l)) := (HFI.out (8) (3) (by omega) (by omega)).1.only hO5
            clear hR5 hO5 hs5 HFI c0 c1 c2 c3 c4 c5 c6 c7 g0 g1 z0 z1
            go_wp2_with fail
            go_ret2
            have hw := HD5.out.own
            rw [show (((8 : Int), (3 : Int)) :: l).length = n from HN.out.symm] at hw
            obtain ⟨ao', c', e', hB3⟩ := hw.bits
            simp only [Value.slice.injEq] at e'
            obtain ⟨rfl, _, rfl⟩ := e'
            exact ⟨⟨_, n, c, _, _, rfl, hB3, HN.out.symm, hn7, HD5.out.fits⟩, HD5.out.bel⟩
          · go_wp2_with fail
            refine (pick_named w.heap.size (p + 2) _ _ (HFI.out (0) (25) (by omega) (by omega)).2 (by omega) (by omega) (by omega)).mono ?_
            rintro e w5 ⟨u3, rfl, hu3, hR5, hO5, hs5⟩
            have HD5 : Hid (Drawn w w5 (.slice (some ⟨g, 0, none⟩) n c) (((0 : Int), (25 : Int)) :: l)) := (HFI.out (0) (25) (by omega) (by omega)).1.only hO5
            clear hR5 hO5 hs5 HFI c0 c1 c2 c3 c4 c5 c6 c7 g0 g1 z0 z1
            go_wp2_with fail
            go_ret2
            have hw := HD5.out.own
            rw [show (((0 : Int), (25 : Int)) :: l).length = n from HN.out.symm] at hw
            obtain ⟨ao', c', e', hB3⟩ := hw.bits
            simp only [Value.slice.injEq] at e'
            obtain ⟨rfl, _, rfl⟩ := e'
            exact ⟨⟨_, n, c, _, _, rfl, hB3, HN.out.symm, hn7, HD5.out.fits⟩, HD5.out.bel⟩
          · go_wp2_with fail
            refine (pick_named w.heap.size (p + 2) _ _ (HFI.out (0) (-1) (by omega) (by omega)).2 (by omega) (by omega) (by omega)).mono ?_
            rintro e w5 ⟨u3, rfl, hu3, hR5, hO5, hs5⟩
            have HD5 : Hid (Drawn w w5 (.slice (some ⟨g, 0, none⟩) n c) (((0 : Int), (-1 : Int)) :: l)) := (HFI.out (0) (-1) (by omega) (by omega)).1.only hO5
            clear hR5 hO5 hs5 HFI c0 c1 c2 c3 c4 c5 c6 c7 g0 g1 z0 z1
            go_wp2_with fail
            go_ret2
            have hw := HD5.out.own
            rw [show (((0 : Int), (-1 : Int)) :: l).length = n from HN.out.symm] at hw
            obtain ⟨ao', c', e', hB3⟩ := hw.bits
            simp only [Value.slice.injEq] at e'
            obtain ⟨rfl, _, rfl⟩ := e'
            exact ⟨⟨_, n, c, _, _, rfl, hB3, HN.out.symm, hn7, HD5.out.fits⟩, HD5.out.bel⟩
        · have hui : ¬ (u : Int) = 0 := by omega
          go_wp2_with fail
          refine (pick_named w.heap.size (p + 1) _ _ HR3.out (by omega) (by omega) (by omega)).mono ?_
          rintro e w4 ⟨u2, rfl, hu2, hR4, hO4, hs4⟩
          have HD4 : Hid (Drawn w w4 (.slice (some ⟨g, 0, none⟩) n c) (q :: l)) := HD3.out.only hO4
          clear HR3 HD3 hR4 hO4 hs4
          go_wp2_with fail
          go_ret2
          have hw := HD4.out.own
          rw [← HN.out] at hw
          obtain ⟨ao', c', e', hB3⟩ := hw.bits
          simp only [Value.slice.injEq] at e'
          obtain ⟨rfl, _, rfl⟩ := e'
          exact ⟨⟨_, n, c, q :: l, _, rfl, hB3, HN.out.symm, hn7, HD4.out.fits⟩, HD4.out.bel⟩
end Go.Proofs.Ytoocijfkckjbfaa
