/- PassesOf of the program. -/
import Derived.Test.YtkghijlooefbhaaPsOwn
import Derived.Test.YtkghijlooefbhaaPsWalks
import Derived.Test.YtkghijlooefbhaaInWalks
import Derived.Laws.Tables
namespace Go.Proofs.Ytkghijlooefbhaa
open Go.RowKit

set_option maxHeartbeats 400000 in
theorem sizeOk_yes (z : Int) (w : World) (h : 1 ≤ z ∧ z ≤ 20) :
    Calls Try.prog 38 #[.int .i64 z] w fun e w' => e = .returned (.bool true) ∧ w' = w := by
  have d1 : decide (1 ≤ z) = true := by simpa using h.1
  have d2 : decide (z ≤ 20) = true := by simpa using h.2
  clear h
  go_enter Try.func38, Try.ntmps38
  go_wp2_with fail
  go_ret
  exact ⟨rfl, rfl⟩

set_option maxHeartbeats 400000 in
theorem sizeOk_no (z : Int) (w : World) (h : ¬ (1 ≤ z ∧ z ≤ 20)) :
    Calls Try.prog 38 #[.int .i64 z] w fun e w' => e = .returned (.bool false) ∧ w' = w := by
  by_cases h1 : 1 ≤ z
  · have d1 : decide (1 ≤ z) = true := by simpa using h1
    have d2 : decide (z ≤ 20) = false := by simp; omega
    clear h
    go_enter Try.func38, Try.ntmps38
    go_wp2_with fail
    go_ret
    exact ⟨rfl, rfl⟩
  · have d1 : decide (1 ≤ z) = false := by simpa using h1
    clear h
    go_enter Try.func38, Try.ntmps38
    go_wp2_with fail
    go_ret
    exact ⟨rfl, rfl⟩

set_option maxHeartbeats 400000 in
theorem stepsIn_yes (x p W : Nat) (w : World) (h : x < W) (hp : 1 ≤ p) (hp8 : p ≤ 8) (hW : W ≤ 20) :
    Calls Try.prog 39 #[.int .i64 x, .int .i64 p, .int .i64 W] w fun e w' => e = .returned (.int .i64 (Ps.num x p W : Nat)) ∧ w' = w := by
  obtain ⟨n, hn⟩ : ∃ n, n = Ps.num x p W := ⟨_, rfl⟩
  rw [← hn]
  obtain ⟨a1, ha1⟩ : ∃ a1 : Nat, (W : Int) - (x : Int) = (a1 : Int) := Int.eq_ofNat_of_zero_le (by omega)
  obtain ⟨a2, ha2⟩ : ∃ a2 : Nat, (a1 : Int) + (p : Int) = (a2 : Int) := ⟨a1 + p, by omega⟩
  obtain ⟨a3, ha3⟩ : ∃ a3 : Nat, (a2 : Int) - 1 = (a3 : Int) := Int.eq_ofNat_of_zero_le (by omega)
  have hN : (a3 : Int) / (p : Int) = (n : Int) := by
    have e : a3 = W + p - 1 - x := by omega
    rw [hn, e]; rfl
  have hN' : (a3 : Int).tdiv (p : Int) = (n : Int) := by rw [Int.tdiv_eq_ediv_of_nonneg (by omega)]; exact hN
  have d1 : decide ((W : Int) ≤ (x : Int)) = false := by simp; omega
  have hp0 : ¬ p = 0 := by omega
  have hpb : ((p : Int) == 0) = false := by rw [beq_eq_false_iff_ne]; omega
  have r1 : a1 ≤ 20 := by omega
  have r2 : a2 ≤ 40 := by omega
  have r3 : a3 ≤ 40 := by omega
  have hnb : n ≤ 28 := by rw [hn]; exact Ps.num_le hp hp8 hW
  clear hn
  go_enter Try.func39, Try.ntmps39
  go_wp2_with fail
  go_ret
  exact ⟨rfl, rfl⟩

set_option maxHeartbeats 400000 in
theorem stepsIn_no (x p W : Nat) (w : World) (h : ¬ x < W) :
    Calls Try.prog 39 #[.int .i64 x, .int .i64 p, .int .i64 W] w fun e w' => e = .returned (.int .i64 0) ∧ w' = w := by
  have d1 : decide ((W : Int) ≤ (x : Int)) = true := by simp; omega
  go_enter Try.func39, Try.ntmps39
  go_wp2_with fail
  go_ret
  exact ⟨rfl, rfl⟩

theorem wpList_build_to {ops : Array Oper} {rest : List Oper} {o : Oper} {a : Act} {w : World} {Q : Exit → Act → World → Prop} (hg : o.guard = none) (t : TypeId) (parts : Array (Nat × Operand)) (ho : o.op = .build t parts) (cells : Array Value)
    (hc : Try.prog.built t (parts.map fun (i, x) => (i, a.eval x)).toList = some cells)
    (h : wpList Try.prog ops Q rest (a.put o.dst (.agg cells)) w) : wpList Try.prog ops Q (o :: rest) a w :=
  wpList_build hg t parts ho (by rw [hc]; rfl) (by rw [hc]; exact h)

def zero42 : Array Value := arr (List.replicate 42 0)
theorem zeroPs (w : World) : Sem.run Try.prog (zeroValue 63) w = .ok (.agg zero42) w := by kernel_rfl
def allA : Array Value := arr Ps.all
theorem allA_size : zero42.size = allA.size := rfl
theorem all_i0 (w : World) : Sem.run Try.prog (Instr.index 63 (.agg allA) (.int .i64 ((0 : Nat) : Int))) w = .ok (.agg #[.int .i64 ((Ps.px 0 : Nat) : Int), .int .i64 ((Ps.py 0 : Nat) : Int), .int .i64 ((Ps.dx 0 : Nat) : Int), .int .i64 ((Ps.dy 0 : Nat) : Int), .int .i64 0, .int .i64 0]) w := by kernel_rfl
theorem all_i1 (w : World) : Sem.run Try.prog (Instr.index 63 (.agg allA) (.int .i64 ((1 : Nat) : Int))) w = .ok (.agg #[.int .i64 ((Ps.px 1 : Nat) : Int), .int .i64 ((Ps.py 1 : Nat) : Int), .int .i64 ((Ps.dx 1 : Nat) : Int), .int .i64 ((Ps.dy 1 : Nat) : Int), .int .i64 0, .int .i64 0]) w := by kernel_rfl
theorem all_i2 (w : World) : Sem.run Try.prog (Instr.index 63 (.agg allA) (.int .i64 ((2 : Nat) : Int))) w = .ok (.agg #[.int .i64 ((Ps.px 2 : Nat) : Int), .int .i64 ((Ps.py 2 : Nat) : Int), .int .i64 ((Ps.dx 2 : Nat) : Int), .int .i64 ((Ps.dy 2 : Nat) : Int), .int .i64 0, .int .i64 0]) w := by kernel_rfl
theorem all_i3 (w : World) : Sem.run Try.prog (Instr.index 63 (.agg allA) (.int .i64 ((3 : Nat) : Int))) w = .ok (.agg #[.int .i64 ((Ps.px 3 : Nat) : Int), .int .i64 ((Ps.py 3 : Nat) : Int), .int .i64 ((Ps.dx 3 : Nat) : Int), .int .i64 ((Ps.dy 3 : Nat) : Int), .int .i64 0, .int .i64 0]) w := by kernel_rfl
theorem all_i4 (w : World) : Sem.run Try.prog (Instr.index 63 (.agg allA) (.int .i64 ((4 : Nat) : Int))) w = .ok (.agg #[.int .i64 ((Ps.px 4 : Nat) : Int), .int .i64 ((Ps.py 4 : Nat) : Int), .int .i64 ((Ps.dx 4 : Nat) : Int), .int .i64 ((Ps.dy 4 : Nat) : Int), .int .i64 0, .int .i64 0]) w := by kernel_rfl
theorem all_i5 (w : World) : Sem.run Try.prog (Instr.index 63 (.agg allA) (.int .i64 ((5 : Nat) : Int))) w = .ok (.agg #[.int .i64 ((Ps.px 5 : Nat) : Int), .int .i64 ((Ps.py 5 : Nat) : Int), .int .i64 ((Ps.dx 5 : Nat) : Int), .int .i64 ((Ps.dy 5 : Nat) : Int), .int .i64 0, .int .i64 0]) w := by kernel_rfl
theorem all_i6 (w : World) : Sem.run Try.prog (Instr.index 63 (.agg allA) (.int .i64 ((6 : Nat) : Int))) w = .ok (.agg #[.int .i64 ((Ps.px 6 : Nat) : Int), .int .i64 ((Ps.py 6 : Nat) : Int), .int .i64 ((Ps.dx 6 : Nat) : Int), .int .i64 ((Ps.dy 6 : Nat) : Int), .int .i64 0, .int .i64 0]) w := by kernel_rfl
theorem all_index (k : Nat) (hk : k < 7) (w : World) : Sem.run Try.prog (Instr.index 63 (.agg allA) (.int .i64 (k : Int))) w = .ok (.agg #[.int .i64 ((Ps.px k : Nat) : Int), .int .i64 ((Ps.py k : Nat) : Int), .int .i64 ((Ps.dx k : Nat) : Int), .int .i64 ((Ps.dy k : Nat) : Int), .int .i64 0, .int .i64 0]) w := by
  have h : k = 0 ∨ k = 1 ∨ k = 2 ∨ k = 3 ∨ k = 4 ∨ k = 5 ∨ k = 6 := by omega
  rcases h with rfl | rfl | rfl | rfl | rfl | rfl | rfl
  · exact all_i0 w
  · exact all_i1 w
  · exact all_i2 w
  · exact all_i3 w
  · exact all_i4 w
  · exact all_i5 w
  · exact all_i6 w

theorem owns_lower {w : World} {lo lo' : Nat} {a : Option Addr} {l : List Int} (h : Owns w lo a l) (hl : lo' ≤ lo) : Owns w lo' a l := by
  rcases h with h | ⟨b, rfl, hb, r⟩
  · exact .inl h
  · exact .inr ⟨b, rfl, by omega, r⟩

set_option maxHeartbeats 4000000 in
set_option maxRecDepth 20000 in
theorem impl_passes_yes (W H : Nat) (w : World) (hW : 1 ≤ W ∧ W ≤ 20) (hH : 1 ≤ H ∧ H ≤ 20) :
    Calls Try.prog 10 #[.int .i64 W, .int .i64 H] w fun e w' => (∃ ao cap, e = .returned (.slice ao (Ps.cnt W H 7) cap) ∧ Owns w' w.heap.size ao (Ps.flat W H 7)) ∧ Below w.heap.size w w' := by
  obtain ⟨i0, hi0, hz0, hz1, hz2⟩ := info_parts info_pass
  have HA : Hid (∀ w : World, Calls Try.prog 38 #[.int .i64 (W : Int)] w fun e w' => e = .returned (.bool true) ∧ w' = w) := fun w => sizeOk_yes W w (by omega)
  have HB : Hid (∀ w : World, Calls Try.prog 38 #[.int .i64 (H : Int)] w fun e w' => e = .returned (.bool true) ∧ w' = w) := fun w => sizeOk_yes H w (by omega)
  have hz := fun w => zeroPs w
  have hg0 : (w.alloc (.cells zero42 63)).heap[w.heap.size]? = some (.cells zero42 63 (0, 0)) := heap_alloc_new _ _
  have hg1 : ((w.alloc (.cells zero42 63)).setRow w.heap.size allA).heap[w.heap.size]? = some (.cells allA 63 (0, 0)) := setRow_heap _ _ _ allA _ _ hg0
  have hB1 : Below w.heap.size w ((w.alloc (.cells zero42 63)).setRow w.heap.size allA) := ((Below.refl _ _).alloc (Nat.le_refl _) _).trans ((below_setRow _ _ _).mono (Nat.le_refl _))
  have hs1 : ((w.alloc (.cells zero42 63)).setRow w.heap.size allA).heap.size = w.heap.size + 1 := by simp
  go_enter Try.func10, Try.ntmps10
  go_wp2_with fail
  refine (HA.out _).mono ?_
  rintro e w1 ⟨rfl, hw⟩; replace hw := hw.symm; subst hw
  go_wp2_with fail
  refine (HB.out _).mono ?_
  rintro e w1 ⟨rfl, hw⟩; replace hw := hw.symm; subst hw
  clear HA HB
  go_wp2_with (first | refine wpList_build_to rfl 63 #[(0, .tmp 17), (1, .tmp 18), (2, .tmp 19), (3, .tmp 20), (4, .tmp 21), (5, .tmp 22), (6, .tmp 23)] rfl allA (by kernel_rfl) ?_ | refine wpList_store_row rfl 63 (.tmp 5) (.tmp 24) rfl w.heap.size allA rfl rfl 63 zero42 hg0 (by kernel_rfl) allA_size (by kernel_rfl) ?_ | refine wpList_load_row rfl 63 (.tmp 5) rfl w.heap.size rfl 63 allA (0, 0) _ hg1 Try.underlying63 rfl (by kernel_rfl) ?_)
  have HE : Hid (OwnPs ((w.alloc (.cells zero42 63)).setRow w.heap.size allA) (w.heap.size + 1) (.slice none 0 0) 0 []) := ownPs_nil _ _
  generalize (w.alloc (.cells zero42 63)).setRow w.heap.size allA = w1 at *
  clear hz hg0 hg1
  have HB1 : Hid (Below w.heap.size w w1) := hB1
  clear hB1
  go_loopw [6, 26] (fun v i wr => ∃ (k c : Nat) (l : List Int), k ≤ 7 ∧ i = .int .i64 k ∧ c = Ps.cnt W H k ∧ l = Ps.flat W H k ∧ OwnPs wr (w.heap.size + 1) v c l ∧ Below (w.heap.size + 1) w1 wr) (fun _ i _ => 7 - (intOf i).toNat)
  case atStart => exact ⟨0, 0, [], by omega, rfl, rfl, rfl, HE.out, Below.refl _ _⟩
  case round =>
    obtain ⟨k, c, l, hk, rfl, hc, hl, hown, hbel⟩ := hrel
    clear HE
    have HC : Hid (c = Ps.cnt W H k ∧ l = Ps.flat W H k) := ⟨hc, hl⟩
    have hcb : c ≤ 7 := by rw [hc]; exact Nat.le_trans (Ps.cnt_le W H k) hk
    clear hc hl
    by_cases hlt : k < 7
    · have hix := fun w => all_index k hlt w
      obtain ⟨bx1, by1, bd1, bd8, be1, be8, bxd, byd⟩ := Ps.bounds k (by omega)
      have HR : Hid (Ps.row W H k = [(Ps.px k : Int), (Ps.py k : Int), (Ps.dx k : Int), (Ps.dy k : Int), (Ps.num (Ps.px k) (Ps.dx k) W : Nat), (Ps.num (Ps.py k) (Ps.dy k) H : Nat)]) := rfl
      have HOK : Hid (Ps.ok W H k ↔ (Ps.px k < W ∧ Ps.py k < H)) := Iff.rfl
      have hlti : (k : Int) < 7 := by omega
      obtain ⟨n1, hn1⟩ : ∃ n1, n1 = Ps.num (Ps.px k) (Ps.dx k) W := ⟨_, rfl⟩
      obtain ⟨n2, hn2⟩ : ∃ n2, n2 = Ps.num (Ps.py k) (Ps.dy k) H := ⟨_, rfl⟩
      rw [← hn1, ← hn2] at HR
      have hbs : w.heap.size + 1 ≤ wr.heap.size := by have := hbel.size; omega
      by_cases hox : Ps.px k < W
      · have HS1 : Hid (∀ w : World, Calls Try.prog 39 #[.int .i64 (Ps.px k : Int), .int .i64 (Ps.dx k : Int), .int .i64 (W : Int)] w fun e w' => e = .returned (.int .i64 (n1 : Int)) ∧ w' = w) := fun w => by rw [hn1]; exact stepsIn_yes _ _ _ w hox bd1 bd8 hW.2
        have hp1 : 0 < n1 := by rw [hn1]; exact Ps.num_pos bd1 hox
        have hn1b : n1 ≤ 28 := by rw [hn1]; exact Ps.num_le bd1 bd8 hW.2
        by_cases hoy : Ps.py k < H
        · have HS2 : Hid (∀ w : World, Calls Try.prog 39 #[.int .i64 (Ps.py k : Int), .int .i64 (Ps.dy k : Int), .int .i64 (H : Int)] w fun e w' => e = .returned (.int .i64 (n2 : Int)) ∧ w' = w) := fun w => by rw [hn2]; exact stepsIn_yes _ _ _ w hoy be1 be8 hH.2
          have hp2 : 0 < n2 := by rw [hn2]; exact Ps.num_pos be1 hoy
          have hn2b : n2 ≤ 28 := by rw [hn2]; exact Ps.num_le be1 be8 hH.2
          have HF : Hid (Ps.flat W H (k + 1) = l ++ [(Ps.px k : Int), (Ps.py k : Int), (Ps.dx k : Int), (Ps.dy k : Int), (n1 : Int), (n2 : Int)] ∧ Ps.cnt W H (k + 1) = c + 1) := by
            have := Ps.flat_yes (HOK.out.2 ⟨hox, hoy⟩)
            rw [HR.out, ← HC.out.1, ← HC.out.2] at this; exact this
          clear hn1 hn2 HOK HR HC hox hoy
          generalize Ps.px k = x at *
          generalize Ps.py k = y at *
          generalize Ps.dx k = p at *
          generalize Ps.dy k = q at *
          have hm63 : c + 1 ≤ maxLen := by unfold maxLen; omega
          have hlen : (c + 1) * 48 ≤ 140737488355328 := by omega
          have hone : ∀ u ∈ ([.int .i64 (x : Int), .int .i64 (y : Int), .int .i64 (p : Int), .int .i64 (q : Int), .int .i64 (n1 : Int), .int .i64 (n2 : Int)] : List Value), u.oneCell' = true := by intro u hu; simp at hu; rcases hu with rfl | rfl | rfl | rfl | rfl | rfl <;> rfl
          go_wp2_with fail
          refine (HS1.out _).mono ?_
          rintro e w9 ⟨rfl, hw⟩; subst hw
          go_wp2_with fail
          refine (HS2.out _).mono ?_
          rintro e w9 ⟨rfl, hw⟩; subst hw
          clear HS1 HS2 hix
          go_wp2_with (at_builtin; refine wpList_append_lies _ (by rfl) _ _ _ (by rfl) (w.heap.size + 1) 30 i0 (.agg #[.int .i64 0, .int .i64 0, .int .i64 0, .int .i64 0, .int .i64 0, .int .i64 0]) 6 48 Try.underlying25 hi0 hz0 hz1 hz2 rfl (by decide) _ c (intsV l) (by rfl) (World.ownsRow.alloc (World.ownsRow.alloc (show World.ownsRow _ _ _ _ _ _ _ from hown) _) _) ⟨wr.heap.size + 1, 0, none⟩ 1 1 [.int .i64 (x : Int), .int .i64 (y : Int), .int .i64 (p : Int), .int .i64 (q : Int), .int .i64 (n1 : Int), .int .i64 (n2 : Int)] (by rfl) rfl (World.news_of_block (alloc2_new _ _ _)) hone (by decide) hm63 hlen (by simp; omega) _ rfl ?_)
          intro g cap2 w4 hown4 hgrow hat hlt4
          have hlt0 := World.ownsRow.lt hown
          have hb4 : Below (w.heap.size + 1) w1 w4 := ((hbel.alloc hbs _).alloc (by simp; omega) _).grown hgrow (by simp; omega) (fun k hk => (hlt0 k hk).1)
          have H4 : Hid (OwnPs w4 (w.heap.size + 1) (.slice (some ⟨g, 0, none⟩) (c + 1) cap2) (c + 1) (l ++ [(x : Int), (y : Int), (p : Int), (q : Int), (n1 : Int), (n2 : Int)])) := OwnPs.more hown4
          clear hown4 hgrow hat hlt0 hown hbel hone hm63 hlen hlt4
          go_wp2_with fail
          go_roundw
          case rel => exact ⟨k + 1, c + 1, _, by omega, by go_num, HF.out.2.symm, HF.out.1.symm, H4.out, hb4⟩
          case measure => simp [intOf]; omega
        · have HS2 : Hid (∀ w : World, Calls Try.prog 39 #[.int .i64 (Ps.py k : Int), .int .i64 (Ps.dy k : Int), .int .i64 (H : Int)] w fun e w' => e = .returned (.int .i64 0) ∧ w' = w) := fun w => stepsIn_no _ _ _ w hoy
          have HF : Hid (Ps.flat W H (k + 1) = l ∧ Ps.cnt W H (k + 1) = c) := by
            have := Ps.flat_no (fun g => hoy (HOK.out.1 g).2)
            rw [← HC.out.1, ← HC.out.2] at this; exact this
          have H4 : Hid (∀ o, OwnPs (wr.alloc o) (w.heap.size + 1) _ c l ∧ Below (w.heap.size + 1) w1 (wr.alloc o)) := fun o => ⟨World.ownsRow.alloc hown _, hbel.alloc hbs _⟩
          clear hn1 hn2 HOK HR HC hox hoy hown hbel
          generalize Ps.px k = x at *
          generalize Ps.py k = y at *
          generalize Ps.dx k = p at *
          generalize Ps.dy k = q at *
          go_wp2_with fail
          refine (HS1.out _).mono ?_
          rintro e w9 ⟨rfl, hw⟩; subst hw
          go_wp2_with fail
          refine (HS2.out _).mono ?_
          rintro e w9 ⟨rfl, hw⟩; subst hw
          clear HS1 HS2 hix
          go_wp2_with fail
          go_roundw
          case rel => exact ⟨k + 1, c, _, by omega, by go_num, HF.out.2.symm, HF.out.1.symm, (H4.out _).1, (H4.out _).2⟩
          case measure => simp [intOf]; omega
      · have HS1 : Hid (∀ w : World, Calls Try.prog 39 #[.int .i64 (Ps.px k : Int), .int .i64 (Ps.dx k : Int), .int .i64 (W : Int)] w fun e w' => e = .returned (.int .i64 0) ∧ w' = w) := fun w => stepsIn_no _ _ _ w hox
        have HF : Hid (Ps.flat W H (k + 1) = l ∧ Ps.cnt W H (k + 1) = c) := by
          have := Ps.flat_no (fun g => hox (HOK.out.1 g).1)
          rw [← HC.out.1, ← HC.out.2] at this; exact this
        have HS2 : Hid (∃ m : Nat, m ≤ 28 ∧ ∀ w : World, Calls Try.prog 39 #[.int .i64 (Ps.py k : Int), .int .i64 (Ps.dy k : Int), .int .i64 (H : Int)] w fun e w' => e = .returned (.int .i64 (m : Int)) ∧ w' = w) := by
          by_cases hoy : Ps.py k < H
          · exact ⟨_, Ps.num_le be1 be8 hH.2, fun w => stepsIn_yes _ _ _ w hoy be1 be8 hH.2⟩
          · exact ⟨0, by omega, fun w => stepsIn_no _ _ _ w hoy⟩
        obtain ⟨m, hm28, hSS⟩ := HS2.out
        have HS3 : Hid (∀ w : World, Calls Try.prog 39 #[.int .i64 (Ps.py k : Int), .int .i64 (Ps.dy k : Int), .int .i64 (H : Int)] w fun e w' => e = .returned (.int .i64 (m : Int)) ∧ w' = w) := hSS
        have H4 : Hid (∀ o, OwnPs (wr.alloc o) (w.heap.size + 1) _ c l ∧ Below (w.heap.size + 1) w1 (wr.alloc o)) := fun o => ⟨World.ownsRow.alloc hown _, hbel.alloc hbs _⟩
        clear hn1 hn2 HOK HR HC hox hown hbel hSS HS2
        generalize Ps.px k = x at *
        generalize Ps.py k = y at *
        generalize Ps.dx k = p at *
        generalize Ps.dy k = q at *
        go_wp2_with fail
        refine (HS1.out _).mono ?_
        rintro e w9 ⟨rfl, hw⟩; subst hw
        go_wp2_with fail
        refine (HS3.out _).mono ?_
        rintro e w9 ⟨rfl, hw⟩; subst hw
        clear HS1 HS3 hix
        go_wp2_with fail
        go_roundw
        case rel => exact ⟨k + 1, c, _, by omega, by go_num, HF.out.2.symm, HF.out.1.symm, (H4.out _).1, (H4.out _).2⟩
        case measure => simp [intOf]; omega
    · have hk' : k = 7 := by omega
      subst hk'
      obtain ⟨ao, cap, rfl, hO⟩ := hown.owns
      have HO : Hid (Owns wr (w.heap.size + 1) ao l) := hO
      have HBB : Hid (Below w.heap.size w wr) := HB1.out.trans (hbel.mono (show w.heap.size ≤ w.heap.size + 1 by omega))
      clear hown hbel hO
      go_wp2_with fail
      go_ret
      exact ⟨⟨ao, cap, by rw [← HC.out.1]; rfl, by rw [← HC.out.2]; exact owns_lower HO.out (by omega)⟩, HBB.out⟩

set_option maxHeartbeats 1000000 in
theorem impl_passes (wd hi : Int) (w : World) :
    Calls Try.prog 10 #[.int .i64 wd, .int .i64 hi] w fun e w' => (∃ ao cap, e = .returned (.slice ao (psN wd hi) cap) ∧ Owns w' w.heap.size ao (psL wd hi)) ∧ Below w.heap.size w w' := by
  by_cases h1 : 1 ≤ wd ∧ wd ≤ 20
  · by_cases h2 : 1 ≤ hi ∧ hi ≤ 20
    · have HP := ps_yes (wd := wd) (hi := hi) ⟨h1, h2⟩
      obtain ⟨W, rfl⟩ := Int.eq_ofNat_of_zero_le (show 0 ≤ wd by omega)
      obtain ⟨H, rfl⟩ := Int.eq_ofNat_of_zero_le (show 0 ≤ hi by omega)
      rw [Int.toNat_natCast, Int.toNat_natCast] at HP
      rw [HP.1, HP.2]
      exact impl_passes_yes W H w (by omega) (by omega)
    · have HL1 : Hid (∀ w : World, Calls Try.prog 38 #[.int .i64 wd] w fun e w' => e = .returned (.bool true) ∧ w' = w) := fun w => sizeOk_yes _ w h1
      have HL2 : Hid (∀ w : World, Calls Try.prog 38 #[.int .i64 hi] w fun e w' => e = .returned (.bool false) ∧ w' = w) := fun w => sizeOk_no _ w h2
      have HP : Hid (psN wd hi = 0 ∧ psL wd hi = []) := ps_no (fun g => h2 g.2)
      clear h1 h2
      go_enter Try.func10, Try.ntmps10
      go_wp2_with fail
      refine (HL1.out _).mono ?_
      rintro e w1 ⟨rfl, hw⟩; subst hw
      go_wp2_with fail
      refine (HL2.out _).mono ?_
      rintro e w1 ⟨rfl, hw⟩; subst hw
      go_wp2_with fail
      go_ret
      exact ⟨⟨_, _, by rw [HP.out.1]; rfl, by rw [HP.out.2]; exact .inl rfl⟩, Below.refl _ _⟩
  · have HL1 : Hid (∀ w : World, Calls Try.prog 38 #[.int .i64 wd] w fun e w' => e = .returned (.bool false) ∧ w' = w) := fun w => sizeOk_no _ w h1
    have HP : Hid (psN wd hi = 0 ∧ psL wd hi = []) := ps_no (fun g => h1 g.1)
    clear h1
    go_enter Try.func10, Try.ntmps10
    go_wp2_with fail
    refine (HL1.out _).mono ?_
    rintro e w1 ⟨rfl, hw⟩; subst hw
    go_wp2_with fail
    go_ret
    exact ⟨⟨_, _, by rw [HP.out.1]; rfl, by rw [HP.out.2]; exact .inl rfl⟩, Below.refl _ _⟩
end Go.Proofs.Ytkghijlooefbhaa
