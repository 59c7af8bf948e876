/- A list of bits that came in: measured, copied, compared. -/
import Derived.Test.YtoocijfkckjbfaoBitOwn
import Derived.Deep.RegionHeld3
import Derived.Laws.MakeOwn
namespace Go.Proofs.Ytoocijfkckjbfao
open Go.RowKit

set_option maxHeartbeats 400000 in
theorem szBits_fits (a : Option Addr) (n cap : Nat) (w : World) (h : n ≤ 1048576) :
    Calls Try.prog 6 #[.slice a n cap, .int .i64 1048576] w fun e w' => e = .returned (.int .i64 (1048576 - (n : Int))) ∧ w' = w := by
  go_enter Try.func6, Try.ntmps6
  go_wp2_with fail
  go_ret
  exact ⟨rfl, rfl⟩
set_option maxHeartbeats 400000 in
theorem szBits_more (a : Option Addr) (n cap : Nat) (w : World) (h : 1048576 < n) (hm : n ≤ 9223372036854775807) :
    Calls Try.prog 6 #[.slice a n cap, .int .i64 1048576] w fun e w' => e = .returned (.int .i64 (-1)) ∧ w' = w := by
  go_enter Try.func6, Try.ntmps6
  go_wp2_with fail
  go_ret
  exact ⟨rfl, rfl⟩

set_option maxHeartbeats 400000 in
theorem toBit_any (v s : Int) (w : World) :
    Calls Try.prog 17 #[.agg #[.int .i64 v, .int .i64 s]] w fun e w' => e = .returned (.agg #[.int .i64 v, .int .i64 s]) ∧ Below w.heap.size w w' := by
  go_enter Try.func17, Try.ntmps17
  go_wp2_with fail
  refine bodyPost_ret (v := .agg #[.int .i64 v, .int .i64 s]) (by simp [results, Try.results17, go_sem]) rfl ⟨rfl, (((Below.refl _ _).alloc (Nat.le_refl _) _).alloc (by simp) _).alloc (by simp; omega) _⟩

set_option maxHeartbeats 400000 in
theorem eqBit_same (v s : Int) (w : World) :
    Calls Try.prog 21 #[.agg #[.int .i64 v, .int .i64 s], .agg #[.int .i64 v, .int .i64 s]] w fun e w' => e = .returned (.bool true) ∧ Below w.heap.size w w' := by
  go_enter Try.func21, Try.ntmps21
  go_wp2_with fail
  go_ret
  exact ⟨rfl, ((Below.refl _ _).alloc (Nat.le_refl _) _).alloc (by simp) _⟩

theorem cellsOf_set : ∀ (l : List (Int × Int)) (k : Nat) (v s : Int), k < l.length → ((cellsOf l).set (k * 2) (.int .i64 v)).set (k * 2 + 1) (.int .i64 s) = cellsOf (l.set k (v, s))
  | [], k, v, s, h => by simp at h
  | p :: l, 0, v, s, h => by simp [cellsOf]
  | p :: l, k + 1, v, s, h => by
    have := cellsOf_set l k v s (by simpa using h)
    rw [show (k + 1) * 2 = k * 2 + 1 + 1 by omega]
    simp only [cellsOf, List.set_cons_succ]
    rw [this]

theorem OwnP.put {w : World} {B n g cap k : Nat} {l : List (Int × Int)} (h : OwnP w B (.slice (some ⟨g, 0, none⟩) n cap) n l) (hk : k < n) (v s : Int) :
    OwnP ((w.setCell ⟨g, k * 2, none⟩ (.int .i64 v)).setCell ⟨g, k * 2 + 1, none⟩ (.int .i64 s)) B (.slice (some ⟨g, 0, none⟩) n cap) n (l.set k (v, s)) := by
  have h1 := (World.ownsRow.stored h (k * 2) (.int .i64 v)).1
  have h2 := (World.ownsRow.stored h1 (k * 2 + 1) (.int .i64 s)).1
  rw [cellsOf_set l k v s (by rw [h.len]; exact hk)] at h2
  exact h2

/-- the first k are copied, the others are nothing yet -/
def half (l : List (Int × Int)) (k : Nat) : List (Int × Int) := l.take k ++ List.replicate (l.length - k) (0, 0)
theorem half_zero (l : List (Int × Int)) : half l 0 = List.replicate l.length (0, 0) := by simp [half]
theorem half_all (l : List (Int × Int)) : half l l.length = l := by simp [half]
theorem half_set (l : List (Int × Int)) (k : Nat) (h : k < l.length) : (half l k).set k ((l[k]).1, (l[k]).2) = half l (k + 1) := by
  unfold half
  rw [List.take_succ_eq_append_getElem h, show l.length - k = (l.length - (k + 1)) + 1 by omega, List.replicate_succ, List.append_assoc]
  have e : (l.take k).length = k := by rw [List.length_take]; omega
  rw [List.set_append_right _ _ (by omega), e, Nat.sub_self]
  rfl
theorem half_get (l : List (Int × Int)) (k : Nat) (h : k < l.length) : k < (half l k).length := by
  unfold half; simp; omega

theorem cells_zero : ∀ n, cellsOf (List.replicate n (0, 0)) = List.replicate (n * 2) (.int .i64 0)
  | 0 => rfl
  | n + 1 => by rw [List.replicate_succ, cellsOf, cells_zero n, show (n + 1) * 2 = n * 2 + 1 + 1 by omega, List.replicate_succ, List.replicate_succ]

theorem made_zero (n : Nat) : (madeCells #[Value.int .i64 0, .int .i64 0] (n * 2)).toList = List.replicate (n * 2) (.int .i64 0) := by
  apply List.ext_getElem?
  intro j
  by_cases hj : j < n * 2
  · simp only [madeCells, List.getElem?_replicate, if_pos hj]
    have : j % 2 = 0 ∨ j % 2 = 1 := by omega
    rcases this with h | h <;> simp [hj, h]
  · rw [List.getElem?_eq_none (by simp [size_madeCells]; omega), List.getElem?_eq_none (by simp; omega)]

theorem make_pairs (n : Nat) (hl : n ≤ 2000000) (w : World) :
    (Instr.makeSlice 25 (.int .i64 (n : Int)) (.int .i64 (n : Int))).run Try.prog w = .ok (.slice (some ⟨w.heap.size, 0, none⟩) n n) (w.alloc (.cells (madeCells #[.int .i64 0, .int .i64 0] (n * 2)) 36)) := by
  obtain ⟨i0, hi, hz0, hz1, hz2⟩ := info_parts info_bit
  have h := run_make (P := Try.prog) w 25 36 i0 (.agg #[.int .i64 0, .int .i64 0]) Try.underlying25 hi hz0 .i64 .i64 (n : Int) (n : Int) (by omega) (by omega) (by rw [hz2]; omega) (by omega)
  rw [h, Int.toNat_natCast, hz1]
  rfl

theorem own_made (w : World) (l : List (Int × Int)) (hl : l.length ≤ 2000000) : OwnP (w.alloc (.cells (madeCells #[.int .i64 0, .int .i64 0] (l.length * 2)) 36)) w.heap.size (.slice (some ⟨w.heap.size, 0, none⟩) l.length l.length) l.length (half l 0) := by
  unfold OwnP
  rw [half_zero, cells_zero, ← made_zero]
  exact World.ownsRow_lit w _ l.length (Nat.le_refl _) (by unfold maxLen; omega) (by rw [size_madeCells])

set_option maxHeartbeats 1000000 in
theorem toBits_any (a : Option Addr) (n cap : Nat) (l : List (Int × Int)) (w : World) (h : Bits2 w a l) (hn : l.length = n) (hl : n ≤ 2000000) :
    Calls Try.prog 8 #[.slice a n cap] w fun e w' => e = .returned (.slice (some ⟨w.heap.size, 0, none⟩) n n) ∧ Bits2 w' (some ⟨w.heap.size, 0, none⟩) l ∧ Below w.heap.size w w' := by
  have hmk := fun w => make_pairs n hl w
  have hO := own_made w l (by omega)
  rw [hn] at hO
  have HO : Hid (OwnP _ _ _ _ _) := hO
  have HN : Hid (l.length = n) := hn
  have HI : Hid (Bits2 w a l) := h
  have hzl : l.length ≤ n := by omega
  have hzg : n ≤ l.length := by omega
  clear h hO hn
  go_enter Try.func8, Try.ntmps8
  go_wp2_with fail
  go_loopw [4] (fun i wr => ∃ k : Nat, k ≤ n ∧ i = .int .i64 k ∧ OwnP wr w.heap.size (.slice (some ⟨w.heap.size, 0, none⟩) n n) n (half l k) ∧ Below w.heap.size w wr) (fun i _ => n - (intOf i).toNat)
  case atStart => exact ⟨0, Nat.zero_le _, rfl, HO.out, (Below.refl _ _).alloc (Nat.le_refl _) _⟩
  case round =>
    obtain ⟨k, hk, rfl, hown, hbel⟩ := hrel
    clear hmk HO
    by_cases hlt : k < n
    · have hkl : k < l.length := by omega
      obtain ⟨b, off, rfl, hbB, hc1, hc2⟩ := HI.out.at hkl
      have e1 := (hbel.cell (p := ⟨b, off + k * 2, none⟩) hbB).trans hc1
      have e2 := (hbel.cell (p := ⟨b, off + k * 2 + 1, none⟩) hbB).trans hc2
      have HS : Hid ((half l k).set k ((l[k]).1, (l[k]).2) = half l (k + 1)) := half_set l k hkl
      have hki : (k : Int) < (n : Int) := by omega
      have HT := fun w => toBit_any (l[k]).1 (l[k]).2 w
      clear hc1 hc2
      generalize (l[k]).1 = v at *
      generalize (l[k]).2 = s at *
      have HTT : Hid (∀ w, Calls Try.prog 17 #[.agg #[.int .i64 v, .int .i64 s]] w fun e w' => e = .returned (.agg #[.int .i64 v, .int .i64 s]) ∧ Below w.heap.size w w') := HT
      clear HT
      go_wp2_with fail
      refine (HTT.out _).mono ?_
      rintro e w2 ⟨rfl, bel2⟩
      have hown2 : OwnP w2 w.heap.size (.slice (some ⟨w.heap.size, 0, none⟩) n n) n (half l k) := hown.same (fun j hj _ => bel2.block j hj)
      have hb2 := hbel.trans (bel2.mono hbel.size)
      have hg := half_get l k hkl
      have hx1 : (cellsOf (half l k))[k * 2]? = some (.int .i64 ((half l k)[k]).1) := (cellsOf_get _ k hg).1
      have hx2 : (cellsOf (half l k))[k * 2 + 1]? = some (.int .i64 ((half l k)[k]).2) := (cellsOf_get _ k hg).2
      have g1 := (World.ownsRow.cellAt hown2 (k * 2) (by omega)).trans hx1
      have g2 := (World.ownsRow.cellAt hown2 (k * 2 + 1) (by omega)).trans hx2
      have z1 := World.ownsRow.frozenAt hown2 (k * 2)
      have z2 := World.ownsRow.frozenAt hown2 (k * 2 + 1)
      have hp := hown2.put hlt v s
      rw [HS.out] at hp
      have HP : Hid (OwnP _ _ _ _ _) := hp
      generalize ((half l k)[k]).1 = y1 at *
      generalize ((half l k)[k]).2 = y2 at *
      clear hp hown hown2 hx1 hx2 bel2 hbel e1 e2 HTT HS hg
      go_wp2_with fail
      go_roundw
      case rel => exact ⟨k + 1, by omega, by go_num, HP.out, (hb2.setCell (p := ⟨w.heap.size, k * 2, none⟩) (Nat.le_refl _) _).setCell (p := ⟨w.heap.size, k * 2 + 1, none⟩) (Nat.le_refl _) _⟩
      case measure => simp [intOf]; omega
    · have hk' : k = l.length := by omega
      have hfin := hown
      rw [hk', half_all] at hfin
      obtain ⟨ao, c, e, hB⟩ := hfin.bits
      simp only [Value.slice.injEq] at e
      obtain ⟨rfl, _, _⟩ := e
      have HBF : Hid (Bits2 wr (some ⟨w.heap.size, 0, none⟩) l) := hB
      clear hfin hown hB hk'
      go_wp2_with fail
      go_ret
      exact ⟨rfl, HBF.out, hbel⟩

set_option maxHeartbeats 1000000 in
theorem eqBits_same (a : Option Addr) (cap : Nat) (b : Option Addr) (cap' n : Nat) (l : List (Int × Int)) (w : World) (h : Bits2 w a l) (g : Bits2 w b l) (hn : l.length = n) (hl : n ≤ 2000000) :
    Calls Try.prog 10 #[.slice a n cap, .slice b n cap'] w fun e w' => e = .returned (.bool true) ∧ Below w.heap.size w w' := by
  have HI : Hid (Bits2 w a l) := h
  have HG : Hid (Bits2 w b l) := g
  have hzg : n ≤ l.length := by omega
  clear h g hn
  go_enter Try.func10, Try.ntmps10
  go_wp2_with fail
  go_loopw [5] (fun i wr => ∃ k : Nat, k ≤ n ∧ i = .int .i64 k ∧ Below w.heap.size w wr) (fun i _ => n - (intOf i).toNat)
  case atStart => exact ⟨0, Nat.zero_le _, rfl, Below.refl _ _⟩
  case round =>
    obtain ⟨k, hk, rfl, hbel⟩ := hrel
    by_cases hlt : k < n
    · have hkl : k < l.length := by omega
      obtain ⟨b1, off1, rfl, hb1, c1, c2⟩ := HI.out.at hkl
      obtain ⟨b2, off2, rfl, hb2, d1, d2⟩ := HG.out.at hkl
      have e1 := (hbel.cell (p := ⟨b1, off1 + k * 2, none⟩) hb1).trans c1
      have e2 := (hbel.cell (p := ⟨b1, off1 + k * 2 + 1, none⟩) hb1).trans c2
      have e3 := (hbel.cell (p := ⟨b2, off2 + k * 2, none⟩) hb2).trans d1
      have e4 := (hbel.cell (p := ⟨b2, off2 + k * 2 + 1, none⟩) hb2).trans d2
      have hki : (k : Int) < (n : Int) := by omega
      have HT := fun w => eqBit_same (l[k]).1 (l[k]).2 w
      clear c1 c2 d1 d2
      generalize (l[k]).1 = v at *
      generalize (l[k]).2 = s at *
      have HTT : Hid (∀ w, Calls Try.prog 21 #[.agg #[.int .i64 v, .int .i64 s], .agg #[.int .i64 v, .int .i64 s]] w fun e w' => e = .returned (.bool true) ∧ Below w.heap.size w w') := HT
      clear HT
      go_wp2_with fail
      go_region_with ((go_at_call 21; refine (HTT.out _).mono ?_; rintro e w2 ⟨rfl, bel2⟩))
      all_goals have hb9 := hbel.drew.trans (bel2.mono hbel.size)
      all_goals clear bel2 hbel e1 e2 e3 e4 HTT
      all_goals go_wp2_with fail
      all_goals
        go_roundw
        case rel => exact ⟨k + 1, by omega, by go_num, hb9⟩
        case measure => simp [intOf]; omega
    · go_wp2_with fail
      go_ret
      exact ⟨rfl, hbel⟩
end Go.Proofs.Ytoocijfkckjbfao
