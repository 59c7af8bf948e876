/- A list of tokens that came in: measured, copied, compared. -/
import Derived.Test.YticfbeihmkfifaaTkOwn
import Derived.Below
import Derived.Deep.RegionHeld3
namespace Go.Proofs.Yticfbeihmkfifaa
open Go.RowKit

set_option maxHeartbeats 400000 in
theorem szToks_fits (a : Option Addr) (n cap : Nat) (w : World) (h : n ≤ 1048576) :
    Calls Try.prog 9 #[.slice a n cap, .int .i64 1048576] w fun e w' => e = .returned (.int .i64 (1048576 - (n : Int))) ∧ w' = w := by
  go_enter Try.func9, Try.ntmps9
  go_wp2_with fail
  go_ret
  exact ⟨rfl, rfl⟩
set_option maxHeartbeats 400000 in
theorem szToks_more (a : Option Addr) (n cap : Nat) (w : World) (h : 1048576 < n) (hm : n ≤ 9223372036854775807) :
    Calls Try.prog 9 #[.slice a n cap, .int .i64 1048576] w fun e w' => e = .returned (.int .i64 (-1)) ∧ w' = w := by
  go_enter Try.func9, Try.ntmps9
  go_wp2_with fail
  go_ret
  exact ⟨rfl, rfl⟩

set_option maxHeartbeats 400000 in
theorem toTok_any (v s d : Int) (w : World) :
    Calls Try.prog 38 #[.agg #[.int .i64 v, .int .i64 s, .int .i64 d]] w fun e w' => e = .returned (.agg #[.int .i64 v, .int .i64 s, .int .i64 d]) ∧ Below w.heap.size w w' := by
  go_enter Try.func38, Try.ntmps38
  go_wp2_with fail
  refine bodyPost_ret (v := .agg #[.int .i64 v, .int .i64 s, .int .i64 d]) (by simp [results, Try.results38, go_sem]) rfl ⟨rfl, (((Below.refl _ _).alloc (Nat.le_refl _) _).alloc (by simp) _).alloc (by simp; omega) _⟩

set_option maxHeartbeats 1000000 in
theorem toToks_any (a : Option Addr) (n cap : Nat) (l : List Tk) (w : World) (h : Toks w a l) (hn : l.length = n) (hl : n ≤ 2000000) :
    Calls Try.prog 11 #[.slice a n cap] w fun e w' => e = .returned (.slice (some ⟨w.heap.size, 0, none⟩) n n) ∧ Toks w' (some ⟨w.heap.size, 0, none⟩) l ∧ Below w.heap.size w w' := by
  have hmk := fun w => make_toks n hl w
  have hO := own_tkmade w l (by omega)
  rw [hn] at hO
  have HO : Hid (OwnK _ _ _ _ _) := hO
  have HN : Hid (l.length = n) := hn
  have HI : Hid (Toks w a l) := h
  have hzl : l.length ≤ n := by omega
  have hzg : n ≤ l.length := by omega
  clear h hO hn
  go_enter Try.func11, Try.ntmps11
  go_wp2_with fail
  go_loopw [4] (fun i wr => ∃ k : Nat, k ≤ n ∧ i = .int .i64 k ∧ OwnK wr w.heap.size (.slice (some ⟨w.heap.size, 0, none⟩) n n) n (tkHalf l k) ∧ Below w.heap.size w wr) (fun i _ => n - (intOf i).toNat)
  case atStart => exact ⟨0, Nat.zero_le _, rfl, HO.out, (Below.refl _ _).alloc (Nat.le_refl _) _⟩
  case round =>
    obtain ⟨k, hk, rfl, hown, hbel⟩ := hrel
    clear hmk HO
    by_cases hlt : k < n
    · have hkl : k < l.length := by omega
      obtain ⟨b, off, rfl, hbB, hc1, hc2, hc3⟩ := HI.out.at hkl
      have e1 := (hbel.cell (p := ⟨b, off + k * 3, none⟩) hbB).trans hc1
      have e2 := (hbel.cell (p := ⟨b, off + k * 3 + 1, none⟩) hbB).trans hc2
      have e3 := (hbel.cell (p := ⟨b, off + k * 3 + 2, none⟩) hbB).trans hc3
      have HS : Hid ((tkHalf l k).set k ((l[k]).1, (l[k]).2.1, (l[k]).2.2) = tkHalf l (k + 1)) := tkHalf_set l k hkl
      have hki : (k : Int) < (n : Int) := by omega
      have HT := fun w => toTok_any (l[k]).1 (l[k]).2.1 (l[k]).2.2 w
      clear hc1 hc2 hc3
      generalize (l[k]).1 = v at *
      generalize (l[k]).2.1 = s at *
      generalize (l[k]).2.2 = d at *
      have HTT : Hid (∀ w, Calls Try.prog 38 #[.agg #[.int .i64 v, .int .i64 s, .int .i64 d]] w fun e w' => e = .returned (.agg #[.int .i64 v, .int .i64 s, .int .i64 d]) ∧ Below w.heap.size w w') := HT
      clear HT
      go_wp2_with fail
      refine (HTT.out _).mono ?_
      rintro e w2 ⟨rfl, bel2⟩
      have hown2 : OwnK w2 w.heap.size (.slice (some ⟨w.heap.size, 0, none⟩) n n) n (tkHalf l k) := hown.same (fun j hj _ => bel2.block j hj)
      have hb2 := hbel.trans (bel2.mono hbel.size)
      have hg := tkHalf_get l k hkl
      obtain ⟨hx1, hx2, hx3⟩ := tkCells_get (tkHalf l k) k hg
      have g1 := (World.ownsRow.cellAt hown2 (k * 3) (by omega)).trans hx1
      have g2 := (World.ownsRow.cellAt hown2 (k * 3 + 1) (by omega)).trans hx2
      have g3 := (World.ownsRow.cellAt hown2 (k * 3 + 2) (by omega)).trans hx3
      have z1 := World.ownsRow.frozenAt hown2 (k * 3)
      have z2 := World.ownsRow.frozenAt hown2 (k * 3 + 1)
      have z3 := World.ownsRow.frozenAt hown2 (k * 3 + 2)
      have hp := hown2.put hlt v s d
      rw [HS.out] at hp
      have HP : Hid (OwnK _ _ _ _ _) := hp
      generalize ((tkHalf l k)[k]).1 = y1 at *
      generalize ((tkHalf l k)[k]).2.1 = y2 at *
      generalize ((tkHalf l k)[k]).2.2 = y3 at *
      clear hp hown hown2 hx1 hx2 hx3 bel2 hbel e1 e2 e3 HTT HS hg
      go_wp2_with fail
      go_roundw
      case rel => exact ⟨k + 1, by omega, by go_num, HP.out, ((hb2.setCell (p := ⟨w.heap.size, k * 3, none⟩) (Nat.le_refl _) _).setCell (p := ⟨w.heap.size, k * 3 + 1, none⟩) (Nat.le_refl _) _).setCell (p := ⟨w.heap.size, k * 3 + 2, none⟩) (Nat.le_refl _) _⟩
      case measure => simp [intOf]; omega
    · have hk' : k = l.length := by omega
      have hfin := hown
      rw [hk', tkHalf_all] at hfin
      obtain ⟨ao, c, e, hB⟩ := hfin.toks
      simp only [Value.slice.injEq] at e
      obtain ⟨rfl, _, _⟩ := e
      have HBF : Hid (Toks wr (some ⟨w.heap.size, 0, none⟩) l) := hB
      clear hfin hown hB hk'
      go_wp2_with fail
      go_ret
      exact ⟨rfl, HBF.out, hbel⟩

set_option maxHeartbeats 400000 in
theorem eqTok_same (v s d : Int) (w : World) :
    Calls Try.prog 42 #[.agg #[.int .i64 v, .int .i64 s, .int .i64 d], .agg #[.int .i64 v, .int .i64 s, .int .i64 d]] w fun e w' => e = .returned (.bool true) ∧ Below w.heap.size w w' := by
  go_enter Try.func42, Try.ntmps42
  go_wp2_with fail
  go_ret
  exact ⟨rfl, ((Below.refl _ _).alloc (Nat.le_refl _) _).alloc (by simp) _⟩

set_option maxHeartbeats 1000000 in
theorem eqToks_same (a : Option Addr) (cap : Nat) (b : Option Addr) (cap' n : Nat) (l : List Tk) (w : World) (h : Toks w a l) (g : Toks w b l) (hn : l.length = n) (hl : n ≤ 2000000) :
    Calls Try.prog 13 #[.slice a n cap, .slice b n cap'] w fun e w' => e = .returned (.bool true) ∧ Below w.heap.size w w' := by
  have HI : Hid (Toks w a l) := h
  have HG : Hid (Toks w b l) := g
  have hzg : n ≤ l.length := by omega
  clear h g hn
  go_enter Try.func13, Try.ntmps13
  go_wp2_with fail
  go_loopw [5] (fun i wr => ∃ k : Nat, k ≤ n ∧ i = .int .i64 k ∧ Below w.heap.size w wr) (fun i _ => n - (intOf i).toNat)
  case atStart => exact ⟨0, Nat.zero_le _, rfl, Below.refl _ _⟩
  case round =>
    obtain ⟨k, hk, rfl, hbel⟩ := hrel
    by_cases hlt : k < n
    · have hkl : k < l.length := by omega
      obtain ⟨b1, off1, rfl, hb1, c1, c2, c3⟩ := HI.out.at hkl
      obtain ⟨b2, off2, rfl, hb2, d1, d2, d3⟩ := HG.out.at hkl
      have e1 := (hbel.cell (p := ⟨b1, off1 + k * 3, none⟩) hb1).trans c1
      have e2 := (hbel.cell (p := ⟨b1, off1 + k * 3 + 1, none⟩) hb1).trans c2
      have e3 := (hbel.cell (p := ⟨b1, off1 + k * 3 + 2, none⟩) hb1).trans c3
      have e4 := (hbel.cell (p := ⟨b2, off2 + k * 3, none⟩) hb2).trans d1
      have e5 := (hbel.cell (p := ⟨b2, off2 + k * 3 + 1, none⟩) hb2).trans d2
      have e6 := (hbel.cell (p := ⟨b2, off2 + k * 3 + 2, none⟩) hb2).trans d3
      have hki : (k : Int) < (n : Int) := by omega
      have HT := fun w => eqTok_same (l[k]).1 (l[k]).2.1 (l[k]).2.2 w
      clear c1 c2 c3 d1 d2 d3
      generalize (l[k]).1 = v at *
      generalize (l[k]).2.1 = s at *
      generalize (l[k]).2.2 = d at *
      have HTT : Hid (∀ w, Calls Try.prog 42 #[.agg #[.int .i64 v, .int .i64 s, .int .i64 d], .agg #[.int .i64 v, .int .i64 s, .int .i64 d]] w fun e w' => e = .returned (.bool true) ∧ Below w.heap.size w w') := HT
      clear HT
      go_wp2_with fail
      go_region_with ((go_at_call 42; refine (HTT.out _).mono ?_; rintro e w2 ⟨rfl, bel2⟩))
      all_goals have hb9 := hbel.drew.trans (bel2.mono hbel.size)
      all_goals clear bel2 hbel e1 e2 e3 e4 e5 e6 HTT
      all_goals go_wp2_with fail
      all_goals
        go_roundw
        case rel => exact ⟨k + 1, by omega, by go_num, hb9⟩
        case measure => simp [intOf]; omega
    · go_wp2_with fail
      go_ret
      exact ⟨rfl, hbel⟩
end Go.Proofs.Yticfbeihmkfifaa
