/- A list of tokens that came in: measured, copied, compared. -/
import Derived.Test.YtmfnepibhhhdcaaTkOwn
import Derived.Below
import Derived.Deep.RegionHeld3
namespace Go.Proofs.Ytmfnepibhhhdcaa
open Go.RowKit

set_option maxHeartbeats 400000 in
theorem eqTok_same (v s d : Int) (w : World) :
    Calls Try.prog 48 #[.agg #[.int .i64 v, .int .i64 s, .int .i64 d], .agg #[.int .i64 v, .int .i64 s, .int .i64 d]] w fun e w' => e = .returned (.bool true) ∧ Below w.heap.size w w' := by
  go_enter Try.func48, Try.ntmps48
  go_wp2_with fail
  go_ret
  exact ⟨rfl, ((Below.refl _ _).alloc (Nat.le_refl _) _).alloc (by simp) _⟩

set_option maxHeartbeats 1000000 in
theorem eqToks_same (a : Option Addr) (cap : Nat) (b : Option Addr) (cap' n : Nat) (l : List Tk) (w : World) (h : Toks w a l) (g : Toks w b l) (hn : l.length = n) (hl : n ≤ 2000000) :
    Calls Try.prog 16 #[.slice a n cap, .slice b n cap'] w fun e w' => e = .returned (.bool true) ∧ Below w.heap.size w w' := by
  have HI : Hid (Toks w a l) := h
  have HG : Hid (Toks w b l) := g
  have hzg : n ≤ l.length := by omega
  clear h g hn
  go_enter Try.func16, Try.ntmps16
  go_wp2_with fail
  go_loopw [5] (fun i wr => ∃ k : Nat, k ≤ n ∧ i = .int .i64 k ∧ Below w.heap.size w wr) (fun i _ => n - (intOf i).toNat)
  case atStart => exact ⟨0, Nat.zero_le _, rfl, Below.refl _ _⟩
  case round =>
    obtain ⟨k, hk, rfl, hbel⟩ := hrel
    by_cases hlt : k < n
    · have hkl : k < l.length := by omega
      obtain ⟨b1, off1, rfl, hb1, c1, c2, c3⟩ := HI.out.at hkl
      obtain ⟨b2, off2, rfl, hb2, d1, d2, d3⟩ := HG.out.at hkl
      have e1 := (hbel.cell (p := ⟨b1, off1 + k * 3, none⟩) hb1).trans c1
      have e2 := (hbel.cell (p := ⟨b1, off1 + k * 3 + 1, none⟩) hb1).trans c2
      have e3 := (hbel.cell (p := ⟨b1, off1 + k * 3 + 2, none⟩) hb1).trans c3
      have e4 := (hbel.cell (p := ⟨b2, off2 + k * 3, none⟩) hb2).trans d1
      have e5 := (hbel.cell (p := ⟨b2, off2 + k * 3 + 1, none⟩) hb2).trans d2
      have e6 := (hbel.cell (p := ⟨b2, off2 + k * 3 + 2, none⟩) hb2).trans d3
      have hki : (k : Int) < (n : Int) := by omega
      have HT := fun w => eqTok_same (l[k]).1 (l[k]).2.1 (l[k]).2.2 w
      clear c1 c2 c3 d1 d2 d3
      generalize (l[k]).1 = v at *
      generalize (l[k]).2.1 = s at *
      generalize (l[k]).2.2 = d at *
      have HTT : Hid (∀ w, Calls Try.prog 48 #[.agg #[.int .i64 v, .int .i64 s, .int .i64 d], .agg #[.int .i64 v, .int .i64 s, .int .i64 d]] w fun e w' => e = .returned (.bool true) ∧ Below w.heap.size w w') := HT
      clear HT
      go_wp2_with fail
      go_region_with ((go_at_call 48; refine (HTT.out _).mono ?_; rintro e w2 ⟨rfl, bel2⟩))
      all_goals have hb9 := hbel.drew.trans (bel2.mono hbel.size)
      all_goals clear bel2 hbel e1 e2 e3 e4 e5 e6 HTT
      all_goals go_wp2_with fail
      all_goals
        go_roundw
        case rel => exact ⟨k + 1, by omega, by go_num, hb9⟩
        case measure => simp [intOf]; omega
    · go_wp2_with fail
      go_ret
      exact ⟨rfl, hbel⟩
end Go.Proofs.Ytmfnepibhhhdcaa
