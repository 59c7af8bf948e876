/- Rows that are the same, wherever they lie. -/
import Derived.Test.YtlpfedhehfbfeaaReTop
namespace Go.Proofs.Ytlpfedhehfbfeaa
open Go.RowKit

set_option maxHeartbeats 1000000 in
theorem eqRows2_same (a : Option Addr) (cap : Nat) (b : Option Addr) (cap' n : Nat) (ls : List (List Int)) (w : World) (h1 : Rows2 w a ls) (h2 : Rows2 w b ls) (hl : ls.length = n) (hn : n ≤ 2000000) (hm : ∀ l ∈ ls, l.length ≤ 2000000) :
    Calls Try.prog 17 #[.slice a n cap, .slice b n cap'] w fun e w' => e = .returned (.bool true) ∧ ∃ m, w' = w.drewN m := by
  have H1 : Hid (Rows2 w a ls) := h1
  have H2 : Hid (Rows2 w b ls) := h2
  have HL : Hid (ls.length = n) := hl
  have HM : Hid (∀ l ∈ ls, l.length ≤ 2000000) := hm
  clear h1 h2 hl hm
  go_enter Try.func17, Try.ntmps17
  go_wp2_with fail
  go_loopw [5] (fun i wr => ∃ k m : Nat, k ≤ n ∧ i = .int .i64 k ∧ wr = w.drewN m) (fun i _ => n - (intOf i).toNat)
  case atStart => exact ⟨0, 0, Nat.zero_le _, rfl, rfl⟩
  case round =>
    obtain ⟨k, m, hk, rfl, hwr⟩ := hrel
    have HW : Hid (wr = w.drewN m) := hwr
    have hbw : Below w.heap.size w wr := by rw [hwr]; exact ⟨rfl, rfl, rfl, Nat.le_refl _, fun _ _ => rfl⟩
    clear hwr
    by_cases hlt : k < n
    · have hki : (k : Int) < (n : Int) := by omega
      have hkl : k < ls.length := by rw [HL.out]; exact hlt
      obtain ⟨R1, o1, a1, c1, rfl, e1, i1⟩ := (H1.out.kept hbw).at hkl
      obtain ⟨R2, o2, a2, c2, rfl, e2, i2⟩ := (H2.out.kept hbw).at hkl
      have HEQ : Hid (∀ q, Calls Try.prog 37 #[.slice a1 ls[k].length c1, .slice a2 ls[k].length c2] (wr.drewN q) fun e w' => e = .returned (.bool true) ∧ ∃ m', w' = (wr.drewN q).drewN m') := fun q => eqInts_same _ _ _ _ ls[k].length ls[k] (wr.drewN q) (i1.kept ⟨rfl, rfl, rfl, Nat.le_refl _, fun _ _ => rfl⟩) (i2.kept ⟨rfl, rfl, rfl, Nat.le_refl _, fun _ _ => rfl⟩) rfl (HM.out _ (List.getElem_mem hkl))
      generalize ls[k].length = z at *
      clear i1 i2 hkl hbw
      go_wp2_with fail
      go_quiet ((go_at_call 37; exact Calls.quiet_of (HEQ.out _)))
      all_goals go_wp2_with fail
      all_goals
        go_roundw
        case rel => exact ⟨k + 1, _, by omega, by go_num, by rw [HW.out, World.drewN_drewN]⟩
        case measure => simp [intOf]; omega
    · have hki : ¬ (k : Int) < (n : Int) := by omega
      go_wp2_with fail
      go_ret
      exact ⟨rfl, m, HW.out⟩
end Go.Proofs.Ytlpfedhehfbfeaa
