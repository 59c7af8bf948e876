/- Two lists of tokens held against each other by the laws. -/
import Derived.Test.YtmfnepibhhhdcaaTkRow
import Derived.Laws.StructEq
import Derived.Below
import Derived.BigQuiet
import Derived.Deep.QuietTactic
namespace Go.Proofs.Ytmfnepibhhhdcaa
open Go.RowKit

set_option maxHeartbeats 1000000 in
set_option maxRecDepth 40000 in
theorem wiToks_same (a : Option Addr) (cap : Nat) (b : Option Addr) (cap' n : Nat) (l : List Tk) (w : World) (h : Toks w a l) (g : Toks w b l) (hn : l.length = n) (hl : n ≤ 2000000) :
    Calls Try.prog 20 #[.slice a n cap, .slice b n cap'] w fun e w' => e = .returned (.bool true) ∧ ∃ m, w' = w.drewN m := by
  have HI : Hid (Toks w a l) := h
  have HG : Hid (Toks w b l) := g
  have hzg : n ≤ l.length := by omega
  have t1 := Try.underlying39
  have t4 := Try.underlying3
  have t2 : Try.prog.stoodInHeld 39 = false := by kernel_rfl
  have t3 : Try.prog.eqGuardType Try.prog.depth 39 = false := by kernel_rfl
  clear h g hn
  go_enter Try.func20, Try.ntmps20
  go_wp2_with fail
  go_loopw [5] (fun i wr => ∃ k m : Nat, k ≤ n ∧ i = .int .i64 k ∧ wr = w.drewN m) (fun i _ => n - (intOf i).toNat)
  case atStart => exact ⟨0, 0, Nat.zero_le _, rfl, rfl⟩
  case round =>
    obtain ⟨k, m, hk, rfl, hwr⟩ := hrel
    have HWR : Hid (wr = w.drewN m) := hwr
    by_cases hlt : k < n
    · have hkl : k < l.length := by omega
      obtain ⟨b1, off1, rfl, hb1, c0, c1, c2⟩ := HI.out.at hkl
      obtain ⟨b2, off2, rfl, hb2, d0, d1, d2⟩ := HG.out.at hkl
      have cc : ∀ a, wr.cell? a = w.cell? a := fun a => by rw [hwr]; rfl
      rw [← cc] at c0 c1 c2 d0 d1 d2
      have hki : (k : Int) < (n : Int) := by omega
      clear HI HG hwr cc
      generalize (l[k]).1 = v0 at *
      generalize (l[k]).2.1 = v1 at *
      generalize (l[k]).2.2 = v2 at *
      go_wp2_with fail
      go_quiet (fail)
      go_wp2_with fail
      go_roundw
      case rel => exact ⟨k + 1, m + nq, by omega, by go_num, by rw [HWR.out, World.drewN_drewN]⟩
      case measure => simp [intOf]; omega
    · clear hwr
      go_wp2_with fail
      go_ret
      exact ⟨rfl, m, HWR.out⟩
end Go.Proofs.Ytmfnepibhhhdcaa
