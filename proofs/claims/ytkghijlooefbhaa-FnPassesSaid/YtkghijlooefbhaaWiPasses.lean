/- Lists of parts that are the same, and a size drawn. -/
import Derived.Test.YtkghijlooefbhaaPsWalks
import Derived.Test.YtkghijlooefbhaaDrawWalks
import Derived.Laws.StructEq
namespace Go.Proofs.Ytkghijlooefbhaa
open Go.RowKit

set_option maxHeartbeats 2000000 in
set_option maxRecDepth 40000 in
theorem wiPasses_same (a : Option Addr) (cap : Nat) (b : Option Addr) (cap' n : Nat) (l : List Int) (w : World) (h : Ints w a l) (g : Ints w b l) (hn : l.length = n * 6) (hl : n ≤ 20) :
    Calls Try.prog 11 #[.slice a n cap, .slice b n cap'] w fun e w' => e = .returned (.bool true) ∧ ∃ m, w' = w.drewN m := by
  have HI : Hid (∀ k, k < n → _) := fun k hk => ints_six h hn hk
  have HG : Hid (∀ k, k < n → _) := fun k hk => ints_six g hn hk
  have t1 := Try.underlying30
  have t4 := Try.underlying3
  have t2 : Try.prog.stoodInHeld 30 = false := by kernel_rfl
  have t3 : Try.prog.eqGuardType Try.prog.depth 30 = false := by kernel_rfl
  clear h g hn
  go_enter Try.func11, Try.ntmps11
  go_wp2_with fail
  go_loopw [5] (fun i wr => ∃ k m : Nat, k ≤ n ∧ i = .int .i64 k ∧ wr = w.drewN m) (fun i _ => n - (intOf i).toNat)
  case atStart => exact ⟨0, 0, Nat.zero_le _, rfl, rfl⟩
  case round =>
    obtain ⟨k, m, hk, rfl, hwr⟩ := hrel
    have HWR : Hid (wr = w.drewN m) := hwr
    by_cases hlt : k < n
    · obtain ⟨b1, off1, rfl, hb1, c0, c1, c2, c3, c4, c5⟩ := HI.out k hlt
      obtain ⟨b2, off2, rfl, hb2, d0, d1, d2, d3, d4, d5⟩ := HG.out k hlt
      have cc : ∀ a, wr.cell? a = w.cell? a := fun a => by rw [hwr]; rfl
      rw [← cc] at c0 c1 c2 c3 c4 c5 d0 d1 d2 d3 d4 d5
      have hki : (k : Int) < (n : Int) := by omega
      clear HI HG hwr cc
      generalize l.getD (k * 6) 0 = v0 at *
      generalize l.getD (k * 6 + 1) 0 = v1 at *
      generalize l.getD (k * 6 + 2) 0 = v2 at *
      generalize l.getD (k * 6 + 3) 0 = v3 at *
      generalize l.getD (k * 6 + 4) 0 = v4 at *
      generalize l.getD (k * 6 + 5) 0 = v5 at *
      go_wp2_with fail
      go_quiet (fail)
      go_wp2_with fail
      go_roundw
      case rel => exact ⟨k + 1, m + nq, by omega, by go_num, by rw [HWR.out, World.drewN_drewN]⟩
      case measure => simp [intOf]; omega
    · clear hwr
      go_wp2_with fail
      go_ret
      exact ⟨rfl, m, HWR.out⟩

set_option maxHeartbeats 400000 in
theorem drawPassesOf_any (a : Option Addr) (len cap : Nat) (w : World) (h : Code8 w a len cap) :
    Calls Try.prog 9 #[.slice a len cap] w fun e w' => (∃ x y : Nat, e = .returned (.tuple #[.int .i64 (x : Int), .int .i64 (y : Int)]) ∧ x ≤ 21 ∧ y ≤ 21) ∧ Below w.heap.size w w' := by
  go_enter Try.func9, Try.ntmps9
  go_wp2_with fail
  refine (open_any a len cap w h).mono ?_
  rintro e w1 ⟨rfl, hR, bel⟩
  clear h
  go_wp2_with fail
  refine (pick_named w.heap.size 0 22 _ hR (by omega) (by omega) (by omega)).mono ?_
  rintro e w2 ⟨x, rfl, hx, hR2, hO2, hs2⟩
  have bel2 := bel.trans hO2.below
  clear hR bel hO2 hs2
  go_wp2_with fail
  refine (pick_named w.heap.size 1 22 _ hR2 (by omega) (by omega) (by omega)).mono ?_
  rintro e w3 ⟨y, rfl, hy, hR3, hO3, hs3⟩
  have bel3 := bel2.trans hO3.below
  clear hR2 bel2 hO3 hs3 hR3
  go_wp2_with fail
  go_ret2
  exact ⟨⟨x, y, rfl, by omega, by omega⟩, bel3⟩
end Go.Proofs.Ytkghijlooefbhaa
