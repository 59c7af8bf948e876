/- A byte put into rows, by the program. -/
import Derived.Test.YtlpfedhehfbfeaaRlPutLow
import Derived.StillTailTactics
namespace Go.Proofs.Ytlpfedhehfbfeaa
open Go.RowKit

set_option maxHeartbeats 4000000 in
set_option maxRecDepth 100000 in
theorem sheetPut_any (base : Nat) (w : World) (B S R : Nat) (G : List Nat) (W : Nat) (ro : Option Addr) (cp : Nat) (s : ByteArray) (A x y : Nat) (g : Rl.Grid) (b : Int) (wr : World) (h : Rst base w B S R G W ro cp s A x y g wr) (ap : Apart B S R G ro) (hx9 : x ≤ 10000000) :
    Calls Try.prog 47 #[.pointer (some ⟨S, 0, none⟩), .int .i64 b] wr (PtEndR base w B S R G W ro cp s A x y g b) := by
  obtain ⟨c0, c1, c2, z1, z2⟩ := h.2.1.cells
  have HST : Hid (Rst base w B S R G W ro cp s A x y g wr) := h
  obtain ⟨H, hHe⟩ : ∃ H, H = G.length := ⟨_, rfl⟩
  rw [← hHe] at c0
  have HHE : Hid (H = G.length) := hHe
  clear h hHe
  by_cases hy : y < H
  · have dy : decide ((y : Int) < (H : Int)) = true := decide_eq_true (by omega)
    have hyi : (y : Int) < (H : Int) := by omega
    have hyG : y < G.length := by have := HHE.out; omega
    have hro : ro = some ⟨R, 0, none⟩ := by
      rcases ap.ro with h | h
      · rw [h] at hyG; simp at hyG
      · exact h
    have cr := HST.out.2.2.1.row y hyG
    obtain ⟨Q, hQ⟩ : ∃ Q, Q = G[y] := ⟨_, rfl⟩
    by_cases hx : x < W
    · have dx : decide ((x : Int) < (W : Int)) = true := decide_eq_true (by omega)
      have hxi : (x : Int) < (W : Int) := by omega
      obtain ⟨cn, zn⟩ := HST.out.2.2.1.num y hyG x hx
      have HF : Hid (∀ q : Nat, Rst base w B S R G W ro cp s A x y (Rl.upd g y x b) ((wr.drewN q).setCell ⟨Q, x, none⟩ (.int .i64 b))) := fun q => by rw [hQ]; exact (HST.out.drewN q).num ap hyG hx b
      rw [← hQ] at cr cn zn
      subst hro
      clear hQ
      go_enter Try.func47, Try.ntmps47
      go_wp2_with fail
      go_quiet ((go_at_call 31; exact Calls.quiet_of_same (insist_of _ 1 _ (by first | rfl | simp <;> omega))))
      have c0' : (wr.drewN nq).cell? ⟨S, 0, none⟩ = some (.slice (some ⟨R, 0, none⟩) H cp) := c0
      have c1' : (wr.drewN nq).cell? ⟨S, 1, none⟩ = some (.int .i64 (x : Int)) := c1
      have c2' : (wr.drewN nq).cell? ⟨S, 2, none⟩ = some (.int .i64 (y : Int)) := c2
      have z1' : (wr.drewN nq).frozen? ⟨S, 1, none⟩ = false := z1
      have cr' : (wr.drewN nq).cell? ⟨R, y, none⟩ = some (.slice (some ⟨Q, 0, none⟩) W W) := cr
      have cn' : (wr.drewN nq).cell? ⟨Q, x, none⟩ = some (.int .i64 (g y x)) := cn
      have zn' : (wr.drewN nq).frozen? ⟨Q, x, none⟩ = false := zn
      have HF1 : Hid (Rst base w B S R G W (some ⟨R, 0, none⟩) cp s A x y (Rl.upd g y x b) ((wr.drewN nq).drew.setCell ⟨Q, x, none⟩ (.int .i64 b))) := HF.out (nq + 1)
      generalize wr.drewN nq = w1 at *
      generalize g y x = u at *
      clear HF HST c0 c1 c2 z1 z2 cr cn zn dx dy
      go_wp2_with fail
      go_still_tail 16, (by kernel_rfl)
      have k1 : (w1.setCell ⟨Q, x, none⟩ (.int .i64 b)).cell? ⟨S, 1, none⟩ = some (.int .i64 (x : Int)) := HF1.out.2.1.cells.2.1
      have f1 : (w1.setCell ⟨Q, x, none⟩ (.int .i64 b)).frozen? ⟨S, 1, none⟩ = false := HF1.out.2.1.cells.2.2.2.1
      have HF2 : Hid (PtEndR base w B S R G W (some ⟨R, 0, none⟩) cp s A x y g b (.returned (.tuple #[])) ((w1.drew.setCell ⟨Q, x, none⟩ (.int .i64 b)).setCell ⟨S, 1, none⟩ (.int .i64 ((x : Int) + 1)))) := by
        have h1 := HF1.out.setX ap (x + 1)
        rw [show ((x + 1 : Nat) : Int) = (x : Int) + 1 by omega] at h1
        exact .inl ⟨⟨hyG, hx⟩, rfl, h1⟩
      clear HF1
      go_wp2_with fail
      go_end0
      exact HF2.out
    · have dx : decide ((x : Int) < (W : Int)) = false := decide_eq_false (by omega)
      have hxi : ¬ (x : Int) < (W : Int) := by omega
      have HF : Hid (∀ q : Nat, PtEndR base w B S R G W ro cp s A x y g b (fault 1) (wr.drewN q)) := fun q => .inr ⟨fun h => hx h.2, rfl, HST.out.2.2.2.drewN q⟩
      rw [← hQ] at cr
      subst hro
      clear hQ HST
      go_enter Try.func47, Try.ntmps47
      go_wp2_with fail
      go_still_tail 28, (by kernel_rfl)
      go_wp2_with fail
      refine (insist_no 1 _).mono ?_
      rintro e w2 ⟨rfl, hw2⟩
      have HF2 : Hid (PtEndR base w B S R G W (some ⟨R, 0, none⟩) cp s A x y g b (fault 1) w2) := by rw [hw2]; exact HF.out 1
      clear hw2 HF
      unfold fault
      go_wp2_with fail
      exact ⟨rfl, HF2.out⟩
  · exact sheetPut_low base w B S R G W ro cp s A x y g b wr HST.out (by have := HHE.out; omega)
end Go.Proofs.Ytlpfedhehfbfeaa
