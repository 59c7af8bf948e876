/- The reader of a code, by which inputs are drawn: it stands anywhere, it picks a number below a bound, and nothing but its own place turns. -/
import Derived.Test.YtcolgcddhchkhaaProg
import Derived.Test.YtcolgcddhchkhaaBase
namespace Go.Proofs.Ytcolgcddhchkhaa
open Go.RowKit

/-- the bytes of a code, below block B -/
def Row8 (w : World) (B : Nat) (a : Option Addr) (len : Nat) : Prop :=
  len = 0 ∨ ∃ b off, a = some ⟨b, off, none⟩ ∧ b < B ∧ ∀ i, i < len → ∃ c : Nat, c < 256 ∧ w.cell? ⟨b, off + i, none⟩ = some (.int .u8 (c : Int))

/-- a reader in block B, at place p -/
def RdAt (w : World) (B p : Nat) : Prop :=
  ∃ a len cap, w.cell? ⟨B, 0, none⟩ = some (.slice a len cap) ∧ w.cell? ⟨B, 1, none⟩ = some (.int .i64 (p : Int)) ∧ w.frozen? ⟨B, 1, none⟩ = false ∧ len ≤ 2000 ∧ Row8 w B a len

theorem RdAt.step {w : World} {B p : Nat} (h : RdAt w B p) (n : Nat) : RdAt ((w.setCell ⟨B, 1, none⟩ (.int .i64 ((p + 1 : Nat) : Int))).drewN n) B (p + 1) := by
  obtain ⟨a, len, cap, h0, h1, hf, hl, hr⟩ := h
  refine ⟨a, len, cap, ?_, ?_, ?_, hl, ?_⟩
  · rw [World.cell?_drewN, World.cell?_setCell_other _ _ _ _ (by simp)]; exact h0
  · rw [World.cell?_drewN]; exact World.cell?_setCell_same _ _ _ h1
  · rw [World.frozen?_drewN, World.frozen?_setCell]; exact hf
  · rcases hr with h | ⟨b, off, rfl, hb, hc⟩
    · exact .inl h
    · refine .inr ⟨b, off, rfl, hb, fun i hi => ?_⟩
      obtain ⟨c, hc1, hc2⟩ := hc i hi
      refine ⟨c, hc1, ?_⟩
      rw [World.cell?_drewN, World.cell?_setCell_other _ _ _ _ (fun e => absurd (congrArg Addr.block e) (by show ¬ B = b; omega))]; exact hc2

theorem mix_mod (X n : Int) (h0 : 0 ≤ X) (h1 : X ≤ 1000000000000) (hn : 1 ≤ n) : ∃ v : Nat, (bits .xor .i64 X (X / 64)).tmod n = (v : Int) ∧ (v : Int) < n := by
  obtain ⟨A, rfl⟩ := Int.eq_ofNat_of_zero_le h0
  obtain ⟨N, rfl⟩ := Int.eq_ofNat_of_zero_le (show 0 ≤ n by omega)
  have e := i64_xor_nat A (A / 64) (by omega) (by omega)
  rw [show ((A / 64 : Nat) : Int) = (A : Int) / 64 from by omega] at e
  rw [e]
  refine ⟨(A ^^^ A / 64) % N, ?_, ?_⟩
  · rw [Int.tmod_eq_emod_of_nonneg (by omega)]; rfl
  · have := Nat.mod_lt (A ^^^ A / 64) (show 0 < N by omega); omega

set_option maxHeartbeats 400000 in
theorem pick_far (B p len cap b off : Nat) (n : Int) (w : World) (hn : 1 ≤ n) (hn' : n ≤ 1000000000) (hp : p ≤ 1000000000)
    (h0 : w.cell? ⟨B, 0, none⟩ = some (.slice (some ⟨b, off, none⟩) len cap)) (h1 : w.cell? ⟨B, 1, none⟩ = some (.int .i64 (p : Int))) (hf : w.frozen? ⟨B, 1, none⟩ = false) (hl : len ≤ 2000)
    (hz : ¬ len = 0) (hb : b < B) (hc : ∀ i, i < len → ∃ c : Nat, c < 256 ∧ w.cell? ⟨b, off + i, none⟩ = some (.int .u8 (c : Int))) (hlt : ¬ p < len) :
    Calls Try.prog 39 #[.pointer (some ⟨B, 0, none⟩), .int .i64 n] w fun e w' => ∃ v m : Nat, e = .returned (.int .i64 (v : Int)) ∧ (v : Int) < n ∧ w' = (w.setCell ⟨B, 1, none⟩ (.int .i64 ((p : Int) + 1))).drewN m := by
  have hd : decide (n < 1) = false := by simp; omega
  have hne : ((len : Int) == 0) = false := by simp; omega
  have hlt' : decide ((p : Int) < (len : Int)) = false := by simp; omega
  obtain ⟨c, hc1, hc2⟩ := hc (p % len) (Nat.mod_lt _ (by omega))
  obtain ⟨d, hd1, hd2⟩ := hc ((p * 7 + 3) % len) (Nat.mod_lt _ (by omega))
  have hw1 : (w.setCell ⟨B, 1, none⟩ (.int .i64 ((p : Int) + 1))).cell? ⟨b, off + p % len, none⟩ = some (.int .u8 (c : Int)) := by
    rw [World.cell?_setCell_other _ _ _ _ (fun e => absurd (congrArg Addr.block e) (by show ¬ B = b; omega))]; exact hc2
  have hw2 : (w.setCell ⟨B, 1, none⟩ (.int .i64 ((p : Int) + 1))).cell? ⟨b, off + (p * 7 + 3) % len, none⟩ = some (.int .u8 (d : Int)) := by
    rw [World.cell?_setCell_other _ _ _ _ (fun e => absurd (congrArg Addr.block e) (by show ¬ B = b; omega))]; exact hd2
  have m1 : (p : Int) % (len : Int) < (len : Int) := Int.emod_lt_of_pos _ (by omega)
  have m2 : 0 ≤ (p : Int) % (len : Int) := Int.emod_nonneg _ (by omega)
  have m3 : ((p : Int) * 7 + 3) % (len : Int) < (len : Int) := Int.emod_lt_of_pos _ (by omega)
  have m4 : 0 ≤ ((p : Int) * 7 + 3) % (len : Int) := Int.emod_nonneg _ (by omega)
  have m5 : (p : Int) / (len : Int) ≤ (p : Int) := Int.ediv_le_self _ (by omega)
  have m6 : 0 ≤ (p : Int) / (len : Int) := Int.ediv_nonneg (by omega) (by omega)
  clear hc hc2 hd2
  go_enter Try.func39, Try.ntmps39
  go_wp2
  go_region
  clear hw1 hw2 h0 h1 hf
  go_wp2
  go_ret
  obtain ⟨v, e, hv⟩ := mix_mod ((c : Int) * 131 + (d : Int) * 1117 + (p : Int) * 29 + (p : Int) / (len : Int) * 53) n (by omega) (by omega) hn
  exact ⟨v, 1, ret_int e, hv, rfl⟩

set_option maxHeartbeats 400000 in
theorem pick_any (B p : Nat) (n : Int) (w : World) (hr : RdAt w B p) (hn : 1 ≤ n) (hn' : n ≤ 1000000000) (hp : p ≤ 1000000000) :
    Calls Try.prog 39 #[.pointer (some ⟨B, 0, none⟩), .int .i64 n] w fun e w' => ∃ v m : Nat, e = .returned (.int .i64 (v : Int)) ∧ (v : Int) < n ∧ w' = (w.setCell ⟨B, 1, none⟩ (.int .i64 ((p + 1 : Nat) : Int))).drewN m := by
  obtain ⟨a, len, cap, h0, h1, hf, hl, hrow⟩ := hr
  have hd : decide (n < 1) = false := by simp; omega
  have hcast : ((p + 1 : Nat) : Int) = (p : Int) + 1 := by omega
  rw [hcast]; clear hcast
  by_cases hz : len = 0
  · subst hz
    go_enter Try.func39, Try.ntmps39
    go_wp2
    go_ret
    exact ⟨0, 0, rfl, by omega, rfl⟩
  · rcases hrow with h | ⟨b, off, rfl, hb, hc⟩
    · exact absurd h hz
    · have hne : ((len : Int) == 0) = false := by simp; omega
      by_cases hlt : p < len
      · obtain ⟨c, hc1, hc2⟩ := hc p hlt
        have hc3 : (w.setCell ⟨B, 1, none⟩ (.int .i64 ((p : Int) + 1))).cell? ⟨b, off + p, none⟩ = some (.int .u8 (c : Int)) := by
          rw [World.cell?_setCell_other _ _ _ _ (fun e => absurd (congrArg Addr.block e) (by show ¬ B = b; omega))]; exact hc2
        have hlt' : (p : Int) < (len : Int) := by omega
        clear hc hc2
        go_enter Try.func39, Try.ntmps39
        go_wp2
        go_ret
        obtain ⟨N, rfl⟩ := Int.eq_ofNat_of_zero_le (show 0 ≤ n by omega)
        exact ⟨c % N, 0, rfl, by have := Nat.mod_lt c (show 0 < N by omega); omega, rfl⟩
      · exact pick_far B p len cap b off n w hn hn' hp h0 h1 hf hl hz hb hc hlt
end Go.Proofs.Ytcolgcddhchkhaa
