/- Bits packed into bytes, as the program does it: a writer behind an interface. -/
import Derived.Test.YtjfihmpnbblomaaBgImpl
import Derived.Test.YtjfihmpnbblomaaBpRow
import Derived.Test.YtjfihmpnbblomaaBitRow
import Derived.Deep.RegionHeld3
import Derived.StillTailTactics
namespace Go.Proofs.Ytjfihmpnbblomaa
open Go.RowKit

/-- a writer of bits in block B: N bits of f are written -/
structure Writes (w : World) (B : Nat) (hi : Bool) (f : Nat → Nat) (N : Nat) : Prop where
  c0 : w.cell? ⟨B, 0, none⟩ = some (ordV hi)
  c1 : ∃ v L, w.cell? ⟨B, 1, none⟩ = some v ∧ OwnB w (B + 1) v L (Bp.pack hi f N) ∧ L = (N + 7) / 8
  c2 : w.cell? ⟨B, 2, none⟩ = some (.int .i64 (N : Int))
  f1 : w.frozen? ⟨B, 1, none⟩ = false
  f2 : w.frozen? ⟨B, 2, none⟩ = false
  lt : B < w.heap.size

theorem u8_or_nat (a b : Nat) (ha : a < 256) (hb : b < 256) : bits .or .u8 (a : Int) (b : Int) = ((a ||| b : Nat) : Int) := by
  have hx : a ||| b < 2 ^ 8 := Nat.or_lt_two_pow (by omega) (by omega)
  show IntKind.u8.wrap ((BitVec.ofInt 8 (a : Int) ||| BitVec.ofInt 8 (b : Int)).toNat : Int) = _
  have e : ∀ c : Nat, c < 256 → (BitVec.ofInt 8 (c : Int)).toNat = c := by
    intro c hc
    rw [BitVec.ofInt_natCast, BitVec.toNat_ofNat]; exact Nat.mod_eq_of_lt (by omega)
  rw [BitVec.toNat_or, e a ha, e b hb]
  simp [IntKind.wrap, IntKind.bits, IntKind.signed]; omega

theorem wrap_u8_nat' (a : Nat) (ha : a < 256) : IntKind.u8.wrap (a : Int) = (a : Int) := by
  simp [IntKind.wrap, IntKind.bits, IntKind.signed]; omega

set_option maxHeartbeats 400000 in
theorem wroom_any (B N : Nat) (hi : Bool) (f : Nat → Nat) (w : World) (h : Writes w B hi f N) (hN : N ≤ 72000) :
    Calls Try.prog 99 #[.pointer (some ⟨B, 0, none⟩)] w fun e w' => e = .returned (.int .i64 (72000 - (N : Int))) ∧ w' = w := by
  have h2 := h.c2
  clear h
  go_enter Try.func99, Try.ntmps99
  go_wp2_with fail
  go_ret
  exact ⟨rfl, rfl⟩

/-- behind the last store the writer is one bit further -/
theorem Writes.next {w : World} {B g j L cap N y : Nat} {hi : Bool} {f : Nat → Nat} {o : List Nat} (h0 : w.cell? ⟨B, 0, none⟩ = some (ordV hi)) (h1 : w.cell? ⟨B, 1, none⟩ = some (.slice (some ⟨g, 0, none⟩) L cap)) (h2 : w.cell? ⟨B, 2, none⟩ = some (.int .i64 (N : Int))) (hf1 : w.frozen? ⟨B, 1, none⟩ = false) (hf2 : w.frozen? ⟨B, 2, none⟩ = false) (hlt : B < w.heap.size) (hg : B < g)
    (hown : OwnB w (B + 1) (.slice (some ⟨g, 0, none⟩) L cap) L o) (ho : o = Bp.room N (Bp.pack hi f N)) (hj : j = N / 8) (hL : L = (N + 1 + 7) / 8) (hy : y = o.getD j 0 + f N * 2 ^ Bg.spot hi N) :
    Writes ((w.setCell ⟨g, j, none⟩ (.int .u8 (y : Int))).setCell ⟨B, 2, none⟩ (.int .i64 ((N : Int) + 1))) B hi f (N + 1) := by
  subst ho
  have hs := hown.step hj hy
  have hne : ∀ o', ¬ ((⟨g, j, none⟩ : Addr) = ⟨B, o', none⟩) := fun o' e => absurd (congrArg Addr.block e) (show ¬ g = B by omega)
  refine ⟨?_, ⟨.slice (some ⟨g, 0, none⟩) L cap, L, ?_, ?_, hL⟩, ?_, ?_, ?_, ?_⟩
  · rw [World.cell?_setCell_other _ _ _ _ (fun e => absurd (congrArg Addr.off e) (show ¬ (2 : Nat) = 0 by omega)), World.cell?_setCell_other _ _ _ _ (hne 0)]; exact h0
  · rw [World.cell?_setCell_other _ _ _ _ (fun e => absurd (congrArg Addr.off e) (show ¬ (2 : Nat) = 1 by omega)), World.cell?_setCell_other _ _ _ _ (hne 1)]; exact h1
  · exact ownsRow_setCell_below hs (by show B < B + 1; omega) _
  · have : (w.setCell ⟨g, j, none⟩ (.int .u8 (y : Int))).cell? ⟨B, 2, none⟩ = some (.int .i64 (N : Int)) := by
      rw [World.cell?_setCell_other _ _ _ _ (hne 2)]; exact h2
    rw [World.cell?_setCell_same _ _ _ this]; rfl
  · rw [World.frozen?_setCell, World.frozen?_setCell]; exact hf1
  · rw [World.frozen?_setCell, World.frozen?_setCell]; exact hf2
  · simp; exact hlt
end Go.Proofs.Ytjfihmpnbblomaa
