/- The program plants a symbol in a tree. -/
import Derived.Test.YtjdilanmkgodnaaGtMem
import Derived.Test.YtjdilanmkgodnaaBgImpl
namespace Go.Proofs.Ytjdilanmkgodnaa
open Go.RowKit

/-- how plant ends -/
def Planted (w : World) (lo B : Nat) (N : Nat → Nat → Option Nat) (S : Nat → Nat → Int) (n V : Nat) (x : Int) (e : Ending) (w' : World) : Prop :=
  e = .returned (.tuple #[]) ∧ (∃ N', Tri w' lo N' (Gt.upd S n V x) ∧ N' 0 0 = some B ∧ ∀ d v b, N' d v = some b → N d v = some b ∨ w.heap.size ≤ b) ∧ Below lo w w' ∧ ∀ k, k < w.heap.size → (∀ d v, N d v ≠ some k) → w'.heap[k]? = w.heap[k]?

/-- on the way -/
def PlI (w : World) (lo B : Nat) (N : Nat → Nat → Option Nat) (S : Nat → Nat → Int) (d v b : Nat) (wr : World) : Prop :=
  (∃ N1, Tri wr lo N1 S ∧ N1 0 0 = some B ∧ N1 d v = some b ∧ ∀ d v b, N1 d v = some b → N d v = some b ∨ w.heap.size ≤ b) ∧ Below lo w wr ∧ ∀ k, k < w.heap.size → (∀ d v, N d v ≠ some k) → wr.heap[k]? = w.heap[k]?

theorem and_one (x q : Nat) (h : x < 65536) : bits .and .i64 ((x : Int) / 2 ^ q) 1 = ((x / 2 ^ q % 2 : Nat) : Int) := by
  have e : (x : Int) / 2 ^ q = ((x / 2 ^ q : Nat) : Int) := by simp
  have hl : x / 2 ^ q ≤ x := Nat.div_le_self _ _
  have := i64_and_nat (x / 2 ^ q) 1 (by omega) (by omega)
  rw [show ((1 : Nat) : Int) = 1 from rfl] at this
  rw [e, this, nat_mask1]

theorem PlI.down {w wr : World} {lo B : Nat} {N : Nat → Nat → Option Nat} {S : Nat → Nat → Int} {d v b t : Nat} (h : PlI w lo B N S d v b wr) (ht : t < 2) :
    (∃ b2, wr.cell? ⟨b, 1 + t, none⟩ = some (.pointer (some ⟨b2, 0, none⟩)) ∧ PlI w lo B N S (d + 1) (2 * v + t) b2 wr) ∨
    (wr.cell? ⟨b, 1 + t, none⟩ = some (.pointer none) ∧ wr.frozen? ⟨b, 1 + t, none⟩ = false ∧ b < wr.heap.size ∧ PlI w lo B N S (d + 1) (2 * v + t) wr.heap.size ((wr.alloc (.cells #[.int .i64 (-1), .pointer none, .pointer none, .int .i64 0, .int .i64 0] 79)).setCell ⟨b, 1 + t, none⟩ (.pointer (some ⟨wr.heap.size, 0, none⟩)))) := by
  obtain ⟨⟨N1, hT, h0, hb, hN⟩, hbel, hfr⟩ := h
  obtain ⟨_, c1, c2, _, f1, f2⟩ := hT.cells hb
  have hc : wr.cell? ⟨b, 1 + t, none⟩ = some (ptr (N1 (d + 1) (2 * v + t))) := by
    have : t = 0 ∨ t = 1 := by omega
    rcases this with rfl | rfl
    · exact c1
    · exact c2
  have hf : wr.frozen? ⟨b, 1 + t, none⟩ = false := by
    have : t = 0 ∨ t = 1 := by omega
    rcases this with rfl | rfl
    · exact f1
    · exact f2
  rcases hx : N1 (d + 1) (2 * v + t) with _ | b2
  · right
    rw [hx] at hc
    have hlo := (hT.node d v b hb).1
    have hblt := hT.lt hb
    refine ⟨hc, hf, hblt, ⟨addN N1 (d + 1) (2 * v + t) wr.heap.size, hT.grow hb ht hx (by omega), ?_, ?_, ?_⟩, ?_, ?_⟩
    · unfold addN; rw [if_neg (by omega)]; exact h0
    · unfold addN; rw [if_pos ⟨rfl, rfl⟩]
    · intro d' v' b' hb'
      unfold addN at hb'
      split at hb'
      · cases hb'; exact .inr hbel.size
      · exact hN d' v' b' hb'
    · exact (hbel.alloc (by omega) _).setCell (p := ⟨b, 1 + t, none⟩) hlo _
    · intro k hk hno
      have hkb : k ≠ b := fun e => by
        subst e
        rcases hN d v k hb with h1 | h1
        · exact hno d v h1
        · omega
      rw [Below.heap_setCell _ ⟨b, 1 + t, none⟩ _ _ hkb, Below.heap_alloc _ _ _ (by have := hbel.size; omega)]
      exact hfr k hk hno
  · left
    rw [hx] at hc
    exact ⟨b2, hc, ⟨N1, hT, h0, hx, hN⟩, hbel, hfr⟩
theorem PlI.done {w wr : World} {lo B : Nat} {N : Nat → Nat → Option Nat} {S : Nat → Nat → Int} {n V b : Nat} (h : PlI w lo B N S n V b wr) (x : Int) :
    (∃ y, wr.cell? ⟨b, 0, none⟩ = some (.int .i64 y)) ∧ wr.frozen? ⟨b, 0, none⟩ = false ∧ Planted w lo B N S n V x (.returned (.tuple #[])) (wr.setCell ⟨b, 0, none⟩ (.int .i64 x)) := by
  obtain ⟨⟨N1, hT, h0, hb, hN⟩, hbel, hfr⟩ := h
  obtain ⟨c0, _, _, f0, _, _⟩ := hT.cells hb
  have hlo := (hT.node n V b hb).1
  refine ⟨⟨_, c0⟩, f0, rfl, ⟨N1, hT.setSym hb x, h0, hN⟩, hbel.setCell (p := ⟨b, 0, none⟩) hlo _, fun k hk hno => ?_⟩
  have hkb : k ≠ b := fun e => by
    subst e
    rcases hN n V k hb with h1 | h1
    · exact hno n V h1
    · omega
  rw [Below.heap_setCell _ ⟨b, 0, none⟩ _ _ hkb]
  exact hfr k hk hno

set_option maxHeartbeats 2000000 in
set_option maxRecDepth 20000 in
theorem plant_any (lo B V n : Nat) (x : Int) (N : Nat → Nat → Option Nat) (S : Nat → Nat → Int) (w : World) (h : Tri w lo N S) (h0 : N 0 0 = some B) (hn : n ≤ 15) (hV : V < 2 ^ n) :
    Calls Try.prog 57 #[.pointer (some ⟨B, 0, none⟩), .int .i64 x, .int .i64 (V : Int), .int .i64 (n : Int)] w (Planted w lo B N S n V x) := by
  have hV2 : V < 65536 := Nat.lt_of_lt_of_le hV (Nat.le_trans (Nat.pow_le_pow_right (by omega) hn) (by decide))
  have HV : Hid (V < 2 ^ n) := hV
  have HS : Hid (PlI w lo B N S 0 (V / 2 ^ n) B w) := by
    rw [Nat.div_eq_of_lt hV]
    exact ⟨⟨N, h, h0, h0, fun d v b hb => .inl hb⟩, Below.refl _ _, fun _ _ _ => rfl⟩
  clear h h0 hV
  go_enter Try.func57, Try.ntmps57
  go_wp2_with fail
  go_loopw [0, 8] (fun p pl wr => ∃ d b : Nat, d ≤ n ∧ pl = .int .i64 ((n : Int) - 1 - (d : Int)) ∧ p = .pointer (some ⟨b, 0, none⟩) ∧ Hid (PlI w lo B N S d (V / 2 ^ (n - d)) b wr)) (fun _ pl _ => (intOf pl + 1).toNat)
  case atStart => exact ⟨0, B, Nat.zero_le _, by simp, rfl, HS⟩
  case round =>
    obtain ⟨d, b, hd, rfl, rfl, HP⟩ := hrel
    clear HS
    by_cases hlt : d < n
    · obtain ⟨K, hK⟩ : ∃ K : Nat, K = n - 1 - d := ⟨_, rfl⟩
      have eK : (n : Int) - 1 - (d : Int) = (K : Int) := by omega
      obtain ⟨t, ht⟩ : ∃ t : Nat, t = V / 2 ^ K % 2 := ⟨_, rfl⟩
      have hbit : bits .and .i64 ((V : Int) / 2 ^ K) 1 = (t : Int) := by rw [ht]; exact and_one V K hV2
      have ht2 : t < 2 := by omega
      have hv2 : 2 * (V / 2 ^ (n - d)) + t = V / 2 ^ (n - (d + 1)) := by
        rw [show n - d = K + 1 by omega, show n - (d + 1) = K by omega, Nat.pow_succ, ← Nat.div_div_eq_div_mul, ht]
        omega
      have hdn := HP.out.down ht2
      rw [hv2] at hdn
      have eK1 : (K : Int) - 1 = (n : Int) - 1 - ((d + 1 : Nat) : Int) := by omega
      have HE1 : Hid ((K : Int) - 1 = (n : Int) - 1 - ((d + 1 : Nat) : Int)) := eK1
      have hK15 : K ≤ 14 := by omega
      rw [eK]
      clear hv2 HP ht hK eK eK1
      have ht01 : t = 0 ∨ t = 1 := by omega
      rcases hdn with ⟨b2, hc, hp⟩ | ⟨hc, hf, hblt, hp⟩
      · have HP2 : Hid (PlI w lo B N S (d + 1) (V / 2 ^ (n - (d + 1))) b2 wr) := hp
        clear hp
        rcases ht01 with rfl | rfl
        all_goals
          go_wp2_with fail
          go_roundw
          case rel => exact ⟨d + 1, b2, by omega, by rw [← HE1.out], rfl, HP2⟩
          case measure => simp [intOf]
      · have HP2 : Hid (PlI w lo B N S (d + 1) (V / 2 ^ (n - (d + 1))) wr.heap.size ((wr.alloc (.cells #[.int .i64 (-1), .pointer none, .pointer none, .int .i64 0, .int .i64 0] 79)).setCell ⟨b, 1 + t, none⟩ (.pointer (some ⟨wr.heap.size, 0, none⟩)))) := hp
        rw [World.setCell_alloc_past _ b (1 + t) _ hblt] at HP2
        have hc2 : (wr.alloc (.cells #[.int .i64 (-1), .pointer none, .pointer none, .int .i64 0, .int .i64 0] 79)).cell? ⟨b, 1 + t, none⟩ = some (.pointer none) := (World.cell?_alloc_past _ b (1 + t) hblt).trans hc
        have hf2 : (wr.alloc (.cells #[.int .i64 (-1), .pointer none, .pointer none, .int .i64 0, .int .i64 0] 79)).frozen? ⟨b, 1 + t, none⟩ = false := (World.frozen?_alloc_past _ b (1 + t) hblt).trans hf
        clear hp
        rcases ht01 with rfl | rfl
        all_goals
          go_wp2_with fail
          go_roundw
          case rel => exact ⟨d + 1, wr.heap.size, by omega, by rw [← HE1.out], rfl, HP2⟩
          case measure => simp [intOf]
    · obtain rfl : d = n := by omega
      have hneg : ¬ (0 : Int) ≤ (d : Int) - 1 - (d : Int) := by omega
      have e1 : (d : Int) - 1 - (d : Int) = -1 := by omega
      rw [e1]
      have hp := HP.out
      rw [Nat.sub_self, Nat.pow_zero, Nat.div_one] at hp
      obtain ⟨⟨y, hc⟩, hf, hpl⟩ := hp.done x
      have HPL : Hid (Planted w lo B N S d V x (.returned (.tuple #[])) (wr.setCell ⟨b, 0, none⟩ (.int .i64 x))) := hpl
      clear hp HP hpl e1 hneg
      go_wp2_with fail
      go_end0
      exact HPL.out
end Go.Proofs.Ytjdilanmkgodnaa
