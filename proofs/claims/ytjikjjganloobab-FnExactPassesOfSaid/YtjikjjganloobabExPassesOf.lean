/- The exact law of PassesOf, walked. -/
import Derived.Test.YtjikjjganloobabPsSpec
import Derived.Test.YtjikjjganloobabPsImpl
import Derived.OpenShut
namespace Go.Proofs.Ytjikjjganloobab
open Go.RowKit

/-- a row of one's own, of n parts, in a block from lo on -/
def PG (w : World) (lo : Nat) (ao : Option Addr) (n : Nat) (f : Nat → Int) : Prop := n = 0 ∨ ∃ b, ao = some ⟨b, 0, none⟩ ∧ lo ≤ b ∧ Own w b (n * 6) f

theorem PG.of {w : World} {lo n : Nat} {ao : Option Addr} {l : List Int} (h : Owns w lo ao l) (hn : l.length = n * 6) : PG w lo ao n (fun i => l.getD i 0) := by
  rcases h with e | ⟨b, rfl, hb, hs, hc⟩
  · rw [e] at hn; simp at hn; exact .inl (by omega)
  · refine .inr ⟨b, rfl, hb, hs, fun i hi => ?_⟩
    have := hc i (by omega)
    show w.cell? _ = some (.int .i64 (l.getD i 0)) ∧ _
    rw [List.getD_eq_getElem?_getD, List.getElem?_eq_getElem (by omega)]; exact this

theorem PG.kept {w w' : World} {lo n : Nat} {ao : Option Addr} {f : Nat → Int} (h : PG w lo ao n f) (hb : Below w.heap.size w w') : PG w' lo ao n f := by
  rcases h with e | ⟨b, rfl, hl, ho⟩
  · exact .inl e
  · exact .inr ⟨b, rfl, hl, Nat.lt_of_lt_of_le ho.1 hb.size, fun i hi => ⟨(hb.cell (p := ⟨b, i, none⟩) ho.1).trans (ho.2 i hi).1, (hb.frozen (p := ⟨b, i, none⟩) ho.1).trans (ho.2 i hi).2⟩⟩

set_option maxHeartbeats 400000 in
theorem mark_none (a : Option Addr) (c : Nat) (w : World) :
    Calls Try.prog 15 #[.slice a 0 c, .int .i64 1] w fun e w' => e = .returned (.int .i64 1) ∧ w' = w := by
  go_enter Try.func15, Try.ntmps15
  go_wp2_with fail
  go_loopw [1, 5] (fun x i wr => x = .int .i64 1 ∧ i = .int .i64 0 ∧ wr = w) (fun _ _ _ => 0)
  case atStart => exact ⟨rfl, rfl, rfl⟩
  case round =>
    obtain ⟨rfl, rfl, rfl⟩ := hrel
    go_wp2_with fail
    go_ret
    exact ⟨rfl, rfl⟩

set_option maxHeartbeats 400000 in
theorem held_none (a : Option Addr) (c : Nat) (w : World) :
    Calls Try.prog 16 #[.slice a 0 c, .int .i64 1] w fun e w' => e = .returned (.int .i64 1) ∧ w' = w := by
  go_enter Try.func16, Try.ntmps16
  go_wp2_with fail
  go_loopw [1, 5] (fun x i wr => x = .int .i64 1 ∧ i = .int .i64 0 ∧ wr = w) (fun _ _ _ => 0)
  case atStart => exact ⟨rfl, rfl, rfl⟩
  case round =>
    obtain ⟨rfl, rfl, rfl⟩ := hrel
    go_wp2_with fail
    go_ret
    exact ⟨rfl, rfl⟩

theorem mark_pg (lo n c : Nat) (ao : Option Addr) (f : Nat → Int) (w : World) (h : PG w lo ao n f) (hn : n ≤ 20) :
    Calls Try.prog 15 #[.slice ao n c, .int .i64 1] w fun e w' => e = .returned (.int .i64 ((1 + n * 6 : Nat) : Int)) ∧ PG w' lo ao n (fun i => ((1 + i : Nat) : Int)) ∧ Below lo w w' := by
  rcases h with rfl | ⟨b, rfl, hb, ho⟩
  · refine (mark_none ao c w).mono ?_
    rintro e w' ⟨rfl, rfl⟩
    exact ⟨rfl, .inl rfl, Below.refl _ _⟩
  · refine (markPasses b n c f w ho hn).mono ?_
    rintro e w' ⟨rfl, hO, hT⟩
    exact ⟨rfl, .inr ⟨b, rfl, hb, hO⟩, hT.below hb⟩

theorem held_pg (lo n c : Nat) (ao : Option Addr) (w : World) (h : PG w lo ao n (fun i => ((1 + i : Nat) : Int))) (hn : n ≤ 20) :
    Calls Try.prog 16 #[.slice ao n c, .int .i64 1] w fun e w' => e = .returned (.int .i64 ((1 + n * 6 : Nat) : Int)) ∧ w' = w := by
  rcases h with rfl | ⟨b, rfl, hb, ho⟩
  · exact held_none ao c w
  · exact heldPasses b n c w ho hn

set_option maxHeartbeats 2000000 in
theorem exPassesOf (wd hi : Int) (_hw : (Lit.int .i64 wd).wf = true) (_hw' : (Lit.int .i64 hi).wf = true) (w : World) :
    Calls Try.prog 4 #[.int .i64 wd, .int .i64 hi] w fun e w' => e = .returned (.bool true) ∧ Below w.heap.size w w' := by
  obtain ⟨n, hn⟩ : ∃ n, n = psN wd hi := ⟨_, rfl⟩
  obtain ⟨L, hL⟩ : ∃ L, L = psL wd hi := ⟨_, rfl⟩
  obtain ⟨hlen, hn7⟩ := ps_len wd hi
  rw [← hn] at hlen hn7
  rw [← hL] at hlen
  have HSP : Hid (∀ w : World, Calls Try.prog 12 #[.int .i64 wd, .int .i64 hi] w fun e w' => (∃ ao cap, e = .returned (.slice ao n cap) ∧ Ints w' ao L) ∧ Below w.heap.size w w') := fun w => by rw [hn, hL]; exact spec_passes wd hi w
  have HIM : Hid (∀ w : World, Calls Try.prog 13 #[.int .i64 wd, .int .i64 hi] w fun e w' => (∃ ao cap, e = .returned (.slice ao n cap) ∧ Owns w' w.heap.size ao L) ∧ Below w.heap.size w w') := fun w => by rw [hn, hL]; exact impl_passes wd hi w
  have HEQ : Hid (∀ (a : Option Addr) (ca : Nat) (b : Option Addr) (cb : Nat) (w : World), Ints w a L → Ints w b L → Calls Try.prog 14 #[.slice a n ca, .slice b n cb] w fun e w' => e = .returned (.bool true) ∧ Below w.heap.size w w') := fun a ca b cb w h1 h2 => eqPasses_same a ca b cb n L w h1 h2 hlen (by omega)
  have HOF : Hid (∀ (w : World) (lo : Nat) (ao : Option Addr), Owns w lo ao L → PG w lo ao n (fun i => L.getD i 0)) := fun w lo ao h => PG.of h hlen
  obtain ⟨t, ht⟩ : ∃ t : Nat, t = 1 + n * 6 := ⟨_, rfl⟩
  have HMK : Hid (∀ (lo c : Nat) (ao : Option Addr) (f : Nat → Int) (w : World), PG w lo ao n f → Calls Try.prog 15 #[.slice ao n c, .int .i64 1] w fun e w' => e = .returned (.int .i64 (t : Int)) ∧ PG w' lo ao n (fun i => ((1 + i : Nat) : Int)) ∧ Below lo w w') := fun lo c ao f w h => by rw [ht]; exact mark_pg lo n c ao f w h (by omega)
  have HHD : Hid (∀ (lo c : Nat) (ao : Option Addr) (w : World), PG w lo ao n (fun i => ((1 + i : Nat) : Int)) → Calls Try.prog 16 #[.slice ao n c, .int .i64 1] w fun e w' => e = .returned (.int .i64 (t : Int)) ∧ w' = w) := fun lo c ao w h => by rw [ht]; exact held_pg lo n c ao w h (by omega)
  have hd : decide ((t : Int) < 0) = false := by simp
  clear hn hL hlen ht
  go_enter Try.func4, Try.ntmps4
  go_wp2_with fail
  refine (HSP.out _).mono ?_
  rintro e w1 ⟨⟨a0, c0, rfl, hI0⟩, b1⟩
  have HI0 : Hid (∀ w', Below w1.heap.size w1 w' → Ints w' a0 L) := fun w' b => hI0.kept b
  clear hI0 HSP
  go_wp2_with fail
  refine (HIM.out _).mono ?_
  rintro e w2 ⟨⟨a1, c1, rfl, hO1⟩, b2⟩
  have HG2 : Hid (PG w2 w1.heap.size a1 n (fun i => L.getD i 0)) := HOF.out w2 _ a1 hO1
  have HI1 : Hid (Ints w2 a1 L) := hO1.ints
  have B2 : Hid (Below w1.heap.size w1 w2) := b2
  clear hO1 b2
  go_wp2_with fail
  refine (HEQ.out a1 c1 a0 c0 w2 HI1.out (HI0.out w2 B2.out)).mono ?_
  rintro e w3 ⟨rfl, b3⟩
  have HG3 : Hid (PG w3 w1.heap.size a1 n (fun i => L.getD i 0)) := HG2.out.kept b3
  have B3 : Hid (Below w1.heap.size w1 w3) := B2.out.trans (b3.mono B2.out.size)
  clear b3 B2 HG2 HI1
  go_wp2_with fail
  refine (HMK.out _ c1 a1 _ w3 HG3.out).mono ?_
  rintro e w4 ⟨rfl, hG4, b4⟩
  have HG4 : Hid (PG w4 w1.heap.size a1 n (fun i => ((1 + i : Nat) : Int))) := hG4
  have B4 : Hid (Below w1.heap.size w1 w4) := B3.out.trans b4
  clear hG4 b4 B3 HG3 HMK
  go_wp2_with fail
  refine (HHD.out _ c1 a1 w4 HG4.out).mono ?_
  rintro e w5 ⟨rfl, hw⟩
  replace hw := hw.symm
  subst hw
  go_wp2_with fail
  refine (HIM.out _).mono ?_
  rintro e w6 ⟨⟨a6, c6, rfl, hO6⟩, b6⟩
  have HI6 : Hid (Ints w6 a6 L) := hO6.ints
  have HG6 : Hid (PG w6 w1.heap.size a1 n (fun i => ((1 + i : Nat) : Int))) := HG4.out.kept b6
  have B6 : Hid (Below w1.heap.size w1 w6) := B4.out.trans (b6.mono B4.out.size)
  clear hO6 b6 B4 HG4
  go_wp2_with fail
  refine (HEQ.out a6 c6 a0 c0 w6 HI6.out (HI0.out w6 B6.out)).mono ?_
  rintro e w7 ⟨rfl, b7⟩
  have HG7 : Hid (PG w7 w1.heap.size a1 n (fun i => ((1 + i : Nat) : Int))) := HG6.out.kept b7
  have B7 : Hid (Below w1.heap.size w1 w7) := B6.out.trans (b7.mono B6.out.size)
  clear b7 B6 HG6 HI6
  go_wp2_with fail
  refine (HHD.out _ c1 a1 w7 HG7.out).mono ?_
  rintro e w8 ⟨rfl, hw⟩
  replace hw := hw.symm
  subst hw
  have bel : Below w.heap.size w w7 := b1.trans (B7.out.mono b1.size)
  clear b1 B7 HG7 HHD HEQ HIM HOF HI0
  go_wp2_with fail
  go_ret
  exact ⟨rfl, bel⟩
end Go.Proofs.Ytjikjjganloobab
