/- Marks laid into a list of tokens, and found again. -/
import Derived.Test.YtmfnepibhhhdcaaMarkWalks
import Derived.Test.YtmfnepibhhhdcaaTkOwn
import Derived.Below
namespace Go.Proofs.Ytmfnepibhhhdcaa
open Go.RowKit

theorem OwnK.own {w : World} {B n : Nat} {v : Option Addr} {c : Nat} {l : List Tk} (h : OwnK w B (.slice v n c) n l) : n = 0 ∨ ∃ b, v = some ⟨b, 0, none⟩ ∧ B ≤ b ∧ ∃ f, Own w b (n * 3) f := by
  have hl := h.len
  rcases h.2 with ⟨_, h0⟩ | ⟨g, cap, cur, e, hg, hh, _⟩
  · exact .inl h0
  · cases e
    have hint : ∀ i, i < n * 3 → ∃ z : Int, w.cell? ⟨g, i, none⟩ = some (.int .i64 z) := fun i hi => by
      have hk : i / 3 < l.length := by omega
      obtain ⟨c1, c2, c3⟩ := tkCells_get l (i / 3) hk
      have hm : i % 3 = 0 ∨ i % 3 = 1 ∨ i % 3 = 2 := by omega
      rw [World.ownsRow.cellAt h i (by omega)]
      rcases hm with e | e | e
      · rw [show i = i / 3 * 3 by omega]; exact ⟨_, c1⟩
      · rw [show i = i / 3 * 3 + 1 by omega]; exact ⟨_, c2⟩
      · rw [show i = i / 3 * 3 + 2 by omega]; exact ⟨_, c3⟩
    refine .inr ⟨g, rfl, hg, fun i => if h : i < n * 3 then (hint i h).choose else 0, (Array.getElem?_eq_some_iff.1 hh).1, fun i hi => ⟨?_, World.ownsRow.frozenAt h i⟩⟩
    show _ = some (Value.int .i64 (if h : i < n * 3 then (hint i h).choose else 0))
    rw [dif_pos hi]
    exact (hint i hi).choose_spec

set_option maxHeartbeats 1000000 in
theorem markToks_own (b n c : Nat) (f : Nat → Int) (w : World) (h : Own w b (n * 3) f) (hn : n ≤ 100000) :
    Calls Try.prog 17 #[.slice (some ⟨b, 0, none⟩) n c, .int .i64 1] w fun e w' => e = .returned (.int .i64 ((n : Int) * 3 + 1)) ∧ Own w' b (n * 3) (fun i => (i : Int) + 1) ∧ Turned b w w' := by
  have HO : Hid (Own w b (n * 3) f) := h
  clear h
  go_enter Try.func17, Try.ntmps17
  go_wp2_with fail
  go_loopw [1, 5] (fun x i wr => ∃ k : Nat, k ≤ n ∧ i = .int .i64 k ∧ x = .int .i64 ((k : Int) * 3 + 1) ∧ Own wr b (n * 3) (mix f (k * 3)) ∧ Turned b w wr) (fun _ i _ => n - (intOf i).toNat)
  case atStart => exact ⟨0, Nat.zero_le _, rfl, rfl, ⟨HO.out.1, fun i hi => by rw [mix_ge f (by omega)]; exact HO.out.2 i hi⟩, Turned.refl _ _⟩
  case round =>
    obtain ⟨k, hk, rfl, rfl, hO, hT⟩ := hrel
    by_cases hlt : k < n
    · have hS := hO.step (k := k * 3) (g := mix f (k * 3 + 1)) (by omega) (mix_lt f (by omega)) (fun i _ hne => by
        by_cases e : i < k * 3
        · rw [mix_lt f e, mix_lt f (by omega)]
        · rw [mix_ge f e, mix_ge f (by omega)])
      have hS2 := hS.step (k := k * 3 + 1) (g := mix f (k * 3 + 2)) (by omega) (mix_lt f (by omega)) (fun i _ hne => by
        by_cases e : i < k * 3 + 1
        · rw [mix_lt f e, mix_lt f (by omega)]
        · rw [mix_ge f e, mix_ge f (by omega)])
      have hS3 := hS2.step (k := k * 3 + 2) (g := mix f ((k + 1) * 3)) (by omega) (mix_lt f (by omega)) (fun i _ hne => by
        by_cases e : i < k * 3 + 2
        · rw [mix_lt f e, mix_lt f (by omega)]
        · rw [mix_ge f e, mix_ge f (by omega)])
      have hTS := ((hT.set (k * 3) (.int .i64 (((k * 3 : Nat) : Int) + 1))).set (k * 3 + 1) (.int .i64 (((k * 3 + 1 : Nat) : Int) + 1))).set (k * 3 + 2) (.int .i64 (((k * 3 + 2 : Nat) : Int) + 1))
      obtain ⟨hcell, hfr⟩ := hO.2 (k * 3) (by omega)
      obtain ⟨hcell2, hfr2⟩ := hO.2 (k * 3 + 1) (by omega)
      obtain ⟨hcell3, hfr3⟩ := hO.2 (k * 3 + 2) (by omega)
      have hki : (k : Int) < (n : Int) := by omega
      have e1 : ((k * 3 : Nat) : Int) + 1 = (k : Int) * 3 + 1 := by omega
      have e2 : ((k * 3 + 1 : Nat) : Int) + 1 = (k : Int) * 3 + 1 + 1 := by omega
      have e3 : ((k * 3 + 2 : Nat) : Int) + 1 = (k : Int) * 3 + 1 + 1 + 1 := by omega
      rw [e1, e2, e3] at hS3 hTS
      have H1 : Hid (Own _ b (n * 3) _) := hS3
      have H2 : Hid (Turned b w _) := hTS
      clear hO hT hS hS2 hS3 hTS HO e1 e2 e3
      generalize mix f (k * 3) (k * 3) = u0 at hcell
      generalize mix f (k * 3) (k * 3 + 1) = u1 at hcell2
      generalize mix f (k * 3) (k * 3 + 2) = u2 at hcell3
      go_wp2_with fail
      go_roundw
      case rel => exact ⟨k + 1, by omega, by go_num, by go_num, H1.out, H2.out⟩
      case measure => simp [intOf]; omega
    · have hk' : k = n := by omega
      subst hk'
      have H1 : Hid (Own wr b (k * 3) (fun i => (i : Int) + 1)) := ⟨hO.1, fun i hi => by have := hO.2 i hi; rw [mix_lt f hi] at this; exact this⟩
      clear hO
      go_wp2_with fail
      go_ret
      exact ⟨rfl, H1.out, hT⟩

set_option maxHeartbeats 400000 in
theorem markToks_nil (a : Option Addr) (c : Nat) (w : World) :
    Calls Try.prog 17 #[.slice a 0 c, .int .i64 1] w fun e w' => e = .returned (.int .i64 1) ∧ w' = w := by
  go_enter Try.func17, Try.ntmps17
  go_wp2_with fail
  go_loop [1, 5] (fun x i => i = .int .i64 0 ∧ x = .int .i64 1) (fun _ _ => 0)
  case atStart => exact ⟨rfl, rfl⟩
  case round =>
    obtain ⟨rfl, rfl⟩ := hrel
    go_wp2_with fail
    go_ret
    exact ⟨rfl, rfl⟩

set_option maxHeartbeats 1000000 in
theorem heldToks_own (b n c : Nat) (w : World) (h : Own w b (n * 3) (fun i => (i : Int) + 1)) (hn : n ≤ 100000) :
    Calls Try.prog 18 #[.slice (some ⟨b, 0, none⟩) n c, .int .i64 1] w fun e w' => e = .returned (.int .i64 ((n : Int) * 3 + 1)) ∧ w' = w := by
  have HO : Hid (Own w b (n * 3) (fun i => (i : Int) + 1)) := h
  clear h
  go_enter Try.func18, Try.ntmps18
  go_wp2_with fail
  go_loop [1, 5] (fun x i => ∃ k : Nat, k ≤ n ∧ i = .int .i64 k ∧ x = .int .i64 ((k : Int) * 3 + 1)) (fun _ i => n - (intOf i).toNat)
  case atStart => exact ⟨0, Nat.zero_le _, rfl, rfl⟩
  case round =>
    obtain ⟨k, hk, rfl, rfl⟩ := hrel
    by_cases hlt : k < n
    · have hcell := (HO.out.2 (k * 3) (by omega)).1
      have hcell2 := (HO.out.2 (k * 3 + 1) (by omega)).1
      have hcell3 := (HO.out.2 (k * 3 + 2) (by omega)).1
      have e1 : ((k * 3 : Nat) : Int) + 1 = (k : Int) * 3 + 1 := by omega
      have e2 : ((k * 3 + 1 : Nat) : Int) + 1 = (k : Int) * 3 + 1 + 1 := by omega
      have e3 : ((k * 3 + 2 : Nat) : Int) + 1 = (k : Int) * 3 + 1 + 1 + 1 := by omega
      simp only [e1] at hcell
      simp only [e2] at hcell2
      simp only [e3] at hcell3
      have hki : (k : Int) < (n : Int) := by omega
      clear e1 e2 e3
      go_wp2_with fail
      go_round
      case rel => exact ⟨k + 1, by omega, by go_num, by go_num⟩
      case measure => simp [intOf]; omega
    · have hk' : k = n := by omega
      subst hk'
      go_wp2_with fail
      go_ret
      exact ⟨rfl, rfl⟩
set_option maxHeartbeats 400000 in
theorem heldToks_nil (a : Option Addr) (c : Nat) (w : World) :
    Calls Try.prog 18 #[.slice a 0 c, .int .i64 1] w fun e w' => e = .returned (.int .i64 1) ∧ w' = w := by
  go_enter Try.func18, Try.ntmps18
  go_wp2_with fail
  go_loop [1, 5] (fun x i => i = .int .i64 0 ∧ x = .int .i64 1) (fun _ _ => 0)
  case atStart => exact ⟨rfl, rfl⟩
  case round =>
    obtain ⟨rfl, rfl⟩ := hrel
    go_wp2_with fail
    go_ret
    exact ⟨rfl, rfl⟩

/-- marked from end to end -/
def Mk3 (w : World) (a : Option Addr) (n : Nat) : Prop := n = 0 ∨ ∃ b, a = some ⟨b, 0, none⟩ ∧ Own w b (n * 3) (fun i => (i : Int) + 1)
theorem Mk3.kept {w w' : World} {a : Option Addr} {n : Nat} (h : Mk3 w a n) (hb : Below w.heap.size w w') : Mk3 w' a n := by
  rcases h with h | ⟨b, h1, h2⟩
  · exact .inl h
  · exact .inr ⟨b, h1, Nat.lt_of_lt_of_le h2.1 hb.size, fun i hi => ⟨(hb.cell (p := ⟨b, i, none⟩) h2.1).trans (h2.2 i hi).1, (World.frozen?_of_block (w := w) (a := ⟨b, i, none⟩) (hb.block b h2.1)).trans (h2.2 i hi).2⟩⟩
theorem markToks_any (a : Option Addr) (n c B : Nat) (l : List Tk) (w : World) (h : OwnK w B (.slice a n c) n l) (hn : n ≤ 100000) (hB : B ≤ w.heap.size) :
    Calls Try.prog 17 #[.slice a n c, .int .i64 1] w fun e w' => e = .returned (.int .i64 ((n : Int) * 3 + 1)) ∧ Mk3 w' a n ∧ Below B w w' := by
  rcases h.own with h0 | ⟨b, rfl, hb, f, hf⟩
  · subst h0
    refine (markToks_nil a c w).mono ?_
    rintro e w' ⟨rfl, rfl⟩
    exact ⟨rfl, .inl rfl, Below.refl _ _⟩
  · refine (markToks_own b n c f w hf hn).mono ?_
    rintro e w' ⟨rfl, h1, h2⟩
    exact ⟨rfl, .inr ⟨b, rfl, h1⟩, h2.below hb⟩
theorem heldToks_any (a : Option Addr) (n c : Nat) (w : World) (h : Mk3 w a n) (hn : n ≤ 100000) :
    Calls Try.prog 18 #[.slice a n c, .int .i64 1] w fun e w' => e = .returned (.int .i64 ((n : Int) * 3 + 1)) ∧ w' = w := by
  rcases h with h0 | ⟨b, rfl, hf⟩
  · subst h0
    exact heldToks_nil a c w
  · exact heldToks_own b n c w hf hn
end Go.Proofs.Ytmfnepibhhhdcaa
