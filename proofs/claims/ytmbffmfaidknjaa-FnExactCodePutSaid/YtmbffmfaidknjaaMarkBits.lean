/- Marks laid into a list of bits, and found again; marks from a number on. -/
import Derived.Test.YtmbffmfaidknjaaMarkWalks
import Derived.Test.YtmbffmfaidknjaaPairMake
import Derived.Below
namespace Go.Proofs.Ytmbffmfaidknjaa
open Go.RowKit

set_option maxHeartbeats 400000 in
theorem mark_from (b n c s : Nat) (f : Nat → Int) (w : World) (h : Own w b n f) (hn : n ≤ 2000000) (hs : s ≤ 2000000) :
    Calls Try.prog 13 #[.slice (some ⟨b, 0, none⟩) n c, .int .i64 (s : Int)] w fun e w' => e = .returned (.int .i64 ((s : Int) + (n : Int))) ∧ Turned b w w' := by
  have HO : Hid (Own w b n f) := h
  clear h
  go_enter Try.func13, Try.ntmps13
  go_wp2_with fail
  go_loopw [1, 5] (fun x i wr => ∃ (k : Nat) (g : Nat → Int), k ≤ n ∧ i = .int .i64 k ∧ x = .int .i64 ((s : Int) + (k : Int)) ∧ Own wr b n g ∧ Turned b w wr) (fun _ i _ => n - (intOf i).toNat)
  case atStart => exact ⟨0, f, Nat.zero_le _, rfl, by simp, HO.out, Turned.refl _ _⟩
  case round =>
    obtain ⟨k, g, hk, rfl, rfl, hO, hT⟩ := hrel
    by_cases hlt : k < n
    · have hS : Own (wr.setCell ⟨b, k, none⟩ (.int .i64 ((s : Int) + (k : Int)))) b n (fun i => if i = k then (s : Int) + (k : Int) else g i) := by
        refine ⟨by rw [World.size_setCell]; exact hO.1, fun i hi => ⟨?_, ?_⟩⟩
        · by_cases e : i = k
          · subst e; rw [World.cell?_setCell_same _ _ _ (hO.2 i hi).1]; simp
          · rw [World.cell?_setCell_other _ _ _ _ (fun q => e (congrArg Addr.off q).symm), (hO.2 i hi).1]; simp [e]
        · rw [World.frozen?_setCell]; exact (hO.2 i hi).2
      have hTS := hT.set k (.int .i64 ((s : Int) + (k : Int)))
      obtain ⟨hcell, hfr⟩ := hO.2 k hlt
      have hki : (k : Int) < (n : Int) := by omega
      have H1 : Hid (Own _ b n _) := hS
      have H2 : Hid (Turned b w _) := hTS
      clear hO hT hS hTS HO
      generalize g k = gk at hcell
      go_wp2_with fail
      go_roundw
      case rel => exact ⟨k + 1, _, by omega, by go_num, by go_num, H1.out, H2.out⟩
      case measure => simp [intOf]; omega
    · have hk' : k = n := by omega
      subst hk'
      clear hO
      go_wp2_with fail
      go_ret
      exact ⟨rfl, hT⟩

/-- the numbers of bits, one behind the other -/
def flat : List (Int × Int) → List Int
  | [] => []
  | p :: l => p.1 :: p.2 :: flat l
theorem flat_cells : ∀ l : List (Int × Int), cellsOf l = (flat l).map (fun z => Value.int .i64 z)
  | [] => rfl
  | p :: l => by simp [cellsOf, flat, flat_cells l]
theorem flat_len : ∀ l : List (Int × Int), (flat l).length = l.length * 2
  | [] => rfl
  | p :: l => by simp only [flat, List.length_cons, flat_len l]; omega

/-- a row of bits, its cells one by one -/
theorem OwnP.own {w : World} {B n : Nat} {v : Option Addr} {c : Nat} {l : List (Int × Int)} (h : OwnP w B (.slice v n c) n l) : n = 0 ∨ ∃ b, v = some ⟨b, 0, none⟩ ∧ B ≤ b ∧ Own w b (n * 2) (fun i => (flat l).getD i 0) := by
  have hl := h.len
  rcases h.2 with ⟨_, h0⟩ | ⟨g, cap, cur, e, hg, hh, _⟩
  · exact .inl h0
  · cases e
    refine .inr ⟨g, rfl, hg, ?_, fun i hi => ⟨?_, World.ownsRow.frozenAt h i⟩⟩
    · rcases Nat.lt_or_ge g w.heap.size with hlt | hge
      · exact hlt
      · rw [Array.getElem?_eq_none hge] at hh; cases hh
    · rw [World.ownsRow.cellAt h i (by omega), flat_cells]
      have : i < (flat l).length := by rw [flat_len]; omega
      simp [this]

set_option maxHeartbeats 1000000 in
theorem markBits_own (b n c : Nat) (f : Nat → Int) (w : World) (h : Own w b (n * 2) f) (hn : n ≤ 100000) :
    Calls Try.prog 14 #[.slice (some ⟨b, 0, none⟩) n c, .int .i64 1] w fun e w' => e = .returned (.int .i64 ((n : Int) * 2 + 1)) ∧ Own w' b (n * 2) (fun i => (i : Int) + 1) ∧ Turned b w w' := by
  have HO : Hid (Own w b (n * 2) f) := h
  clear h
  go_enter Try.func14, Try.ntmps14
  go_wp2_with fail
  go_loopw [1, 5] (fun x i wr => ∃ k : Nat, k ≤ n ∧ i = .int .i64 k ∧ x = .int .i64 ((k : Int) * 2 + 1) ∧ Own wr b (n * 2) (mix f (k * 2)) ∧ Turned b w wr) (fun _ i _ => n - (intOf i).toNat)
  case atStart => exact ⟨0, Nat.zero_le _, rfl, rfl, ⟨HO.out.1, fun i hi => by rw [mix_ge f (by omega)]; exact HO.out.2 i hi⟩, Turned.refl _ _⟩
  case round =>
    obtain ⟨k, hk, rfl, rfl, hO, hT⟩ := hrel
    by_cases hlt : k < n
    · have hS := hO.step (k := k * 2) (g := mix f (k * 2 + 1)) (by omega) (mix_lt f (by omega)) (fun i _ hne => by
        by_cases e : i < k * 2
        · rw [mix_lt f e, mix_lt f (by omega)]
        · rw [mix_ge f e, mix_ge f (by omega)])
      have hS2 := hS.step (k := k * 2 + 1) (g := mix f ((k + 1) * 2)) (by omega) (mix_lt f (by omega)) (fun i _ hne => by
        by_cases e : i < k * 2 + 1
        · rw [mix_lt f e, mix_lt f (by omega)]
        · rw [mix_ge f e, mix_ge f (by omega)])
      have hTS := (hT.set (k * 2) (.int .i64 (((k * 2 : Nat) : Int) + 1))).set (k * 2 + 1) (.int .i64 (((k * 2 + 1 : Nat) : Int) + 1))
      obtain ⟨hcell, hfr⟩ := hO.2 (k * 2) (by omega)
      obtain ⟨hcell2, hfr2⟩ := hO.2 (k * 2 + 1) (by omega)
      have hki : (k : Int) < (n : Int) := by omega
      have e1 : ((k * 2 : Nat) : Int) + 1 = (k : Int) * 2 + 1 := by omega
      have e2 : ((k * 2 + 1 : Nat) : Int) + 1 = (k : Int) * 2 + 1 + 1 := by omega
      rw [e1, e2] at hS2 hTS
      have H1 : Hid (Own _ b (n * 2) _) := hS2
      have H2 : Hid (Turned b w _) := hTS
      clear hO hT hS hS2 hTS HO e1 e2
      generalize mix f (k * 2) (k * 2) = u0 at hcell
      generalize mix f (k * 2) (k * 2 + 1) = u1 at hcell2
      go_wp2_with fail
      go_roundw
      case rel => exact ⟨k + 1, by omega, by go_num, by go_num, H1.out, H2.out⟩
      case measure => simp [intOf]; omega
    · have hk' : k = n := by omega
      subst hk'
      have H1 : Hid (Own wr b (k * 2) (fun i => (i : Int) + 1)) := ⟨hO.1, fun i hi => by have := hO.2 i hi; rw [mix_lt f hi] at this; exact this⟩
      clear hO
      go_wp2_with fail
      go_ret
      exact ⟨rfl, H1.out, hT⟩

set_option maxHeartbeats 400000 in
theorem markBits_nil (a : Option Addr) (c : Nat) (w : World) :
    Calls Try.prog 14 #[.slice a 0 c, .int .i64 1] w fun e w' => e = .returned (.int .i64 1) ∧ w' = w := by
  go_enter Try.func14, Try.ntmps14
  go_wp2_with fail
  go_loop [1, 5] (fun x i => i = .int .i64 0 ∧ x = .int .i64 1) (fun _ _ => 0)
  case atStart => exact ⟨rfl, rfl⟩
  case round =>
    obtain ⟨rfl, rfl⟩ := hrel
    go_wp2_with fail
    go_ret
    exact ⟨rfl, rfl⟩

set_option maxHeartbeats 1000000 in
theorem heldBits_own (b n c : Nat) (w : World) (h : Own w b (n * 2) (fun i => (i : Int) + 1)) (hn : n ≤ 100000) :
    Calls Try.prog 15 #[.slice (some ⟨b, 0, none⟩) n c, .int .i64 1] w fun e w' => e = .returned (.int .i64 ((n : Int) * 2 + 1)) ∧ w' = w := by
  have HO : Hid (Own w b (n * 2) (fun i => (i : Int) + 1)) := h
  clear h
  go_enter Try.func15, Try.ntmps15
  go_wp2_with fail
  go_loop [1, 5] (fun x i => ∃ k : Nat, k ≤ n ∧ i = .int .i64 k ∧ x = .int .i64 ((k : Int) * 2 + 1)) (fun _ i => n - (intOf i).toNat)
  case atStart => exact ⟨0, Nat.zero_le _, rfl, rfl⟩
  case round =>
    obtain ⟨k, hk, rfl, rfl⟩ := hrel
    by_cases hlt : k < n
    · have hcell := (HO.out.2 (k * 2) (by omega)).1
      have hcell2 := (HO.out.2 (k * 2 + 1) (by omega)).1
      have e1 : ((k * 2 : Nat) : Int) + 1 = (k : Int) * 2 + 1 := by omega
      have e2 : ((k * 2 + 1 : Nat) : Int) + 1 = (k : Int) * 2 + 1 + 1 := by omega
      simp only [e1] at hcell
      simp only [e2] at hcell2
      have hki : (k : Int) < (n : Int) := by omega
      clear e1 e2
      go_wp2_with fail
      go_round
      case rel => exact ⟨k + 1, by omega, by go_num, by go_num⟩
      case measure => simp [intOf]; omega
    · have hk' : k = n := by omega
      subst hk'
      go_wp2_with fail
      go_ret
      exact ⟨rfl, rfl⟩

set_option maxHeartbeats 400000 in
theorem heldBits_nil (a : Option Addr) (c : Nat) (w : World) :
    Calls Try.prog 15 #[.slice a 0 c, .int .i64 1] w fun e w' => e = .returned (.int .i64 1) ∧ w' = w := by
  go_enter Try.func15, Try.ntmps15
  go_wp2_with fail
  go_loop [1, 5] (fun x i => i = .int .i64 0 ∧ x = .int .i64 1) (fun _ _ => 0)
  case atStart => exact ⟨rfl, rfl⟩
  case round =>
    obtain ⟨rfl, rfl⟩ := hrel
    go_wp2_with fail
    go_ret
    exact ⟨rfl, rfl⟩

/-- a list of bits that bears the marks -/
def Marked (w : World) (lo : Nat) (v : Option Addr) (n : Nat) : Prop := n = 0 ∨ ∃ b, v = some ⟨b, 0, none⟩ ∧ lo ≤ b ∧ Own w b (n * 2) (fun i => (i : Int) + 1)
theorem Own.keptB {w w' : World} {b n : Nat} {f : Nat → Int} (h : Own w b n f) (hb : Below w.heap.size w w') : Own w' b n f :=
  ⟨Nat.lt_of_lt_of_le h.1 hb.size, fun i hi => ⟨(hb.cell (p := ⟨b, i, none⟩) h.1).trans (h.2 i hi).1, (hb.frozen (p := ⟨b, i, none⟩) h.1).trans (h.2 i hi).2⟩⟩
theorem Marked.kept {w w' : World} {lo n : Nat} {v : Option Addr} (h : Marked w lo v n) (hb : Below w.heap.size w w') : Marked w' lo v n := by
  rcases h with h | ⟨b, e, hl, hO⟩
  · exact .inl h
  · exact .inr ⟨b, e, hl, hO.keptB hb⟩

theorem markBits_g (v : Option Addr) (n c lo : Nat) (l : List (Int × Int)) (w : World) (h : OwnP w lo (.slice v n c) n l) (hn : n ≤ 100000) :
    Calls Try.prog 14 #[.slice v n c, .int .i64 1] w fun e w' => e = .returned (.int .i64 ((n : Int) * 2 + 1)) ∧ Marked w' lo v n ∧ Below lo w w' := by
  rcases h.own with rfl | ⟨b, rfl, hl, hO⟩
  · refine (markBits_nil v c w).mono ?_
    rintro e w' ⟨rfl, rfl⟩
    exact ⟨rfl, .inl rfl, Below.refl _ _⟩
  · refine (markBits_own b n c _ w hO hn).mono ?_
    rintro e w' ⟨rfl, h1, h2⟩
    exact ⟨rfl, .inr ⟨b, rfl, hl, h1⟩, h2.below hl⟩

theorem heldBits_g (v : Option Addr) (n c lo : Nat) (w : World) (h : Marked w lo v n) (hn : n ≤ 100000) :
    Calls Try.prog 15 #[.slice v n c, .int .i64 1] w fun e w' => e = .returned (.int .i64 ((n : Int) * 2 + 1)) ∧ w' = w := by
  rcases h with rfl | ⟨b, rfl, _, hO⟩
  · exact heldBits_nil v c w
  · exact heldBits_own b n c w hO hn
end Go.Proofs.Ytmbffmfaidknjaa
