/- Filters of the program: what each guesses. -/
import Derived.Test.YtjikjjganloobabProg
import Derived.Test.YtjikjjganloobabFlMath
namespace Go.Proofs.Ytjikjjganloobab
open Go.RowKit

set_option maxHeartbeats 400000 in
theorem apart_any (a b : Int) (w : World) (ha1 : -600 ≤ a) (ha2 : a ≤ 600) (hb1 : -600 ≤ b) (hb2 : b ≤ 600) :
    Calls Try.prog 116 #[.int .i64 a, .int .i64 b] w fun e w' => e = .returned (.int .i64 (Fl.ap a b)) ∧ w' = w := by
  by_cases h : a < b
  · have HE : Hid (b - a = Fl.ap a b) := by show _ = _; unfold Fl.ap; rw [if_pos h]
    have d1 : decide (a < b) = true := by simpa using h
    have d2 : decide (b < a) = false := by simp; omega
    have e1 : max a b = b := by omega
    have e2 : min a b = a := by omega
    go_enter Try.func116, Try.ntmps116
    go_wp2_with fail
    go_ret
    exact ⟨by rw [← HE.out]; go_num, rfl⟩
  · by_cases h2 : a = b
    · subst h2
      have HE : Hid (Fl.ap a a = 0) := by show _ = _; unfold Fl.ap; rw [if_neg h]; omega
      go_enter Try.func116, Try.ntmps116
      go_wp2_with fail
      go_ret
      exact ⟨by rw [HE.out]; rfl, rfl⟩
    have HE : Hid (a - b = Fl.ap a b) := by show _ = _; unfold Fl.ap; rw [if_neg h]
    have d1 : decide (a < b) = false := by simpa using h
    have d2 : decide (b < a) = true := by simp; omega
    have e1 : max a b = a := by omega
    have e2 : min a b = b := by omega
    have h3 : ¬ a ≤ b := by omega
    go_enter Try.func116, Try.ntmps116
    go_wp2_with fail
    go_ret
    exact ⟨by rw [← HE.out]; go_num, rfl⟩

set_option maxHeartbeats 400000 in
theorem guess_plain (a b c : Nat) (w : World) :
    Calls Try.prog 111 #[.agg #[], .int .i64 a, .int .i64 b, .int .i64 c] w fun e w' => e = .returned (.int .i64 (Fl.beside 0 a b c : Nat)) ∧ Below w.heap.size w w' := by
  have HB : Hid (∀ o, Below w.heap.size w (w.alloc o)) := fun o => (Below.refl _ _).alloc (Nat.le_refl _) _
  go_enter Try.func111, Try.ntmps111
  go_wp2_with fail
  go_ret
  exact ⟨rfl, HB.out _⟩

set_option maxHeartbeats 400000 in
theorem guess_ahead (a b c : Nat) (w : World) :
    Calls Try.prog 112 #[.agg #[], .int .i64 a, .int .i64 b, .int .i64 c] w fun e w' => e = .returned (.int .i64 (Fl.beside 1 a b c : Nat)) ∧ Below w.heap.size w w' := by
  have HB : Hid (∀ o, Below w.heap.size w (w.alloc o)) := fun o => (Below.refl _ _).alloc (Nat.le_refl _) _
  go_enter Try.func112, Try.ntmps112
  go_wp2_with fail
  go_ret
  exact ⟨rfl, HB.out _⟩

set_option maxHeartbeats 400000 in
theorem guess_above (a b c : Nat) (w : World) :
    Calls Try.prog 113 #[.agg #[], .int .i64 a, .int .i64 b, .int .i64 c] w fun e w' => e = .returned (.int .i64 (Fl.beside 2 a b c : Nat)) ∧ Below w.heap.size w w' := by
  have HB : Hid (∀ o, Below w.heap.size w (w.alloc o)) := fun o => (Below.refl _ _).alloc (Nat.le_refl _) _
  go_enter Try.func113, Try.ntmps113
  go_wp2_with fail
  go_ret
  exact ⟨rfl, HB.out _⟩

set_option maxHeartbeats 400000 in
theorem guess_mean (a b c : Nat) (w : World) (ha : a < 256) (hb : b < 256) :
    Calls Try.prog 114 #[.agg #[], .int .i64 a, .int .i64 b, .int .i64 c] w fun e w' => e = .returned (.int .i64 (Fl.beside 3 a b c : Nat)) ∧ Below w.heap.size w w' := by
  have HB : Hid (∀ o, Below w.heap.size w (w.alloc o)) := fun o => (Below.refl _ _).alloc (Nat.le_refl _) _
  obtain ⟨q, hq⟩ : ∃ q, q = (a + b) / 2 := ⟨_, rfl⟩
  have e2 : ((a : Int) + (b : Int)) / 2 = (q : Int) := by omega
  have e3 : ((a : Int) + (b : Int)).tdiv 2 = (q : Int) := by rw [Int.tdiv_eq_ediv_of_nonneg (by omega)]; exact e2
  have HQ : Hid (Fl.beside 3 a b c = q) := by show (a + b) / 2 = q; rw [hq]
  have hqb : q < 256 := by omega
  clear hq
  go_enter Try.func114, Try.ntmps114
  go_wp2_with fail
  go_ret
  exact ⟨by rw [HQ.out]; first | rfl | go_num, HB.out _⟩

set_option maxHeartbeats 1000000 in
theorem guess_slope (a b c : Nat) (w : World) (ha : a < 256) (hb : b < 256) (hc : c < 256) :
    Calls Try.prog 115 #[.agg #[], .int .i64 a, .int .i64 b, .int .i64 c] w fun e w' => e = .returned (.int .i64 (Fl.beside 4 a b c : Nat)) ∧ Below w.heap.size w w' := by
  have HB : Hid (∀ o, Below w.heap.size w (w.alloc o)) := fun o => (Below.refl _ _).alloc (Nat.le_refl _) _
  obtain ⟨p, hp⟩ : ∃ p : Int, p = (a : Int) + b - c := ⟨_, rfl⟩
  obtain ⟨n1, h1⟩ : ∃ n1, n1 = if Fl.ap b p < Fl.ap a p then b else a := ⟨_, rfl⟩
  have hn1 : n1 < 256 := by rw [h1]; split <;> assumption
  have HN : Hid ((if Fl.ap c p < Fl.ap n1 p then c else n1) = Fl.beside 4 a b c) := Fl.near_loop a b c n1 p hp h1
  have H1 : Hid (n1 = if Fl.ap b p < Fl.ap a p then b else a) := h1
  have HA : Hid (∀ (x : Nat) (w : World), x < 256 → Calls Try.prog 116 #[.int .i64 (x : Int), .int .i64 p] w fun e w' => e = .returned (.int .i64 (Fl.ap x p)) ∧ w' = w) := fun x w hx => apart_any x p w (by omega) (by omega) (by omega) (by omega)
  have hpb : -600 ≤ p ∧ p ≤ 600 := by omega
  have hp' := hp.symm
  clear hp h1
  have x0 : ∀ w, Sem.run Try.prog (Instr.index 132 (.agg #[.int .i64 (b : Int), .int .i64 (c : Int)]) (.int .i64 0)) w = .ok (.int .i64 (b : Int)) w := fun w => by kernel_rfl
  have x1 : ∀ w, Sem.run Try.prog (Instr.index 132 (.agg #[.int .i64 (b : Int), .int .i64 (c : Int)]) (.int .i64 1)) w = .ok (.int .i64 (c : Int)) w := fun w => by kernel_rfl
  go_enter Try.func115, Try.ntmps115
  go_wp2_with fail
  go_loop [10, 22] (fun m i => (m = .int .i64 (a : Int) ∧ i = .int .i64 0) ∨ (m = .int .i64 (n1 : Int) ∧ i = .int .i64 1) ∨ (m = .int .i64 (Fl.beside 4 a b c : Nat) ∧ i = .int .i64 2)) (fun _ i => 2 - (intOf i).toNat)
  case atStart => exact .inl ⟨rfl, rfl⟩
  case round =>
    rcases hrel with ⟨rfl, rfl⟩ | ⟨rfl, rfl⟩ | ⟨rfl, rfl⟩
    · go_wp2_with fail
      refine (HA.out b _ hb).mono ?_
      rintro e w1 ⟨rfl, hw⟩; subst hw
      go_wp2_with fail
      refine (HA.out a _ ha).mono ?_
      rintro e w1 ⟨rfl, hw⟩; subst hw
      by_cases hlt : Fl.ap b p < Fl.ap a p
      · have HE : Hid (n1 = b) := by show _ = _; rw [H1.out, if_pos hlt]
        have hd : decide (Fl.ap b p < Fl.ap a p) = true := by simpa using hlt
        go_wp2_with fail
        go_round
        case rel => exact .inr (.inl ⟨by rw [HE.out], rfl⟩)
        case measure => simp [intOf]
      · have HE : Hid (n1 = a) := by show _ = _; rw [H1.out, if_neg hlt]
        have hd : decide (Fl.ap b p < Fl.ap a p) = false := by simpa using hlt
        go_wp2_with fail
        go_round
        case rel => exact .inr (.inl ⟨by rw [HE.out], rfl⟩)
        case measure => simp [intOf]
    · go_wp2_with fail
      refine (HA.out c _ hc).mono ?_
      rintro e w1 ⟨rfl, hw⟩; subst hw
      go_wp2_with fail
      refine (HA.out n1 _ hn1).mono ?_
      rintro e w1 ⟨rfl, hw⟩; subst hw
      by_cases hlt : Fl.ap c p < Fl.ap n1 p
      · have HE : Hid (Fl.beside 4 a b c = c) := by show _ = _; rw [← HN.out, if_pos hlt]
        have hd : decide (Fl.ap c p < Fl.ap n1 p) = true := by simpa using hlt
        go_wp2_with fail
        go_round
        case rel => exact .inr (.inr ⟨by rw [HE.out], rfl⟩)
        case measure => simp [intOf]
      · have HE : Hid (Fl.beside 4 a b c = n1) := by show _ = _; rw [← HN.out, if_neg hlt]
        have hd : decide (Fl.ap c p < Fl.ap n1 p) = false := by simpa using hlt
        go_wp2_with fail
        go_round
        case rel => exact .inr (.inr ⟨by rw [HE.out], rfl⟩)
        case measure => simp [intOf]
    · go_wp2_with fail
      go_ret
      exact ⟨rfl, HB.out _⟩
end Go.Proofs.Ytjikjjganloobab
