/- Whether a token can stand behind so many bytes. -/
import Derived.Test.YtmfnepibhhhdcaaToMath
import Derived.Below
namespace Go.Proofs.Ytmfnepibhhhdcaa
open Go.RowKit

set_option maxHeartbeats 2000000 in
set_option maxRecDepth 100000 in
theorem tokenOk_any (v s d : Int) (m : Nat) (w : World) :
    Calls Try.prog 91 #[.agg #[.int .i64 v, .int .i64 s, .int .i64 d], .int .i64 (m : Int)] w fun e w' => e = .returned (.bool (To.okTok (v, s, d) m)) ∧ Below w.heap.size w w' := by
  by_cases hs0 : s = 0
  · subst hs0
    by_cases h1 : 0 ≤ v
    · have d1 : decide (0 ≤ v) = true := decide_eq_true h1
      by_cases h2 : v ≤ 255
      · have d2 : decide (v ≤ 255) = true := decide_eq_true h2
        by_cases h3 : d = 0
        · have HF : Hid (To.okTok (v, 0, d) m = true) := To.ok_zero h1 h2 h3
          have d3 : (d == 0) = true := by rw [h3]; rfl
          clear h3
          go_enter Try.func91, Try.ntmps91
          go_wp2_with fail
          go_ret
          exact ⟨by rw [HF.out]; rfl, (Below.refl _ _).alloc (Nat.le_refl _) _⟩
        · have HF : Hid (To.okTok (v, 0, d) m = false) := To.ok_zero_no (fun h => h3 h.2.2)
          have d3 : (d == 0) = false := by rw [beq_eq_false_iff_ne]; exact h3
          go_enter Try.func91, Try.ntmps91
          go_wp2_with fail
          go_ret
          exact ⟨by rw [HF.out]; rfl, (Below.refl _ _).alloc (Nat.le_refl _) _⟩
      · have d2 : decide (v ≤ 255) = false := decide_eq_false h2
        have HF : Hid (To.okTok (v, 0, d) m = false) := To.ok_zero_no (fun h => h2 h.2.1)
        go_enter Try.func91, Try.ntmps91
        go_wp2_with fail
        go_ret
        exact ⟨by rw [HF.out]; rfl, (Below.refl _ _).alloc (Nat.le_refl _) _⟩
    · have d1 : decide (0 ≤ v) = false := decide_eq_false h1
      have HF : Hid (To.okTok (v, 0, d) m = false) := To.ok_zero_no (fun h => h1 h.1)
      go_enter Try.func91, Try.ntmps91
      go_wp2_with fail
      go_ret
      exact ⟨by rw [HF.out]; rfl, (Below.refl _ _).alloc (Nat.le_refl _) _⟩
  · have q0 : (s == 0) = false := by rw [beq_eq_false_iff_ne]; exact hs0
    by_cases h1 : 3 ≤ s ∧ s ≤ 258
    · have d1 : decide (3 ≤ s) = true := decide_eq_true h1.1
      have d2 : decide (s ≤ 258) = true := decide_eq_true h1.2
      by_cases hv : v = 0
      · have dv : (v == 0) = true := by rw [hv]; rfl
        by_cases h4 : 1 ≤ d
        · have d4 : decide (1 ≤ d) = true := decide_eq_true h4
          by_cases h5 : d ≤ (m : Int)
          · have d5 : decide (d ≤ (m : Int)) = true := decide_eq_true h5
            have HF : Hid (To.okTok (v, s, d) m = true) := To.ok_more hs0 hv h1.1 h1.2 h4 h5
            have a1 := h1.1
            have a2 := h1.2
            clear hv hs0 h1
            go_enter Try.func91, Try.ntmps91
            go_wp2_with fail
            go_ret
            exact ⟨by rw [HF.out]; rfl, (Below.refl _ _).alloc (Nat.le_refl _) _⟩
          · have d5 : decide (d ≤ (m : Int)) = false := decide_eq_false h5
            have HF : Hid (To.okTok (v, s, d) m = false) := To.ok_more_no hs0 (fun h => h5 h.2.2.2.2)
            have a1 := h1.1
            have a2 := h1.2
            clear hv hs0 h1
            go_enter Try.func91, Try.ntmps91
            go_wp2_with fail
            go_ret
            exact ⟨by rw [HF.out]; rfl, (Below.refl _ _).alloc (Nat.le_refl _) _⟩
        · have d4 : decide (1 ≤ d) = false := decide_eq_false h4
          have HF : Hid (To.okTok (v, s, d) m = false) := To.ok_more_no hs0 (fun h => h4 h.2.2.2.1)
          have a1 := h1.1
          have a2 := h1.2
          clear hv hs0 h1
          go_enter Try.func91, Try.ntmps91
          go_wp2_with fail
          go_ret
          exact ⟨by rw [HF.out]; rfl, (Below.refl _ _).alloc (Nat.le_refl _) _⟩
      · have dv : (v == 0) = false := by rw [beq_eq_false_iff_ne]; exact hv
        have HF : Hid (To.okTok (v, s, d) m = false) := To.ok_more_no hs0 (fun h => hv h.1)
        have a1 := h1.1
        have a2 := h1.2
        clear hs0 h1
        go_enter Try.func91, Try.ntmps91
        go_wp2_with fail
        go_ret
        exact ⟨by rw [HF.out]; rfl, (Below.refl _ _).alloc (Nat.le_refl _) _⟩
    · have HF : Hid (To.okTok (v, s, d) m = false) := To.ok_more_no hs0 (fun h => h1 ⟨h.2.1, h.2.2.1⟩)
      by_cases h2 : 3 ≤ s
      · have d1 : decide (3 ≤ s) = true := decide_eq_true h2
        have d2 : decide (s ≤ 258) = false := decide_eq_false (fun h => h1 ⟨h2, h⟩)
        have a2 : ¬ s ≤ 258 := fun h => h1 ⟨h2, h⟩
        by_cases hv : v = 0
        · have dv : (v == 0) = true := by rw [hv]; rfl
          clear hv hs0 h1
          go_enter Try.func91, Try.ntmps91
          go_wp2_with fail
          go_ret
          exact ⟨by rw [HF.out]; rfl, (Below.refl _ _).alloc (Nat.le_refl _) _⟩
        · have dv : (v == 0) = false := by rw [beq_eq_false_iff_ne]; exact hv
          clear hs0 h1
          go_enter Try.func91, Try.ntmps91
          go_wp2_with fail
          go_ret
          exact ⟨by rw [HF.out]; rfl, (Below.refl _ _).alloc (Nat.le_refl _) _⟩
      · have d1 : decide (3 ≤ s) = false := decide_eq_false h2
        by_cases hv : v = 0
        · have dv : (v == 0) = true := by rw [hv]; rfl
          clear hv hs0 h1
          go_enter Try.func91, Try.ntmps91
          go_wp2_with fail
          go_ret
          exact ⟨by rw [HF.out]; rfl, (Below.refl _ _).alloc (Nat.le_refl _) _⟩
        · have dv : (v == 0) = false := by rw [beq_eq_false_iff_ne]; exact hv
          clear hs0 h1
          go_enter Try.func91, Try.ntmps91
          go_wp2_with fail
          go_ret
          exact ⟨by rw [HF.out]; rfl, (Below.refl _ _).alloc (Nat.le_refl _) _⟩
end Go.Proofs.Ytmfnepibhhhdcaa
