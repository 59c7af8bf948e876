/- The depths that some kind can have. -/
import Derived.Test.YtjikjjganloobaaDepWalks
namespace Go.Proofs.Ytjikjjganloobaa
open Go.RowKit

/-- some kind can have that depth -/
def depB (d : Int) : Bool := decide (d = 1 ∨ d = 2 ∨ d = 4 ∨ d = 8 ∨ d = 24 ∨ d = 32)

theorem kind_cases {k : Nat} (h1 : 1 ≤ k) (h4 : k ≤ 4) : k = 1 ∨ k = 2 ∨ k = 3 ∨ k = 4 := by omega

theorem depB_yes {k : Nat} {d : Int} (h : d ∈ depL (k : Int)) : depB d = true := by
  unfold depL at h
  unfold depB
  apply decide_eq_true
  split at h
  · simp at h; omega
  · split at h
    · simp at h; omega
    · split at h
      · simp at h; omega
      · simp at h

theorem depB_no {d : Int} (h : ∀ k : Nat, 1 ≤ k → k ≤ 4 → d ∉ depL (k : Int)) : depB d = false := by
  have a := h 1 (by omega) (by omega)
  have b := h 2 (by omega) (by omega)
  have c := h 3 (by omega) (by omega)
  simp [depL] at a b c
  unfold depB
  apply decide_eq_false
  omega

set_option maxHeartbeats 400000 in
theorem depthOk_any (d : Int) (w : World) :
    Calls Try.prog 30 #[.int .i64 d] w fun e w' => e = .returned (.bool (depB d)) ∧ Below w.heap.size w w' := by
  go_enter Try.func30, Try.ntmps30
  go_wp2_with fail
  go_loopw [3] (fun i wr => ∃ k : Nat, 1 ≤ k ∧ k ≤ 5 ∧ i = .int .i64 k ∧ (∀ j : Nat, 1 ≤ j → j < k → d ∉ depL (j : Int)) ∧ Below w.heap.size w wr) (fun i _ => 5 - (intOf i).toNat)
  case atStart => exact ⟨1, by omega, by omega, rfl, fun j h1 h2 => absurd h2 (by omega), Below.refl _ _⟩
  case round =>
    obtain ⟨k, hk1, hk5, rfl, hall, hbel⟩ := hrel
    have HA : Hid (∀ j : Nat, 1 ≤ j → j < k → d ∉ depL (j : Int)) := hall
    clear hall
    by_cases hlt : k ≤ 4
    · have hki : (k : Int) ≤ 4 := by omega
      have hle := depL_len (k : Int)
      go_wp2_with fail
      refine (depthsOf_any (k : Int) wr).mono ?_
      rintro e w1 ⟨⟨ao, c, rfl, hI⟩, b1⟩
      have hb1 := hbel.trans (b1.mono hbel.size)
      have HC : Hid (Calls Try.prog 48 #[.slice ao (depL (k : Int)).length c, .int .i64 d] w1 fun e w' => e = .returned (.bool (decide (d ∈ depL (k : Int)))) ∧ w' = w1) := contains_any ao _ c _ d w1 hI rfl (by omega)
      clear hI b1 hbel
      generalize hL : (depL (k : Int)).length = L at *
      clear hL
      go_wp2_with fail
      refine HC.out.mono ?_
      rintro e w2 ⟨rfl, hw2⟩
      subst hw2
      by_cases hm : d ∈ depL (k : Int)
      · have HM : Hid (depB d = true) := depB_yes hm
        rw [decide_eq_true hm]
        clear hm HC
        go_wp2_with fail
        go_ret
        exact ⟨by rw [HM.out]; rfl, hb1⟩
      · have HM : Hid (d ∉ depL (k : Int)) := hm
        rw [decide_eq_false hm]
        clear hm HC
        go_wp2_with fail
        go_roundw
        case rel =>
          refine ⟨k + 1, by omega, by omega, by go_num, fun j h1 h2 => ?_, hb1⟩
          by_cases e : j < k
          · exact HA.out j h1 e
          · have : j = k := by omega
            subst this
            exact HM.out
        case measure => simp [intOf]; omega
    · have HM : Hid (depB d = false) := depB_no (fun j h1 h2 => HA.out j h1 (by omega))
      have hki : ¬ (k : Int) ≤ 4 := by omega
      clear HA
      go_wp2_with fail
      go_ret
      exact ⟨by rw [HM.out]; rfl, hbel⟩
end Go.Proofs.Ytjikjjganloobaa
