/- RowPut of the program, for every list and depth. -/
import Derived.Test.YtjikjjganloobaaBpMove
import Derived.Test.YtjikjjganloobaaRpSpecTop
namespace Go.Proofs.Ytjikjjganloobaa
open Go.RowKit

theorem shrz (V S : Nat) (h : V < 2 ^ S) : ((V : Int) / 2 ^ S == 0) = true := by
  have e : (V : Int) / 2 ^ S = ((V / 2 ^ S : Nat) : Int) := by simp
  rw [e, Nat.div_eq_of_lt h]; rfl
theorem shrm (V S : Nat) (h : ¬ V < 2 ^ S) : ((V : Int) / 2 ^ S == 0) = false := by
  have e : (V : Int) / 2 ^ S = ((V / 2 ^ S : Nat) : Int) := by simp
  have hp : 0 < V / 2 ^ S := Nat.div_pos (by omega) (Nat.pow_pos (by omega))
  rw [e, beq_eq_false_iff_ne]; omega

open Classical in
noncomputable def smallB (D : Nat) (zs : List Int) : Bool := decide (Rp.Small D zs)
theorem smallB_yes {D : Nat} {zs : List Int} (h : Rp.Small D zs) : smallB D zs = true := by unfold smallB; exact @decide_eq_true _ (Classical.propDecidable _) h
theorem smallB_no {D : Nat} {zs : List Int} (h : ¬ Rp.Small D zs) : smallB D zs = false := by unfold smallB; exact @decide_eq_false _ (Classical.propDecidable _) h

/-- 64-bit numbers -/
def I64L (zs : List Int) : Prop := ∀ z ∈ zs, -9223372036854775808 ≤ z ∧ z ≤ 9223372036854775807

set_option maxHeartbeats 1000000 in
theorem numbersFit_any (a : Option Addr) (n cap D : Nat) (zs : List Int) (w : World) (h : Ints w a zs) (hn : zs.length = n) (hl : n ≤ 2000000) (hD : D ≤ 32) (h64 : I64L zs) :
    Calls Try.prog 38 #[.slice a n cap, .int .i64 D] w fun e w' => e = .returned (.bool (smallB D zs)) ∧ w' = w := by
  have HI : Hid (Ints w a zs) := h
  have HN : Hid (zs.length = n) := hn
  have H64 : Hid (I64L zs) := h64
  have hzg : n ≤ zs.length := by omega
  clear h hn h64
  go_enter Try.func38, Try.ntmps38
  go_wp2_with fail
  go_loop [9] (fun i => ∃ k : Nat, k ≤ n ∧ i = .int .i64 k ∧ (∀ j (hj : j < zs.length), j < k → 0 ≤ zs[j] ∧ (zs[j]).toNat < 2 ^ D)) (fun i => n - (intOf i).toNat)
  case atStart => exact ⟨0, Nat.zero_le _, rfl, fun j hj h0 => absurd h0 (by omega)⟩
  case round =>
    obtain ⟨k, hk, rfl, hall⟩ := hrel
    have HA : Hid (∀ j (hj : j < zs.length), j < k → 0 ≤ zs[j] ∧ (zs[j]).toNat < 2 ^ D) := hall
    clear hall
    by_cases hlt : k < n
    · have hkz : k < zs.length := by omega
      rcases HI.out with h | ⟨b, off, rfl, hbB, hc⟩
      · rw [h] at hkz; simp at hkz
      · have hck := hc k hkz
        have hki : (k : Int) < (n : Int) := by omega
        have hbd := H64.out zs[k] (List.getElem_mem hkz)
        clear hc
        obtain ⟨x, hx⟩ : ∃ x, x = zs[k] := ⟨_, rfl⟩
        rw [← hx] at hck hbd
        have HX : Hid (x = zs[k]) := hx
        clear hx
        by_cases hneg : x < 0
        · have d1 : decide (x < 0) = true := by simpa using hneg
          have HT : Hid (smallB D zs = false) := smallB_no (fun g => by have := (g zs[k] (List.getElem_mem hkz)).1; rw [← HX.out] at this; omega)
          go_wp2_with fail
          go_ret
          exact ⟨by rw [HT.out]; rfl, rfl⟩
        · have d1 : decide (x < 0) = false := by simpa using hneg
          obtain ⟨V, rfl⟩ := Int.eq_ofNat_of_zero_le (show 0 ≤ x by omega)
          clear hneg
          by_cases hV : V < 2 ^ D
          · have hz := shrz V D hV
            have HV : Hid (V < 2 ^ D) := hV
            clear hV
            go_wp2_with fail
            go_round
            case rel =>
              refine ⟨k + 1, by omega, by go_num, fun j hj h1 => ?_⟩
              by_cases e : j < k
              · exact HA.out j hj e
              · have : j = k := by omega
                subst this
                rw [← HX.out]; exact ⟨by omega, HV.out⟩
            case measure => simp [intOf]; omega
          · have hz := shrm V D hV
            have HT : Hid (smallB D zs = false) := smallB_no (fun g => by have := (g zs[k] (List.getElem_mem hkz)).2; rw [← HX.out] at this; exact hV this)
            clear hV
            go_wp2_with fail
            go_ret
            exact ⟨by rw [HT.out]; rfl, rfl⟩
    · have HT : Hid (smallB D zs = true) := smallB_yes (fun z hz => by
        obtain ⟨j, hj, rfl⟩ := List.getElem_of_mem hz
        exact HA.out j hj (by have := HN.out; omega))
      have hlt' : ¬ (k : Int) < (n : Int) := by omega
      clear HA
      go_wp2_with fail
      go_ret
      exact ⟨by rw [HT.out]; rfl, rfl⟩
end Go.Proofs.Ytjikjjganloobaa
