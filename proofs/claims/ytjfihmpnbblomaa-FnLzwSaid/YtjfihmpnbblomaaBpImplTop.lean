/- BitsPut of the program, for every list of bits. -/
import Derived.Test.YtjfihmpnbblomaaBpMove
import Derived.Test.YtjfihmpnbblomaaBpAnswer
namespace Go.Proofs.Ytjfihmpnbblomaa
open Go.RowKit

theorem shr_zero (V S : Nat) (h : V < 2 ^ S) : ((V : Int) / 2 ^ S == 0) = true := by
  have e : (V : Int) / 2 ^ S = ((V / 2 ^ S : Nat) : Int) := by simp
  rw [e, Nat.div_eq_of_lt h]; rfl
theorem shr_more (V S : Nat) (h : ¬ V < 2 ^ S) : ((V : Int) / 2 ^ S == 0) = false := by
  have e : (V : Int) / 2 ^ S = ((V / 2 ^ S : Nat) : Int) := by simp
  have hp : 0 < V / 2 ^ S := Nat.div_pos (by omega) (Nat.pow_pos (by omega))
  rw [e, beq_eq_false_iff_ne]; omega

set_option maxHeartbeats 1000000 in
theorem bitOk_any (p : Int × Int) (w : World) (h1 : -9223372036854775808 ≤ p.1) (h2 : p.1 ≤ 9223372036854775807) :
    Calls Try.prog 62 #[.agg #[.int .i64 p.1, .int .i64 p.2]] w fun e w' => e = .returned (.bool (Bp.okB p)) ∧ Below w.heap.size w w' := by
  obtain ⟨v, s⟩ := p
  simp only at h1 h2 ⊢
  by_cases a1 : 0 ≤ s
  · have d1 : decide (0 ≤ s) = true := by simpa using a1
    by_cases a2 : s ≤ 24
    · have d2 : decide (s ≤ 24) = true := by simpa using a2
      by_cases a3 : 0 ≤ v
      · have d3 : decide (0 ≤ v) = true := by simpa using a3
        obtain ⟨S, rfl⟩ := Int.eq_ofNat_of_zero_le a1
        obtain ⟨V, rfl⟩ := Int.eq_ofNat_of_zero_le a3
        by_cases a4 : V < 2 ^ S
        · have hok : Bp.okB ((V : Int), (S : Int)) = true := Bp.okB_true ⟨a1, a2, a3, by
            show (V : Int).toNat < 2 ^ (S : Int).toNat
            rw [Int.toNat_natCast, Int.toNat_natCast]; exact a4⟩
          have hz := shr_zero V S a4
          have HO : Hid (Bp.okB ((V : Int), (S : Int)) = true) := hok
          have hS24 : S ≤ 24 := by omega
          clear hok a4 a1 a2 a3
          go_enter Try.func62, Try.ntmps62
          go_wp2_with fail
          go_ret
          exact ⟨by rw [HO.out]; rfl, (Below.refl _ _).alloc (Nat.le_refl _) _⟩
        · have hok : Bp.okB ((V : Int), (S : Int)) = false := Bp.okB_false (fun g => a4 (by
            have h4 : (V : Int).toNat < 2 ^ (S : Int).toNat := g.2.2.2
            rw [Int.toNat_natCast, Int.toNat_natCast] at h4; exact h4))
          have hz := shr_more V S a4
          have HO : Hid (Bp.okB ((V : Int), (S : Int)) = false) := hok
          have hS24 : S ≤ 24 := by omega
          clear hok a4 a1 a2 a3
          go_enter Try.func62, Try.ntmps62
          go_wp2_with fail
          go_ret
          exact ⟨by rw [HO.out]; rfl, (Below.refl _ _).alloc (Nat.le_refl _) _⟩
      · have d3 : decide (0 ≤ v) = false := by simpa using a3
        have HO : Hid (Bp.okB (v, s) = false) := Bp.okB_false (fun g => a3 g.2.2.1)
        clear a3
        go_enter Try.func62, Try.ntmps62
        go_wp2_with fail
        go_ret
        exact ⟨by rw [HO.out]; rfl, (Below.refl _ _).alloc (Nat.le_refl _) _⟩
    · have d2 : decide (s ≤ 24) = false := by simpa using a2
      have HO : Hid (Bp.okB (v, s) = false) := Bp.okB_false (fun g => a2 g.2.1)
      clear a2
      go_enter Try.func62, Try.ntmps62
      go_wp2_with fail
      go_ret
      exact ⟨by rw [HO.out]; rfl, (Below.refl _ _).alloc (Nat.le_refl _) _⟩
  · have d1 : decide (0 ≤ s) = false := by simpa using a1
    have HO : Hid (Bp.okB (v, s) = false) := Bp.okB_false (fun g => a1 g.1)
    clear a1
    go_enter Try.func62, Try.ntmps62
    go_wp2_with fail
    go_ret
    exact ⟨by rw [HO.out]; rfl, (Below.refl _ _).alloc (Nat.le_refl _) _⟩
end Go.Proofs.Ytjfihmpnbblomaa
