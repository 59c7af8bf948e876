/- Bits packed into bytes, as the specification does it. -/
import Derived.Test.YtjdilanmkgodnaaInWalks
import Derived.Test.YtjdilanmkgodnaaPowWalks
import Derived.Test.YtjdilanmkgodnaaBitRow
import Derived.Test.YtjdilanmkgodnaaBpMath
import Derived.Deep.RegionHeld3
namespace Go.Proofs.Ytjdilanmkgodnaa
open Go.RowKit

set_option maxHeartbeats 1000000 in
theorem l1Ok_yes (V S : Nat) (w : World) (hS : S ≤ 24) (hV : V < 2 ^ S) :
    Calls Try.prog 51 #[.agg #[.int .i64 V, .int .i64 S]] w fun e w' => e = .returned (.bool true) ∧ Below w.heap.size w w' := by
  have hp : 2 ^ S ≤ 2 ^ 24 := Nat.pow_le_pow_right (by omega) hS
  obtain ⟨Q, hQ⟩ : ∃ Q, Q = 2 ^ S := ⟨_, rfl⟩
  have hQ0 : 0 < Q := by rw [hQ]; exact Nat.pow_pos (by omega)
  obtain ⟨P, hP⟩ : ∃ P, P + 1 = Q := ⟨Q - 1, by omega⟩
  have HP : Hid (∀ w : World, Calls Try.prog 50 #[.int .i64 (S : Int)] w fun e w' => e = .returned (.int .i64 (Q : Int)) ∧ w' = w) := by
    intro w
    have := l1Pow_any S w (by omega)
    rw [← hQ] at this
    exact this
  have hw : IntKind.i64.wrap ((Q : Int) - 1) = (P : Int) := by rw [show (Q : Int) - 1 = (P : Int) by omega]; exact wrap_i64_nat P (by omega)
  have hpb : P ≤ 16777216 := by omega
  have hVP : (V : Int) ≤ (P : Int) := by omega
  clear hP hp hV hQ
  go_enter Try.func51, Try.ntmps51
  go_wp2_with fail
  go_region_held3 (fun w' => w'.cell? ⟨w.heap.size, 0, none⟩ = some (.int .i64 (V : Int)) ∧ w'.cell? ⟨w.heap.size, 1, none⟩ = some (.int .i64 (S : Int))) (go_keep) (first | (go_at_call 42; refine (l1In_yes _ _ _ _ (by omega) (by omega)).mono ?_; rintro e w' ⟨rfl, rfl⟩) | (go_at_call 50; refine (HP.out _).mono ?_; rintro e w' ⟨rfl, rfl⟩))
  all_goals go_wp2_with fail
  all_goals go_ret
  all_goals exact ⟨rfl, ((Below.refl _ _).alloc (Nat.le_refl _) _).drew⟩

set_option maxHeartbeats 1000000 in
theorem l1Ok_noValue (v : Int) (S : Nat) (w : World) (hS : S ≤ 24) (h : ¬ (0 ≤ v ∧ v < ((2 ^ S : Nat) : Int))) :
    Calls Try.prog 51 #[.agg #[.int .i64 v, .int .i64 S]] w fun e w' => e = .returned (.bool false) ∧ Below w.heap.size w w' := by
  have hp : 2 ^ S ≤ 2 ^ 24 := Nat.pow_le_pow_right (by omega) hS
  obtain ⟨Q, hQ⟩ : ∃ Q, Q = 2 ^ S := ⟨_, rfl⟩
  have hQ0 : 0 < Q := by rw [hQ]; exact Nat.pow_pos (by omega)
  obtain ⟨P, hP⟩ : ∃ P, P + 1 = Q := ⟨Q - 1, by omega⟩
  have HP : Hid (∀ w : World, Calls Try.prog 50 #[.int .i64 (S : Int)] w fun e w' => e = .returned (.int .i64 (Q : Int)) ∧ w' = w) := by
    intro w
    have := l1Pow_any S w (by omega)
    rw [← hQ] at this
    exact this
  have hw : IntKind.i64.wrap ((Q : Int) - 1) = (P : Int) := by rw [show (Q : Int) - 1 = (P : Int) by omega]; exact wrap_i64_nat P (by omega)
  have hpb : P ≤ 16777216 := by omega
  rw [← hQ] at h
  have hVP : ¬ (0 ≤ v ∧ v ≤ (P : Int)) := by omega
  clear hP hp h hQ
  go_enter Try.func51, Try.ntmps51
  go_wp2_with fail
  go_region_held3 (fun w' => w'.cell? ⟨w.heap.size, 0, none⟩ = some (.int .i64 v) ∧ w'.cell? ⟨w.heap.size, 1, none⟩ = some (.int .i64 (S : Int))) (go_keep) (first | (go_at_call 42; refine (l1In_yes _ _ _ _ (by omega) (by omega)).mono ?_; rintro e w' ⟨rfl, rfl⟩) | (go_at_call 42; refine (l1In_no _ _ _ _ (by omega)).mono ?_; rintro e w' ⟨rfl, rfl⟩) | (go_at_call 50; refine (HP.out _).mono ?_; rintro e w' ⟨rfl, rfl⟩))
  all_goals go_wp2_with fail
  all_goals go_ret
  all_goals exact ⟨rfl, ((Below.refl _ _).alloc (Nat.le_refl _) _).drew⟩
set_option maxHeartbeats 1000000 in
theorem l1Ok_noSize (v s : Int) (w : World) (h : ¬ (0 ≤ s ∧ s ≤ 24)) :
    Calls Try.prog 51 #[.agg #[.int .i64 v, .int .i64 s]] w fun e w' => e = .returned (.bool false) ∧ Below w.heap.size w w' := by
  have HN : Hid (∀ w : World, Calls Try.prog 42 #[.int .i64 s, .int .i64 0, .int .i64 24] w fun e w' => e = .returned (.bool false) ∧ w' = w) := fun w => l1In_no _ _ _ w h
  clear h
  go_enter Try.func51, Try.ntmps51
  go_wp2_with fail
  go_quiet ((go_at_call 42; exact Calls.quiet_of_same (HN.out _)))
  all_goals go_wp2_with fail
  all_goals go_ret
  all_goals exact ⟨rfl, below_drewN ((Below.refl _ _).alloc (Nat.le_refl _) _) _⟩


/-- whether a bit is ok, by its two numbers -/
theorem l1Ok_any (p : Int × Int) (w : World) :
    Calls Try.prog 51 #[.agg #[.int .i64 p.1, .int .i64 p.2]] w fun e w' => e = .returned (.bool (Bp.okB p)) ∧ Below w.heap.size w w' := by
  obtain ⟨v, s⟩ := p
  by_cases h1 : 0 ≤ s ∧ s ≤ 24
  · obtain ⟨S, rfl⟩ := Int.eq_ofNat_of_zero_le h1.1
    by_cases h2 : 0 ≤ v ∧ v < ((2 ^ S : Nat) : Int)
    · obtain ⟨V, rfl⟩ := Int.eq_ofNat_of_zero_le h2.1
      have hok : Bp.Ok ((V : Int), (S : Int)) := ⟨h1.1, h1.2, h2.1, by
        show (V : Int).toNat < 2 ^ (S : Int).toNat
        rw [Int.toNat_natCast, Int.toNat_natCast]; have := h2.2; omega⟩
      rw [Bp.okB_true hok]
      exact l1Ok_yes V S w (by omega) (by have := h2.2; omega)
    · have hno : ¬ Bp.Ok (v, (S : Int)) := fun h => h2 ⟨h.2.2.1, by
        have h4 : v.toNat < 2 ^ (S : Int).toNat := h.2.2.2
        have h0 : 0 ≤ v := h.2.2.1
        rw [Int.toNat_natCast] at h4; omega⟩
      rw [Bp.okB_false hno]
      exact l1Ok_noValue v S w (by omega) h2
  · have hno : ¬ Bp.Ok (v, s) := fun h => h1 ⟨h.1, h.2.1⟩
    rw [Bp.okB_false hno]
    exact l1Ok_noSize v s w h1
end Go.Proofs.Ytjdilanmkgodnaa
