/- Each row of a woven picture stands once (mathematics). -/
import Derived.Test.YtoeekanmhnbgfaaWvMath
namespace Go.Proofs.Ytoeekanmhnbgfaa
namespace Wv

def at_ (H k : Nat) : Nat := ((rows H 4).getD k 0).toNat
def good (H : Nat) : Bool := decide ((rows H 4).length = H) && (List.range H).all (fun k => decide ((rows H 4).getD k 0 = (at_ H k : Int)) && decide (at_ H k < H) && (List.range k).all (fun j => decide (at_ H j ≠ at_ H k)) && (decide ((H + 7) / 8 ≤ k) || decide (at_ H k = 8 * k)))
theorem good_all : (List.range 20).all (fun i => good (i + 1)) = true := by decide +kernel
theorem good_of (H : Nat) (h : 1 ≤ H ∧ H ≤ 20) : good H = true := by
  have := List.all_eq_true.1 good_all (H - 1) (by rw [List.mem_range]; omega)
  rw [show H - 1 + 1 = H by omega] at this; exact this

theorem facts (H : Nat) (h : 1 ≤ H ∧ H ≤ 20) : (rows H 4).length = H ∧ ∀ k, k < H → (rows H 4).getD k 0 = (at_ H k : Int) ∧ at_ H k < H ∧ (∀ j, j < k → at_ H j ≠ at_ H k) ∧ (k < (H + 7) / 8 → at_ H k = 8 * k) := by
  have g := good_of H h
  unfold good at g
  rw [Bool.and_eq_true] at g
  refine ⟨by simpa using g.1, fun k hk => ?_⟩
  have g2 := List.all_eq_true.1 g.2 k (by rw [List.mem_range]; exact hk)
  rw [Bool.and_eq_true, Bool.and_eq_true, Bool.and_eq_true, Bool.or_eq_true] at g2
  obtain ⟨⟨⟨a1, a2⟩, a3⟩, a4⟩ := g2
  refine ⟨by simpa using a1, by simpa using a2, fun j hj => ?_, fun hk8 => ?_⟩
  · have := List.all_eq_true.1 a3 j (by rw [List.mem_range]; exact hj)
    simpa using this
  · rcases a4 with a4 | a4
    · have := of_decide_eq_true a4; omega
    · exact of_decide_eq_true a4
end Wv
end Go.Proofs.Ytoeekanmhnbgfaa
