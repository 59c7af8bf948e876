/- Plain mathematics of bits of a text as a number: the lowest first, or the highest first. -/
import Init
namespace Go.Proofs.Ytjfihmpnbblomaa
namespace Bg

/-- the highest first, of the first k -/
def big (b : Nat → Nat) : Nat → Nat
  | 0 => 0
  | k + 1 => 2 * big b k + b k

/-- the lowest first, of the first k -/
def low (b : Nat → Nat) : Nat → Nat
  | 0 => 0
  | k + 1 => low b k + b k * 2 ^ k

theorem big_lt (b : Nat → Nat) (hb : ∀ i, b i < 2) : ∀ k, big b k < 2 ^ k := by
  intro k
  induction k with
  | zero => simp [big]
  | succ k ih => have := hb k; simp only [big, Nat.pow_succ]; omega

theorem low_lt (b : Nat → Nat) (hb : ∀ i, b i < 2) : ∀ k, low b k < 2 ^ k := by
  intro k
  induction k with
  | zero => simp [low]
  | succ k ih =>
    have h := hb k
    have h2 : b k * 2 ^ k ≤ 1 * 2 ^ k := Nat.mul_le_mul_right _ (by omega)
    simp only [low, Nat.pow_succ]; omega

def num (b : Nat → Nat) (size : Nat) (hi : Bool) : Nat := if hi then big b size else low b size

/-- where in its byte a bit stands -/
def spot (hi : Bool) (i : Nat) : Nat := if hi then 7 - i % 8 else i % 8
theorem spot_le (hi : Bool) (i : Nat) : spot hi i ≤ 7 := by unfold spot; split <;> omega
end Bg
end Go.Proofs.Ytjfihmpnbblomaa
