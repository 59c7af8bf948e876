/- Plain mathematics of numbers in bytes: the lowest first, or the highest first. -/
import Init
namespace Go.Proofs.Ytgbcjkpmiceddaa
namespace Nm

/-- the highest first, of the first k -/
def big (b : Nat → Nat) : Nat → Nat
  | 0 => 0
  | k + 1 => 256 * big b k + b k

/-- the lowest first, of the first k -/
def low (b : Nat → Nat) : Nat → Nat
  | 0 => 0
  | k + 1 => low b k + b k * 256 ^ k

/-- the lowest first, begun at the last one -/
def back (b : Nat → Nat) (size : Nat) : Nat → Nat
  | 0 => 0
  | k + 1 => 256 * back b size k + b (size - 1 - k)

theorem big_lt (b : Nat → Nat) (hb : ∀ i, b i < 256) : ∀ k, big b k < 256 ^ k := by
  intro k
  induction k with
  | zero => simp [big]
  | succ k ih => have := hb k; simp only [big, Nat.pow_succ]; omega

theorem low_lt (b : Nat → Nat) (hb : ∀ i, b i < 256) : ∀ k, low b k < 256 ^ k := by
  intro k
  induction k with
  | zero => simp [low]
  | succ k ih =>
    have h := hb k
    have h2 : b k * 256 ^ k ≤ 255 * 256 ^ k := Nat.mul_le_mul_right _ (by omega)
    simp only [low, Nat.pow_succ]; omega

theorem back_low (b : Nat → Nat) (size : Nat) : ∀ k, k ≤ size → back b size k * 256 ^ (size - k) + low b (size - k) = low b size := by
  intro k
  induction k with
  | zero => intro _; simp [back]
  | succ k ih =>
    intro h
    rw [← ih (by omega)]
    have e : size - k = (size - (k + 1)) + 1 := by omega
    rw [e]
    have e2 : size - 1 - k = size - (k + 1) := by omega
    simp only [back, low, Nat.pow_succ, e2]
    generalize 256 ^ (size - (k + 1)) = p
    generalize low b (size - (k + 1)) = q
    generalize back b size k = r
    generalize b (size - (k + 1)) = t
    rw [Nat.add_mul, Nat.mul_comm 256 r, Nat.mul_assoc r 256 p, Nat.mul_comm 256 p]
    omega

theorem back_all (b : Nat → Nat) (size : Nat) : back b size size = low b size := by
  have := back_low b size size (Nat.le_refl _)
  simpa [low] using this

theorem back_lt (b : Nat → Nat) (size : Nat) (hb : ∀ i, b i < 256) : ∀ k, back b size k < 256 ^ k := by
  intro k
  induction k with
  | zero => simp [back]
  | succ k ih => have := hb (size - 1 - k); simp only [back, Nat.pow_succ]; omega

/-- the number of so many bytes -/
def num (b : Nat → Nat) (size : Nat) (hi : Bool) : Nat := if hi then big b size else low b size

end Nm
end Go.Proofs.Ytgbcjkpmiceddaa
