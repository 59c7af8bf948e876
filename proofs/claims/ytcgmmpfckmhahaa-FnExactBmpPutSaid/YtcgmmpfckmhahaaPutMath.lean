/- Plain mathematics of writing a number in bytes. -/
import Init
namespace Go.Proofs.Ytcgmmpfckmhahaa
namespace Pt

/-- the bytes of a number, the lowest first -/
def low : Nat → Nat → List UInt8
  | _, 0 => []
  | n, k + 1 => UInt8.ofNat (n % 256) :: low (n / 256) k

theorem low_len : ∀ (k n : Nat), (low n k).length = k := by
  intro k
  induction k with
  | zero => intro n; rfl
  | succ k ih => intro n; simp [low, ih]

/-- the i-th byte is what a shift tells -/
theorem low_get : ∀ (k n i : Nat), i < k → (low n k)[i]? = some (UInt8.ofNat (n / 256 ^ i % 256)) := by
  intro k
  induction k with
  | zero => intro n i h; omega
  | succ k ih =>
    intro n i h
    cases i with
    | zero => simp [low]
    | succ i =>
      simp only [low, List.getElem?_cons_succ]
      rw [ih (n / 256) i (by omega), Nat.div_div_eq_div_mul]
      congr 3
      rw [Nat.pow_succ, Nat.mul_comm]

/-- one byte more, behind -/
theorem low_snoc : ∀ (k n : Nat), low n (k + 1) = low n k ++ [UInt8.ofNat (n / 256 ^ k % 256)] := by
  intro k
  induction k with
  | zero => intro n; simp [low]
  | succ k ih =>
    intro n
    show UInt8.ofNat (n % 256) :: low (n / 256) (k + 1) = _
    rw [ih (n / 256), Nat.div_div_eq_div_mul]
    simp only [low, List.cons_append]
    rw [Nat.pow_succ, Nat.mul_comm 256]

theorem range_low (N S : Nat) : ((List.range S).map fun j => N / 256 ^ j % 256).map UInt8.ofNat = low N S := by
  apply List.ext_getElem?
  intro i
  by_cases h : i < S
  · rw [low_get S N i h]; simp [h]
  · rw [List.getElem?_eq_none (by simp; omega), List.getElem?_eq_none (by rw [low_len]; omega)]

theorem range_high (N S : Nat) : ((List.range S).map fun j => N / 256 ^ (S - 1 - j) % 256).map UInt8.ofNat = (low N S).reverse := by
  apply List.ext_getElem?
  intro i
  by_cases h : i < S
  · rw [List.getElem?_reverse (by rw [low_len]; exact h), low_len, low_get S N (S - 1 - i) (by omega)]; simp [h]
  · rw [List.getElem?_eq_none (by simp; omega), List.getElem?_eq_none (by simp [low_len]; omega)]

/-- what 'NumPut' writes -/
def num (n size : Nat) (hi : Bool) : List UInt8 := if hi then (low n size).reverse else low n size

theorem num_len (n size : Nat) (hi : Bool) : (num n size hi).length = size := by
  unfold num; split <;> simp [low_len]

end Pt
end Go.Proofs.Ytcgmmpfckmhahaa
