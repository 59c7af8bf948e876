/- Writing a number and reading it are each other's way back. -/
import Derived.Test.YtgbcjkpmiceddaaNmMath
import Derived.Test.YtgbcjkpmiceddaaPutMath
namespace Go.Proofs.Ytgbcjkpmiceddaa
namespace Np

theorem low_congr (b c : Nat → Nat) : ∀ k, (∀ i, i < k → b i = c i) → Nm.low b k = Nm.low c k := by
  intro k
  induction k with
  | zero => intro _; rfl
  | succ k ih => intro h; simp only [Nm.low]; rw [ih (fun i hi => h i (by omega)), h k (by omega)]

theorem low_shift (b : Nat → Nat) : ∀ k, Nm.low b (k + 1) = b 0 + 256 * Nm.low (fun i => b (i + 1)) k := by
  intro k
  induction k with
  | zero => simp [Nm.low]
  | succ k ih =>
    have e : Nm.low b (k + 1 + 1) = Nm.low b (k + 1) + b (k + 1) * 256 ^ (k + 1) := rfl
    have e2 : Nm.low (fun i => b (i + 1)) (k + 1) = Nm.low (fun i => b (i + 1)) k + b (k + 1) * 256 ^ k := rfl
    rw [e, ih, e2, Nat.pow_succ, ← Nat.mul_assoc]
    generalize b (k + 1) * 256 ^ k = x
    omega

theorem big_low (b : Nat → Nat) : ∀ k, Nm.big b k = Nm.low (fun i => b (k - 1 - i)) k := by
  intro k
  induction k with
  | zero => rfl
  | succ k ih =>
    rw [low_shift]
    show 256 * Nm.big b k + b k = _
    rw [ih]
    have : Nm.low (fun i => b (k + 1 - 1 - (i + 1))) k = Nm.low (fun i => b (k - 1 - i)) k := low_congr _ _ k (fun i hi => by show b _ = b _; congr 1; omega)
    rw [this]
    show _ = b (k + 1 - 1 - 0) + _
    rw [show k + 1 - 1 - 0 = k from by omega]
    omega

theorem low_digits (n : Nat) : ∀ k, Nm.low (fun i => n / 256 ^ i % 256) k = n % 256 ^ k := by
  intro k
  induction k with
  | zero => simp [Nm.low]; omega
  | succ k ih =>
    show Nm.low (fun i => n / 256 ^ i % 256) k + n / 256 ^ k % 256 * 256 ^ k = _
    rw [ih, Nat.mod_pow_succ, Nat.mul_comm]

theorem put_low (b : Nat → Nat) (hb : ∀ i, b i < 256) : ∀ S, Pt.low (Nm.low b S) S = (List.range S).map (fun i => UInt8.ofNat (b i)) := by
  intro S
  induction S generalizing b with
  | zero => rfl
  | succ S ih =>
    have h0 := hb 0
    show UInt8.ofNat (Nm.low b (S + 1) % 256) :: Pt.low (Nm.low b (S + 1) / 256) S = _
    rw [low_shift, show (b 0 + 256 * Nm.low (fun i => b (i + 1)) S) % 256 = b 0 from by omega,
      show (b 0 + 256 * Nm.low (fun i => b (i + 1)) S) / 256 = Nm.low (fun i => b (i + 1)) S from by omega, ih _ (fun i => hb (i + 1)), List.range_succ_eq_map]
    simp

theorem rev_range (f : Nat → UInt8) (S : Nat) : ((List.range S).map fun i => f (S - 1 - i)).reverse = (List.range S).map f := by
  apply List.ext_getElem?
  intro i
  by_cases h : i < S
  · rw [List.getElem?_reverse (by simpa using h)]
    simp [h]
    rw [List.getElem?_range (by omega)]
    simp
    congr 1
    omega
  · rw [List.getElem?_eq_none (by simp; omega), List.getElem?_eq_none (by simp; omega)]

/-- what was read is written as it was -/
theorem put_get (b : Nat → Nat) (hb : ∀ i, b i < 256) (S : Nat) (hi : Bool) : Pt.num (Nm.num b S hi) S hi = (List.range S).map (fun i => UInt8.ofNat (b i)) := by
  cases hi
  · exact put_low b hb S
  · show (Pt.low (Nm.big b S) S).reverse = _
    rw [big_low, put_low _ (fun i => hb _), rev_range (fun i => UInt8.ofNat (b i)) S]

/-- what was written is read as it was -/
theorem get_put (n S : Nat) (hi : Bool) (h : n < 256 ^ S) (b : Nat → Nat) (hb : ∀ i, i < S → (Pt.num n S hi)[i]? = some (UInt8.ofNat (b i)) ∧ b i < 256) : Nm.num b S hi = n := by
  have key : ∀ x y : Nat, x < 256 → y < 256 → UInt8.ofNat x = UInt8.ofNat y → x = y := by
    intro x y hx hy e
    have := congrArg UInt8.toNat e
    rwa [UInt8.toNat_ofNat_of_lt' (by simpa using hx), UInt8.toNat_ofNat_of_lt' (by simpa using hy)] at this
  cases hi
  · show Nm.low b S = n
    rw [low_congr b (fun i => n / 256 ^ i % 256) S, low_digits, Nat.mod_eq_of_lt h]
    intro i hiS
    obtain ⟨h1, h2⟩ := hb i hiS
    have h3 : (Pt.low n S)[i]? = some (UInt8.ofNat (b i)) := h1
    rw [Pt.low_get S n i hiS] at h3
    exact (key _ _ (Nat.mod_lt _ (by omega)) h2 (Option.some.inj h3)).symm
  · show Nm.big b S = n
    rw [big_low, low_congr _ (fun i => n / 256 ^ i % 256) S, low_digits, Nat.mod_eq_of_lt h]
    intro i hiS
    obtain ⟨h1, h2⟩ := hb (S - 1 - i) (by omega)
    have h3 : ((Pt.low n S).reverse)[S - 1 - i]? = some (UInt8.ofNat (b (S - 1 - i))) := h1
    rw [List.getElem?_reverse (by rw [Pt.low_len]; omega), Pt.low_len, Pt.low_get S n _ (by omega), show S - 1 - (S - 1 - i) = i from by omega] at h3
    exact (key _ _ (Nat.mod_lt _ (by omega)) h2 (Option.some.inj h3)).symm

/-- the other way round it is the other way round -/
theorem put_other (n S i : Nat) (hi : Bool) (h : i < S) : (Pt.num n S hi)[i]? = (Pt.num n S (!hi))[S - 1 - i]? := by
  cases hi
  · show (Pt.low n S)[i]? = ((Pt.low n S).reverse)[S - 1 - i]?
    rw [List.getElem?_reverse (by rw [Pt.low_len]; omega), Pt.low_len, show S - 1 - (S - 1 - i) = i from by omega]
  · show ((Pt.low n S).reverse)[i]? = (Pt.low n S)[S - 1 - i]?
    rw [List.getElem?_reverse (by rw [Pt.low_len]; omega), Pt.low_len]
end Np
end Go.Proofs.Ytgbcjkpmiceddaa
