/- Some bits, and some more behind, are all of them at once. -/
import Derived.Test.YtjfihmpnbblomaaBgMath
namespace Go.Proofs.Ytjfihmpnbblomaa
namespace Bg

theorem low_add (b : Nat → Nat) (k : Nat) : ∀ m, low b (k + m) = low b k + low (fun i => b (k + i)) m * 2 ^ k := by
  intro m
  induction m with
  | zero => simp [low]
  | succ m ih =>
    show low b (k + m) + b (k + m) * 2 ^ (k + m) = _
    rw [ih]
    show _ = low b k + (low (fun i => b (k + i)) m + b (k + m) * 2 ^ m) * 2 ^ k
    rw [Nat.add_mul, Nat.mul_assoc, ← Nat.pow_add, Nat.add_comm m k]
    omega

theorem big_add (b : Nat → Nat) (k : Nat) : ∀ m, big b (k + m) = big b k * 2 ^ m + big (fun i => b (k + i)) m := by
  intro m
  induction m with
  | zero => simp [big]
  | succ m ih =>
    show 2 * big b (k + m) + b (k + m) = _
    rw [ih, Nat.pow_succ, ← Nat.mul_assoc]
    show _ = _ + (2 * big (fun i => b (k + i)) m + b (k + m))
    omega

theorem num_lt (b : Nat → Nat) (hb : ∀ i, b i < 2) (k : Nat) (hi : Bool) : num b k hi < 2 ^ k := by
  cases hi
  · exact low_lt b hb k
  · exact big_lt b hb k
end Bg
end Go.Proofs.Ytjfihmpnbblomaa
