/- What stands behind a nought (mathematics). -/
import Derived.Test.YtlpfedhehfbfeaaRlMath
namespace Go.Proofs.Ytlpfedhehfbfeaa
namespace Rl

def esc (s : ByteArray) (W H A b : Nat) (g : Grid) (x y : Nat) : Option Out :=
  if b = 0 then some (true, A, g, 0, y + 1)
  else if b = 1 then some (false, A, g, x, y)
  else if b = 2 then (if A + 2 ≤ s.size then some (true, A + 2, g, x + byteAt s A, y + byteAt s (A + 1)) else none)
  else if A + b + b % 2 ≤ s.size then (puts W H (lit s A b) g x y).map (fun r => (true, A + b + b % 2, r.1, r.2, y)) else none
theorem step_short {s : ByteArray} {W H A : Nat} {g : Grid} {x y : Nat} (h : ¬ A + 2 ≤ s.size) : step s W H A g x y = none := by unfold step; rw [if_neg h]
theorem step_run {s : ByteArray} {W H A : Nat} {g : Grid} {x y : Nat} (h : A + 2 ≤ s.size) (hc : 0 < byteAt s A) : step s W H A g x y = (puts W H (List.replicate (byteAt s A) ((byteAt s (A + 1) : Nat) : Int)) g x y).map (fun r => (true, A + 2, r.1, r.2, y)) := by unfold step; rw [if_pos h, if_pos hc]
theorem step_esc {s : ByteArray} {W H A : Nat} {g : Grid} {x y : Nat} (h : A + 2 ≤ s.size) (hc : byteAt s A = 0) : step s W H A g x y = esc s W H (A + 2) (byteAt s (A + 1)) g x y := by
  unfold step esc
  rw [if_pos h, if_neg (by omega)]
theorem esc_two {s : ByteArray} {W H A : Nat} {g : Grid} {x y : Nat} : esc s W H A 2 g x y = if A + 2 ≤ s.size then some (true, A + 2, g, x + byteAt s A, y + byteAt s (A + 1)) else none := by
  unfold esc; rw [if_neg (by omega), if_neg (by omega), if_pos rfl]
theorem esc_lit {s : ByteArray} {W H A b : Nat} {g : Grid} {x y : Nat} (h0 : b ≠ 0) (h1 : b ≠ 1) (h2 : b ≠ 2) : esc s W H A b g x y = if A + b + b % 2 ≤ s.size then (puts W H (lit s A b) g x y).map (fun r => (true, A + b + b % 2, r.1, r.2, y)) else none := by
  unfold esc; rw [if_neg h0, if_neg h1, if_neg h2]
end Rl
end Go.Proofs.Ytlpfedhehfbfeaa
