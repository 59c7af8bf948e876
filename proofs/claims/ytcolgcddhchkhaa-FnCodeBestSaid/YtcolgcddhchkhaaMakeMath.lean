/- Plain mathematics of the numbers of a code, as both texts reckon them: length by length, symbol by symbol. -/
import Init
namespace Go.Proofs.Ytcolgcddhchkhaa
namespace Mk

/-- the first k symbols of one length -/
def inner (zs : List Int) (n : Int) : Nat → Nat × List Int → Nat × List Int
  | 0, s => s
  | k + 1, s => if zs.getD k 0 = n then ((inner zs n k s).1 + 1, (inner zs n k s).2.set k ((inner zs n k s).1 : Int)) else inner zs n k s

/-- all lengths up to m -/
def outer (zs : List Int) : Nat → Nat × List Int
  | 0 => (0, List.replicate zs.length 0)
  | m + 1 => inner zs ((m + 1 : Nat) : Int) zs.length (2 * (outer zs m).1, (outer zs m).2)

def mk (zs : List Int) : List Int := (outer zs 15).2

theorem inner_hit (zs : List Int) (n : Int) (k : Nat) (s : Nat × List Int) (h : zs.getD k 0 = n) :
    inner zs n (k + 1) s = ((inner zs n k s).1 + 1, (inner zs n k s).2.set k ((inner zs n k s).1 : Int)) := if_pos h
theorem inner_miss (zs : List Int) (n : Int) (k : Nat) (s : Nat × List Int) (h : ¬ zs.getD k 0 = n) : inner zs n (k + 1) s = inner zs n k s := if_neg h

theorem inner_le (zs : List Int) (n : Int) (s : Nat × List Int) : ∀ k, (inner zs n k s).1 ≤ s.1 + k := by
  intro k
  induction k with
  | zero => exact Nat.le_refl _
  | succ k ih =>
    by_cases h : zs.getD k 0 = n
    · rw [inner_hit zs n k s h]; simp only; omega
    · rw [inner_miss zs n k s h]; omega

theorem inner_len (zs : List Int) (n : Int) (s : Nat × List Int) : ∀ k, (inner zs n k s).2.length = s.2.length := by
  intro k
  induction k with
  | zero => rfl
  | succ k ih =>
    by_cases h : zs.getD k 0 = n
    · rw [inner_hit zs n k s h]; simp only [List.length_set]; exact ih
    · rw [inner_miss zs n k s h]; exact ih

theorem outer_len (zs : List Int) : ∀ m, (outer zs m).2.length = zs.length := by
  intro m
  induction m with
  | zero => simp [outer]
  | succ m ih => show (inner zs _ zs.length _).2.length = _; rw [inner_len]; exact ih

theorem outer_le (zs : List Int) (hz : zs.length ≤ 300) : ∀ m, (outer zs m).1 + 300 ≤ 300 * 2 ^ m := by
  intro m
  induction m with
  | zero => simp [outer]
  | succ m ih =>
    have := inner_le zs ((m + 1 : Nat) : Int) (2 * (outer zs m).1, (outer zs m).2) zs.length
    show (inner zs _ zs.length _).1 + 300 ≤ _
    rw [Nat.pow_succ]
    simp only at this
    omega

theorem outer_bound (zs : List Int) (hz : zs.length ≤ 300) (m : Nat) (hm : m ≤ 15) : (outer zs m).1 ≤ 9830400 := by
  have h := outer_le zs hz m
  have h2 : 2 ^ m ≤ 2 ^ 15 := Nat.pow_le_pow_right (by omega) hm
  omega

theorem mk_len (zs : List Int) : (mk zs).length = zs.length := outer_len zs 15
end Mk
end Go.Proofs.Ytcolgcddhchkhaa
