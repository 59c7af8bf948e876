/- Plain mathematics of lengths of a code: how much of a whole they take. -/
import Init
namespace Go.Proofs.Ytcolgcddhchkhaa
namespace Cd

def okLen (z : Int) : Bool := decide (0 ≤ z) && decide (z ≤ 15)
def part (z : Int) : Nat := if 0 < z then 2 ^ (15 - z.toNat) else 0
def taken : List Int → Nat
  | [] => 0
  | z :: l => part z + taken l
def valid (l : List Int) : Bool := l.all okLen

theorem taken_append (l m : List Int) : taken (l ++ m) = taken l + taken m := by
  induction l with
  | nil => simp [taken]
  | cons z l ih => simp only [List.cons_append, taken, ih]; omega

theorem valid_append (l m : List Int) : valid (l ++ m) = (valid l && valid m) := by
  unfold valid; rw [List.all_append]

theorem part_le (z : Int) : part z ≤ 32768 := by
  unfold part
  split
  · exact Nat.le_trans (Nat.pow_le_pow_right (by omega) (show 15 - z.toNat ≤ 15 by omega)) (by decide)
  · omega

theorem taken_le (l : List Int) : taken l ≤ 32768 * l.length := by
  induction l with
  | nil => simp [taken]
  | cons z l ih => have := part_le z; simp only [taken, List.length_cons]; omega

theorem take_taken_le (l : List Int) (k : Nat) : taken (l.take k) ≤ taken l := by
  have h := taken_append (l.take k) (l.drop k)
  rw [List.take_append_drop] at h; omega

theorem take_valid (l : List Int) (k : Nat) (h : valid l = true) : valid (l.take k) = true := by
  have e := valid_append (l.take k) (l.drop k)
  rw [List.take_append_drop, h] at e
  exact (Bool.and_eq_true _ _ ▸ e.symm).1

theorem take_snoc (l : List Int) (k : Nat) (h : k < l.length) : l.take (k + 1) = l.take k ++ [l[k]] := by
  rw [List.take_succ_eq_append_getElem h]

theorem taken_snoc (l : List Int) (k : Nat) (h : k < l.length) : taken (l.take (k + 1)) = taken (l.take k) + part l[k] := by
  rw [take_snoc l k h, taken_append]; simp [taken]

theorem valid_snoc (l : List Int) (k : Nat) (h : k < l.length) : valid (l.take (k + 1)) = (valid (l.take k) && okLen l[k]) := by
  rw [take_snoc l k h, valid_append]; simp [valid]

theorem not_valid (l : List Int) (k : Nat) (h : k < l.length) (hz : okLen l[k] = false) : valid l = false := by
  cases e : valid l
  · rfl
  · have := take_valid l (k + 1) e
    rw [valid_snoc l k h, hz, Bool.and_false] at this
    cases this

/-- what is left of the whole; -1 if lengths are not ok -/
def left (l : List Int) : Int := if valid l = true ∧ taken l ≤ 32768 then 32768 - (taken l : Int) else -1

theorem left_bad (l : List Int) (k : Nat) (h : k < l.length) (hz : okLen l[k] = false) : left l = -1 := by
  unfold left; rw [not_valid l k h hz, if_neg (by simp)]

theorem left_over (l : List Int) (k : Nat) (h : 32768 < taken (l.take k)) : left l = -1 := by
  unfold left
  have := take_taken_le l k
  rw [if_neg (by omega)]

def okB (l : List Int) : Bool := decide (l.length ≤ 300) && (valid l && decide (taken l ≤ 32768))

theorem left_ok (l : List Int) : (decide (0 ≤ left l)) = (valid l && decide (taken l ≤ 32768)) := by
  unfold left
  cases hv : valid l
  · simp
  · by_cases h : taken l ≤ 32768
    · simp [h]; omega
    · simp [h]

end Cd
end Go.Proofs.Ytcolgcddhchkhaa
