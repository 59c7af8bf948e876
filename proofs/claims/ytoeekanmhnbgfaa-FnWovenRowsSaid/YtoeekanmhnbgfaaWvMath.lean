/- The rows of a woven picture (mathematics). -/
import Derived.Test.YtoeekanmhnbgfaaBase
namespace Go.Proofs.Ytoeekanmhnbgfaa
namespace Wv

def frm (i : Nat) : Nat := [0, 4, 2, 1].getD i 0
def stp (i : Nat) : Nat := [8, 8, 4, 2].getD i 0
theorem bounds : ∀ i, i < 4 → frm i ≤ 4 ∧ 2 ≤ stp i ∧ stp i ≤ 8 ∧ frm i < stp i := by decide

/-- how many there are from f on below H, s from one to the next -/
def num (f s H : Nat) : Nat := (H + s - 1 - f) / s
theorem num_iff {f s H k : Nat} (hs : 1 ≤ s) (hf : f < s) : k < num f s H ↔ f + k * s < H := by
  unfold num
  rw [Nat.lt_iff_add_one_le, Nat.le_div_iff_mul_le (by omega), Nat.add_mul, Nat.one_mul]
  omega
theorem num_le {f s H : Nat} (hs : 1 ≤ s) (hs8 : s ≤ 8) (hH : H ≤ 20) : num f s H ≤ 28 := Nat.le_trans (Nat.div_le_self _ _) (by omega)

def prog (f s k : Nat) : List Int := (List.range k).map fun t => ((f + t * s : Nat) : Int)
theorem prog_succ (f s k : Nat) : prog f s (k + 1) = prog f s k ++ [((f + k * s : Nat) : Int)] := by simp [prog, List.range_succ]
theorem prog_len (f s k : Nat) : (prog f s k).length = k := by simp [prog]

/-- the rows of the first i turns -/
def rows (H : Nat) : Nat → List Int
  | 0 => []
  | i + 1 => rows H i ++ prog (frm i) (stp i) (num (frm i) (stp i) H)
theorem rows_succ (H i : Nat) : rows H (i + 1) = rows H i ++ prog (frm i) (stp i) (num (frm i) (stp i) H) := rfl
theorem rows_len (H : Nat) (hH : H ≤ 20) : ∀ i, i ≤ 4 → (rows H i).length ≤ 28 * i
  | 0, _ => Nat.le_refl _
  | i + 1, h => by
    have b := bounds i (by omega)
    have := rows_len H hH i (by omega)
    have n := num_le (f := frm i) (s := stp i) (H := H) (by omega) (by omega) hH
    rw [rows_succ, List.length_append, prog_len]; omega

/-- the answer at any height -/
def all (h : Int) : List Int := if 1 ≤ h ∧ h ≤ 20 then rows h.toNat 4 else []
theorem all_yes (H : Nat) (h : 1 ≤ H ∧ H ≤ 20) : all (H : Int) = rows H 4 := by
  unfold all; rw [if_pos (by omega), Int.toNat_natCast]
theorem all_no {h : Int} (n : ¬ (1 ≤ h ∧ h ≤ 20)) : all h = [] := if_neg n
theorem all_len (h : Int) : (all h).length ≤ 112 := by
  rcases Classical.em (1 ≤ h ∧ h ≤ 20) with g | g
  · obtain ⟨H, rfl⟩ := Int.eq_ofNat_of_zero_le (show 0 ≤ h by omega)
    rw [all_yes H (by omega)]; exact rows_len H (by omega) 4 (by omega)
  · rw [all_no g]; exact Nat.zero_le _
end Wv
end Go.Proofs.Ytoeekanmhnbgfaa
