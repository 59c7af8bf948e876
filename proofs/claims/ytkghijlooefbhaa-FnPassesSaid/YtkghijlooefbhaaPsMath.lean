/- The seven parts of a woven picture (mathematics). -/
import Derived.Test.YtkghijlooefbhaaBase
namespace Go.Proofs.Ytkghijlooefbhaa
namespace Ps

def px (i : Nat) : Nat := [0, 4, 0, 2, 0, 1, 0].getD i 0
def py (i : Nat) : Nat := [0, 0, 4, 0, 2, 0, 1].getD i 0
def dx (i : Nat) : Nat := [8, 8, 4, 4, 2, 2, 1].getD i 0
def dy (i : Nat) : Nat := [8, 8, 8, 4, 4, 2, 2].getD i 0

theorem bounds : ∀ i, i < 7 → px i ≤ 4 ∧ py i ≤ 4 ∧ 1 ≤ dx i ∧ dx i ≤ 8 ∧ 1 ≤ dy i ∧ dy i ≤ 8 ∧ px i < dx i ∧ py i < dy i := by decide

/-- how many there are from x on below w, d from one to the next -/
def num (x d w : Nat) : Nat := (w + d - 1 - x) / d

theorem num_pos {x d w : Nat} (hd : 1 ≤ d) (h : x < w) : 0 < num x d w := Nat.div_pos (by omega) (by omega)
theorem num_le {x d w : Nat} (hd : 1 ≤ d) (hd8 : d ≤ 8) (hw : w ≤ 20) : num x d w ≤ 28 := Nat.le_trans (Nat.div_le_self _ _) (by omega)

/-- the part has points -/
def ok (wd hi i : Nat) : Prop := px i < wd ∧ py i < hi
instance (wd hi i : Nat) : Decidable (ok wd hi i) := by unfold ok; infer_instance

/-- a part's numbers -/
def row (wd hi i : Nat) : List Int := [(px i : Int), (py i : Int), (dx i : Int), (dy i : Int), (num (px i) (dx i) wd : Nat), (num (py i) (dy i) hi : Nat)]

/-- how many of the first parts have points -/
def cnt (wd hi : Nat) : Nat → Nat
  | 0 => 0
  | k + 1 => if ok wd hi k then cnt wd hi k + 1 else cnt wd hi k
/-- their numbers -/
def flat (wd hi : Nat) : Nat → List Int
  | 0 => []
  | k + 1 => if ok wd hi k then flat wd hi k ++ row wd hi k else flat wd hi k

theorem flat_yes {wd hi k : Nat} (h : ok wd hi k) : flat wd hi (k + 1) = flat wd hi k ++ row wd hi k ∧ cnt wd hi (k + 1) = cnt wd hi k + 1 := ⟨if_pos h, if_pos h⟩
theorem flat_no {wd hi k : Nat} (h : ¬ ok wd hi k) : flat wd hi (k + 1) = flat wd hi k ∧ cnt wd hi (k + 1) = cnt wd hi k := ⟨if_neg h, if_neg h⟩
theorem flat_len (wd hi : Nat) : ∀ k, (flat wd hi k).length = cnt wd hi k * 6
  | 0 => rfl
  | k + 1 => by
    by_cases h : ok wd hi k
    · rw [(flat_yes h).1, (flat_yes h).2, List.length_append, flat_len wd hi k, Nat.add_mul, Nat.one_mul]; rfl
    · rw [(flat_no h).1, (flat_no h).2, flat_len wd hi k]
theorem cnt_le (wd hi : Nat) : ∀ k, cnt wd hi k ≤ k
  | 0 => Nat.le_refl _
  | k + 1 => by
    have := cnt_le wd hi k
    by_cases h : ok wd hi k
    · rw [(flat_yes h).2]; omega
    · rw [(flat_no h).2]; omega

/-- all parts, as they are told -/
def all : List Int := [0, 0, 8, 8, 0, 0, 4, 0, 8, 8, 0, 0, 0, 4, 4, 8, 0, 0, 2, 0, 4, 4, 0, 0, 0, 2, 2, 4, 0, 0, 1, 0, 2, 2, 0, 0, 0, 1, 1, 2, 0, 0]
theorem all_len : all.length = 7 * 6 := rfl
theorem all_at : ∀ i, i < 7 → all.getD (i * 6) 0 = (px i : Int) ∧ all.getD (i * 6 + 1) 0 = (py i : Int) ∧ all.getD (i * 6 + 2) 0 = (dx i : Int) ∧ all.getD (i * 6 + 3) 0 = (dy i : Int) ∧ all.getD (i * 6 + 4) 0 = 0 ∧ all.getD (i * 6 + 5) 0 = 0 := by decide
end Ps
end Go.Proofs.Ytkghijlooefbhaa
