/- The numbers of a code are small numbers, none below nought. -/
import Derived.Test.YtjdilanmkgodnaaMakeMath
namespace Go.Proofs.Ytjdilanmkgodnaa
namespace Mk

/-- each is a number from 0 to 9830400 -/
def Small (l : List Int) : Prop := ∀ z ∈ l, 0 ≤ z ∧ z ≤ 9830400

theorem small_set {l : List Int} (h : Small l) (k : Nat) (v : Int) (hv : 0 ≤ v ∧ v ≤ 9830400) : Small (l.set k v) := by
  intro z hz
  rcases List.mem_or_eq_of_mem_set hz with hz | rfl
  · exact h z hz
  · exact hv

theorem small_replicate (n : Nat) : Small (List.replicate n 0) := by
  intro z hz
  rw [List.mem_replicate] at hz
  obtain ⟨_, rfl⟩ := hz
  omega

theorem inner_small (zs : List Int) (n : Int) (s : Nat × List Int) (hs : s.1 + 300 ≤ 9830400) (h : Small s.2) : ∀ k, k ≤ 300 → Small (inner zs n k s).2 := by
  intro k
  induction k with
  | zero => intro _; exact h
  | succ k ih =>
    intro hk
    have hi := ih (by omega)
    have hl := inner_le zs n s k
    by_cases g : zs.getD k 0 = n
    · rw [inner_hit zs n k s g]; exact small_set hi k _ (by omega)
    · rw [inner_miss zs n k s g]; exact hi

theorem outer_small (zs : List Int) (hz : zs.length ≤ 300) : ∀ m, m ≤ 15 → Small (outer zs m).2 := by
  intro m
  induction m with
  | zero => intro _; exact small_replicate _
  | succ m ih =>
    intro hm
    have hb := outer_le zs hz m
    have hp : 2 ^ m ≤ 2 ^ 14 := Nat.pow_le_pow_right (by omega) (by omega)
    have h1 : 2 * (outer zs m).1 + 300 ≤ 9830400 := by omega
    exact inner_small zs ((m + 1 : Nat) : Int) (2 * (outer zs m).1, (outer zs m).2) h1 (ih (by omega)) zs.length hz

theorem mk_small (zs : List Int) (hz : zs.length ≤ 300) : Small (mk zs) := outer_small zs hz 15 (Nat.le_refl _)
end Mk
end Go.Proofs.Ytjdilanmkgodnaa
