/- A list told in stretches (mathematics). -/
import Derived.Test.YtcgmmpfckmhahaaBase
namespace Go.Proofs.Ytcgmmpfckmhahaa
namespace Rn

/-- from a on, as long as p holds -/
def cnt (p : Nat → Bool) : Nat → Nat → Nat
  | a, 0 => a
  | a, f + 1 => if p a then cnt p (a + 1) f else a
theorem cnt_eq {p : Nat → Bool} {n : Nat} (hn : p n = false) : ∀ (f a : Nat), a ≤ n → n ≤ a + f → (∀ j, a ≤ j → j < n → p j = true) → cnt p a f = n
  | 0, a, h1, h2, _ => by unfold cnt; omega
  | f + 1, a, h1, h2, hp => by
    unfold cnt
    by_cases h : a = n
    · subst h; rw [hn]; rfl
    · rw [hp a (Nat.le_refl _) (by omega)]
      exact cnt_eq hn f (a + 1) (by omega) (by omega) (fun j hj hk => hp j (by omega) hk)

variable {α : Type} [DecidableEq α]

def sameP (l : List α) (m : Nat) (k : Nat) : Bool := decide (k < l.length) && decide (k < m) && decide (l[k]? = l[0]?)
/-- how many at the beginning are the same, m at most -/
def same (l : List α) (m : Nat) : Nat := cnt (sameP l m) 0 l.length
theorem same_eq {l : List α} {m n : Nat} (hn : sameP l m n = false) (h : ∀ j, j < n → sameP l m j = true) (hl : n ≤ l.length) : n = same l m :=
  (cnt_eq hn l.length 0 (Nat.zero_le _) (by omega) (fun j _ hj => h j hj)).symm

def freshP (l : List α) (least m : Nat) (k : Nat) : Bool := decide (k < l.length) && decide (k < m) && decide (same (l.drop k) least < least)
/-- how many stand ahead of least that are the same, m at most -/
def fresh (l : List α) (least m : Nat) : Nat := cnt (freshP l least m) 1 l.length
theorem fresh_eq {l : List α} {least m n : Nat} (hn : freshP l least m n = false) (h1 : 1 ≤ n) (h : ∀ j, 1 ≤ j → j < n → freshP l least m j = true) (hl : n ≤ l.length + 1) : n = fresh l least m :=
  (cnt_eq hn l.length 1 h1 (by omega) h).symm

theorem cnt_ends {p : Nat → Bool} : ∀ (f a : Nat), p (a + f) = false → p (cnt p a f) = false ∧ a ≤ cnt p a f ∧ cnt p a f ≤ a + f ∧ ∀ j, a ≤ j → j < cnt p a f → p j = true
  | 0, a, h => by unfold cnt; exact ⟨h, Nat.le_refl _, Nat.le_refl _, fun j h1 h2 => by omega⟩
  | f + 1, a, h => by
    unfold cnt
    cases hp : p a with
    | false => exact ⟨hp, Nat.le_refl _, by simp, fun j h1 h2 => by simp at h2; omega⟩
    | true =>
      obtain ⟨h1, h2, h3, h4⟩ := cnt_ends f (a + 1) (by rw [show a + 1 + f = a + (f + 1) by omega]; exact h)
      refine ⟨by simpa using h1, by simp; omega, by simp; omega, fun j hj hk => ?_⟩
      simp at hk
      by_cases hja : j = a
      · rw [hja]; exact hp
      · exact h4 j (by omega) hk

theorem same_ends (l : List α) (m : Nat) : sameP l m (same l m) = false ∧ same l m ≤ l.length ∧ (∀ j, j < same l m → sameP l m j = true) := by
  obtain ⟨h1, _, h3, h4⟩ := cnt_ends (p := sameP l m) l.length 0 (by simp [sameP])
  exact ⟨h1, by unfold same; omega, fun j hj => h4 j (Nat.zero_le _) hj⟩
theorem same_le (l : List α) (m : Nat) : same l m ≤ l.length ∧ same l m ≤ m := by
  obtain ⟨_, h2, h3⟩ := same_ends l m
  refine ⟨h2, ?_⟩
  by_cases h : same l m = 0
  · omega
  · have := h3 (same l m - 1) (by omega)
    simp [sameP] at this
    omega
theorem same_pos {l : List α} {m : Nat} (hl : 0 < l.length) (hm : 0 < m) : 0 < same l m := by
  obtain ⟨h1, _, _⟩ := same_ends l m
  by_cases h : same l m = 0
  · rw [h] at h1; simp [sameP] at h1; omega
  · omega
theorem fresh_ends (l : List α) (least m : Nat) (hl : 0 < l.length) (hm : 0 < m) : 1 ≤ fresh l least m ∧ fresh l least m ≤ l.length ∧ fresh l least m ≤ m := by
  obtain ⟨h1, h2, h3, h4⟩ := cnt_ends (p := freshP l least m) l.length 1 (by simp [freshP]; omega)
  refine ⟨h2, ?_⟩
  by_cases h : fresh l least m = 1
  · omega
  · have h2' : 1 ≤ fresh l least m := h2
    have := h4 (fresh l least m - 1) (by omega) (by unfold fresh at *; omega)
    simp [freshP] at this
    omega

/-- the stretch at the beginning: how many, and whether they come again -/
def size (least m : Nat) (l : List α) : Nat := if least ≤ same l m then same l m else fresh l least m
def again (least m : Nat) (l : List α) : Bool := decide (least ≤ same l m)
theorem size_ends {l : List α} {least m : Nat} (hl : 0 < l.length) (hm : 0 < m) : 1 ≤ size least m l ∧ size least m l ≤ l.length ∧ size least m l ≤ m := by
  unfold size
  split
  · have := same_le l m
    have := same_pos hl hm
    omega
  · exact fresh_ends l least m hl hm

/-- all stretches from the place k on: where, how many, whether they come again -/
def all (least m : Nat) (l : List α) : Nat → Nat → List (Nat × Nat × Bool)
  | 0, _ => []
  | f + 1, k => if k < l.length then (k, size least m (l.drop k), again least m (l.drop k)) :: all least m l f (k + size least m (l.drop k)) else []
theorem all_more {least m : Nat} {l : List α} (hm : 0 < m) : ∀ (f g k : Nat), l.length ≤ k + f → l.length ≤ k + g → all least m l f k = all least m l g k
  | 0, 0, k, _, _ => rfl
  | 0, g + 1, k, h1, _ => by unfold all; rw [if_neg (by omega)]
  | f + 1, 0, k, _, h2 => by unfold all; rw [if_neg (by omega)]
  | f + 1, g + 1, k, h1, h2 => by
    unfold all
    split
    · rename_i h
      have := size_ends (l := l.drop k) (least := least) (m := m) (by rw [List.length_drop]; omega) hm
      rw [all_more hm f g _ (by omega) (by omega)]
    · rfl
/-- the stretches from k on -/
def from_ (least m : Nat) (l : List α) (k : Nat) : List (Nat × Nat × Bool) := all least m l (l.length - k) k
theorem from_step {least m : Nat} {l : List α} {k : Nat} (hm : 0 < m) (h : k < l.length) :
    from_ least m l k = (k, size least m (l.drop k), again least m (l.drop k)) :: from_ least m l (k + size least m (l.drop k)) := by
  have hs := size_ends (l := l.drop k) (least := least) (m := m) (by rw [List.length_drop]; omega) hm
  unfold from_
  obtain ⟨f, hf⟩ : ∃ f, l.length - k = f + 1 := ⟨l.length - k - 1, by omega⟩
  rw [hf]
  conv => lhs; unfold all
  rw [if_pos h, all_more hm f (l.length - (k + size least m (l.drop k))) _ (by omega) (by omega)]
theorem from_end {least m : Nat} {l : List α} {k : Nat} (h : l.length ≤ k) : from_ least m l k = [] := by
  unfold from_
  rw [show l.length - k = 0 by omega]; rfl
theorem all_len {least m : Nat} {l : List α} : ∀ (f k : Nat), (all least m l f k).length ≤ f
  | 0, _ => Nat.le_refl _
  | f + 1, k => by
    unfold all
    split
    · have := all_len (least := least) (m := m) (l := l) f (k + size least m (l.drop k))
      simp; exact this
    · simp
end Rn
end Go.Proofs.Ytcgmmpfckmhahaa
