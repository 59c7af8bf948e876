/- The parts that are told, one by one. -/
import Derived.Test.YtkghijlooefbhaaPsCount
namespace Go.Proofs.Ytkghijlooefbhaa
namespace Ps

theorem cnt_mono (wd hi : Nat) : ∀ i j, i ≤ j → cnt wd hi i ≤ cnt wd hi j := by
  intro i j h
  induction j with
  | zero => rw [Nat.le_zero.1 h]; exact Nat.le_refl _
  | succ j ih =>
    by_cases e : i = j + 1
    · subst e; exact Nat.le_refl _
    · have := ih (by omega)
      by_cases k : ok wd hi j
      · rw [(flat_yes k).2]; omega
      · rw [(flat_no k).2]; exact this

/-- which part stands at a place of the list -/
theorem at_list (wd hi : Nat) : ∀ m t, t < cnt wd hi m → ∃ i, i < m ∧ ok wd hi i ∧ cnt wd hi i = t
  | 0, t, h => absurd h (Nat.not_lt_zero _)
  | m + 1, t, h => by
    by_cases k : ok wd hi m
    · rw [(flat_yes k).2] at h
      by_cases e : t < cnt wd hi m
      · obtain ⟨i, h1, h2, h3⟩ := at_list wd hi m t e
        exact ⟨i, by omega, h2, h3⟩
      · exact ⟨m, by omega, k, by omega⟩
    · rw [(flat_no k).2] at h
      obtain ⟨i, h1, h2, h3⟩ := at_list wd hi m t h
      exact ⟨i, by omega, h2, h3⟩

theorem tot_same (wd hi c : Nat) : ∀ i j, i ≤ j → cnt wd hi i = cnt wd hi j → tot wd hi c i = tot wd hi c j := by
  intro i j h
  induction j with
  | zero => intro _; rw [Nat.le_zero.1 h]
  | succ j ih =>
    intro e
    by_cases q : i = j + 1
    · subst q; rfl
    · have hm := cnt_mono wd hi i j (by omega)
      by_cases k : ok wd hi j
      · rw [(flat_yes k).2] at e; omega
      · rw [(flat_no k).2] at e
        rw [tot, if_neg k]
        exact ih (by omega) e
theorem tot_eq (wd hi c i j : Nat) (e : cnt wd hi i = cnt wd hi j) : tot wd hi c i = tot wd hi c j := by
  by_cases h : i ≤ j
  · exact tot_same wd hi c i j h e
  · exact (tot_same wd hi c j i (by omega) e.symm).symm

theorem flat_pre (wd hi : Nat) : ∀ i j, i ≤ j → flat wd hi i <+: flat wd hi j := by
  intro i j h
  induction j with
  | zero => rw [Nat.le_zero.1 h]; exact List.prefix_refl _
  | succ j ih =>
    by_cases e : i = j + 1
    · subst e; exact List.prefix_refl _
    · by_cases k : ok wd hi j
      · rw [(flat_yes k).1]; exact (ih (by omega)).trans (List.prefix_append _ _)
      · rw [(flat_no k).1]; exact ih (by omega)

theorem flat_at {wd hi i j : Nat} (hi7 : i < 7) (h : ok wd hi i) (hj : j < 6) : (flat wd hi 7).getD (cnt wd hi i * 6 + j) 0 = (row wd hi i).getD j 0 := by
  obtain ⟨r, hr⟩ := flat_pre wd hi (i + 1) 7 (by omega)
  have hl := flat_len wd hi i
  rw [← hr, (flat_yes h).1, List.getD_eq_getElem?_getD, List.append_assoc, List.getElem?_append_right (by omega), hl, show cnt wd hi i * 6 + j - cnt wd hi i * 6 = j by omega, List.getElem?_append_left (by show j < 6; exact hj)]
  rw [List.getD_eq_getElem?_getD]

theorem hits_le (s : Nat → Nat) (c : Nat) : ∀ k, hits s c k ≤ k
  | 0 => Nat.le_refl _
  | k + 1 => by
    have := hits_le s c k
    rw [hits]; split <;> omega
theorem tot_le {wd hi : Nat} (c : Nat) (hw : wd ≤ 20) (hh : hi ≤ 20) : ∀ i, i ≤ 7 → tot wd hi c i ≤ i * 784
  | 0, _ => Nat.le_refl _
  | i + 1, h7 => by
    have := tot_le c hw hh i (by omega)
    obtain ⟨_, _, b1, b2, b3, b4, _⟩ := bounds i (by omega)
    rw [tot]
    split
    · have h1 := hits_le (fun k => spot wd i k (num (px i) (dx i) wd)) c (num (px i) (dx i) wd * num (py i) (dy i) hi)
      have h2 : num (px i) (dx i) wd * num (py i) (dy i) hi ≤ 784 := Nat.le_trans (Nat.mul_le_mul (num_le b1 b2 hw) (num_le b3 b4 hh)) (by decide)
      have h3 := Nat.le_trans h1 h2
      rw [Nat.add_mul, Nat.one_mul]
      exact Nat.add_le_add this h3
    · rw [Nat.add_mul, Nat.one_mul]
      exact Nat.le_trans this (Nat.le_add_right _ _)
end Ps
end Go.Proofs.Ytkghijlooefbhaa
