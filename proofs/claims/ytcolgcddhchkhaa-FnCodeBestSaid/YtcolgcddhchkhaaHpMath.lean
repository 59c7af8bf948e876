/- A heap: the least of its nodes stands first (mathematics). -/
import Derived.Test.YtcolgcddhchkhaaProg
namespace Go.Proofs.Ytcolgcddhchkhaa
namespace Hp

abbrev Key := Nat × Nat
/-- comes less often, or as often and stands ahead -/
def klt (a b : Key) : Prop := a.1 < b.1 ∨ (a.1 = b.1 ∧ a.2 < b.2)
instance (a b : Key) : Decidable (klt a b) := by unfold klt; infer_instance
theorem klt_self (a : Key) : ¬ klt a a := by unfold klt; omega
theorem nlt_trans {a b c : Key} (h1 : ¬ klt b a) (h2 : ¬ klt c b) : ¬ klt c a := by unfold klt at *; omega
theorem klt_nlt {a b : Key} (h : klt a b) : ¬ klt b a := by unfold klt at *; omega
theorem klt_nlt_trans {a b c : Key} (h1 : klt a b) (h2 : ¬ klt c b) : ¬ klt c a := nlt_trans (klt_nlt h1) h2
theorem eq_of {a b : Key} (h1 : ¬ klt a b) (h2 : ¬ klt b a) : a = b := by
  unfold klt at *
  exact Prod.ext (by omega) (by omega)

/-- two change places -/
def sw (l : List Nat) (i j : Nat) : List Nat := (l.set i (l.getD j 0)).set j (l.getD i 0)
theorem sw_len (l : List Nat) (i j : Nat) : (sw l i j).length = l.length := by unfold sw; simp
theorem sw_get {l : List Nat} {i j : Nat} (hi : i < l.length) (hj : j < l.length) (x : Nat) : (sw l i j).getD x 0 = if x = j then l.getD i 0 else if x = i then l.getD j 0 else l.getD x 0 := by
  unfold sw
  simp only [List.getD_eq_getElem?_getD]
  by_cases h1 : x = j
  · subst h1
    rw [if_pos rfl, List.getElem?_set_self (by simp; exact hj)]
    rfl
  · rw [if_neg h1, List.getElem?_set_ne (by omega)]
    by_cases h2 : x = i
    · subst h2
      rw [if_pos rfl, List.getElem?_set_self hi]
      rfl
    · rw [if_neg h2, List.getElem?_set_ne (by omega)]
theorem sw_perm {l : List Nat} {i j : Nat} (hi : i < l.length) (hj : j < l.length) : (sw l i j).Perm l := by
  unfold sw
  rw [List.getD_eq_getElem?_getD, List.getD_eq_getElem?_getD, List.getElem?_eq_getElem hi, List.getElem?_eq_getElem hj]
  exact List.set_set_perm hi hj

/-- none of the first n comes ahead of the one above it -/
def Heap (K : Nat → Key) (l : List Nat) (n : Nat) : Prop := ∀ i, 0 < i → i < n → ¬ klt (K (l.getD i 0)) (K (l.getD ((i - 1) / 2) 0))
theorem heap_first {K : Nat → Key} {l : List Nat} {n : Nat} (h : Heap K l n) : ∀ i, i < n → ¬ klt (K (l.getD i 0)) (K (l.getD 0 0)) := by
  intro i
  induction i using Nat.strongRecOn with
  | ind i ih =>
    intro hi
    by_cases h0 : i = 0
    · subst h0; exact klt_self _
    · exact nlt_trans (ih ((i - 1) / 2) (by omega) (by omega)) (h i (by omega) hi)
/-- so but for one, which goes up -/
def Up (K : Nat → Key) (l : List Nat) (n j : Nat) : Prop :=
  (∀ i, 0 < i → i < n → i ≠ j → ¬ klt (K (l.getD i 0)) (K (l.getD ((i - 1) / 2) 0))) ∧ (∀ i, 0 < i → i < n → (i - 1) / 2 = j → 0 < j → ¬ klt (K (l.getD i 0)) (K (l.getD ((j - 1) / 2) 0)))
theorem up_done {K : Nat → Key} {l : List Nat} {n j : Nat} (h : Up K l n j) (hj : j = 0 ∨ ¬ klt (K (l.getD j 0)) (K (l.getD ((j - 1) / 2) 0))) : Heap K l n := by
  intro i h0 hi
  by_cases e : i = j
  · subst e
    rcases hj with hj | hj
    · omega
    · exact hj
  · exact h.1 i h0 hi e
theorem up_step {K : Nat → Key} {l : List Nat} {n j : Nat} (h : Up K l n j) (hn : n ≤ l.length) (hj : j < n) (h0 : 0 < j) (hlt : klt (K (l.getD j 0)) (K (l.getD ((j - 1) / 2) 0))) : Up K (sw l ((j - 1) / 2) j) n ((j - 1) / 2) := by
  have hp : (j - 1) / 2 < l.length := by omega
  have hjl : j < l.length := by omega
  have hpj : (j - 1) / 2 < j := by omega
  refine ⟨fun i hi0 hin hne => ?_, fun i hi0 hin hpar hp0 => ?_⟩
  · rw [sw_get hp hjl, sw_get hp hjl]
    by_cases e1 : i = j
    · subst e1
      rw [if_pos rfl, if_neg (by omega), if_pos rfl]
      exact klt_nlt hlt
    · rw [if_neg e1, if_neg hne]
      by_cases e2 : (i - 1) / 2 = j
      · rw [if_pos e2]
        exact h.2 i hi0 hin e2 h0
      · rw [if_neg e2]
        by_cases e3 : (i - 1) / 2 = (j - 1) / 2
        · rw [if_pos e3]
          have := h.1 i hi0 hin e1
          rw [e3] at this
          exact klt_nlt_trans hlt this
        · rw [if_neg e3]
          exact h.1 i hi0 hin e1
  · rw [sw_get hp hjl, sw_get hp hjl]
    have hq : ((j - 1) / 2 - 1) / 2 < (j - 1) / 2 := by omega
    rw [if_neg (show ((j - 1) / 2 - 1) / 2 ≠ j by omega), if_neg (show ((j - 1) / 2 - 1) / 2 ≠ (j - 1) / 2 by omega)]
    have hpp := h.1 ((j - 1) / 2) hp0 (by omega) (by omega)
    by_cases e1 : i = j
    · subst e1
      rw [if_pos rfl]
      exact hpp
    · rw [if_neg e1, if_neg (by omega)]
      have := h.1 i hi0 hin e1
      rw [hpar] at this
      exact nlt_trans hpp this
theorem up_start {K : Nat → Key} {l : List Nat} {n : Nat} (h : Heap K l n) : Up K l (n + 1) n :=
  ⟨fun i h0 hi hne => h i h0 (by omega), fun i h0 hi hp hj => by omega⟩
/-- so but for one, which goes down -/
def Down (K : Nat → Key) (l : List Nat) (n j : Nat) : Prop :=
  (∀ i, 0 < i → i < n → (i - 1) / 2 ≠ j → ¬ klt (K (l.getD i 0)) (K (l.getD ((i - 1) / 2) 0))) ∧ (∀ i, 0 < i → i < n → (i - 1) / 2 = j → 0 < j → ¬ klt (K (l.getD i 0)) (K (l.getD ((j - 1) / 2) 0)))
theorem down_done {K : Nat → Key} {l : List Nat} {n j : Nat} (h : Down K l n j) (hc : ∀ i, 0 < i → i < n → (i - 1) / 2 = j → ¬ klt (K (l.getD i 0)) (K (l.getD j 0))) : Heap K l n := by
  intro i h0 hi
  by_cases e : (i - 1) / 2 = j
  · rw [e]; exact hc i h0 hi e
  · exact h.1 i h0 hi e
theorem down_step {K : Nat → Key} {l : List Nat} {n j c : Nat} (h : Down K l n j) (hn : n ≤ l.length) (hc : c < n) (hcj : (c - 1) / 2 = j) (hc0 : 0 < c) (hlt : klt (K (l.getD c 0)) (K (l.getD j 0))) (hb : ∀ i, 0 < i → i < n → (i - 1) / 2 = j → ¬ klt (K (l.getD i 0)) (K (l.getD c 0))) : Down K (sw l j c) n c := by
  have hjl : j < l.length := by omega
  have hcl : c < l.length := by omega
  have hjc : j < c := by omega
  refine ⟨fun i hi0 hin hne => ?_, fun i hi0 hin hpar _ => ?_⟩
  · rw [sw_get hjl hcl, sw_get hjl hcl]
    rw [if_neg hne]
    by_cases e1 : i = c
    · subst e1
      rw [if_pos rfl, if_pos hcj]
      exact klt_nlt hlt
    · rw [if_neg e1]
      by_cases e2 : i = j
      · subst e2
        rw [if_pos rfl, if_neg (by omega)]
        exact h.2 c hc0 hc hcj hi0
      · rw [if_neg e2]
        by_cases e3 : (i - 1) / 2 = j
        · rw [if_pos e3]
          exact hb i hi0 hin e3
        · rw [if_neg e3]
          exact h.1 i hi0 hin e3
  · rw [sw_get hjl hcl, sw_get hjl hcl, if_neg (show i ≠ c by omega), if_neg (show i ≠ j by omega), hcj, if_neg (show j ≠ c by omega), if_pos rfl]
    have := h.1 i hi0 hin (by omega)
    rw [hpar] at this
    exact this
/-- the first and the last change places: the last but the last go on -/
theorem down_swap {K : Nat → Key} {l : List Nat} {n : Nat} (h : Heap K l (n + 1)) (hl : n + 1 ≤ l.length) : Down K (sw l 0 n) n 0 := by
  refine ⟨fun i h0 hi hne => ?_, fun i h0 hi hp hj => by omega⟩
  rw [sw_get (by omega) (by omega), sw_get (by omega) (by omega), if_neg (by omega), if_neg (by omega), if_neg (by omega), if_neg (by omega)]
  exact h i h0 (by omega)
end Hp
end Go.Proofs.Ytcolgcddhchkhaa
