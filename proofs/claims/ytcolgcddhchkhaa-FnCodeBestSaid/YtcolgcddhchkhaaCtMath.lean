/- The tree of a code (mathematics): the two least put together, again and again. -/
import Derived.Test.YtcolgcddhchkhaaCfMath
import Derived.Test.YtcolgcddhchkhaaHpMath
namespace Go.Proofs.Ytcolgcddhchkhaa
namespace Ct
open Cf (lst wo)

inductive Tr where
  | leaf (s : Nat)
  | node (l r : Tr)
def syms : Tr → List Nat
  | .leaf s => [s]
  | .node l r => syms l ++ syms r
def hgt : Tr → Nat
  | .leaf _ => 0
  | .node l r => 1 + Nat.max (hgt l) (hgt r)
/-- how many nodes stand above a symbol -/
def dep : Tr → Nat → Nat
  | .leaf _, _ => 0
  | .node l r, s => (syms l ++ syms r).count s + dep l s + dep r s
abbrev Nt := Nat × Tr
def wt (p : Nt) : Cf.Wt := (p.1, hgt p.2)
/-- one step -/
def step (ts : List Nt) : List Nt :=
  match lst (-1) (ts.map wt) 0 none with
  | some (a, _) =>
    match lst (a : Int) (ts.map wt) 0 none with
    | some (b, _) => wo a b ts 0 ++ [((ts.getD a (0, .leaf 0)).1 + (ts.getD b (0, .leaf 0)).1, .node (ts.getD a (0, .leaf 0)).2 (ts.getD b (0, .leaf 0)).2)]
    | none => ts
  | none => ts
theorem step_two {ts : List Nt} {a wa b wb : Nat} (h1 : lst (-1) (ts.map wt) 0 none = some (a, wa)) (h2 : lst (a : Int) (ts.map wt) 0 none = some (b, wb)) : step ts = wo a b ts 0 ++ [((ts.getD a (0, .leaf 0)).1 + (ts.getD b (0, .leaf 0)).1, .node (ts.getD a (0, .leaf 0)).2 (ts.getD b (0, .leaf 0)).2)] := by
  unfold step
  rw [h1]
  simp only
  rw [h2]
/-- the least one, but one: it is no more than any other, and less than any ahead -/
theorem lst_least (but : Int) (ns : List Cf.Wt) : ∀ (xs : List Cf.Wt) (i : Nat) (b : Option (Nat × Nat)), (∀ k x, xs[k]? = some x → ns[i + k]? = some x) → (∀ k, k < xs.length → ns[i + k]? = xs[k]?) →
    (∀ p, b = some p → p.1 < i ∧ ∀ k x, k < i → (k : Int) ≠ but → ns[k]? = some x → p.2 ≤ x.1 ∧ (k < p.1 → p.2 < x.1)) → (b = none → ∀ k, k < i → (k : Int) = but) →
    ∀ p, lst but xs i b = some p → ∀ k x, k < i + xs.length → (k : Int) ≠ but → ns[k]? = some x → p.2 ≤ x.1 ∧ (k < p.1 → p.2 < x.1)
  | [], i, b, _, _, hb, _, p, h, k, x, hk, hne, hx => (hb p h).2 k x (by simpa using hk) hne hx
  | y :: xs, i, b, h1, h1', hb, hn, p, h, k, x, hk, hne, hx => by
    have hy : ns[i]? = some y := by simpa using h1 0 y rfl
    refine lst_least but ns xs (i + 1) _ (fun k x hx => by have := h1 (k + 1) x hx; rwa [show i + (k + 1) = i + 1 + k by omega] at this) (fun k hk => by have := h1' (k + 1) (by simp; omega); rw [show i + (k + 1) = i + 1 + k by omega] at this; simpa using this) ?_ ?_ p h k x (by simp at hk; omega) hne hx
    · intro q hq
      split at hq
      · rename_i ht
        cases hq
        refine ⟨by show i < i + 1; omega, fun k x hk hne hx => ?_⟩
        show y.1 ≤ x.1 ∧ (k < i → y.1 < x.1)
        by_cases e : k = i
        · subst e
          rw [hy] at hx; cases hx
          exact ⟨Nat.le_refl _, fun h => by omega⟩
        · cases b with
          | none => exact absurd (hn rfl k (by omega)) hne
          | some q =>
            have h5 := (hb q rfl).2 k x (by omega) hne hx
            simp [Cf.less] at ht
            have := ht.2
            exact ⟨by omega, fun _ => by omega⟩
      · rename_i ht
        have h5 := hb q hq
        refine ⟨by omega, fun k x hk hne hx => ?_⟩
        by_cases e : k = i
        · subst e
          rw [hy] at hx; cases hx
          rw [hq] at ht
          simp [Cf.less] at ht
          have := ht hne
          exact ⟨by omega, fun h => by have := h5.1; omega⟩
        · exact h5.2 k x (by omega) hne hx
    · intro hq k hk
      split at hq
      · cases hq
      · rename_i ht
        by_cases e : k = i
        · subst e
          rw [hq] at ht
          simpa [Cf.less] using ht
        · exact hn hq k (by omega)
theorem lst_min {but : Int} {ns : List Cf.Wt} {p : Nat × Nat} (h : lst but ns 0 none = some p) {k : Nat} {x : Cf.Wt} (hne : (k : Int) ≠ but) (hx : ns[k]? = some x) : p.2 ≤ x.1 ∧ (k < p.1 → p.2 < x.1) := by
  have hk : k < ns.length := (List.getElem?_eq_some_iff.1 hx).1
  exact lst_least but ns ns 0 none (fun k x h => by rw [Nat.zero_add]; exact h) (fun k _ => by rw [Nat.zero_add]) (fun p h => by cases h) (fun _ k hk => by omega) p h k x (by omega) hne hx
theorem wo_sub {α : Type} (a b : Nat) : ∀ (xs : List α) (i : Nat), (wo a b xs i).Sublist xs
  | [], _ => List.Sublist.refl _
  | x :: xs, i => by
    rw [Cf.wo_cons]
    split
    · exact (wo_sub a b xs (i + 1)).cons x
    · exact (wo_sub a b xs (i + 1)).cons_cons x
theorem count_sum (x : Nat) : ∀ l : List Nat, l.count x = Cf.sum (fun y => if y = x then 1 else 0) l
  | [] => rfl
  | y :: l => by
    rw [List.count_cons, count_sum x l]
    show _ = (if y = x then 1 else 0) + Cf.sum _ l
    by_cases e : y = x
    · subst e; simp; omega
    · simp [e]
theorem wo_perm {a b : Nat} {ks : List Nat} (hab : a ≠ b) (ha : a < ks.length) (hb : b < ks.length) : ks.Perm (ks[a] :: ks[b] :: wo a b ks 0) := by
  rw [List.perm_iff_count]
  intro x
  have h := Cf.wo_sum0 (fun y => if y = x then 1 else 0) hab ks ha hb
  rw [List.count_cons, List.count_cons, count_sum, count_sum, ← h]
  simp only [beq_iff_eq]
  exact Nat.add_right_comm _ _ _
/-- what the program takes out first, and then -/
theorem pop_is {K : Nat → Hp.Key} {ks : List Nat} {ns : List Cf.Wt} {but : Int} {a wa m : Nat} (hw : ∀ i, i < ks.length → ∃ x, ns[i]? = some x ∧ x.1 = (K (ks.getD i 0)).1) (hinc : ks.Pairwise (fun x y => (K x).2 < (K y).2)) (h1 : lst but ns 0 none = some (a, wa)) (hns : ns.length = ks.length)
    (hm : ∃ j, j < ks.length ∧ (j : Int) ≠ but ∧ m = ks.getD j 0) (hmin : ∀ j, j < ks.length → (j : Int) ≠ but → ¬ Hp.klt (K (ks.getD j 0)) (K m)) : m = ks.getD a 0 := by
  obtain ⟨j, hj, hjb, rfl⟩ := hm
  obtain ⟨hab, ha, xa, hxa, hwa⟩ := Cf.lst_at h1
  dsimp only at hab ha hxa hwa
  rw [hns] at ha
  by_cases e : j = a
  · rw [e]
  · exfalso
    have hpl : ∀ {i j}, i < j → j < ks.length → (K (ks.getD i 0)).2 < (K (ks.getD j 0)).2 := fun {i j} hij hj => by
      have := List.pairwise_iff_getElem.1 hinc i j (by omega) hj hij
      rw [List.getD_eq_getElem?_getD, List.getD_eq_getElem?_getD, List.getElem?_eq_getElem (by omega), List.getElem?_eq_getElem hj]
      exact this
    have hy := hmin a ha hab
    obtain ⟨x, hx, hxj⟩ := hw j hj
    obtain ⟨x', hx', hxa'⟩ := hw a ha
    rw [hxa] at hx'; cases hx'
    have h5 := lst_min h1 hjb hx
    dsimp only at h5
    refine hy ?_
    unfold Hp.klt
    rcases Nat.lt_or_ge j a with hlt | hge
    · have := h5.2 hlt; omega
    · have := hpl (i := a) (j := j) (by omega) hj; omega
end Ct
end Go.Proofs.Ytcolgcddhchkhaa
