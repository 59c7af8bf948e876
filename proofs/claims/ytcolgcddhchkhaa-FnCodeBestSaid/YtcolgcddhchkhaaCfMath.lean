/- Putting the two least together, again and again: how deep it goes (mathematics). -/
import Init
namespace Go.Proofs.Ytcolgcddhchkhaa
namespace Cf

/-- a node: how often it comes, how deep it is -/
abbrev Wt := Nat × Nat
def less (b : Option (Nat × Nat)) (w : Nat) : Bool :=
  match b with
  | none => true
  | some p => Nat.blt w p.2
/-- the first of the least, but one -/
def lst (but : Int) : List Wt → Nat → Option (Nat × Nat) → Option (Nat × Nat)
  | [], _, b => b
  | x :: xs, i, b => lst but xs (i + 1) (if (decide ((i : Int) ≠ but) && less b x.1) = true then some (i, x.1) else b)
/-- a list without two of its places -/
def wo {α : Type} (a b : Nat) : List α → Nat → List α
  | [], _ => []
  | x :: xs, i => if (Nat.beq i a || Nat.beq i b) = true then wo a b xs (i + 1) else x :: wo a b xs (i + 1)
theorem wo_cons {α : Type} (a b : Nat) (x : α) (xs : List α) (i : Nat) : wo a b (x :: xs) i = if (Nat.beq i a || Nat.beq i b) = true then wo a b xs (i + 1) else x :: wo a b xs (i + 1) := rfl
def hgt (ns : List Wt) (a : Nat) : Nat := (ns.getD a (0, 0)).2
/-- one round -/
def step (ns : List Wt) : List Wt :=
  match lst (-1) ns 0 none with
  | none => ns
  | some (a, wa) =>
    match lst (a : Int) ns 0 none with
    | none => ns
    | some (b, wb) => wo a b ns 0 ++ [(wa + wb, 1 + Nat.max (hgt ns a) (hgt ns b))]
def maxh : List Wt → Nat
  | [] => 0
  | x :: xs => Nat.max x.2 (maxh xs)
/-- all rounds -/
def top : Nat → List Wt → Nat
  | 0, ns => maxh ns
  | f + 1, ns => if Nat.ble ns.length 1 = true then maxh ns else top f (step ns)
def fin (ns : List Wt) : Nat := top ns.length ns

theorem lst_some (but : Int) (ns : List Wt) : ∀ (xs : List Wt) (i : Nat) (b : Option (Nat × Nat)), (∀ k x, xs[k]? = some x → ns[i + k]? = some x) → (∀ p, b = some p → (p.1 : Int) ≠ but ∧ ∃ x, ns[p.1]? = some x ∧ x.1 = p.2) → ∀ p, lst but xs i b = some p → (p.1 : Int) ≠ but ∧ ∃ x, ns[p.1]? = some x ∧ x.1 = p.2
  | [], _, b, _, hb, p, h => hb p h
  | x :: xs, i, b, hx, hb, p, h => by
    unfold lst at h
    refine lst_some but ns xs (i + 1) _ (fun k y hy => by rw [show i + 1 + k = i + (k + 1) by omega]; exact hx (k + 1) y (by simpa using hy)) (fun q hq => ?_) p h
    by_cases hc : (decide ((i : Int) ≠ but) && less b x.1) = true
    · rw [if_pos hc] at hq
      simp only [Bool.and_eq_true, decide_eq_true_eq] at hc
      cases hq
      exact ⟨hc.1, x, by have := hx 0 x rfl; rwa [Nat.add_zero] at this, rfl⟩
    · rw [if_neg hc] at hq; exact hb q hq
theorem lst_ne (but : Int) : ∀ (xs : List Wt) (i : Nat) (b : Option (Nat × Nat)), (b ≠ none ∨ ∃ k, k < xs.length ∧ ((i + k : Nat) : Int) ≠ but) → lst but xs i b ≠ none
  | [], i, b, h => by
    rcases h with h | ⟨k, hk, _⟩
    · exact h
    · simp at hk
  | x :: xs, i, b, h => by
    unfold lst
    refine lst_ne but xs (i + 1) _ ?_
    by_cases hb : b = none
    · subst hb
      by_cases hi : (i : Int) = but
      · right
        rcases h with h | ⟨k, hk, hk2⟩
        · exact absurd rfl h
        · have hk0 : k ≠ 0 := fun e => by subst e; exact hk2 (by rw [Nat.add_zero]; exact hi)
          exact ⟨k - 1, by simp at hk; omega, by rw [show i + 1 + (k - 1) = i + k by omega]; exact hk2⟩
      · left
        rw [if_pos (by simp [hi, less])]
        simp
    · left
      split
      · simp
      · exact hb
theorem lst_at {but : Int} {ns : List Wt} {p : Nat × Nat} (h : lst but ns 0 none = some p) : (p.1 : Int) ≠ but ∧ p.1 < ns.length ∧ ∃ x, ns[p.1]? = some x ∧ x.1 = p.2 := by
  obtain ⟨h1, x, h2, h3⟩ := lst_some but ns ns 0 none (fun k x hk => by rw [Nat.zero_add]; exact hk) (fun p hp => by cases hp) p h
  exact ⟨h1, (List.getElem?_eq_some_iff.1 h2).1, x, h2, h3⟩
/-- the two least, where there are two -/
theorem two {ns : List Wt} (h : 1 < ns.length) : ∃ a wa b wb, lst (-1) ns 0 none = some (a, wa) ∧ lst (a : Int) ns 0 none = some (b, wb) ∧ a ≠ b ∧ a < ns.length ∧ b < ns.length := by
  rcases h1 : lst (-1) ns 0 none with _ | ⟨a, wa⟩
  · exact absurd h1 (lst_ne (-1) ns 0 none (.inr ⟨0, by omega, by omega⟩))
  · rcases h2 : lst (a : Int) ns 0 none with _ | ⟨b, wb⟩
    · refine absurd h2 (lst_ne (a : Int) ns 0 none (.inr ?_))
      by_cases e : a = 0
      · exact ⟨1, h, by omega⟩
      · exact ⟨0, by omega, by omega⟩
    · obtain ⟨_, g2, _⟩ := lst_at h1
      obtain ⟨g3, g4, _⟩ := lst_at h2
      exact ⟨a, wa, b, wb, rfl, h2, fun e => g3 (by simp only at *; omega), g2, g4⟩
theorem step_two {ns : List Wt} {a wa b wb : Nat} (h1 : lst (-1) ns 0 none = some (a, wa)) (h2 : lst (a : Int) ns 0 none = some (b, wb)) : step ns = wo a b ns 0 ++ [(wa + wb, 1 + Nat.max (hgt ns a) (hgt ns b))] := by
  unfold step
  rw [h1]
  simp only
  rw [h2]
theorem wo_len {α : Type} {a b : Nat} (hab : a ≠ b) : ∀ (xs : List α) (i : Nat), (wo a b xs i).length + (if i ≤ a ∧ a < i + xs.length then 1 else 0) + (if i ≤ b ∧ b < i + xs.length then 1 else 0) = xs.length
  | [], i => by simp [wo]
  | x :: xs, i => by
    have ih := wo_len hab xs (i + 1)
    unfold wo
    simp only [List.length_cons]
    by_cases ha : i = a
    · rw [if_pos (by simp [ha])]
      rw [if_neg (show ¬ (i + 1 ≤ a ∧ a < i + 1 + xs.length) by omega)] at ih
      rw [if_pos (show i ≤ a ∧ a < i + (xs.length + 1) by omega)]
      by_cases hb : i + 1 ≤ b ∧ b < i + 1 + xs.length
      · rw [if_pos hb] at ih; rw [if_pos (by omega)]; omega
      · rw [if_neg hb] at ih; rw [if_neg (by omega)]; omega
    · by_cases hb : i = b
      · rw [if_pos (by simp [hb])]
        rw [if_neg (show ¬ (i + 1 ≤ b ∧ b < i + 1 + xs.length) by omega)] at ih
        rw [if_pos (show i ≤ b ∧ b < i + (xs.length + 1) by omega)]
        by_cases hb : i + 1 ≤ a ∧ a < i + 1 + xs.length
        · rw [if_pos hb] at ih; rw [if_pos (show i ≤ a ∧ a < i + (xs.length + 1) by omega)]; omega
        · rw [if_neg hb] at ih; rw [if_neg (show ¬ (i ≤ a ∧ a < i + (xs.length + 1)) by omega)]; omega
      · rw [if_neg (by simp [ha, hb])]
        simp only [List.length_cons]
        have e1 : (if i ≤ a ∧ a < i + (xs.length + 1) then 1 else 0) = if i + 1 ≤ a ∧ a < i + 1 + xs.length then 1 else 0 := by
          by_cases h : i + 1 ≤ a ∧ a < i + 1 + xs.length
          · rw [if_pos h, if_pos (by omega)]
          · rw [if_neg h, if_neg (by omega)]
        have e2 : (if i ≤ b ∧ b < i + (xs.length + 1) then 1 else 0) = if i + 1 ≤ b ∧ b < i + 1 + xs.length then 1 else 0 := by
          by_cases h : i + 1 ≤ b ∧ b < i + 1 + xs.length
          · rw [if_pos h, if_pos (by omega)]
          · rw [if_neg h, if_neg (by omega)]
        rw [e1, e2]; omega
theorem wo_mem {α : Type} {a b : Nat} : ∀ (xs : List α) (i : Nat) (x : α), x ∈ wo a b xs i → x ∈ xs
  | [], _, x, h => by simp [wo] at h
  | y :: xs, i, x, h => by
    unfold wo at h
    split at h
    · exact List.mem_cons_of_mem _ (wo_mem xs (i + 1) x h)
    · rcases List.mem_cons.1 h with rfl | h
      · simp
      · exact List.mem_cons_of_mem _ (wo_mem xs (i + 1) x h)
theorem wo_map {α β : Type} (f : α → β) {a b : Nat} : ∀ (xs : List α) (i : Nat), (wo a b xs i).map f = wo a b (xs.map f) i
  | [], _ => rfl
  | y :: xs, i => by
    rw [List.map_cons, wo_cons, wo_cons]
    by_cases h : (Nat.beq i a || Nat.beq i b) = true
    · rw [if_pos h, if_pos h]; exact wo_map f xs (i + 1)
    · rw [if_neg h, if_neg h, List.map_cons, wo_map f xs (i + 1)]
/-- a sum over a list, without two places -/
def sum {α : Type} (f : α → Nat) : List α → Nat
  | [] => 0
  | x :: xs => f x + sum f xs
theorem sum_append {α : Type} (f : α → Nat) : ∀ (l m : List α), sum f (l ++ m) = sum f l + sum f m
  | [], m => by simp [sum]
  | x :: l, m => by simp only [List.cons_append, sum, sum_append f l m]; omega
theorem wo_sum {α : Type} (f : α → Nat) {a b : Nat} (hab : a ≠ b) : ∀ (xs : List α) (i : Nat), sum f (wo a b xs i) + (if h : i ≤ a ∧ a - i < xs.length then f xs[a - i] else 0) + (if h : i ≤ b ∧ b - i < xs.length then f xs[b - i] else 0) = sum f xs
  | [], i => by simp [wo, sum]
  | x :: xs, i => by
    have ih := wo_sum f hab xs (i + 1)
    have ea : ∀ c, c ≠ i → (if h : i ≤ c ∧ c - i < (x :: xs).length then f (x :: xs)[c - i] else 0) = if h : i + 1 ≤ c ∧ c - (i + 1) < xs.length then f xs[c - (i + 1)] else 0 := fun c hc => by
      by_cases h : i + 1 ≤ c ∧ c - (i + 1) < xs.length
      · rw [dif_pos h, dif_pos (by simp only [List.length_cons]; omega)]
        congr 1
        have : c - i = (c - (i + 1)) + 1 := by omega
        simp only [this, List.getElem_cons_succ]
      · rw [dif_neg h, dif_neg (by simp only [List.length_cons]; omega)]
    have ei : ∀ c, c = i → (if h : i ≤ c ∧ c - i < (x :: xs).length then f (x :: xs)[c - i] else 0) = f x ∧ (if h : i + 1 ≤ c ∧ c - (i + 1) < xs.length then f xs[c - (i + 1)] else 0) = 0 := fun c hc => by
      subst hc
      refine ⟨?_, by rw [dif_neg (by omega)]⟩
      rw [dif_pos (by simp)]
      congr 1
      simp
    unfold wo
    simp only [sum]
    by_cases ha : i = a
    · obtain ⟨q1, q2⟩ := ei a ha.symm
      rw [if_pos (by simp [ha]), q1, ea b (fun e => hab (ha.symm.trans e.symm))]
      rw [q2] at ih
      omega
    · by_cases hb : i = b
      · obtain ⟨q1, q2⟩ := ei b hb.symm
        rw [if_pos (by simp [hb]), q1, ea a (fun e => ha e.symm)]
        rw [q2] at ih
        omega
      · rw [if_neg (by simp [ha, hb]), ea a (fun e => ha e.symm), ea b (fun e => hb e.symm)]
        simp only [sum]
        omega
theorem wo_sum0 {α : Type} (f : α → Nat) {a b : Nat} (hab : a ≠ b) (xs : List α) (ha : a < xs.length) (hb : b < xs.length) : sum f (wo a b xs 0) + f xs[a] + f xs[b] = sum f xs := by
  have := wo_sum f hab xs 0
  rw [dif_pos (by omega), dif_pos (by omega)] at this
  exact this
theorem wo_len0 {α : Type} {a b : Nat} (hab : a ≠ b) (xs : List α) (ha : a < xs.length) (hb : b < xs.length) : (wo a b xs 0).length + 2 = xs.length := by
  have := wo_len hab xs 0
  rw [if_pos (by omega), if_pos (by omega)] at this
  omega
theorem maxh_mem : ∀ (ns : List Wt) (x : Wt), x ∈ ns → x.2 ≤ maxh ns
  | y :: ns, x, h => by
    unfold maxh
    rcases List.mem_cons.1 h with rfl | h
    · exact Nat.le_max_left _ _
    · exact Nat.le_trans (maxh_mem ns x h) (Nat.le_max_right _ _)
theorem maxh_le {m : Nat} : ∀ (ns : List Wt), (∀ x ∈ ns, x.2 ≤ m) → maxh ns ≤ m
  | [], _ => Nat.zero_le _
  | y :: ns, h => Nat.max_le.2 ⟨h y (by simp), maxh_le ns (fun x hx => h x (by simp [hx]))⟩
theorem hgt_le (ns : List Wt) (a : Nat) : hgt ns a ≤ maxh ns := by
  unfold hgt
  rw [List.getD_eq_getElem?_getD]
  rcases h : ns[a]? with _ | x
  · exact Nat.zero_le _
  · exact maxh_mem ns x (List.mem_of_getElem? h)
theorem step_len {ns : List Wt} (h : 1 < ns.length) : (step ns).length + 1 = ns.length := by
  obtain ⟨a, wa, b, wb, h1, h2, h3, h4, h5⟩ := two h
  rw [step_two h1 h2, List.length_append, List.length_singleton]
  have := wo_len0 h3 ns h4 h5
  omega
theorem step_maxh {ns : List Wt} (h : 1 < ns.length) : maxh (step ns) ≤ maxh ns + 1 := by
  obtain ⟨a, wa, b, wb, h1, h2, h3, h4, h5⟩ := two h
  rw [step_two h1 h2]
  refine maxh_le _ (fun x hx => ?_)
  rcases List.mem_append.1 hx with hx | hx
  · have := maxh_mem ns x (wo_mem ns 0 x hx); omega
  · rw [List.mem_singleton] at hx
    subst hx
    have hm : Nat.max (hgt ns a) (hgt ns b) ≤ maxh ns := Nat.max_le.2 ⟨hgt_le ns a, hgt_le ns b⟩
    show 1 + Nat.max (hgt ns a) (hgt ns b) ≤ _
    omega
theorem fin_step {ns : List Wt} (h : 1 < ns.length) : fin ns = fin (step ns) := by
  have hl := step_len h
  unfold fin
  rw [← hl]
  conv => lhs; unfold top
  rw [if_neg]
  simp
  omega
theorem fin_one {ns : List Wt} (h : ns.length ≤ 1) : fin ns = maxh ns := by
  unfold fin
  rcases hl : ns.length with _ | k
  · rfl
  · unfold top
    rw [if_pos (by rw [hl]; simp; omega)]
theorem fin_le : ∀ (k : Nat) (ns : List Wt), ns.length ≤ k + 1 → fin ns ≤ maxh ns + k
  | 0, ns, h => by rw [fin_one h]; exact Nat.le_refl _
  | k + 1, ns, h => by
    by_cases h1 : 1 < ns.length
    · have := step_len h1
      have := step_maxh h1
      have := fin_le k (step ns) (by omega)
      rw [fin_step h1]; omega
    · rw [fin_one (by omega)]; omega
end Cf
end Go.Proofs.Ytcolgcddhchkhaa
