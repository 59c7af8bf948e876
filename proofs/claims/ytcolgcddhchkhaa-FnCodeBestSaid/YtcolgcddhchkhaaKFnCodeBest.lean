/- Texts laid together: CtBest, CtBest2, CtCheap, DrawCodeCost, WiInts, LawCodeBest. -/
import Derived.Test.YtcolgcddhchkhaaCtKraft
import Derived.Test.YtcolgcddhchkhaaCtFacts
import Derived.Test.YtcolgcddhchkhaaDrawLen
import Derived.Test.YtcolgcddhchkhaaIntsWalks
import Derived.Deep.RegionHeld
import Derived.Deep.RegionHeld3
/- No code is cheaper than the tree's (mathematics). -/
namespace Go.Proofs.Ytcolgcddhchkhaa
namespace Ct
open Cf (lst wo)

theorem sg_upd (g : Nat → Nat) (a v : Nat) : ∀ n, a < n → sg (fun i => if i = a then v else g i) n + g a = sg g n + v
  | 0, h => by omega
  | n + 1, h => by
    show sg (fun i => if i = a then v else g i) n + (if n = a then v else g n) + g a = sg g n + g n + v
    by_cases e : n = a
    · subst e
      rw [if_pos rfl, sg_same (h := g) (fun i hi => if_neg (by omega))]
      omega
    · rw [if_neg e]
      have := sg_upd g a v n (by omega)
      omega
theorem sg_le {g h : Nat → Nat} : ∀ {n : Nat}, (∀ i, i < n → g i ≤ h i) → sg g n ≤ sg h n
  | 0, _ => Nat.le_refl _
  | n + 1, e => Nat.add_le_add (sg_le (n := n) (fun i hi => e i (by omega))) (e n (by omega))
theorem sg_dvd {d : Nat} {g : Nat → Nat} : ∀ {n : Nat}, (∀ i, i < n → d ∣ g i) → d ∣ sg g n
  | 0, _ => Nat.dvd_zero d
  | n + 1, e => Nat.dvd_add (sg_dvd (n := n) (fun i hi => e i (by omega))) (e n (by omega))
theorem sg_map {α : Type} (f : α → Nat) (h : Nat → α) : ∀ n, Cf.sum f ((List.range n).map h) = sg (fun i => f (h i)) n
  | 0 => rfl
  | n + 1 => by
    rw [List.range_succ, List.map_append, Cf.sum_append, sg_map f h n]
    rfl
theorem list_range {α : Type} (d : α) (xs : List α) : (List.range xs.length).map (fun i => xs.getD i d) = xs := by
  apply List.ext_getElem
  · simp
  · intro i h1 h2
    simp only [List.getElem_map, List.getElem_range]
    rw [List.getD_eq_getElem?_getD, List.getElem?_eq_getElem h2]; rfl
theorem sg_list {α : Type} (f : α → Nat) (d : α) (xs : List α) : sg (fun i => f (xs.getD i d)) xs.length = Cf.sum f xs := by
  rw [← sg_map f (fun i => xs.getD i d), list_range]
theorem max_at (D : Nat → Nat) : ∀ n, 0 < n → ∃ p, p < n ∧ ∀ i, i < n → D i ≤ D p
  | 0, h => by omega
  | 1, _ => ⟨0, by omega, fun i hi => by rw [show i = 0 by omega]; exact Nat.le_refl _⟩
  | n + 2, _ => by
    obtain ⟨p, hp, hm⟩ := max_at D (n + 1) (by omega)
    by_cases h : D p ≤ D (n + 1)
    · refine ⟨n + 1, by omega, fun i hi => ?_⟩
      by_cases e : i = n + 1
      · subst e; exact Nat.le_refl _
      · exact Nat.le_trans (hm i (by omega)) h
    · refine ⟨p, by omega, fun i hi => ?_⟩
      by_cases e : i = n + 1
      · subst e; omega
      · exact hm i (by omega)
/-- lengths of a code -/
structure Kr (D : Nat → Nat) (n : Nat) : Prop where
  le : ∀ i, i < n → D i ≤ 15
  sum : sg (fun i => 2 ^ (15 - D i)) n ≤ 2 ^ 15
def swp (D : Nat → Nat) (a p : Nat) : Nat → Nat := fun i => if i = a then D p else if i = p then D a else D i
theorem sg_swp (g : Nat → Nat) {a p n x y : Nat} (ha : a < n) (hp : p < n) (hne : a ≠ p) : sg (fun i => if i = a then x else if i = p then y else g i) n + g a + g p = sg g n + x + y := by
  have h1 := sg_upd (fun i => if i = p then y else g i) a x n ha
  have h2 := sg_upd g p y n hp
  rw [if_neg hne] at h1
  omega
theorem swap {w D : Nat → Nat} {n a p : Nat} (ha : a < n) (hp : p < n) (hne : a ≠ p) (hw : w a ≤ w p) (hd : D a ≤ D p) (hK : Kr D n) :
    Kr (swp D a p) n ∧ sg (fun i => w i * swp D a p i) n ≤ sg (fun i => w i * D i) n := by
  refine ⟨⟨fun i hi => ?_, ?_⟩, ?_⟩
  · unfold swp
    split
    · exact hK.le p hp
    · split
      · exact hK.le a ha
      · exact hK.le i hi
  · have e : sg (fun i => 2 ^ (15 - swp D a p i)) n = sg (fun i => if i = a then 2 ^ (15 - D p) else if i = p then 2 ^ (15 - D a) else 2 ^ (15 - D i)) n := sg_same (fun i _ => by
      unfold swp
      by_cases e1 : i = a
      · rw [if_pos e1, if_pos e1]
      · by_cases e2 : i = p
        · rw [if_neg e1, if_pos e2, if_neg e1, if_pos e2]
        · rw [if_neg e1, if_neg e2, if_neg e1, if_neg e2])
    have h1 := sg_swp (fun i => 2 ^ (15 - D i)) (x := 2 ^ (15 - D p)) (y := 2 ^ (15 - D a)) ha hp hne
    have h2 := hK.sum
    rw [e]
    omega
  · have e : sg (fun i => w i * swp D a p i) n = sg (fun i => if i = a then w a * D p else if i = p then w p * D a else w i * D i) n := sg_same (fun i _ => by
      unfold swp
      by_cases e1 : i = a
      · rw [if_pos e1, if_pos e1, e1]
      · by_cases e2 : i = p
        · rw [if_neg e1, if_pos e2, if_neg e1, if_pos e2, e2]
        · rw [if_neg e1, if_neg e2, if_neg e1, if_neg e2])
    have h1 := sg_swp (fun i => w i * D i) (x := w a * D p) (y := w p * D a) ha hp hne
    rw [e]
    obtain ⟨x, hx⟩ := Nat.exists_eq_add_of_le hw
    obtain ⟨y, hy⟩ := Nat.exists_eq_add_of_le hd
    have h3 : w p * D p = w a * D a + w a * y + x * D a + x * y := by rw [hx, hy, Nat.mul_add, Nat.add_mul, Nat.add_mul]; omega
    have h4 : w a * D p = w a * D a + w a * y := by rw [hy, Nat.mul_add]
    have h5 : w p * D a = w a * D a + x * D a := by rw [hx, Nat.add_mul]
    omega
/-- the two least may stand lowest, side by side -/
theorem level {w : Nat → Nat} {n a b : Nat} (hab : a ≠ b) (ha : a < n) (hb : b < n) (hwa : ∀ k, k < n → w a ≤ w k) (hwb : ∀ k, k < n → k ≠ a → w b ≤ w k) :
    ∀ (N : Nat) (D : Nat → Nat), sg D n ≤ N → Kr D n → ∃ D' L, Kr D' n ∧ D' a = L + 1 ∧ D' b = L + 1 ∧ sg (fun i => w i * D' i) n ≤ sg (fun i => w i * D i) n
  | N, D, hN, hK => by
    obtain ⟨p, hp, hm⟩ := max_at D n (by omega)
    by_cases hq : ∃ q, q < n ∧ q ≠ p ∧ D q = D p
    · obtain ⟨q, hq, hqp, hqd⟩ := hq
      -- the first one
      obtain ⟨D1, K1, m1, a1, c1, q1, hq1, hq1a, hq1d⟩ : ∃ D1, Kr D1 n ∧ (∀ i, i < n → D1 i ≤ D p) ∧ D1 a = D p ∧ sg (fun i => w i * D1 i) n ≤ sg (fun i => w i * D i) n ∧ ∃ q1, q1 < n ∧ q1 ≠ a ∧ D1 q1 = D p := by
        by_cases e : a = p
        · subst e
          exact ⟨D, hK, hm, rfl, Nat.le_refl _, q, hq, hqp, hqd⟩
        · obtain ⟨k1, k2⟩ := swap (w := w) ha hp e (hwa p hp) (hm a ha) hK
          refine ⟨_, k1, fun i hi => ?_, ?_, k2, ?_⟩
          · unfold swp
            split
            · exact Nat.le_refl _
            · split
              · exact hm a ha
              · exact hm i hi
          · unfold swp; rw [if_pos rfl]
          · by_cases e2 : q = a
            · refine ⟨p, hp, fun h => e h.symm, ?_⟩
              unfold swp
              rw [if_neg (fun h => e h.symm), if_pos rfl, ← e2, hqd]
            · refine ⟨q, hq, e2, ?_⟩
              unfold swp
              rw [if_neg e2, if_neg hqp, hqd]
      obtain ⟨D2, K2, a2, b2, c2⟩ : ∃ D2, Kr D2 n ∧ D2 a = D p ∧ D2 b = D p ∧ sg (fun i => w i * D2 i) n ≤ sg (fun i => w i * D1 i) n := by
        by_cases e : b = q1
        · subst e
          exact ⟨D1, K1, a1, hq1d, Nat.le_refl _⟩
        · obtain ⟨k1, k2⟩ := swap (w := w) hb hq1 e (hwb q1 hq1 hq1a) (by rw [hq1d]; exact m1 b hb) K1
          refine ⟨_, k1, ?_, ?_, k2⟩
          · unfold swp; rw [if_neg hab, if_neg (fun h => hq1a h.symm), a1]
          · unfold swp; rw [if_pos rfl, hq1d]
      have hL : D p ≠ 0 := fun h0 => by
        have h1 := sg_swp (fun _ : Nat => 0) (x := 2 ^ 15) (y := 2 ^ 15) ha hb hab
        rw [sg_zero] at h1
        have h2 : sg (fun i => if i = a then 2 ^ 15 else if i = b then 2 ^ 15 else 0) n ≤ sg (fun i => 2 ^ (15 - D2 i)) n := sg_le (fun i _ => by
          split
          · rename_i e; rw [e, a2, h0]; exact Nat.le_refl _
          · split
            · rename_i e; rw [e, b2, h0]; exact Nat.le_refl _
            · exact Nat.zero_le _)
        have h3 := K2.sum
        have h4 : 0 < 2 ^ 15 := by decide
        omega
      exact ⟨D2, D p - 1, K2, by omega, by omega, Nat.le_trans c2 c1⟩
    · -- it stands alone: one higher
      have hlt : ∀ i, i < n → i ≠ p → D i + 1 ≤ D p := fun i hi hne => by
        have h1 := hm i hi
        rcases Nat.lt_or_ge (D i) (D p) with h | h
        · exact h
        · exact absurd ⟨i, hi, hne, by omega⟩ hq
      have hL : 1 ≤ D p := by
        by_cases e : a = p
        · have := hlt b hb (by omega); omega
        · have := hlt a ha e; omega
      have h15 := hK.le p hp
      have hKu : Kr (fun i => if i = p then D p - 1 else D i) n := by
        refine ⟨fun i hi => ?_, ?_⟩
        · split
          · omega
          · exact hK.le i hi
        · have e : sg (fun i => 2 ^ (15 - (if i = p then D p - 1 else D i))) n = sg (fun i => if i = p then 2 ^ (15 - (D p - 1)) else 2 ^ (15 - D i)) n := sg_same (fun i _ => by
            by_cases e1 : i = p
            · rw [if_pos e1, if_pos e1]
            · rw [if_neg e1, if_neg e1])
          have h1 := sg_upd (fun i => 2 ^ (15 - D i)) p (2 ^ (15 - (D p - 1))) n hp
          have h2 := sg_upd (fun i => 2 ^ (15 - D i)) p 0 n hp
          have hd : 2 ^ (15 - (D p - 1)) ∣ sg (fun i => if i = p then 0 else 2 ^ (15 - D i)) n := sg_dvd (fun i hi => by
            split
            · exact Nat.dvd_zero _
            · rename_i e1
              exact Nat.pow_dvd_pow 2 (by have := hlt i hi e1; omega))
          obtain ⟨x, hx⟩ := hd
          obtain ⟨y, hy⟩ : 2 ^ (15 - (D p - 1)) ∣ 2 ^ 15 := Nat.pow_dvd_pow 2 (by omega)
          have hu : 2 ^ (15 - (D p - 1)) = 2 * 2 ^ (15 - D p) := by rw [show 15 - (D p - 1) = (15 - D p) + 1 by omega, Nat.pow_succ]; omega
          have h3 := hK.sum
          have hpos : 0 < 2 ^ (15 - D p) := Nat.two_pow_pos _
          rw [e]
          rw [hy] at h3 ⊢
          generalize 2 ^ (15 - (D p - 1)) = U at *
          generalize 2 ^ (15 - D p) = u at *
          have hxy : x + 1 ≤ y := by
            rcases Nat.lt_or_ge x y with h | h
            · exact h
            · have := Nat.mul_le_mul_left U h
              omega
          have := Nat.mul_le_mul_left U hxy
          rw [Nat.mul_add, Nat.mul_one] at this
          omega
      have hc : sg (fun i => w i * (if i = p then D p - 1 else D i)) n ≤ sg (fun i => w i * D i) n := sg_le (fun i _ => by
        split
        · rename_i e; rw [e]; exact Nat.mul_le_mul_left _ (by omega)
        · exact Nat.le_refl _)
      have hs : sg (fun i => if i = p then D p - 1 else D i) n + D p = sg D n + (D p - 1) := sg_upd D p (D p - 1) n hp
      match N, hN with
      | 0, hN => omega
      | N + 1, hN =>
        obtain ⟨D', L, k1, k2, k3, k4⟩ := level hab ha hb hwa hwb N (fun i => if i = p then D p - 1 else D i) (by omega) hKu
        exact ⟨D', L, k1, k2, k3, Nat.le_trans k4 hc⟩
  termination_by N => N
end Ct
end Go.Proofs.Ytcolgcddhchkhaa

/- No code is cheaper than the tree's (mathematics, the trees). -/
namespace Go.Proofs.Ytcolgcddhchkhaa
namespace Ct
open Cf (lst wo)

/-- how often what stands in a tree comes, and how many bits its symbols take -/
def ws (zs : List Int) : Tr → Nat
  | .leaf s => (zs.getD s 0).toNat
  | .node l r => ws zs l + ws zs r
def wc (zs : List Int) : Tr → Nat
  | .leaf _ => 0
  | .node l r => wc zs l + wc zs r + (ws zs l + ws zs r)
theorem cost_tree (zs : List Int) (n : Nat) : ∀ (t : Tr) (d : Nat), (∀ s, (syms t).count s ≤ 1) → (∀ s ∈ syms t, s < n) → sg (fun i => (zs.getD i 0).toNat * (if i ∈ syms t then d + dep t i else 0)) n = wc zs t + ws zs t * d
  | .leaf x, d, _, hb => by
    have h1 := hb x (by simp [syms])
    rw [sg_same (h := fun i => if i = x then (zs.getD x 0).toNat * d else 0) (fun i _ => by
      by_cases e : i = x
      · rw [if_pos (by simp [syms, e]), if_pos e, e]; rfl
      · rw [if_neg (by simp [syms, e]), if_neg e]; rfl), sg_one, if_pos h1]
    simp [wc, ws]
  | .node l r, d, hc, hb => by
    have hl := cost_tree zs n l (d + 1) (fun s => by have := hc s; simp only [syms, List.count_append] at this; omega) (fun s hs => hb s (by simp [syms, hs]))
    have hr := cost_tree zs n r (d + 1) (fun s => by have := hc s; simp only [syms, List.count_append] at this; omega) (fun s hs => hb s (by simp [syms, hs]))
    rw [sg_same (h := fun i => (zs.getD i 0).toNat * (if i ∈ syms l then d + 1 + dep l i else 0) + (zs.getD i 0).toNat * (if i ∈ syms r then d + 1 + dep r i else 0)) (fun i _ => by
      by_cases h1 : i ∈ syms l
      · obtain ⟨h2, h3⟩ := dep_left (hc i) h1
        rw [if_pos (by simp [syms, h1]), if_pos h1, if_neg h2, h3, ← Nat.add_assoc]; rfl
      · by_cases h2 : i ∈ syms r
        · obtain ⟨_, h3⟩ := dep_right (hc i) h2
          rw [if_pos (by simp [syms, h2]), if_neg h1, if_pos h2, h3, ← Nat.add_assoc, Nat.mul_zero]; exact (Nat.zero_add _).symm
        · rw [if_neg (by simp [syms, h1, h2]), if_neg h1, if_neg h2]; rfl), sg_add, hl, hr]
    simp only [wc, ws]
    rw [Nat.mul_add, Nat.mul_add, Nat.mul_one, Nat.mul_one, Nat.add_mul]
    omega
/-- the weights of the nodes are how often their symbols come -/
def Wts (zs : List Int) (ts : List Nt) : Prop := ∀ p ∈ ts, p.1 = ws zs p.2
theorem Wts.at {zs : List Int} {ts : List Nt} (h : Wts zs ts) {i : Nat} (hi : i < ts.length) : wAt ts i = ws zs (tAt ts i) := by
  unfold wAt tAt
  rw [getD_at hi]
  exact h _ (List.getElem_mem hi)
theorem Wts.step {zs : List Int} {ts : List Nt} (h : Wts zs ts) {a b : Nat} (t : Two ts a b) : Wts zs (Ct.step ts) := fun p hp => by
  rw [t.st] at hp
  rcases List.mem_append.1 hp with hp | hp
  · exact h p ((wo_sub a b ts 0).subset hp)
  · rw [List.mem_singleton.1 hp]
    show wAt ts a + wAt ts b = ws zs (tAt ts a) + ws zs (tAt ts b)
    rw [h.at t.la, h.at t.lb]
theorem init_wts (zs : List Int) : ∀ k, Wts zs (initT zs k)
  | 0 => fun p hp => by simp [initT] at hp
  | k + 1 => fun p hp => by
    unfold initT at hp
    split at hp
    · rcases List.mem_append.1 hp with hp | hp
      · exact init_wts zs k p hp
      · rw [List.mem_singleton.1 hp]; rfl
    · exact init_wts zs k p hp
theorem wts_iter {zs : List Int} {ts : List Nt} (h : Wts zs ts) : ∀ j, Wts zs (iterT ts j)
  | 0 => h
  | j + 1 => by
    have ih := wts_iter h j
    show Wts zs (step (iterT ts j))
    by_cases hl : 1 < (iterT ts j).length
    · obtain ⟨a, b, t⟩ := two_of hl
      exact ih.step t
    · rcases step_cases (iterT ts j) with ⟨e, _⟩ | ⟨a, wa, b, wb, _, _, hab, ha, hb⟩
      · rw [e]; exact ih
      · omega
/-- whatever lengths the nodes are given, it takes C bits at least -/
def Least (zs : List Int) (C : Nat) (ts : List Nt) : Prop := ∀ D : Nat → Nat, Kr D ts.length → C ≤ Cf.sum (fun p : Nt => wc zs p.2) ts + sg (fun i => wAt ts i * D i) ts.length
theorem Least.back {zs : List Int} {C : Nat} {ts : List Nt} (hw : Wts zs ts) {a b : Nat} (t : Two ts a b) (h : Least zs C (step ts)) : Least zs C ts := by
  intro D hK
  obtain ⟨D', L, k1, k2, k3, k4⟩ := level (w := wAt ts) t.ne t.la t.lb (fun k hk => by
      by_cases e1 : k = a
      · rw [e1]; exact Nat.le_refl _
      · by_cases e2 : k = b
        · rw [e2]; exact t.ab
        · exact (t.mn k hk e1 e2).1) (fun k hk e1 => by
      by_cases e2 : k = b
      · rw [e2]; exact Nat.le_refl _
      · exact (t.mn k hk e1 e2).2.1) (sg D ts.length) D (Nat.le_refl _) hK
  -- the nodes with their lengths
  obtain ⟨Ps, hPs⟩ : ∃ Ps : List (Nat × Nat), Ps = (List.range ts.length).map (fun i => (wAt ts i, D' i)) := ⟨_, rfl⟩
  have hlen : Ps.length = ts.length := by rw [hPs]; simp
  have hPa : ∀ (i : Nat) (hi : i < Ps.length), Ps[i] = (wAt ts i, D' i) := fun i hi => by subst hPs; simp
  obtain ⟨Qs, hQs⟩ : ∃ Qs : List (Nat × Nat), Qs = wo a b Ps 0 ++ [(wAt ts a + wAt ts b, L)] := ⟨_, rfl⟩
  have hq1 : Qs.length = (step ts).length := by
    have h1 := Cf.wo_len0 t.ne Ps (by rw [hlen]; exact t.la) (by rw [hlen]; exact t.lb)
    have h2 := (step_last t).1
    rw [hQs, List.length_append]
    simp only [List.length_singleton]
    omega
  have hq2 : Qs.map (fun p => p.1) = (step ts).map (fun p => p.1) := by
    rw [hQs, t.st, List.map_append, List.map_append, Cf.wo_map, Cf.wo_map]
    have e : Ps.map (fun p => p.1) = ts.map (fun p => p.1) := by
      rw [hPs, List.map_map]
      apply List.ext_getElem
      · simp
      · intro i h1 h2
        simp only [List.getElem_map, List.getElem_range, Function.comp]
        unfold wAt
        rw [getD_at (by simpa using h2)]
    rw [e]
    rfl
  have hq3 : ∀ i, i < (step ts).length → wAt (step ts) i = (Qs.getD i (0, 0)).1 := fun i hi => by
    have h1 := congrArg (fun l : List Nat => l[i]?) hq2
    simp only [List.getElem?_map] at h1
    rw [List.getElem?_eq_getElem (by omega), List.getElem?_eq_getElem hi] at h1
    simp only [Option.map_some, Option.some.injEq] at h1
    unfold wAt
    rw [getD_at hi, ← h1, List.getD_eq_getElem?_getD, List.getElem?_eq_getElem (by omega)]
    rfl
  have s1 := Cf.wo_sum0 (fun p : Nat × Nat => 2 ^ (15 - p.2)) t.ne Ps (by rw [hlen]; exact t.la) (by rw [hlen]; exact t.lb)
  have s2 := Cf.wo_sum0 (fun p : Nat × Nat => p.1 * p.2) t.ne Ps (by rw [hlen]; exact t.la) (by rw [hlen]; exact t.lb)
  rw [hPa, hPa] at s1 s2
  simp only [k2, k3] at s1 s2
  have e1 : Cf.sum (fun p : Nat × Nat => 2 ^ (15 - p.2)) Ps = sg (fun i => 2 ^ (15 - D' i)) ts.length := by rw [hPs]; exact sg_map _ _ _
  have e2 : Cf.sum (fun p : Nat × Nat => p.1 * p.2) Ps = sg (fun i => wAt ts i * D' i) ts.length := by rw [hPs]; exact sg_map _ _ _
  have hL : L + 1 ≤ 15 := by have := k1.le a t.la; omega
  have hp2 : 2 ^ (15 - L) = 2 * 2 ^ (15 - (L + 1)) := by rw [show 15 - L = (15 - (L + 1)) + 1 by omega, Nat.pow_succ]; omega
  have q1 : Cf.sum (fun p : Nat × Nat => 2 ^ (15 - p.2)) Qs = Cf.sum (fun p : Nat × Nat => 2 ^ (15 - p.2)) (wo a b Ps 0) + 2 ^ (15 - L) := by
    rw [hQs, Cf.sum_append]; rfl
  have q2 : Cf.sum (fun p : Nat × Nat => p.1 * p.2) Qs = Cf.sum (fun p : Nat × Nat => p.1 * p.2) (wo a b Ps 0) + (wAt ts a + wAt ts b) * L := by
    rw [hQs, Cf.sum_append]; rfl
  have hK2 : Kr (fun i => (Qs.getD i (0, 0)).2) (step ts).length := by
    refine ⟨fun i hi => ?_, ?_⟩
    · have hi2 : i < Qs.length := by omega
      have hm := List.getElem_mem hi2
      rw [List.getD_eq_getElem?_getD, List.getElem?_eq_getElem hi2]
      show Qs[i].2 ≤ 15
      generalize Qs[i] = q at hm
      rw [hQs] at hm
      rcases List.mem_append.1 hm with hm | hm
      · have hm2 := (wo_sub a b Ps 0).subset hm
        rw [hPs] at hm2
        obtain ⟨j, hj, rfl⟩ := List.mem_map.1 hm2
        exact k1.le j (List.mem_range.1 hj)
      · rw [List.mem_singleton.1 hm]; show L ≤ 15; omega
    · have h1 := sg_list (fun p : Nat × Nat => 2 ^ (15 - p.2)) (0, 0) Qs
      rw [hq1] at h1
      have h2 := k1.sum
      show sg (fun i => 2 ^ (15 - (Qs.getD i (0, 0)).2)) (step ts).length ≤ _
      rw [h1]
      omega
  have h9 := h _ hK2
  have h10 : sg (fun i => wAt (step ts) i * (Qs.getD i (0, 0)).2) (step ts).length = Cf.sum (fun p : Nat × Nat => p.1 * p.2) Qs := by
    rw [← sg_list (fun p : Nat × Nat => p.1 * p.2) (0, 0) Qs, hq1]
    exact sg_same (fun i hi => by rw [hq3 i hi])
  rw [h10] at h9
  have h11 : Cf.sum (fun p : Nt => wc zs p.2) (step ts) = Cf.sum (fun p : Nt => wc zs p.2) ts + (wAt ts a + wAt ts b) := by
    have h1 := Cf.wo_sum0 (fun p : Nt => wc zs p.2) t.ne ts t.la t.lb
    rw [t.st, Cf.sum_append]
    have h2 : Cf.sum (fun p : Nt => wc zs p.2) [(wAt ts a + wAt ts b, Tr.node (tAt ts a) (tAt ts b))] = wc zs (tAt ts a) + wc zs (tAt ts b) + (ws zs (tAt ts a) + ws zs (tAt ts b)) := rfl
    rw [h2, hw.at t.la, hw.at t.lb]
    have h3 : wc zs (ts[a]'t.la).2 = wc zs (tAt ts a) := by unfold tAt; rw [getD_at t.la]
    have h4 : wc zs (ts[b]'t.lb).2 = wc zs (tAt ts b) := by unfold tAt; rw [getD_at t.lb]
    rw [h3, h4] at h1
    omega
  rw [h11, q2, Nat.add_mul] at h9
  rw [Nat.mul_add, Nat.mul_add, Nat.mul_one, Nat.mul_one] at s2
  omega
theorem least_iter {zs : List Int} {C : Nat} {ts : List Nt} (hw : Wts zs ts) : ∀ j, Least zs C (iterT ts j) → Least zs C ts
  | 0, h => h
  | j + 1, h => by
    refine least_iter hw j ?_
    have h' : Least zs C (step (iterT ts j)) := h
    by_cases hl : 1 < (iterT ts j).length
    · obtain ⟨a, b, t⟩ := two_of hl
      exact h'.back (wts_iter hw j) t
    · rcases step_cases (iterT ts j) with ⟨e, _⟩ | ⟨a, wa, b, wb, _, _, hab, ha, hb⟩
      · rw [e] at h'; exact h'
      · omega
def sy : Tr → Nat
  | .leaf s => s
  | .node _ _ => 0
theorem init_kraft {zs : List Int} {G : Nat → Nat} : ∀ k, (∀ i, i < k → 0 < zs.getD i 0 → 0 < G i) → Cf.sum (fun p : Nt => 2 ^ (15 - G (sy p.2))) (initT zs k) ≤ sg (fun i => Cd.part ((G i : Nat) : Int)) k
  | 0, _ => Nat.le_refl _
  | k + 1, h => by
    have ih := init_kraft k (fun i hi => h i (by omega))
    unfold initT
    show _ ≤ sg (fun i => Cd.part ((G i : Nat) : Int)) k + Cd.part ((G k : Nat) : Int)
    split
    · rename_i hp
      rw [Cf.sum_append]
      have e : Cf.sum (fun p : Nt => 2 ^ (15 - G (sy p.2))) [((zs.getD k 0).toNat, Tr.leaf k)] = 2 ^ (15 - G k) := by simp [Cf.sum, sy]
      rw [e, part_nat _ (h k (by omega) hp)]
      omega
    · omega
theorem init_cost {zs : List Int} {G : Nat → Nat} : ∀ k, Cf.sum (fun p : Nt => p.1 * G (sy p.2)) (initT zs k) = sg (fun i => (zs.getD i 0).toNat * G i) k
  | 0 => rfl
  | k + 1 => by
    have ih := init_cost (zs := zs) (G := G) k
    unfold initT
    show _ = sg (fun i => (zs.getD i 0).toNat * G i) k + (zs.getD k 0).toNat * G k
    split
    · rw [Cf.sum_append, ih]
      have e : Cf.sum (fun p : Nt => p.1 * G (sy p.2)) [((zs.getD k 0).toNat, Tr.leaf k)] = (zs.getD k 0).toNat * G k := by simp [Cf.sum, sy]
      rw [e]
    · rw [ih, show (zs.getD k 0).toNat = 0 by omega]
      omega
theorem init_wc (zs : List Int) : ∀ k, Cf.sum (fun p : Nt => wc zs p.2) (initT zs k) = 0
  | 0 => rfl
  | k + 1 => by
    unfold initT
    split
    · rw [Cf.sum_append, init_wc zs k]; rfl
    · exact init_wc zs k
theorem sy_lt (zs : List Int) (k : Nat) {p : Nt} (hp : p ∈ initT zs k) : sy p.2 < k := by
  induction k with
  | zero => simp [initT] at hp
  | succ k ih =>
    unfold initT at hp
    split at hp
    · rcases List.mem_append.1 hp with hp | hp
      · exact Nat.lt_succ_of_lt (ih hp)
      · rw [List.mem_singleton.1 hp]; exact Nat.lt_succ_self k
    · exact Nat.lt_succ_of_lt (ih hp)
/-- no code is cheaper -/
theorem best {zs : List Int} {F G : Nat → Nat} (hF : IsLens zs F) (h15 : ∀ i, i < zs.length → G i ≤ 15) (hpos : ∀ i, i < zs.length → 0 < zs.getD i 0 → 0 < G i) (hK : sg (fun i => Cd.part ((G i : Nat) : Int)) zs.length ≤ 32768) :
    sg (fun i => (zs.getD i 0).toNat * F i) zs.length ≤ sg (fun i => (zs.getD i 0).toNat * G i) zs.length := by
  rcases hF with ⟨hn, rfl⟩ | ⟨o, t, j, hit, rfl⟩
  · refine sg_le (fun i _ => ?_)
    rw [Nat.mul_zero]; exact Nat.zero_le _
  · obtain ⟨hc, hs, hl⟩ := tree_syms hit
    match t, hit, hc, hs with
    | .leaf x, hit, hc, hs =>
      refine sg_le (fun i hi => Nat.mul_le_mul_left _ ?_)
      show (if i = x then 1 else 0) ≤ G i
      split
      · rename_i e
        exact hpos i hi ((hs i).1 (by simp [syms, e])).2
      · exact Nat.zero_le _
    | .node l r, hit, hc, hs =>
      have ef : ∀ i, topT (.node l r) i = if i ∈ syms (.node l r) then 0 + dep (.node l r) i else 0 := fun i => by
        show Go.Proofs.Ytcolgcddhchkhaa.tell (.node l r) 0 (fun _ => 0) i = _
        rw [tell_is (hc i)]
      have hC := cost_tree zs zs.length (.node l r) 0 hc (fun s hx => ((hs s).1 hx).1)
      have hC2 : sg (fun i => (zs.getD i 0).toNat * topT (.node l r) i) zs.length = wc zs (.node l r) := by
        rw [Nat.mul_zero, Nat.add_zero] at hC
        rw [← hC]
        exact sg_same (fun i _ => by rw [ef])
      have hL : Least zs (wc zs (.node l r)) (initT zs zs.length) := least_iter (init_wts zs zs.length) j (by
        rw [hit]
        intro D _
        have e : Cf.sum (fun p : Nt => wc zs p.2) [(o, Tr.node l r)] = wc zs (.node l r) := by simp [Cf.sum]
        rw [e]
        exact Nat.le_add_right _ _)
      have k1 := sg_list (fun p : Nt => 2 ^ (15 - G (sy p.2))) (0, .leaf 0) (initT zs zs.length)
      have k2 := sg_list (fun p : Nt => p.1 * G (sy p.2)) (0, .leaf 0) (initT zs zs.length)
      have h9 := hL (fun i => G (sy (tAt (initT zs zs.length) i))) ⟨fun i hi => h15 _ (sy_lt zs zs.length (by rw [getD_at hi]; exact List.getElem_mem hi)), by
        have h1 := init_kraft (zs := zs) (G := G) zs.length hpos
        show sg (fun i => 2 ^ (15 - G (sy ((initT zs zs.length).getD i (0, .leaf 0)).2))) _ ≤ _
        rw [k1]
        exact Nat.le_trans h1 hK⟩
      rw [init_wc, Nat.zero_add] at h9
      rw [hC2]
      refine Nat.le_trans h9 ?_
      show sg (fun i => ((initT zs zs.length).getD i (0, .leaf 0)).1 * G (sy ((initT zs zs.length).getD i (0, .leaf 0)).2)) _ ≤ _
      rw [k2, init_cost]
      exact Nat.le_refl _
end Ct
end Go.Proofs.Ytcolgcddhchkhaa

/- No code of as many lengths takes fewer bits (mathematics). -/
namespace Go.Proofs.Ytcolgcddhchkhaa

theorem cost_sg (l zs : List Int) (hl : ∀ i, i < l.length → 0 ≤ l.getD i 0) (hz : ∀ i, i < zs.length → 0 ≤ zs.getD i 0) (hn : l.length = zs.length) : ∀ k, k ≤ l.length → costN (l.take k) (zs.take k) = ((Ct.sg (fun i => (l.getD i 0).toNat * (zs.getD i 0).toNat) k : Nat) : Int)
  | 0, _ => by simp [costN, Ct.sg]
  | k + 1, hk => by
    rw [cost_snoc l zs k (by omega) (by omega), cost_sg l zs hl hz hn k (by omega)]
    show _ = ((Ct.sg _ k + (l.getD k 0).toNat * (zs.getD k 0).toNat : Nat) : Int)
    have h1 := hl k (by omega)
    have h2 := hz k (by omega)
    have e1 : l[k]'(by omega) = l.getD k 0 := by rw [List.getD_eq_getElem?_getD, List.getElem?_eq_getElem (by omega)]; rfl
    have e2 : zs[k]'(by omega) = zs.getD k 0 := by rw [List.getD_eq_getElem?_getD, List.getElem?_eq_getElem (by omega)]; rfl
    rw [e1, e2]
    rw [Int.natCast_add, Int.natCast_mul, Int.toNat_of_nonneg h1, Int.toNat_of_nonneg h2]
theorem cheap {l zs : List Int} {f : Nat → Nat} (hB : fitB l 15 = true) (hf : Ct.Fits 15 l f) (hd : OftenOk l) (hn : zs.length = l.length) (hz : Cd.okB zs = true) (hp : ∀ i, i < l.length → 0 < l.getD i 0 → zs.getD i 0 ≠ 0) : cost l (lens l.length f) ≤ cost l zs := by
  have hL : Ct.IsLens l f := fits_free (hd (room_of hB)) hf
  obtain ⟨o1, _, _⟩ := fits_ok hB hf
  obtain ⟨p1, _, _, p4, _, p6⟩ := fitB_parts hB
  have hzs : ∀ i, i < zs.length → 0 ≤ zs.getD i 0 ∧ zs.getD i 0 ≤ 15 := fun i hi => by
    have := okB_get hz i hi
    rw [List.getD_eq_getElem?_getD, List.getElem?_eq_getElem hi]; exact this
  have ht : Cd.taken zs ≤ 32768 := by
    unfold Cd.okB at hz
    simp only [Bool.and_eq_true, decide_eq_true_eq] at hz
    exact hz.2.2
  have ez : zs = (List.range l.length).map (fun i => (((zs.getD i 0).toNat : Nat) : Int)) := by
    apply List.ext_getElem
    · simp [hn]
    · intro i h1 h2
      have := hzs i h1
      simp only [List.getElem_map, List.getElem_range]
      rw [Int.toNat_of_nonneg this.1, List.getD_eq_getElem?_getD, List.getElem?_eq_getElem h1]; rfl
  rw [cost_yes (by rw [o1, p6, lens_len]; simp), cost_yes (by rw [hz, p6, hn]; simp)]
  have c1 := cost_sg l (lens l.length f) (fun i hi => (p4 i hi).1) (fun i hi => by rw [lens_len] at hi; rw [lens_get hi]; omega) (by rw [lens_len]) l.length (Nat.le_refl _)
  have c2 := cost_sg l zs (fun i hi => (p4 i hi).1) (fun i hi => (hzs i hi).1) hn.symm l.length (Nat.le_refl _)
  rw [List.take_length, List.take_of_length_le (by rw [lens_len]; exact Nat.le_refl _)] at c1
  rw [List.take_length, List.take_of_length_le (by omega)] at c2
  rw [c1, c2]
  refine Int.ofNat_le.2 ?_
  rw [Ct.sg_same (h := fun i => (l.getD i 0).toNat * f i) (fun i hi => by rw [lens_get hi]; rfl)]
  refine Ct.best hL (fun i hi => ?_) (fun i hi h0 => ?_) ?_
  · have := hzs i (by omega); omega
  · have h1 := hzs i (by omega)
    have h2 := hp i hi h0
    omega
  · rw [← Ct.taken_sg, ← ez]; exact ht
end Go.Proofs.Ytcolgcddhchkhaa

/- How often each comes, and lengths, drawn. -/
namespace Go.Proofs.Ytcolgcddhchkhaa
open Go.RowKit

theorem ints_setCell {w2 w6 : World} {a : Option Addr} {l : List Int} {b k : Nat} {v : Value} (h2 : Ints w2 a l) (h6 : Ints w6 a l) (hb : w2.heap.size ≤ b) : Ints (w6.setCell ⟨b, k, none⟩ v) a l := by
  rcases h2 with e | ⟨b1, off1, rfl, hlt, _⟩
  · exact .inl e
  · rcases h6 with e | ⟨b2, off2, e2, hlt2, hc⟩
    · exact .inl e
    · cases e2
      have hbl : Below (b1 + 1) w6 (w6.setCell ⟨b, k, none⟩ v) := (Below.refl _ _).setCell (p := ⟨b, k, none⟩) (by show b1 + 1 ≤ b; omega) _
      exact .inr ⟨b1, off1, rfl, Nat.lt_of_lt_of_le hlt2 hbl.size, fun i hi => (hbl.cell (p := ⟨b1, off1 + i, none⟩) (Nat.lt_succ_self _)).trans (hc i hi)⟩
theorem ownI_beside {B lo : Nat} {w : World} {a : Option Addr} {n c : Nat} {l : List Int} (h1 : OwnI w lo (.slice a n c) n l) (hlo : B < lo) : Ints w a l ∧ Beside B a := by
  refine ⟨?_, ?_⟩
  · obtain ⟨a7, c7, e7, h7⟩ := h1.owns
    cases e7
    exact h7.ints
  · intro b off e
    subst e
    have : off = 0 := by
      rcases h1.2 with ⟨e, h0⟩ | ⟨g, cap', cur, e, _⟩
      · cases e
      · cases e; rfl
    subst this
    have := (World.ownsRow.lt (show World.ownsRow _ _ _ _ _ _ _ from h1) b rfl).1
    omega
theorem own_only {B b n : Nat} {w w' : World} {g : Nat → Int} (h : Own w b n g) (ho : Only B w w') (hne : b ≠ B) : Own w' b n g :=
  ⟨Nat.lt_of_lt_of_le h.1 ho.below.size, fun i hi => ⟨(ho.cell b i h.1 hne).trans (h.2 i hi).1, by
    have := ho.rest b h.1 hne
    have h2 := (h.2 i hi).2
    simp only [World.frozen?, this] at h2 ⊢
    exact h2⟩⟩
theorem own_ints3 {w : World} {b n : Nat} {g : Nat → Int} (h : Own w b n g) : Ints w (some ⟨b, 0, none⟩) ((List.range n).map g) := by
  refine .inr ⟨b, 0, rfl, h.1, fun i hi => ?_⟩
  rw [List.length_map, List.length_range] at hi
  rw [Nat.zero_add, List.getElem_map, List.getElem_range]
  exact (h.2 i hi).1
/-- what is drawn -/
def CostDrawn (w : World) (e : Ending) (w' : World) : Prop :=
  (∃ (a : Option Addr) (n c : Nat) (l : List Int) (b : Option Addr) (n' c' : Nat) (zs : List Int), e = .returned (.tuple #[.slice a n c, .slice b n' c']) ∧ (Ints w' a l ∧ l.length = n ∧ n ≤ 301 ∧ OftenOk l) ∧ Ints w' b zs ∧ zs.length = n' ∧ n' ≤ 300) ∧ Below w.heap.size w w'

set_option maxHeartbeats 4000000 in
set_option maxRecDepth 20000 in
theorem drawCodeCost_any (a : Option Addr) (len cap : Nat) (w : World) (h : Code8 w a len cap) :
    Calls Try.prog 15 #[.slice a len cap] w (CostDrawn w) := by
  have HOP : Hid (Calls Try.prog 37 #[.slice a len cap] w fun e w' => e = .returned (.pointer (some ⟨w.heap.size, 0, none⟩)) ∧ RdAt w' w.heap.size 0 ∧ Below w.heap.size w w') := open_any a len cap w h
  clear h
  go_enter Try.func15, Try.ntmps15
  go_wp2_with fail
  refine HOP.out.mono ?_
  rintro e w1 ⟨rfl, hR1, b1⟩
  clear HOP
  obtain ⟨B, hB⟩ : ∃ B, B = w.heap.size := ⟨_, rfl⟩
  have H1 : Hid (RdAt w1 B 0 ∧ Below B w w1) := by rw [hB]; exact ⟨hR1, b1⟩
  have HBB : Hid (B = w.heap.size) := hB
  rw [← hB]
  clear hR1 b1 hB
  have hlt1 := H1.out.1.lt
  go_wp2_with fail
  refine (l14Often_own B 0 w1 H1.out.1 (by omega)).mono ?_
  rintro e w2 ⟨⟨a2, n2, c2, l2, rfl, hI2, hb2, hok⟩, ⟨q2, hq2, hR2⟩, hO2⟩
  have hn2 : l2.length = n2 := hI2.len
  obtain ⟨hJ2, hs2⟩ := ownI_beside hI2 (Nat.lt_succ_self B)
  have HFT : Hid (Calls Try.prog 12 #[.slice a2 n2 c2, .int .i64 15] w2 (Fitted w2)) := spec_codeFit15 a2 n2 c2 l2 w2 hJ2 hn2 (by omega) hok
  have hlt2 : B < w2.heap.size := hR2.lt
  have H2 : Hid (RdAt w2 B q2 ∧ Below B w w2) := ⟨hR2, H1.out.2.trans hO2.below⟩
  have HL : Hid (Ints w2 a2 l2 ∧ Beside B a2 ∧ l2.length = n2 ∧ n2 ≤ 301 ∧ OftenOk l2) := ⟨hJ2, hs2, hn2, hb2, hok⟩
  clear hI2 hn2 hok hR2 hO2 H1 hJ2 hs2
  have HFIN : Hid (∀ (b n : Nat) (g : Nat → Int) (w' : World), Ints w' a2 l2 → Own w' b n g → n ≤ 300 → Below B w w' → CostDrawn w (.returned (.tuple #[.slice a2 n2 c2, .slice (some ⟨b, 0, none⟩) n n])) w') := by
    intro b n g w' h1 h2 h3 h4
    rw [HBB.out] at h4
    exact ⟨⟨a2, n2, c2, l2, _, n, n, _, rfl, ⟨h1, HL.out.2.2.1, HL.out.2.2.2.1, HL.out.2.2.2.2⟩, own_ints3 h2, by simp, h3⟩, h4⟩
  go_wp2_with fail
  refine HFT.out.mono ?_
  rintro e w3 ⟨⟨b, n, f, rfl, hbl, hO3, hn3⟩, b3⟩
  have H3 : Hid (RdAt w3 B q2 ∧ Below B w w3 ∧ Own w3 b n (fun i => ((f i : Nat) : Int)) ∧ Ints w3 a2 l2) := ⟨H2.out.1.kept (b3.mono hlt2), H2.out.2.trans (b3.mono (Nat.le_of_lt hlt2)), hO3, HL.out.1.kept b3⟩
  have hBb : b ≠ B := by omega
  clear HFT hO3 b3 H2
  by_cases hn0 : 0 < n
  · have hni : (0 : Int) < (n : Int) := by omega
    go_wp2_with fail
    refine (pick_named B q2 _ _ H3.out.1 (by omega) (by omega) (by omega)).mono ?_
    rintro e w4 ⟨y, rfl, hy, hR4, hO4, -⟩
    have H4 : Hid (RdAt w4 B (q2 + 1) ∧ Below B w w4 ∧ Own w4 b n (fun i => ((f i : Nat) : Int)) ∧ Ints w4 a2 l2) := ⟨hR4, H3.out.2.1.trans hO4.below, own_only H3.out.2.2.1 hO4 hBb, H3.out.2.2.2.only HL.out.2.1 hO4⟩
    clear hR4 hO4 H3
    by_cases hy0 : y = 0
    · subst hy0
      go_wp2_with fail
      refine (pick_named B (q2 + 1) _ _ H4.out.1 (by omega) (by omega) (by omega)).mono ?_
      rintro e w6 ⟨z, rfl, hz, hR6, hO6, -⟩
      have hO6' := own_only H4.out.2.2.1 hO6 hBb
      have hI6 : Ints w6 a2 l2 := H4.out.2.2.2.only HL.out.2.1 hO6
      obtain ⟨c1, f1⟩ := hO6'.2 0 hn0
      have c1' : w6.cell? ⟨b, 0, none⟩ = some (.int .i64 ((f 0 : Nat) : Int)) := c1
      have HF : Hid (CostDrawn w (.returned (.tuple #[.slice a2 n2 c2, .slice (some ⟨b, 0, none⟩) n n])) (w6.setCell ⟨b, 0, none⟩ (.int .i64 (z : Int)))) := by
        refine HFIN.out b n (fun i => if i = 0 then (z : Int) else ((f i : Nat) : Int)) _ (ints_setCell HL.out.1 hI6 hbl) (own_set (z : Int) hO6' hn0 (by simp) (fun i _ hi => by simp [hi])) hn3 ?_
        exact (H4.out.2.1.trans hO6.below).trans ((Below.refl _ _).setCell (p := ⟨b, 0, none⟩) (by show B ≤ b; omega) _)
      clear c1 hO6' hR6 hO6 H4 hI6 HFIN HL
      go_wp2_with fail
      exact bodyPost_ret (v := .tuple #[.slice a2 n2 c2, .slice (some ⟨b, 0, none⟩) n n]) (by simp [results, Try.results15, go_sem]) rfl HF.out
    · have hyi : ¬ (y : Int) = 0 := by omega
      have HF : Hid (CostDrawn w (.returned (.tuple #[.slice a2 n2 c2, .slice (some ⟨b, 0, none⟩) n n])) w4) := HFIN.out b n _ _ H4.out.2.2.2 H4.out.2.2.1 hn3 H4.out.2.1
      clear H4 HFIN HL
      go_wp2_with fail
      exact bodyPost_ret (v := .tuple #[.slice a2 n2 c2, .slice (some ⟨b, 0, none⟩) n n]) (by simp [results, Try.results15, go_sem]) rfl HF.out
  · have hni : ¬ (0 : Int) < (n : Int) := by omega
    have HF : Hid (CostDrawn w (.returned (.tuple #[.slice a2 n2 c2, .slice (some ⟨b, 0, none⟩) n n])) w3) := HFIN.out b n _ _ H3.out.2.2.2 H3.out.2.2.1 hn3 H3.out.2.1
    clear H3 HFIN HL
    go_wp2_with fail
    exact bodyPost_ret (v := .tuple #[.slice a2 n2 c2, .slice (some ⟨b, 0, none⟩) n n]) (by simp [results, Try.results15, go_sem]) rfl HF.out
end Go.Proofs.Ytcolgcddhchkhaa

/- Two lists of ints held against each other by the laws. -/
namespace Go.Proofs.Ytcolgcddhchkhaa
open Go.RowKit

set_option maxHeartbeats 400000 in
theorem wiInts_same (a : Option Addr) (cap : Nat) (b : Option Addr) (cap' n : Nat) (zs : List Int) (w : World) (h : Ints w a zs) (g : Ints w b zs) (hn : zs.length = n) (hl : n ≤ 2000000) :
    Calls Try.prog 11 #[.slice a n cap, .slice b n cap'] w fun e w' => e = .returned (.bool true) ∧ ∃ m, w' = w.drewN m := by
  have HI : Hid (Ints w a zs) := h
  have HG : Hid (Ints w b zs) := g
  clear h g
  have hzg : n ≤ zs.length := by omega
  clear hn
  go_enter Try.func11, Try.ntmps11
  go_wp2_with fail
  go_loopw [5] (fun i wr => ∃ k m : Nat, k ≤ n ∧ i = .int .i64 k ∧ wr = w.drewN m) (fun i _ => n - (intOf i).toNat)
  case atStart => exact ⟨0, 0, Nat.zero_le _, rfl, rfl⟩
  case round =>
    obtain ⟨k, m, hk, rfl, rfl⟩ := hrel
    by_cases hlt : k < n
    · have hkz : k < zs.length := by omega
      rcases HI.out with h | ⟨b1, off1, rfl, hb1, hc1⟩
      · rw [h] at hkz; simp at hkz
      · rcases HG.out with h | ⟨b2, off2, rfl, hb2, hc2⟩
        · rw [h] at hkz; simp at hkz
        · have e1 := hc1 k hkz
          have e2 := hc2 k hkz
          have hki : (k : Int) < (n : Int) := by omega
          clear hc1 hc2
          generalize zs[k] = x at *
          go_wp2_with fail
          go_region
          all_goals go_wp2_with fail
          all_goals
            go_roundw
            case rel => exact ⟨k + 1, m + 1, by omega, by go_num, rfl⟩
            case measure => simp [intOf]; omega
    · go_wp2_with fail
      go_ret
      exact ⟨rfl, m, rfl⟩
end Go.Proofs.Ytcolgcddhchkhaa

/- P10: no code takes fewer bits than the one that is fitted. -/
namespace Go.Proofs.Ytcolgcddhchkhaa
open Go.RowKit

theorem ints_at {w : World} {a : Option Addr} {zs : List Int} (h : Ints w a zs) {k : Nat} (hk : k < zs.length) : ∃ b off, a = some ⟨b, off, none⟩ ∧ w.cell? ⟨b, off + k, none⟩ = some (.int .i64 (zs.getD k 0)) := by
  rcases h with e | ⟨b, off, rfl, _, hc⟩
  · rw [e] at hk; simp at hk
  · exact ⟨b, off, rfl, by rw [hc k hk, List.getD_eq_getElem?_getD, List.getElem?_eq_getElem hk]; rfl⟩
theorem ints_take {w : World} {a : Option Addr} {zs : List Int} (h : Ints w a zs) (n : Nat) : Ints w a (zs.take n) := by
  rcases h with e | ⟨b, off, rfl, hb, hc⟩
  · exact .inl (by rw [e]; simp)
  · exact .inr ⟨b, off, rfl, hb, fun i hi => by rw [List.getElem_take]; exact hc i (by rw [List.length_take] at hi; omega)⟩
theorem fit_drewN {B : Nat} {w w' : World} (h : Below B w w') (n : Nat) : Below B w (w'.drewN n) := ⟨h.os, h.tape, h.output, h.size, h.block⟩

/-- lengths, drawn of a code -/
def LensOut (w : World) (e : Ending) (w' : World) : Prop := (∃ (a : Option Addr) (n c : Nat) (l : List Int), e = .returned (.slice a n c) ∧ Ints w' a l ∧ l.length = n ∧ n ≤ 300 ∧ n ≤ c) ∧ Below w.heap.size w w'
set_option maxHeartbeats 1000000 in
theorem drawCodeMake_any (a : Option Addr) (len cap : Nat) (w : World) (h : Code8 w a len cap) :
    Calls Try.prog 16 #[.slice a len cap] w (LensOut w) := by
  have HOP : Hid (Calls Try.prog 37 #[.slice a len cap] w fun e w' => e = .returned (.pointer (some ⟨w.heap.size, 0, none⟩)) ∧ RdAt w' w.heap.size 0 ∧ Below w.heap.size w w') := open_any a len cap w h
  clear h
  go_enter Try.func16, Try.ntmps16
  go_wp2_with fail
  refine HOP.out.mono ?_
  rintro e w1 ⟨rfl, hR1, b1⟩
  clear HOP
  have HLN : Hid (Calls Try.prog 47 #[.pointer (some ⟨w.heap.size, 0, none⟩)] w1 (LenDrawn w.heap.size 0 w1)) := l14Lengths_any w.heap.size 0 w1 hR1 (by omega)
  have HB1 : Hid (Below w.heap.size w w1) := b1
  clear hR1 b1
  go_wp2_with fail
  refine HLN.out.mono ?_
  rintro e w2 ⟨⟨a2, n, c, l, rfl, hI, hl, hn, hc, -⟩, -, hO⟩
  have HF : Hid (LensOut w (.returned (.slice a2 n c)) w2) := ⟨⟨a2, n, c, l, rfl, hI, hl, hn, hc⟩, HB1.out.trans hO.below⟩
  clear hI hl hO HLN HB1
  go_wp2_with fail
  go_ret
  exact HF.out

/-- what lies in memory all the while -/
def Lie (w wr : World) (a : Option Addr) (l : List Int) (b : Option Addr) (zs : List Int) (o : Option Addr) (xs : List Int) : Prop := Ints wr a l ∧ Ints wr b zs ∧ Ints wr o xs ∧ Below w.heap.size w wr
theorem Lie.kept {w wr wr' : World} {a : Option Addr} {l : List Int} {b : Option Addr} {zs : List Int} {o : Option Addr} {xs : List Int} (h : Lie w wr a l b zs o xs) (hb : Below wr.heap.size wr wr') : Lie w wr' a l b zs o xs :=
  ⟨h.1.kept hb, h.2.1.kept hb, h.2.2.1.kept hb, h.2.2.2.trans (hb.mono h.2.2.2.size)⟩
theorem Lie.drewN {w wr : World} {a : Option Addr} {l : List Int} {b : Option Addr} {zs : List Int} {o : Option Addr} {xs : List Int} (h : Lie w wr a l b zs o xs) (m : Nat) : Lie w (wr.drewN m) a l b zs o xs :=
  ⟨h.1, h.2.1, h.2.2.1, fit_drewN h.2.2.2 m⟩

set_option maxHeartbeats 8000000 in
set_option maxRecDepth 20000 in
theorem lawCodeBest (a0 : Option Addr) (len0 cap0 : Nat) (a1 : Option Addr) (len1 cap1 : Nat) (w : World) (h0 : Code8 w a0 len0 cap0) (h1 : Code8 w a1 len1 cap1) :
    Calls Try.prog 4 #[.slice a0 len0 cap0, .slice a1 len1 cap1] w fun e w' => e = .returned (.bool true) ∧ Below w.heap.size w w' := by
  by_cases hb0 : 1048576 < len0
  · have hbi : decide ((len0 : Int) > 1048576) = true := by simp; omega
    clear h0 h1
    go_enter Try.func4, Try.ntmps4
    go_wp2_with fail
    go_ret
    exact ⟨rfl, Below.refl _ _⟩
  have hbi : decide ((len0 : Int) > 1048576) = false := by simp; omega
  by_cases hb1 : 1048576 < len1
  · have hbj : decide ((len1 : Int) > 1048576) = true := by simp; omega
    clear h0 h1
    go_enter Try.func4, Try.ntmps4
    go_wp2_with fail
    go_ret
    exact ⟨rfl, Below.refl _ _⟩
  have hbj : decide ((len1 : Int) > 1048576) = false := by simp; omega
  have HDR : Hid (Calls Try.prog 15 #[.slice a0 len0 cap0] w (CostDrawn w)) := drawCodeCost_any a0 len0 cap0 w h0
  have HD2 : Hid (∀ w', Below w.heap.size w w' → Calls Try.prog 16 #[.slice a1 len1 cap1] w' (LensOut w')) := fun w' hb => drawCodeMake_any a1 len1 cap1 w' (h1.kept hb)
  clear h0 h1
  go_enter Try.func4, Try.ntmps4
  go_wp2_with fail
  refine HDR.out.mono ?_
  rintro e w1 ⟨⟨a, n, c, l, b, n', c', zs, rfl, ⟨hI, hn, hn3, hok⟩, hJ, hn', hn3'⟩, b1⟩
  clear HDR
  have H1 : Hid (Ints w1 a l ∧ Ints w1 b zs ∧ Below w.heap.size w w1) := ⟨hI, hJ, b1⟩
  clear hI hJ b1
  go_wp2_with fail
  refine (HD2.out _ H1.out.2.2).mono ?_
  rintro e w2 ⟨⟨o, no, co, xs, rfl, hO, ho, ho3, hoc⟩, b2⟩
  have H2 : Hid (Lie w w2 a l b zs o xs) := ⟨H1.out.1.kept b2, H1.out.2.1.kept b2, hO, H1.out.2.2.trans (b2.mono H1.out.2.2.size)⟩
  have HCI : Hid (∀ (b : Option Addr) (n' c' : Nat) (zs : List Int) (w : World), Ints w a l → Ints w b zs → zs.length = n' → n' ≤ 301 → Calls Try.prog 17 #[.slice a n c, .slice b n' c'] w fun e w' => e = .returned (.int .i64 (cost l zs)) ∧ w' = w) := fun b n' c' zs w h1 h2 h3 h4 => impl_codeCost a c n l b c' n' zs w h1 hn h2 h3 (by omega) (by omega)
  have HCS : Hid (∀ w : World, Ints w a l → Ints w b zs → Calls Try.prog 18 #[.slice a n c, .slice b n' c'] w fun e w' => e = .returned (.int .i64 (cost l zs)) ∧ ∃ m, w' = w.drewN m) := fun w h1 h2 => spec_codeCost a c n l b c' n' zs w h1 hn h2 hn' (by omega) (by omega)
  have HFI : Hid (∀ (w : World), Ints w a l → Calls Try.prog 10 #[.slice a n c, .int .i64 15] w (FitIs l n 15 w)) := fun w h => impl_fitIs a n c l 15 w h hn (by omega)
  have HFS : Hid (∀ w : World, Ints w a l → Calls Try.prog 12 #[.slice a n c, .int .i64 15] w (FitIs l n 15 w)) := fun w h => spec_fitIs a n c l 15 w h hn (by omega)
  have HWI : Hid (∀ (x : Option Addr) (c : Nat) (y : Option Addr) (c' n' : Nat) (zs : List Int) (w : World), Ints w x zs → Ints w y zs → zs.length = n' → n' ≤ 301 → Calls Try.prog 11 #[.slice x n' c, .slice y n' c'] w fun e w' => e = .returned (.bool true) ∧ ∃ m, w' = w.drewN m) := fun x c y c' n' zs w h1 h2 h3 h4 => wiInts_same x c y c' n' zs w h1 h2 h3 (by omega)
  have HN : Hid (l.length = n ∧ zs.length = n' ∧ xs.length = no) := ⟨hn, hn', ho⟩
  have HOK : Hid (OftenOk l) := hok
  clear H1 hO b2 HD2 hn hn' ho hok
  go_wp2_with fail
  refine (HCI.out b n' c' zs _ H2.out.1 H2.out.2.1 HN.out.2.1 (by omega)).mono ?_
  rintro e w3 ⟨rfl, hw3⟩
  subst hw3
  obtain ⟨K, hK⟩ : ∃ K, K = cost l zs := ⟨_, rfl⟩
  rw [← hK]
  rw [← hK] at HCS
  clear hK
  have hqk : (K != K) = false := by simp
  go_wp2_with fail
  refine (HFI.out _ H2.out.1).mono ?_
  rintro e w4 ⟨⟨hf, x, cx, rfl⟩ | ⟨hf, x, cx, f, rfl, hX, hF⟩, b4⟩
  · have H4 : Hid (Lie w w4 a l b zs o xs) := H2.out.kept b4
    have HF0 : Hid (fitB l 15 = false) := hf
    clear H2 b4 hf
    go_wp2_with fail
    refine (HCS.out _ H4.out.1 H4.out.2.1).mono ?_
    rintro e w5 ⟨rfl, m5, hw5⟩
    have H5 : Hid (Lie w w5 a l b zs o xs) := by subst hw5; exact H4.out.drewN m5
    clear H4 hw5
    go_wp2_with fail
    refine (HFS.out _ H5.out.1).mono ?_
    rintro e w6 ⟨⟨-, y, cy, rfl⟩ | ⟨hf, -⟩, b6⟩
    · have H6 : Hid (Lie w w6 a l b zs o xs) := H5.out.kept b6
      clear H5 b6
      go_wp2_with fail
      refine (HWI.out x cx y cy 0 [] w6 (.inl rfl) (.inl rfl) rfl (by omega)).mono ?_
      rintro e w7 ⟨rfl, k7, hw7⟩
      have H7 : Hid (Lie w w7 a l b zs o xs) := by subst hw7; exact H6.out.drewN k7
      clear H6 hw7
      go_wp2_with fail
      refine (HCS.out _ H7.out.1 H7.out.2.1).mono ?_
      rintro e w8 ⟨rfl, m8, hw8⟩
      have H8 : Hid (Lie w w8 a l b zs o xs) := by subst hw8; exact H7.out.drewN m8
      clear H7 hw8
      have hqq : (K == K) = true := by simp
      go_wp2_with fail
      refine (HFS.out _ H8.out.1).mono ?_
      rintro e w9 ⟨⟨-, y2, cy2, rfl⟩ | ⟨hf, -⟩, b9⟩
      · have H9 : Hid (Lie w w9 a l b zs o xs) := H8.out.kept b9
        clear H8 b9
        go_wp2_with fail
        refine (HWI.out x cx y2 cy2 0 [] w9 (.inl rfl) (.inl rfl) rfl (by omega)).mono ?_
        rintro e w10 ⟨rfl, k10, hw10⟩
        have H10 : Hid (Lie w w10 a l b zs o xs) := by subst hw10; exact H9.out.drewN k10
        clear H9 hw10 HCI HCS HFI HFS HWI
        go_wp2_with fail
        go_ret
        exact ⟨rfl, H10.out.2.2.2⟩
      · exact absurd (HF0.out.symm.trans hf) (by decide)
    · exact absurd (HF0.out.symm.trans hf) (by decide)
  · have H4 : Hid (Lie w w4 a l b zs o xs ∧ Ints w4 x (lens n f)) := ⟨H2.out.kept b4, hX⟩
    have HFF : Hid (fitB l 15 = true ∧ Ct.Fits 15 l f) := ⟨hf, hF⟩
    clear H2 b4 hf hX hF
    go_wp2_with fail
    refine (HCS.out _ H4.out.1.1 H4.out.1.2.1).mono ?_
    rintro e w5 ⟨rfl, m5, hw5⟩
    have H5 : Hid (Lie w w5 a l b zs o xs ∧ Ints w5 x (lens n f)) := by subst hw5; exact ⟨H4.out.1.drewN m5, H4.out.2⟩
    clear H4 hw5
    go_wp2_with fail
    refine (HFS.out _ H5.out.1.1).mono ?_
    rintro e w6 ⟨⟨hf, -⟩ | ⟨-, y, cy, f', rfl, hY, hF'⟩, b6⟩
    · exact absurd (HFF.out.1.symm.trans hf) (by decide)
    have hff : f = f' := HFF.out.2.same hF'
    subst hff
    have H6 : Hid (Lie w w6 a l b zs o xs ∧ Ints w6 x (lens n f) ∧ Ints w6 y (lens n f)) := ⟨H5.out.1.kept b6, H5.out.2.kept b6, hY⟩
    clear H5 b6 hY hF'
    go_wp2_with fail
    refine (HWI.out x cx y cy n (lens n f) w6 H6.out.2.1 H6.out.2.2 (lens_len _ _) (by omega)).mono ?_
    rintro e w7 ⟨rfl, k7, hw7⟩
    have H7 : Hid (Lie w w7 a l b zs o xs ∧ Ints w7 x (lens n f)) := by subst hw7; exact ⟨H6.out.1.drewN k7, H6.out.2.1⟩
    clear H6 hw7
    by_cases hz : n = 0
    · subst hz
      go_wp2_with fail
      refine (HCS.out _ H7.out.1.1 H7.out.1.2.1).mono ?_
      rintro e w8 ⟨rfl, m8, hw8⟩
      have H8 : Hid (Lie w w8 a l b zs o xs) := by subst hw8; exact H7.out.1.drewN m8
      clear H7 hw8
      have hqq : (K == K) = true := by simp
      go_wp2_with fail
      refine (HFS.out _ H8.out.1).mono ?_
      rintro e w9 ⟨⟨hf, -⟩ | ⟨-, y2, cy2, f2, rfl, hY2, -⟩, b9⟩
      · exact absurd (HFF.out.1.symm.trans hf) (by decide)
      · have H9 : Hid (Lie w w9 a l b zs o xs) := H8.out.kept b9
        clear H8 b9 hY2
        go_wp2_with fail
        refine (HWI.out x cx y2 cy2 0 [] w9 (.inl rfl) (.inl rfl) rfl (by omega)).mono ?_
        rintro e w10 ⟨rfl, k10, hw10⟩
        have H10 : Hid (Lie w w10 a l b zs o xs) := by subst hw10; exact H9.out.drewN k10
        clear H9 hw10 HCI HCS HFI HFS HWI
        go_wp2_with fail
        go_ret
        exact ⟨rfl, H10.out.2.2.2⟩
    have hzi : ¬ (n : Int) = 0 := by omega
    have hzb : ((n : Int) == 0) = false := by simpa using hzi
    clear HCS HFI HFS HWI
    obtain ⟨ab, ao, rfl, -⟩ := ints_at H7.out.1.1 (k := 0) (by rw [HN.out.1]; omega)
    obtain ⟨xb, xo, rfl, -⟩ := ints_at H7.out.2 (k := 0) (by rw [lens_len]; omega)
    have HO3 : Hid (∀ i, i < n → (f i : Int) ≤ 15) := fun i hi => (((fits_ok HFF.out.1 HFF.out.2).2.2 i (by rw [HN.out.1]; exact hi)).2)
    go_wp2_with fail
    go_loopw [10, 11] (fun v i wr => ∃ k D : Nat, k ≤ n ∧ D ≤ 15 ∧ v = .int .i64 (D : Int) ∧ i = .int .i64 (k : Int) ∧ Hid (Lie w wr (some ⟨ab, ao, none⟩) l b zs o xs ∧ Ints wr (some ⟨xb, xo, none⟩) (lens n f))) (fun _ i _ => n - (intOf i).toNat)
    case atStart => exact ⟨0, 0, Nat.zero_le _, Nat.zero_le _, rfl, rfl, H7⟩
    case round =>
      obtain ⟨k, D, hk, hD, rfl, rfl, HR⟩ := hrel
      clear H7
      by_cases hlt : k < n
      · have hki : (k : Int) < (n : Int) := by omega
        obtain ⟨b2, f2, e2, c2⟩ := ints_at HR.out.2 (k := k) (by rw [lens_len]; exact hlt)
        cases e2
        rw [lens_get hlt] at c2
        have h3 := HO3.out k hlt
        clear HO3
        generalize f k = F at *
        by_cases hg : D < F
        · have hgi : decide ((F : Int) > (D : Int)) = true := by simp; omega
          go_wp2_with fail
          go_roundw
          case rel => exact ⟨k + 1, F, by omega, by omega, rfl, by go_num, HR⟩
          case measure => simp [intOf]; omega
        · have hgi : decide ((F : Int) > (D : Int)) = false := by simp; omega
          go_wp2_with fail
          go_roundw
          case rel => exact ⟨k + 1, D, by omega, by omega, rfl, by go_num, HR⟩
          case measure => simp [intOf]; omega
      · obtain rfl : n = k := by omega
        have hki : ¬ (n : Int) < (n : Int) := by omega
        clear HO3
        go_wp2_with fail
        go_loopw [12] (fun i wr => ∃ k : Nat, k ≤ n ∧ k ≤ no ∧ i = .int .i64 (k : Int) ∧ Hid ((Lie w wr (some ⟨ab, ao, none⟩) l b zs o xs ∧ Ints wr (some ⟨xb, xo, none⟩) (lens n f)) ∧ ∀ i, i < k → 0 < l.getD i 0 → xs.getD i 0 ≠ 0)) (fun i _ => n - (intOf i).toNat)
        case atStart => exact ⟨0, Nat.zero_le _, Nat.zero_le _, rfl, HR.out, fun i hi => by omega⟩
        case round =>
          obtain ⟨k, hk, hkn, rfl, HS⟩ := hrel
          clear HR
          by_cases hlt : k < n
          · have hki : (k : Int) < (n : Int) := by omega
            by_cases hno : k < no
            · have hnoi : decide ((k : Int) ≥ (no : Int)) = false := by simp; omega
              obtain ⟨ob, oo, rfl, c3⟩ := ints_at HS.out.1.1.2.2.1 (k := k) (by rw [HN.out.2.2]; exact hno)
              obtain ⟨b1, f1, e1, c1⟩ := ints_at HS.out.1.1.1 (k := k) (by rw [HN.out.1]; exact hlt)
              cases e1
              have HS0 : Hid (Lie w wr (some ⟨ab, ao, none⟩) l b zs (some ⟨ob, oo, none⟩) xs ∧ Ints wr (some ⟨xb, xo, none⟩) (lens n f)) := HS.out.1
              have HNX : Hid ((0 < l.getD k 0 → xs.getD k 0 ≠ 0) → ∀ i, i < k + 1 → 0 < l.getD i 0 → xs.getD i 0 ≠ 0) := fun h i hi => by
                by_cases e : i = k
                · rw [e]; exact h
                · exact HS.out.2 i (by omega)
              clear HS
              generalize l.getD k 0 = X at *
              generalize xs.getD k 0 = Y at *
              by_cases q1 : 0 < X
              · have d1 : decide (X > 0) = true := by simpa using q1
                by_cases q2 : Y = 0
                · subst q2
                  clear HNX
                  go_wp2_with fail
                  go_ret
                  exact ⟨rfl, HS0.out.1.2.2.2⟩
                · have d2 : (Y == 0) = false := by simpa using q2
                  have HN2 : Hid (∀ i, i < k + 1 → 0 < l.getD i 0 → xs.getD i 0 ≠ 0) := HNX.out (fun _ => q2)
                  clear HNX
                  go_wp2_with fail
                  go_roundw
                  case rel => exact ⟨k + 1, by omega, by omega, by go_num, HS0.out, HN2.out⟩
                  case measure => simp [intOf]; omega
              · have d1 : decide (X > 0) = false := by simpa using q1
                have HN2 : Hid (∀ i, i < k + 1 → 0 < l.getD i 0 → xs.getD i 0 ≠ 0) := HNX.out (fun h => absurd h q1)
                clear HNX c3
                go_wp2_with fail
                go_roundw
                case rel => exact ⟨k + 1, by omega, by omega, by go_num, HS0.out, HN2.out⟩
                case measure => simp [intOf]; omega
            · have hnoi : decide ((k : Int) ≥ (no : Int)) = true := by simp; omega
              have HB : Hid (Below w.heap.size w wr) := HS.out.1.1.2.2.2
              clear HS
              go_wp2_with fail
              go_ret
              exact ⟨rfl, HB.out⟩
          · obtain rfl : n = k := by omega
            have hki : ¬ (n : Int) < (n : Int) := by omega
            have hnc : n ≤ co := by omega
            have HX : Hid (Ints wr o (xs.take n) ∧ (xs.take n).length = n) := ⟨ints_take HS.out.1.1.2.2.1 n, by rw [List.length_take, HN.out.2.2]; omega⟩
            have HCB : Hid (Cd.okB (xs.take n) = true → decide (cost l (lens n f) ≤ cost l (xs.take n)) = true) := fun hq => by
              have h1 := cheap HFF.out.1 HFF.out.2 HOK.out (zs := xs.take n) (by rw [HX.out.2, HN.out.1]) hq (fun i hi hp => by
                rw [HN.out.1] at hi
                have := HS.out.2 i hi hp
                rw [List.getD_eq_getElem?_getD, List.getElem?_take_of_lt hi, ← List.getD_eq_getElem?_getD]
                exact this)
              rw [HN.out.1] at h1
              simpa using h1
            have HOX : Hid (Calls Try.prog 13 #[.slice o n co] wr fun e w' => e = .returned (.bool (Cd.okB (xs.take n))) ∧ w' = wr) := impl_codeOk o co n (xs.take n) wr HX.out.1 HX.out.2 (by omega)
            have HC1 : Hid (∀ w', Ints w' (some ⟨ab, ao, none⟩) l → Ints w' (some ⟨xb, xo, none⟩) (lens n f) → Calls Try.prog 17 #[.slice (some ⟨ab, ao, none⟩) n c, .slice (some ⟨xb, xo, none⟩) n cx] w' fun e w'' => e = .returned (.int .i64 (cost l (lens n f))) ∧ w'' = w') := fun w' h1 h2 => HCI.out (some ⟨xb, xo, none⟩) n cx (lens n f) w' h1 h2 (lens_len _ _) (by omega)
            have HC2 : Hid (∀ w', Ints w' (some ⟨ab, ao, none⟩) l → Ints w' o (xs.take n) → Calls Try.prog 17 #[.slice (some ⟨ab, ao, none⟩) n c, .slice o n co] w' fun e w'' => e = .returned (.int .i64 (cost l (xs.take n))) ∧ w'' = w') := fun w' h1 h2 => HCI.out o n co (xs.take n) w' h1 h2 HX.out.2 (by omega)
            have HS0 : Hid (Lie w wr (some ⟨ab, ao, none⟩) l b zs o xs ∧ Ints wr (some ⟨xb, xo, none⟩) (lens n f)) := HS.out.1
            clear HCI HOK HFF HS
            have hnci : ¬ (co : Int) < (n : Int) := by omega
            obtain ⟨bo, hbo⟩ : ∃ bo, bo = Cd.okB (xs.take n) := ⟨_, rfl⟩
            rw [← hbo] at HCB HOX
            generalize cost l (lens n f) = C1 at *
            generalize cost l (xs.take n) = C2 at *
            clear hbo
            by_cases hD4 : 14 ≤ D
            · have hDi : decide ((D : Int) ≥ 14) = true := by simp; omega
              go_wp2_with fail
              go_ret
              exact ⟨rfl, HS0.out.1.2.2.2⟩
            · have hDi : decide ((D : Int) ≥ 14) = false := by simp; omega
              go_wp2_with fail
              refine HOX.out.mono ?_
              rintro e wx ⟨rfl, hwx⟩
              subst hwx
              clear HOX
              cases bo with
              | false =>
                go_wp2_with fail
                go_ret
                exact ⟨rfl, HS0.out.1.2.2.2⟩
              | true =>
                have hcc := HCB.out rfl
                have hcl : C1 ≤ C2 := by simpa using hcc
                clear HCB
                go_wp2_with fail
                refine (HC1.out _ HS0.out.1.1 HS0.out.2).mono ?_
                rintro e wx ⟨rfl, hwx⟩
                subst hwx
                go_wp2_with fail
                refine (HC2.out _ HS0.out.1.1 HX.out.1).mono ?_
                rintro e wx ⟨rfl, hwx⟩
                subst hwx
                go_wp2_with fail
                go_ret
                exact ⟨rfl, HS0.out.1.2.2.2⟩
end Go.Proofs.Ytcolgcddhchkhaa
