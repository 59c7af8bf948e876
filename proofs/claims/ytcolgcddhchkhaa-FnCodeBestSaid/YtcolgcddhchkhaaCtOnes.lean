/- Where none comes more often than once, the tree is no deeper than it must be (mathematics). -/
import Derived.Test.YtcolgcddhchkhaaCtSpec
namespace Go.Proofs.Ytcolgcddhchkhaa
namespace Ct
open Cf (lst wo Wt)

theorem wo_idx {α : Type} {a b : Nat} : ∀ (xs : List α) (i : Nat) (z : α), z ∈ wo a b xs i → ∃ j, xs[j]? = some z ∧ i + j ≠ a ∧ i + j ≠ b
  | [], _, z, h => by simp [wo] at h
  | x :: xs, i, z, h => by
    rw [Cf.wo_cons] at h
    by_cases hc : (Nat.beq i a || Nat.beq i b) = true
    · rw [if_pos hc] at h
      obtain ⟨j, h1, h2, h3⟩ := wo_idx xs (i + 1) z h
      exact ⟨j + 1, by simpa using h1, by omega, by omega⟩
    · rw [if_neg hc] at h
      rcases List.mem_cons.1 h with h1 | h1
      · refine ⟨0, by simp [h1], ?_, ?_⟩
        · intro e; apply hc; simp [show i = a by omega]
        · intro e; apply hc; simp [show i = b by omega]
      · obtain ⟨j, h1, h2, h3⟩ := wo_idx xs (i + 1) z h1
        exact ⟨j + 1, by simpa using h1, by omega, by omega⟩
/-- between two powers -/
def odd (k : Nat) (x : Wt) : Nat := if 2 ^ k < x.1 ∧ x.1 < 2 ^ (k + 1) then 1 else 0
structure Ph (k : Nat) (ns : List Wt) : Prop where
  kind : ∀ x ∈ ns, (x.1 = 2 ^ k ∧ x.2 ≤ k) ∨ (x.1 = 2 ^ (k + 1) ∧ x.2 ≤ k + 1) ∨ (2 ^ k < x.1 ∧ x.1 < 2 ^ (k + 1) ∧ x.2 ≤ k + 1)
  one : Cf.sum (odd k) ns ≤ 1
theorem sum_zero {α : Type} {f : α → Nat} : ∀ {l : List α}, (∀ x ∈ l, f x = 0) → Cf.sum f l = 0
  | [], _ => rfl
  | x :: l, h => by
    simp only [Cf.sum]
    rw [h x (by simp), sum_zero (fun y hy => h y (by simp [hy]))]
theorem max_le {a b c : Nat} (h1 : a ≤ c) (h2 : b ≤ c) : Nat.max a b ≤ c := Nat.max_le.2 ⟨h1, h2⟩
theorem ph_step {k : Nat} {ns : List Wt} (h : Ph k ns) (hl : 1 < ns.length) : ∃ k', Ph k' (Cf.step ns) := by
  obtain ⟨a, wa, b, wb, h1, h2, hab, ha, hb⟩ := Cf.two hl
  obtain ⟨_, _, x, hx, hxa⟩ := Cf.lst_at h1
  obtain ⟨_, _, y, hy, hyb⟩ := Cf.lst_at h2
  dsimp only at hx hxa hy hyb
  have gx : ns[a] = x := by rw [List.getElem?_eq_getElem ha] at hx; exact Option.some.inj hx
  have gy : ns[b] = y := by rw [List.getElem?_eq_getElem hb] at hy; exact Option.some.inj hy
  have hgx : Cf.hgt ns a = x.2 := by unfold Cf.hgt; rw [List.getD_eq_getElem?_getD, hx]; rfl
  have hgy : Cf.hgt ns b = y.2 := by unfold Cf.hgt; rw [List.getD_eq_getElem?_getD, hy]; rfl
  rw [Cf.step_two h1 h2, hgx, hgy, ← hxa, ← hyb]
  have hrest : ∀ z ∈ wo a b ns 0, x.1 ≤ z.1 ∧ y.1 ≤ z.1 ∧ z ∈ ns := fun z hz => by
    obtain ⟨j, hj, j1, j2⟩ := wo_idx ns 0 z hz
    rw [Nat.zero_add] at j1 j2
    have e1 := (lst_min h1 (by omega) hj).1
    have e2 := (lst_min h2 (by omega) hj).1
    dsimp only at e1 e2
    exact ⟨by omega, by omega, List.mem_of_getElem? hj⟩
  have hsum := Cf.wo_sum0 (odd k) hab ns ha hb
  rw [gx, gy] at hsum
  have hone := h.one
  have hxy : x.1 ≤ y.1 := by have := (lst_min h1 (k := b) (x := y) (by omega) hy).1; dsimp only at this; omega
  have kx := h.kind x (List.mem_of_getElem? hx)
  have ky := h.kind y (List.mem_of_getElem? hy)
  have e1 : 2 ^ (k + 1) = 2 * 2 ^ k := by rw [Nat.pow_succ]; omega
  have e2 : 2 ^ (k + 1 + 1) = 4 * 2 ^ k := by rw [Nat.pow_succ, e1]; omega
  have hp : 0 < 2 ^ k := Nat.two_pow_pos k
  by_cases c1 : x.1 = 2 ^ k ∧ y.1 = 2 ^ k
  · refine ⟨k, fun z hz => ?_, ?_⟩
    · rcases List.mem_append.1 hz with hz | hz
      · exact h.kind z (hrest z hz).2.2
      · rw [List.mem_singleton.1 hz]
        refine .inr (.inl ⟨by show x.1 + y.1 = _; omega, ?_⟩)
        show 1 + Nat.max x.2 y.2 ≤ k + 1
        have := max_le (a := x.2) (b := y.2) (c := k) (by omega) (by omega)
        omega
    · rw [Cf.sum_append]
      have e0 : Cf.sum (odd k) [(x.1 + y.1, 1 + Nat.max x.2 y.2)] = 0 := sum_zero (fun z hz => by
        rw [List.mem_singleton.1 hz]; unfold odd; rw [if_neg (by show ¬ (2 ^ k < x.1 + y.1 ∧ x.1 + y.1 < 2 ^ (k + 1)); omega)])
      omega
  · -- all others are of the next power
    have hoth : ∀ z ∈ wo a b ns 0, z.1 = 2 ^ (k + 1) ∧ z.2 ≤ k + 1 := fun z hz => by
      obtain ⟨z1, z2, z3⟩ := hrest z hz
      have kz := h.kind z z3
      have oz := Cf.sum_one (odd k) (wo a b ns 0) z hz
      by_cases hoz : 2 ^ k < z.1 ∧ z.1 < 2 ^ (k + 1)
      · exfalso
        have o1 : odd k z = 1 := by unfold odd; rw [if_pos hoz]
        have ox : odd k x = 0 := by omega
        have oy : odd k y = 0 := by omega
        unfold odd at ox oy
        have nx : ¬ (2 ^ k < x.1 ∧ x.1 < 2 ^ (k + 1)) := fun q => by rw [if_pos q] at ox; cases ox
        have ny : ¬ (2 ^ k < y.1 ∧ y.1 < 2 ^ (k + 1)) := fun q => by rw [if_pos q] at oy; cases oy
        omega
      · omega
    have hnew : 2 ^ (k + 1) < x.1 + y.1 ∧ x.1 + y.1 ≤ 2 ^ (k + 1 + 1) := by omega
    have hh : 1 + Nat.max x.2 y.2 ≤ k + 1 + 1 := by
      have := max_le (a := x.2) (b := y.2) (c := k + 1) (by omega) (by omega)
      omega
    refine ⟨k + 1, fun z hz => ?_, ?_⟩
    · rcases List.mem_append.1 hz with hz | hz
      · exact .inl (hoth z hz)
      · rw [List.mem_singleton.1 hz]
        by_cases e : x.1 + y.1 = 2 ^ (k + 1 + 1)
        · exact .inr (.inl ⟨e, hh⟩)
        · exact .inr (.inr ⟨hnew.1, by show x.1 + y.1 < _; omega, hh⟩)
    · rw [Cf.sum_append, sum_zero (fun z hz => by unfold odd; rw [if_neg (by have := (hoth z hz).1; omega)])]
      have e0 : Cf.sum (odd (k + 1)) [(x.1 + y.1, 1 + Nat.max x.2 y.2)] ≤ 1 := by
        simp only [Cf.sum, odd]
        split <;> omega
      omega
theorem ph_fin : ∀ (n : Nat) (ns : List Wt) (k m : Nat), ns.length ≤ n → Ph k ns → Cf.sum (fun x : Wt => x.1) ns ≤ 2 ^ m → Cf.fin ns ≤ m
  | 0, ns, k, m, hn, _, _ => by
    have : ns = [] := List.eq_nil_of_length_eq_zero (by omega)
    subst this
    exact Nat.zero_le _
  | n + 1, ns, k, m, hn, h, hs => by
    by_cases hl : 1 < ns.length
    · rw [Cf.fin_step hl]
      obtain ⟨k', h'⟩ := ph_step h hl
      have hlen := Cf.step_len hl
      refine ph_fin n (Cf.step ns) k' m (by omega) h' ?_
      obtain ⟨a, wa, b, wb, h1, h2, hab, ha, hb⟩ := Cf.two hl
      obtain ⟨_, _, x, hx, hxa⟩ := Cf.lst_at h1
      obtain ⟨_, _, y, hy, hyb⟩ := Cf.lst_at h2
      dsimp only at hx hxa hy hyb
      have hsum := Cf.wo_sum0 (fun x : Wt => x.1) hab ns ha hb
      rw [List.getElem?_eq_getElem ha] at hx
      rw [List.getElem?_eq_getElem hb] at hy
      rw [Option.some.inj hx, Option.some.inj hy] at hsum
      rw [Cf.step_two h1 h2, Cf.sum_append]
      show Cf.sum _ (wo a b ns 0) + (wa + wb + 0) ≤ _
      omega
    · rw [Cf.fin_one (by omega)]
      match ns, hl, h, hs with
      | [], _, _, _ => exact Nat.zero_le _
      | [x], _, h, hs =>
        have hs' : x.1 ≤ 2 ^ m := by simpa [Cf.sum] using hs
        have hm : Cf.maxh [x] = x.2 := by simp [Cf.maxh]
        rw [hm]
        rcases h.kind x (by simp) with ⟨e1, e2⟩ | ⟨e1, e2⟩ | ⟨e1, e2, e3⟩
        · rw [e1] at hs'
          have := (Nat.pow_le_pow_iff_right (by omega : 1 < 2)).1 hs'
          omega
        · rw [e1] at hs'
          have := (Nat.pow_le_pow_iff_right (by omega : 1 < 2)).1 hs'
          omega
        · have h5 : 2 ^ k < 2 ^ m := by omega
          have := (Nat.pow_lt_pow_iff_right (by omega : 1 < 2)).1 h5
          omega
      | x :: y :: l, hl, _, _ => simp at hl
/-- how many come -/
def come (zs : List Int) : Nat := (initT zs zs.length).length
theorem ones_init {zs : List Int} (h : ∀ i, i < zs.length → zs.getD i 0 ≤ 1) : ∀ k, k ≤ zs.length → (∀ x ∈ (initT zs k).map wt, x = (1, 0)) ∧ Cf.sum (fun x : Wt => x.1) ((initT zs k).map wt) = (initT zs k).length
  | 0, _ => ⟨fun x hx => by simp [initT] at hx, rfl⟩
  | k + 1, hk => by
    obtain ⟨h1, h2⟩ := ones_init h k (by omega)
    unfold initT
    split
    · rename_i hp
      have e : zs.getD k 0 = 1 := by have := h k (by omega); omega
      rw [e, List.map_append, Cf.sum_append, List.length_append, h2]
      refine ⟨fun x hx => ?_, rfl⟩
      rcases List.mem_append.1 hx with hx | hx
      · exact h1 x hx
      · simpa [wt, hgt] using hx
    · exact ⟨h1, h2⟩
theorem ones_deep {zs : List Int} (h : ∀ i, i < zs.length → zs.getD i 0 ≤ 1) {m : Nat} (hm : 1 ≤ m) (hc : come zs ≤ 2 ^ m) : Cf.deep zs ≤ m := by
  obtain ⟨h1, h2⟩ := ones_init h zs.length (Nat.le_refl _)
  have h3 : Cf.fin ((initT zs zs.length).map wt) ≤ m := by
    refine ph_fin _ _ 0 m (Nat.le_refl _) ⟨fun x hx => .inl (by rw [h1 x hx]; exact ⟨rfl, Nat.le_refl _⟩), ?_⟩ (by rw [h2]; exact hc)
    rw [sum_zero (fun x hx => by rw [h1 x hx]; rfl)]
    omega
  unfold Cf.deep
  rw [← init_nd, nd_wt]
  exact max_le hm h3
theorem dep_hgt {s : Nat} : ∀ {t : Tr}, (syms t).count s ≤ 1 → dep t s ≤ hgt t
  | .leaf _, _ => Nat.le_refl _
  | .node l r, h => by
    simp only [syms, List.count_append] at h
    have hl := dep_hgt (t := l) (s := s) (by omega)
    have hr := dep_hgt (t := r) (s := s) (by omega)
    have m1 : hgt l ≤ Nat.max (hgt l) (hgt r) := Nat.le_max_left _ _
    have m2 : hgt r ≤ Nat.max (hgt l) (hgt r) := Nat.le_max_right _ _
    simp only [dep, hgt, List.count_append]
    by_cases c : s ∈ syms l
    · have hc := List.one_le_count_iff.2 c
      have hn : s ∉ syms r := fun q => by have := List.one_le_count_iff.2 q; omega
      rw [dep_none hn]
      omega
    · rw [dep_none c]
      omega
theorem step_wt (ts : List Nt) : (step ts).map wt = Cf.step (ts.map wt) := by
  rcases step_cases ts with ⟨h, hl⟩ | ⟨a, wa, b, wb, h1, h2, hab, ha, hb⟩
  · rw [h]
    match ts, hl with
    | [], _ => rfl
    | [x], _ => rfl
    | x :: y :: l, hl => simp at hl
  · obtain ⟨_, _, x, hx, hxa⟩ := Cf.lst_at h1
    obtain ⟨_, _, y, hy, hyb⟩ := Cf.lst_at h2
    dsimp only at hx hxa hy hyb
    rw [List.getElem?_map, List.getElem?_eq_getElem ha] at hx
    rw [List.getElem?_map, List.getElem?_eq_getElem hb] at hy
    have ex := Option.some.inj hx
    have ey := Option.some.inj hy
    have hgx : Cf.hgt (ts.map wt) a = hgt ts[a].2 := by unfold Cf.hgt; rw [List.getD_eq_getElem?_getD, List.getElem?_map, List.getElem?_eq_getElem ha]; rfl
    have hgy : Cf.hgt (ts.map wt) b = hgt ts[b].2 := by unfold Cf.hgt; rw [List.getD_eq_getElem?_getD, List.getElem?_map, List.getElem?_eq_getElem hb]; rfl
    rw [step_two h1 h2, Cf.step_two h1 h2, List.map_append, Cf.wo_map, getD_at ha, getD_at hb, hgx, hgy, ← hxa, ← hyb, ← ex, ← ey]
    rfl
theorem iter_fin (ts : List Nt) : ∀ j, Cf.fin ((iterT ts j).map wt) = Cf.fin (ts.map wt)
  | 0 => rfl
  | j + 1 => by
    rw [iterT, step_wt, ← iter_fin ts j]
    by_cases h : 1 < ((iterT ts j).map wt).length
    · exact (Cf.fin_step h).symm
    · rw [List.length_map] at h
      rw [← step_wt]
      rcases step_cases (iterT ts j) with ⟨e, _⟩ | ⟨a, wa, b, wb, _, _, hab, ha, hb⟩
      · rw [e]
      · omega
theorem IsLens.deep {zs : List Int} {F : Nat → Nat} (h : IsLens zs F) : ∀ i, F i ≤ Cf.deep zs := fun i => by
  have h1 : 1 ≤ Cf.deep zs := Nat.le_max_left _ _
  rcases h with ⟨_, rfl⟩ | ⟨o, t, j, hit, rfl⟩
  · exact Nat.zero_le _
  · have hd : hgt t ≤ Cf.deep zs := by
      have e := iter_fin (initT zs zs.length) j
      rw [hit] at e
      have e2 : Cf.fin ([(o, t)].map wt) = hgt t := by rw [Cf.fin_one (by simp)]; simp [Cf.maxh, wt]
      rw [e2] at e
      unfold Cf.deep
      rw [← init_nd, nd_wt, ← e]
      exact Nat.le_max_right _ _
    match t, hit, hd with
    | .leaf s, _, _ =>
      show (if i = s then 1 else 0) ≤ _
      split <;> omega
    | .node l r, hit, hd =>
      have hc := iter_cnt i (initT zs zs.length) j
      rw [hit] at hc
      have hc1 := (init_cnt zs i zs.length).1
      have hc2 : (syms (Tr.node l r)).count i ≤ 1 := by
        have e : Cf.sum (cnt i) [(o, Tr.node l r)] = (syms (Tr.node l r)).count i := by simp [Cf.sum, cnt]
        omega
      show tell (.node l r) 0 (fun _ => 0) i ≤ _
      rw [tell_is hc2]
      split
      · have := dep_hgt hc2; omega
      · exact Nat.zero_le _
end Ct
end Go.Proofs.Ytcolgcddhchkhaa
