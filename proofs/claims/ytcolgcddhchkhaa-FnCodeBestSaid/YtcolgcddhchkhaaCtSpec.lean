/- The lengths that a tree tells, and those that are counted (mathematics). -/
import Derived.Test.YtcolgcddhchkhaaCtTell
import Derived.Test.YtcolgcddhchkhaaCfInv
namespace Go.Proofs.Ytcolgcddhchkhaa
open Ct (Tr Nt)
namespace Ct

theorem step_cases (ts : List Nt) : (step ts = ts ∧ ts.length ≤ 1) ∨ ∃ a wa b wb, Cf.lst (-1) (ts.map wt) 0 none = some (a, wa) ∧ Cf.lst (a : Int) (ts.map wt) 0 none = some (b, wb) ∧ a ≠ b ∧ a < ts.length ∧ b < ts.length := by
  by_cases h : 1 < ts.length
  · obtain ⟨a, wa, b, wb, h1, h2, hab, ha, hb⟩ := Cf.two (ns := ts.map wt) (by rw [List.length_map]; exact h)
    rw [List.length_map] at ha hb
    exact .inr ⟨a, wa, b, wb, h1, h2, hab, ha, hb⟩
  · refine .inl ⟨?_, by omega⟩
    match ts, h with
    | [], _ => rfl
    | [x], _ => rfl
    | x :: y :: l, h => simp at h
theorem getD_at {ts : List Nt} {a : Nat} (ha : a < ts.length) : ts.getD a (0, .leaf 0) = ts[a] := by rw [List.getD_eq_getElem?_getD, List.getElem?_eq_getElem ha]; rfl
/-- a sum over the nodes, behind a step -/
theorem step_sum (f : Nt → Nat) {ts : List Nt} {a wa b wb : Nat} (h1 : Cf.lst (-1) (ts.map wt) 0 none = some (a, wa)) (h2 : Cf.lst (a : Int) (ts.map wt) 0 none = some (b, wb)) (hab : a ≠ b) (ha : a < ts.length) (hb : b < ts.length) :
    Cf.sum f (step ts) + f ts[a] + f ts[b] = Cf.sum f ts + f (ts[a].1 + ts[b].1, .node ts[a].2 ts[b].2) := by
  rw [step_two h1 h2, Cf.sum_append, getD_at ha, getD_at hb, ← Cf.wo_sum0 f hab ts ha hb]
  show Cf.sum f _ + (f _ + 0) + f ts[a] + f ts[b] = _
  omega
def cnt (s : Nat) (p : Nt) : Nat := (syms p.2).count s
def lvs (p : Nt) : Nat := (syms p.2).length
def dpt (s : Nat) (p : Nt) : Nat := dep p.2 s
theorem step_cnt (s : Nat) (ts : List Nt) : Cf.sum (cnt s) (step ts) = Cf.sum (cnt s) ts := by
  rcases step_cases ts with ⟨h, _⟩ | ⟨a, wa, b, wb, h1, h2, hab, ha, hb⟩
  · rw [h]
  · have := step_sum (cnt s) h1 h2 hab ha hb
    have e : cnt s (ts[a].1 + ts[b].1, .node ts[a].2 ts[b].2) = cnt s ts[a] + cnt s ts[b] := by unfold cnt; simp only [syms]; rw [List.count_append]
    omega
theorem step_lvs (ts : List Nt) : Cf.sum lvs (step ts) = Cf.sum lvs ts := by
  rcases step_cases ts with ⟨h, _⟩ | ⟨a, wa, b, wb, h1, h2, hab, ha, hb⟩
  · rw [h]
  · have := step_sum lvs h1 h2 hab ha hb
    have e : lvs (ts[a].1 + ts[b].1, .node ts[a].2 ts[b].2) = lvs ts[a] + lvs ts[b] := by unfold lvs; simp only [syms]; rw [List.length_append]
    omega
theorem iter_cnt (s : Nat) (ts : List Nt) : ∀ j, Cf.sum (cnt s) (iterT ts j) = Cf.sum (cnt s) ts
  | 0 => rfl
  | j + 1 => by rw [iterT, step_cnt, iter_cnt s ts j]
theorem iter_lvs (ts : List Nt) : ∀ j, Cf.sum lvs (iterT ts j) = Cf.sum lvs ts
  | 0 => rfl
  | j + 1 => by rw [iterT, step_lvs, iter_lvs ts j]
theorem init_cnt (zs : List Int) (s : Nat) : ∀ k, Cf.sum (cnt s) (initT zs k) ≤ 1 ∧ (k ≤ s → Cf.sum (cnt s) (initT zs k) = 0)
  | 0 => ⟨by simp [initT, Cf.sum], fun _ => rfl⟩
  | k + 1 => by
    obtain ⟨h1, h2⟩ := init_cnt zs s k
    unfold initT
    split
    · rw [Cf.sum_append]
      have e : Cf.sum (cnt s) [((zs.getD k 0).toNat, Tr.leaf k)] = if k = s then 1 else 0 := by
        simp [Cf.sum, cnt, syms, List.count_cons]
      rw [e]
      refine ⟨?_, fun h => ?_⟩
      · by_cases hk : k = s
        · rw [if_pos hk, h2 (by omega)]; exact Nat.le_refl _
        · rw [if_neg hk]; omega
      · rw [h2 (by omega), if_neg (by omega)]
    · exact ⟨h1, fun h => h2 (by omega)⟩
theorem init_lvs (zs : List Int) : ∀ k, Cf.sum lvs (initT zs k) ≤ k
  | 0 => by simp [initT, Cf.sum]
  | k + 1 => by
    have := init_lvs zs k
    unfold initT
    split
    · rw [Cf.sum_append]
      have e : Cf.sum lvs [((zs.getD k 0).toNat, Tr.leaf k)] = 1 := by simp [Cf.sum, lvs, syms]
      omega
    · omega
theorem hgt_lvs : ∀ t : Tr, hgt t + 1 ≤ (syms t).length
  | .leaf _ => by simp [hgt, syms]
  | .node l r => by
    have h1 := hgt_lvs l
    have h2 := hgt_lvs r
    simp only [hgt, syms, List.length_append]
    have : Nat.max (hgt l) (hgt r) = hgt l ∨ Nat.max (hgt l) (hgt r) = hgt r := by
      rcases Nat.le_total (hgt l) (hgt r) with h | h
      · exact .inr (Nat.max_eq_right h)
      · exact .inl (Nat.max_eq_left h)
    omega
theorem dep_none {s : Nat} : ∀ {t : Tr}, s ∉ syms t → dep t s = 0
  | .leaf _, _ => rfl
  | .node l r, h => by
    simp only [syms, List.mem_append, not_or] at h
    simp only [dep]
    rw [dep_none h.1, dep_none h.2, List.count_append, List.count_eq_zero.2 h.1, List.count_eq_zero.2 h.2]
theorem tell_is {s : Nat} : ∀ {t : Tr} {d : Nat} {f : Nat → Nat}, (syms t).count s ≤ 1 → tell t d f s = if s ∈ syms t then d + dep t s else f s
  | .leaf x, d, f, _ => by simp [tell, syms, dep]
  | .node l r, d, f, h => by
    simp only [syms, List.count_append] at h
    simp only [tell]
    rw [tell_is (t := r) (by omega), tell_is (t := l) (by omega)]
    by_cases hr : s ∈ syms r
    · have c1 : (syms r).count s = 1 := by have := List.one_le_count_iff.2 hr; omega
      have hl : s ∉ syms l := fun hl => by have := List.one_le_count_iff.2 hl; omega
      rw [if_pos hr, if_pos (by simp [syms, hr])]
      simp only [dep]
      rw [List.count_append, c1, List.count_eq_zero.2 hl, dep_none hl]
      omega
    · rw [if_neg hr]
      by_cases hl : s ∈ syms l
      · have c1 : (syms l).count s = 1 := by have := List.one_le_count_iff.2 hl; omega
        rw [if_pos hl, if_pos (by simp [syms, hl])]
        simp only [dep]
        rw [List.count_append, c1, List.count_eq_zero.2 hr, dep_none hr]
        omega
      · rw [if_neg hl, if_neg (by simp [syms, hl, hr])]
/-- the lengths that the tree at the end tells -/
def topT : Tr → (Nat → Nat)
  | .leaf s => fun i => if i = s then 1 else 0
  | .node l r => tell (.node l r) 0 (fun _ => 0)
def IsLens (zs : List Int) (F : Nat → Nat) : Prop := (initT zs zs.length = [] ∧ F = fun _ => 0) ∨ ∃ o t j, iterT (initT zs zs.length) j = [(o, t)] ∧ F = topT t
theorem iter_stop {ts : List Nt} {j : Nat} {x : Nt} (h : iterT ts j = [x]) : ∀ k, iterT ts (j + k) = [x]
  | 0 => h
  | k + 1 => by
    show step (iterT ts (j + k)) = [x]
    rw [iter_stop h k]
    rfl
theorem iter_nil : ∀ j, iterT [] j = []
  | 0 => rfl
  | j + 1 => by rw [iterT, iter_nil j]; rfl
theorem IsLens.same {zs : List Int} {F G : Nat → Nat} (h : IsLens zs F) (k : IsLens zs G) : F = G := by
  rcases h with ⟨h1, h2⟩ | ⟨o, t, j, h1, h2⟩ <;> rcases k with ⟨k1, k2⟩ | ⟨o', t', j', k1, k2⟩
  · rw [h2, k2]
  · rw [h1, iter_nil] at k1; cases k1
  · rw [k1, iter_nil] at h1; cases h1
  · have e1 := iter_stop h1 j'
    have e2 := iter_stop k1 j
    rw [Nat.add_comm] at e2
    rw [e1] at e2
    injection e2 with e3
    injection e3 with _ e4
    rw [h2, k2, e4]
/-- the nodes of the specification -/
def nd (p : Nt) : Cf.Nd := ((p.1, hgt p.2), syms p.2)
theorem nd_wt (ts : List Nt) : (ts.map nd).map (fun p => p.1) = ts.map wt := by rw [List.map_map]; rfl
def sumd (ts : List Nt) (s : Nat) : Nat := Cf.sum (dpt s) ts
/-- what is known of the specification's nodes and lengths -/
def Ex (zs : List Int) (ps : List Cf.Nd) (f : Nat → Nat) : Prop := ∃ ts j, ts = iterT (initT zs zs.length) j ∧ ps = ts.map nd ∧ ((f = sumd ts ∧ ∀ o x, ts ≠ [(o, .leaf x)]) ∨ (∃ o x, ts = [(o, .leaf x)] ∧ f = fun i => if i = x then 1 else 0))
theorem init_nd (zs : List Int) : ∀ k, (initT zs k).map nd = Cf.init zs k
  | 0 => rfl
  | k + 1 => by
    unfold initT Cf.init
    split
    · rw [List.map_append, init_nd zs k]; rfl
    · exact init_nd zs k
theorem init_dep (zs : List Int) (s : Nat) : ∀ k, Cf.sum (dpt s) (initT zs k) = 0
  | 0 => rfl
  | k + 1 => by
    unfold initT
    split
    · rw [Cf.sum_append, init_dep zs s k]; rfl
    · exact init_dep zs s k
theorem Ex.init {zs : List Int} (h : (Cf.init zs zs.length).length ≠ 1) : Ex zs (Cf.init zs zs.length) (fun _ => 0) := ⟨_, 0, rfl, (init_nd zs _).symm, .inl ⟨by funext s; exact (init_dep zs s _).symm, fun o x e => h (by rw [← init_nd, show initT zs zs.length = _ from e]; rfl)⟩⟩
theorem Ex.one {zs : List Int} {p : Cf.Nd} {x : Nat} (h : Cf.init zs zs.length = [p]) (hx : p.2 = [x]) : Ex zs (Cf.init zs zs.length) (fun i => if i = x then 1 else 0) := by
  refine ⟨_, 0, rfl, (init_nd zs _).symm, .inr ?_⟩
  have h2 := init_nd zs zs.length
  rw [h] at h2
  show ∃ o y, initT zs zs.length = [(o, Tr.leaf y)] ∧ _
  match hq : initT zs zs.length, h2 with
  | [], h2 => cases h2
  | [(o, t)], h2 =>
    injection h2 with h3
    match t, h3 with
    | .leaf y, h3 =>
      rw [← h3] at hx
      simp [nd, syms] at hx
      exact ⟨o, y, rfl, by rw [hx]⟩
    | .node l r, h3 =>
      rw [← h3] at hx
      have h4 : (syms (Tr.node l r)).length = 1 := by
        have : syms (Tr.node l r) = [x] := hx
        rw [this]; rfl
      have := hgt_lvs (Tr.node l r)
      simp only [hgt] at this
      omega
  | y :: z :: l, h2 => injection h2 with _ h3; cases h3
theorem Ex.next {zs : List Int} {ps : List Cf.Nd} {f : Nat → Nat} (h : Ex zs ps f) {a wa b wb : Nat} {x y : Cf.Nd} (h1 : Cf.lst (-1) (ps.map (fun p => p.1)) 0 none = some (a, wa)) (h2 : Cf.lst (a : Int) (ps.map (fun p => p.1)) 0 none = some (b, wb)) (hx : ps[a]? = some x) (hy : ps[b]? = some y) (hab : a ≠ b) : Ex zs (Cf.next ps a b x y) (fun s => f s + (x.2 ++ y.2).count s) := by
  obtain ⟨ts, j, hts, rfl, hf⟩ := h
  rw [nd_wt] at h1 h2
  have ha : a < ts.length := by have := (List.getElem?_eq_some_iff.1 hx).1; rwa [List.length_map] at this
  have hb : b < ts.length := by have := (List.getElem?_eq_some_iff.1 hy).1; rwa [List.length_map] at this
  have ex : x = nd ts[a] := by rw [List.getElem?_map, List.getElem?_eq_getElem ha] at hx; exact (Option.some.inj hx).symm
  have ey : y = nd ts[b] := by rw [List.getElem?_map, List.getElem?_eq_getElem hb] at hy; exact (Option.some.inj hy).symm
  refine ⟨step ts, j + 1, by rw [hts]; rfl, ?_, .inl ⟨?_, fun o x e => ?_⟩⟩
  · rw [step_two h1 h2, List.map_append, Cf.wo_map, getD_at ha, getD_at hb, ex, ey]
    rfl
  · rcases hf with ⟨rfl, _⟩ | ⟨o, z, e, _⟩
    · funext s
      have h5 := step_sum (dpt s) h1 h2 hab ha hb
      have e : dpt s (ts[a].1 + ts[b].1, .node ts[a].2 ts[b].2) = (syms ts[a].2 ++ syms ts[b].2).count s + dpt s ts[a] + dpt s ts[b] := rfl
      rw [ex, ey]
      show Cf.sum (dpt s) ts + (syms ts[a].2 ++ syms ts[b].2).count s = Cf.sum (dpt s) (step ts)
      omega
    · exfalso
      rw [e] at ha hb
      simp at ha hb
      omega
  · rw [step_two h1 h2] at e
    have h7 := congrArg List.getLast? e
    simp at h7
theorem step_none {ts : List Nt} (h : step ts = []) : ts = [] := by
  rcases step_cases ts with ⟨e, _⟩ | ⟨a, wa, b, wb, h1, h2, _⟩
  · rw [← e]; exact h
  · rw [step_two h1 h2] at h; simp at h
theorem iter_none {ts : List Nt} : ∀ {j : Nat}, iterT ts j = [] → ts = []
  | 0, h => h
  | _ + 1, h => iter_none (step_none h)
theorem Ex.end {zs : List Int} {ps : List Cf.Nd} {f : Nat → Nat} (h : Ex zs ps f) (hl : ps.length ≤ 1) : IsLens zs f := by
  obtain ⟨ts, j, hts, rfl, hf⟩ := h
  rw [List.length_map] at hl
  match ts, hl, hts, hf with
  | [], _, hts, hf =>
    refine .inl ⟨iter_none hts.symm, ?_⟩
    rcases hf with ⟨rfl, _⟩ | ⟨o, x, e, _⟩
    · rfl
    · cases e
  | [(o, t)], _, hts, hf =>
    refine .inr ⟨o, t, j, hts.symm, ?_⟩
    rcases hf with ⟨rfl, hno⟩ | ⟨o', x, e, hf⟩
    · match t, hts, hno with
      | .leaf x, _, hno => exact absurd rfl (hno o x)
      | .node l r, hts, _ =>
        funext s
        have hc := iter_cnt s (initT zs zs.length) j
        rw [← hts] at hc
        have hc1 := (init_cnt zs s zs.length).1
        have hc2 : (syms (Tr.node l r)).count s ≤ 1 := by
          have e : Cf.sum (cnt s) [(o, Tr.node l r)] = (syms (Tr.node l r)).count s := by simp [Cf.sum, cnt]
          omega
        show Cf.sum (dpt s) [(o, Tr.node l r)] = tell (.node l r) 0 (fun _ => 0) s
        rw [tell_is hc2]
        have e : Cf.sum (dpt s) [(o, Tr.node l r)] = dep (Tr.node l r) s := by simp [Cf.sum, dpt]
        rw [e]
        by_cases hm : s ∈ syms (Tr.node l r)
        · rw [if_pos hm]; omega
        · rw [if_neg hm, dep_none hm]
    · injection e with e1
      injection e1 with _ e2
      rw [hf, e2]
      rfl
  | x :: y :: l, hl, _, _ => simp at hl
end Ct
end Go.Proofs.Ytcolgcddhchkhaa
