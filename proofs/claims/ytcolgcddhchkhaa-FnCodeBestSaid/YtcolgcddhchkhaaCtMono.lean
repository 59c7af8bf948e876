/- What comes less often stands no higher in the tree (mathematics). -/
import Derived.Test.YtcolgcddhchkhaaCtOnes
namespace Go.Proofs.Ytcolgcddhchkhaa
namespace Ct
open Cf (lst wo)

/-- where an element stands when two are gone -/
def pos (a b o j : Nat) : Nat := j - (if o ≤ a ∧ a < o + j then 1 else 0) - (if o ≤ b ∧ b < o + j then 1 else 0)
theorem wo_pos {α : Type} {a b : Nat} (hab : a ≠ b) : ∀ (xs : List α) (o j : Nat) (x : α), xs[j]? = some x → o + j ≠ a → o + j ≠ b → (wo a b xs o)[pos a b o j]? = some x
  | [], _, j, x, h, _, _ => by simp at h
  | y :: xs, o, 0, x, h, h1, h2 => by
    rw [Cf.wo_cons, if_neg (by simp; omega)]
    simp [pos]
    simpa using h
  | y :: xs, o, j + 1, x, h, h1, h2 => by
    have ih := wo_pos hab xs (o + 1) j x (by simpa using h) (by omega) (by omega)
    rw [Cf.wo_cons]
    by_cases hc : o = a ∨ o = b
    · rw [if_pos (by simp; omega)]
      have e : pos a b o (j + 1) = pos a b (o + 1) j := by
        unfold pos
        rcases hc with hc | hc
        · subst hc
          rw [if_pos (show o ≤ o ∧ o < o + (j + 1) by omega), if_neg (show ¬ (o + 1 ≤ o ∧ o < o + 1 + j) by omega)]
          by_cases q : o ≤ b ∧ b < o + (j + 1)
          · rw [if_pos q, if_pos (by omega)]; omega
          · rw [if_neg q, if_neg (by omega)]; omega
        · subst hc
          rw [if_pos (show o ≤ o ∧ o < o + (j + 1) by omega), if_neg (show ¬ (o + 1 ≤ o ∧ o < o + 1 + j) by omega)]
          by_cases q : o ≤ a ∧ a < o + (j + 1)
          · rw [if_pos q, if_pos (by omega)]; omega
          · rw [if_neg q, if_neg (by omega)]; omega
      rw [e]; exact ih
    · rw [if_neg (by simp; omega)]
      have hp : (if o ≤ a ∧ a < o + (j + 1) then 1 else 0) + (if o ≤ b ∧ b < o + (j + 1) then 1 else 0) ≤ j := by
        split <;> split <;> omega
      have e : pos a b o (j + 1) = pos a b (o + 1) j + 1 := by
        unfold pos
        by_cases q : o ≤ a ∧ a < o + (j + 1)
        · rw [if_pos q, if_pos (show o + 1 ≤ a ∧ a < o + 1 + j by omega)]
          rw [if_pos q] at hp
          by_cases r : o ≤ b ∧ b < o + (j + 1)
          · rw [if_pos r, if_pos (by omega)]; rw [if_pos r] at hp; omega
          · rw [if_neg r, if_neg (by omega)]; rw [if_neg r] at hp; omega
        · rw [if_neg q, if_neg (show ¬ (o + 1 ≤ a ∧ a < o + 1 + j) by omega)]
          rw [if_neg q] at hp
          by_cases r : o ≤ b ∧ b < o + (j + 1)
          · rw [if_pos r, if_pos (by omega)]; rw [if_pos r] at hp; omega
          · rw [if_neg r, if_neg (by omega)]; omega
      rw [e, List.getElem?_cons_succ]; exact ih
theorem pos_mono {a b i k : Nat} (hab : a ≠ b) (hi : i ≠ a ∧ i ≠ b) (hk : k ≠ a ∧ k ≠ b) (h : i < k) : pos a b 0 i < pos a b 0 k := by
  unfold pos
  by_cases q1 : a < i <;> by_cases q2 : b < i <;> by_cases q3 : a < k <;> by_cases q4 : b < k <;> simp [q1, q2, q3, q4] <;> omega
def made : Tr → Prop
  | .leaf _ => False
  | .node _ _ => True
def wAt (ts : List Nt) (i : Nat) : Nat := (ts.getD i (0, .leaf 0)).1
def tAt (ts : List Nt) (i : Nat) : Tr := (ts.getD i (0, .leaf 0)).2
/-- what was put together is no more than any two others -/
def Sml (ts : List Nt) : Prop := ∀ i k l, i < ts.length → k < ts.length → l < ts.length → k ≠ l → made (tAt ts i) → wAt ts i ≤ wAt ts k + wAt ts l
/-- the two least -/
structure Two (ts : List Nt) (a b : Nat) : Prop where
  ne : a ≠ b
  la : a < ts.length
  lb : b < ts.length
  st : step ts = wo a b ts 0 ++ [(wAt ts a + wAt ts b, .node (tAt ts a) (tAt ts b))]
  mn : ∀ k, k < ts.length → k ≠ a → k ≠ b → wAt ts a ≤ wAt ts k ∧ wAt ts b ≤ wAt ts k ∧ (k < a → wAt ts a < wAt ts k) ∧ (k < b → wAt ts b < wAt ts k)
  ab : wAt ts a ≤ wAt ts b
theorem two_of {ts : List Nt} (h : 1 < ts.length) : ∃ a b, Two ts a b := by
  obtain ⟨a, wa, b, wb, h1, h2, hab, ha, hb⟩ := Cf.two (ns := ts.map wt) (by rw [List.length_map]; exact h)
  rw [List.length_map] at ha hb
  obtain ⟨_, _, x, hx, hxa⟩ := Cf.lst_at h1
  obtain ⟨_, _, y, hy, hyb⟩ := Cf.lst_at h2
  dsimp only at hx hxa hy hyb
  have hw : ∀ k (hk : k < ts.length), (ts.map wt)[k]? = some (wt ts[k]) ∧ wAt ts k = (wt ts[k]).1 := fun k hk => by
    refine ⟨by rw [List.getElem?_map, List.getElem?_eq_getElem hk]; rfl, ?_⟩
    unfold wAt
    rw [getD_at hk]; rfl
  have ea : wAt ts a = wa := by have := hw a ha; rw [this.1] at hx; rw [this.2, ← hxa, ← Option.some.inj hx]
  have eb : wAt ts b = wb := by have := hw b hb; rw [this.1] at hy; rw [this.2, ← hyb, ← Option.some.inj hy]
  refine ⟨a, b, hab, ha, hb, by rw [step_two h1 h2]; rfl, fun k hk ka kb => ?_, ?_⟩
  · have e1 := lst_min h1 (k := k) (by omega) (hw k hk).1
    have e2 := lst_min h2 (k := k) (by omega) (hw k hk).1
    rw [← (hw k hk).2] at e1 e2
    dsimp only at e1 e2
    rw [ea, eb]
    exact ⟨e1.1, e2.1, e1.2, e2.2⟩
  · have e1 := lst_min h1 (k := b) (by omega) (hw b hb).1
    rw [← (hw b hb).2] at e1
    dsimp only at e1
    rw [ea]
    exact e1.1
theorem step_last {ts : List Nt} {a b : Nat} (t : Two ts a b) : (step ts).length + 1 = ts.length ∧ wAt (step ts) ((step ts).length - 1) = wAt ts a + wAt ts b ∧ tAt (step ts) ((step ts).length - 1) = .node (tAt ts a) (tAt ts b) := by
  have hl := Cf.wo_len0 t.ne ts t.la t.lb
  have e : (step ts).length = (wo a b ts 0).length + 1 := by rw [t.st, List.length_append]; rfl
  have g : (step ts).getD ((step ts).length - 1) (0, .leaf 0) = (wAt ts a + wAt ts b, .node (tAt ts a) (tAt ts b)) := by
    rw [e, List.getD_eq_getElem?_getD, t.st]
    simp
  refine ⟨by omega, by unfold wAt at g ⊢; rw [g], by unfold tAt at g ⊢; rw [g]⟩
theorem step_rest {ts : List Nt} {a b : Nat} (t : Two ts a b) {i : Nat} (hi : i < ts.length) (h1 : i ≠ a) (h2 : i ≠ b) : pos a b 0 i < (step ts).length - 1 ∧ wAt (step ts) (pos a b 0 i) = wAt ts i ∧ tAt (step ts) (pos a b 0 i) = tAt ts i := by
  have hw := wo_pos t.ne ts 0 i ts[i] (List.getElem?_eq_getElem hi) (by omega) (by omega)
  have hlt := (List.getElem?_eq_some_iff.1 hw).1
  have e : (step ts).length = (wo a b ts 0).length + 1 := by rw [t.st, List.length_append]; rfl
  have g : (step ts).getD (pos a b 0 i) (0, .leaf 0) = ts[i] := by
    rw [List.getD_eq_getElem?_getD, t.st, List.getElem?_append_left hlt, hw]; rfl
  refine ⟨by omega, by unfold wAt; rw [g, getD_at hi], by unfold tAt; rw [g, getD_at hi]⟩
/-- each of the nodes behind a step is the new one or one of the old -/
theorem step_from {ts : List Nt} {a b : Nat} (t : Two ts a b) {k : Nat} (hk : k < (step ts).length) : k = (step ts).length - 1 ∨ ∃ i, i < ts.length ∧ i ≠ a ∧ i ≠ b ∧ wAt (step ts) k = wAt ts i ∧ tAt (step ts) k = tAt ts i := by
  have e : (step ts).length = (wo a b ts 0).length + 1 := by rw [t.st, List.length_append]; rfl
  by_cases hl : k = (step ts).length - 1
  · exact .inl hl
  · right
    have hk' : k < (wo a b ts 0).length := by omega
    obtain ⟨i, hi, h1, h2⟩ := wo_idx ts 0 _ (List.getElem_mem hk')
    rw [Nat.zero_add] at h1 h2
    have hil := (List.getElem?_eq_some_iff.1 hi).1
    have g : (step ts).getD k (0, .leaf 0) = ts[i] := by
      rw [List.getD_eq_getElem?_getD, t.st, List.getElem?_append_left hk', List.getElem?_eq_getElem hk']
      rw [List.getElem?_eq_getElem hil] at hi
      exact (Option.some.inj hi).symm
    exact ⟨i, hil, h1, h2, by unfold wAt; rw [g, getD_at hil], by unfold tAt; rw [g, getD_at hil]⟩
theorem Sml.step {ts : List Nt} (h : Sml ts) {a b : Nat} (t : Two ts a b) : Sml (Ct.step ts) := by
  intro i k l hi hk hl hkl hm
  obtain ⟨_, lw, lt⟩ := step_last t
  have hab := t.ab
  rcases step_from t hi with ei | ⟨i', hi', ia, ib, wi, ti⟩
  · rw [ei, lw]
    rcases step_from t hk with ek | ⟨k', hk', ka, kb, wk, _⟩ <;> rcases step_from t hl with el | ⟨l', hl', la, lb, wl, _⟩
    · omega
    · rw [ek, lw]; omega
    · rw [el, lw]; omega
    · rw [wk, wl]
      have := t.mn k' hk' ka kb
      have := t.mn l' hl' la lb
      omega
  · rw [wi]
    rw [ti] at hm
    rcases step_from t hk with ek | ⟨k', hk', ka, kb, wk, tk⟩ <;> rcases step_from t hl with el | ⟨l', hl', la, lb, wl, tl⟩
    · omega
    · rw [ek, lw]
      have := h i' a b hi' t.la t.lb t.ne hm
      omega
    · rw [el, lw]
      have := h i' a b hi' t.la t.lb t.ne hm
      omega
    · rw [wk, wl]
      by_cases e : k' = l'
      · subst e
        have h5 := h i' a b hi' t.la t.lb t.ne hm
        have h6 := t.mn k' hk' ka kb
        omega
      · exact h i' k' l' hi' hk' hl' e hm
/-- final depths -/
structure Dp (ts : List Nt) (F : Nat → Nat) (D : Nat → Nat) : Prop where
  tell : ∀ i, i < ts.length → ∀ s ∈ syms (tAt ts i), F s = D i + dep (tAt ts i) s
  ahead : ∀ i k, i < ts.length → k < ts.length → (wAt ts i < wAt ts k ∨ (wAt ts i = wAt ts k ∧ i < k)) → D k ≤ D i
  near : ∀ i k, i < ts.length → k < ts.length → made (tAt ts i) → D k ≤ D i + 1
theorem Dp.back {ts : List Nt} {F : Nat → Nat} (hs : Sml ts) {a b : Nat} (t : Two ts a b) (hc : ∀ s, (syms (.node (tAt ts a) (tAt ts b))).count s ≤ 1) {D : Nat → Nat} (h : Dp (step ts) F D) :
    Dp ts F (fun i => if i = a ∨ i = b then D ((step ts).length - 1) + 1 else D (pos a b 0 i)) := by
  obtain ⟨ll, lw, lt⟩ := step_last t
  have hL : (step ts).length - 1 < (step ts).length := by have := t.la; have := t.lb; have := t.ne; omega
  have hml : made (tAt (step ts) ((step ts).length - 1)) := by rw [lt]; trivial
  have hab := t.ab
  refine ⟨fun i hi s hsi => ?_, fun i k hi hk hlt => ?_, fun i k hi hk hm => ?_⟩
  · by_cases c : i = a ∨ i = b
    · rw [if_pos c]
      have h5 := h.tell _ hL s (by
        rw [lt]
        simp only [syms, List.mem_append]
        rcases c with rfl | rfl
        · exact .inl hsi
        · exact .inr hsi)
      rw [lt] at h5
      have h6 := hc s
      simp only [syms, List.count_append] at h6
      simp only [dep, List.count_append] at h5
      have h7 := List.one_le_count_iff.2 hsi
      rcases c with rfl | rfl
      · have hn : s ∉ syms (tAt ts b) := fun q => by have := List.one_le_count_iff.2 q; omega
        rw [dep_none hn, List.count_eq_zero.2 hn] at h5
        omega
      · have hn : s ∉ syms (tAt ts a) := fun q => by have := List.one_le_count_iff.2 q; omega
        rw [dep_none hn, List.count_eq_zero.2 hn] at h5
        omega
    · rw [if_neg c]
      obtain ⟨p1, _, p3⟩ := step_rest t hi (by omega) (by omega)
      have h5 := h.tell (pos a b 0 i) (by omega) s (by rw [p3]; exact hsi)
      rw [p3] at h5
      exact h5
  · show (if k = a ∨ k = b then _ else _) ≤ (if i = a ∨ i = b then _ else _)
    by_cases ck : k = a ∨ k = b
    · rw [if_pos ck]
      by_cases ci : i = a ∨ i = b
      · rw [if_pos ci]; exact Nat.le_refl _
      · exfalso
        have h5 := t.mn i hi (by omega) (by omega)
        rcases ck with rfl | rfl <;> omega
    · rw [if_neg ck]
      obtain ⟨k1, k2, k3⟩ := step_rest t hk (by omega) (by omega)
      by_cases ci : i = a ∨ i = b
      · rw [if_pos ci]
        exact h.near _ _ hL (by omega) hml
      · rw [if_neg ci]
        obtain ⟨i1, i2, i3⟩ := step_rest t hi (by omega) (by omega)
        refine h.ahead _ _ (by omega) (by omega) ?_
        rw [i2, k2]
        rcases hlt with q | ⟨q1, q2⟩
        · exact .inl q
        · exact .inr ⟨q1, pos_mono t.ne (by omega) (by omega) q2⟩
  · show (if k = a ∨ k = b then _ else _) ≤ (if i = a ∨ i = b then _ else _) + 1
    by_cases ck : k = a ∨ k = b
    · rw [if_pos ck]
      by_cases ci : i = a ∨ i = b
      · rw [if_pos ci]; omega
      · rw [if_neg ci]
        obtain ⟨i1, i2, i3⟩ := step_rest t hi (by omega) (by omega)
        have h5 := hs i a b hi t.la t.lb t.ne hm
        have h6 := h.ahead (pos a b 0 i) ((step ts).length - 1) (by omega) hL (by rw [i2, lw]; omega)
        omega
    · rw [if_neg ck]
      obtain ⟨k1, k2, k3⟩ := step_rest t hk (by omega) (by omega)
      by_cases ci : i = a ∨ i = b
      · rw [if_pos ci]
        have h6 := h.near _ (pos a b 0 k) hL (by omega) hml
        omega
      · rw [if_neg ci]
        obtain ⟨i1, i2, i3⟩ := step_rest t hi (by omega) (by omega)
        exact h.near _ _ (by omega) (by omega) (by rw [i3]; exact hm)
theorem sml_leaves {ts : List Nt} (h : ∀ p ∈ ts, ∃ s, p.2 = .leaf s) : Sml ts := fun i k l hi hk hl hkl hm => by
  obtain ⟨s, hs⟩ := h ts[i] (List.getElem_mem hi)
  unfold tAt at hm
  rw [getD_at hi, hs] at hm
  exact hm.elim
theorem sml_iter {ts : List Nt} (h : Sml ts) : ∀ j, Sml (iterT ts j)
  | 0 => h
  | j + 1 => by
    have ih := sml_iter h j
    show Sml (step (iterT ts j))
    by_cases hl : 1 < (iterT ts j).length
    · obtain ⟨a, b, t⟩ := two_of hl
      exact ih.step t
    · rcases step_cases (iterT ts j) with ⟨e, _⟩ | ⟨a, wa, b, wb, _, _, hab, ha, hb⟩
      · rw [e]; exact ih
      · omega
theorem dp_iter {ts : List Nt} {F : Nat → Nat} (hs : Sml ts) (hc : ∀ s, Cf.sum (cnt s) ts ≤ 1) : ∀ j, (∃ D, Dp (iterT ts j) F D) → ∃ D, Dp ts F D
  | 0, h => h
  | j + 1, ⟨D, h⟩ => by
    refine dp_iter hs hc j ?_
    have h' : Dp (step (iterT ts j)) F D := h
    by_cases hl : 1 < (iterT ts j).length
    · obtain ⟨a, b, t⟩ := two_of hl
      refine ⟨_, h'.back (sml_iter hs j) t (fun s => ?_)⟩
      have h1 := Cf.sum_ge (cnt s) t.ne (iterT ts j) t.la t.lb
      have h2 := iter_cnt s ts j
      have h3 := hc s
      have e1 : cnt s ((iterT ts j)[a]'t.la) = (syms (tAt (iterT ts j) a)).count s := by unfold cnt tAt; rw [getD_at t.la]
      have e2 : cnt s ((iterT ts j)[b]'t.lb) = (syms (tAt (iterT ts j) b)).count s := by unfold cnt tAt; rw [getD_at t.lb]
      rw [e1, e2] at h1
      simp only [syms, List.count_append]
      omega
    · rcases step_cases (iterT ts j) with ⟨e, _⟩ | ⟨a, wa, b, wb, _, _, hab, ha, hb⟩
      · rw [e] at h'; exact ⟨D, h'⟩
      · omega
theorem init_leaves (zs : List Int) : ∀ k, ∀ p ∈ initT zs k, ∃ s, p.2 = .leaf s
  | 0, p, h => by simp [initT] at h
  | k + 1, p, h => by
    unfold initT at h
    split at h
    · rcases List.mem_append.1 h with h | h
      · exact init_leaves zs k p h
      · rw [List.mem_singleton.1 h]; exact ⟨k, rfl⟩
    · exact init_leaves zs k p h
theorem init_has {zs : List Int} {s : Nat} (h : 0 < zs.getD s 0) : ∀ k, s < k → ((zs.getD s 0).toNat, Tr.leaf s) ∈ initT zs k
  | 0, hk => by omega
  | k + 1, hk => by
    unfold initT
    by_cases e : s = k
    · subst e
      rw [if_pos h]; simp
    · have := init_has h k (by omega)
      split
      · exact List.mem_append_left _ this
      · exact this
/-- what comes less often has no shorter length -/
theorem mono {zs : List Int} {F : Nat → Nat} (hF : IsLens zs F) {s u : Nat} (hs : s < zs.length) (hu : u < zs.length) (h0 : 0 < zs.getD s 0) (hlt : zs.getD s 0 < zs.getD u 0) : F u ≤ F s := by
  have m1 := init_has h0 zs.length hs
  have m2 := init_has (zs := zs) (s := u) (by omega) zs.length hu
  obtain ⟨i, hi, ei⟩ := List.mem_iff_getElem.1 m1
  obtain ⟨k, hk, ek⟩ := List.mem_iff_getElem.1 m2
  rcases hF with ⟨hn, _⟩ | ⟨o, t, j, hit, rfl⟩
  · rw [hn] at hi; simp at hi
  · have hcnt : ∀ x, Cf.sum (cnt x) (initT zs zs.length) ≤ 1 := fun x => (init_cnt zs x zs.length).1
    have hc2 : ∀ x, (syms t).count x ≤ 1 := fun x => by
      have h1 := iter_cnt x (initT zs zs.length) j
      rw [hit] at h1
      have e : Cf.sum (cnt x) [(o, t)] = (syms t).count x := by simp [Cf.sum, cnt]
      have := hcnt x
      omega
    match t, hit, hc2 with
    | .leaf x, hit, hc2 =>
      exfalso
      have h1 := iter_lvs (initT zs zs.length) j
      rw [hit] at h1
      have e : Cf.sum lvs [(o, Tr.leaf x)] = 1 := by simp [Cf.sum, lvs, syms]
      have hik : i ≠ k := fun q => by
        subst q
        rw [ei] at ek
        injection ek with q1 _
        omega
      have h2 := Cf.sum_ge lvs hik (initT zs zs.length) hi hk
      rw [ei, ek] at h2
      have e1 : ∀ n y, lvs (n, Tr.leaf y) = 1 := fun n y => rfl
      rw [e1, e1] at h2
      omega
    | .node l r, hit, hc2 =>
      obtain ⟨D, hD⟩ := dp_iter (F := topT (.node l r)) (sml_leaves (init_leaves zs zs.length)) hcnt j ⟨fun _ => 0, by
        rw [hit]
        refine ⟨fun i hi x hx => ?_, fun _ _ _ _ _ => Nat.le_refl _, fun _ _ _ _ _ => Nat.zero_le _⟩
        have e0 : i = 0 := by simpa using hi
        subst e0
        have ht : tAt [(o, Tr.node l r)] 0 = Tr.node l r := rfl
        rw [ht] at hx ⊢
        show Go.Proofs.Ytcolgcddhchkhaa.tell (.node l r) 0 (fun _ => 0) x = 0 + dep (.node l r) x
        rw [tell_is (hc2 x), if_pos hx]⟩
      have ti : tAt (initT zs zs.length) i = .leaf s := by unfold tAt; rw [getD_at hi, ei]
      have tk : tAt (initT zs zs.length) k = .leaf u := by unfold tAt; rw [getD_at hk, ek]
      have wi : wAt (initT zs zs.length) i = (zs.getD s 0).toNat := by unfold wAt; rw [getD_at hi, ei]
      have wk : wAt (initT zs zs.length) k = (zs.getD u 0).toNat := by unfold wAt; rw [getD_at hk, ek]
      have f1 := hD.tell i hi s (by rw [ti]; simp [syms])
      have f2 := hD.tell k hk u (by rw [tk]; simp [syms])
      have f3 := hD.ahead i k hi hk (.inl (by rw [wi, wk]; omega))
      rw [ti] at f1
      rw [tk] at f2
      have d1 : dep (Tr.leaf s) s = 0 := rfl
      have d2 : dep (Tr.leaf u) u = 0 := rfl
      omega
end Ct
end Go.Proofs.Ytcolgcddhchkhaa
