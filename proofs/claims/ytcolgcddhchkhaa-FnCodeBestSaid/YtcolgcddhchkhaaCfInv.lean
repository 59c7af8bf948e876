/- What holds between the rounds of the tree (mathematics). -/
import Derived.Test.YtcolgcddhchkhaaCfMath
namespace Go.Proofs.Ytcolgcddhchkhaa
namespace Cf

abbrev Nd := Wt × List Nat
theorem wo_keep {α : Type} {a b : Nat} : ∀ (xs : List α) (i k : Nat) (x : α), xs[k]? = some x → i + k ≠ a → i + k ≠ b → x ∈ wo a b xs i
  | [], _, _, _, h, _, _ => by simp at h
  | y :: xs, i, 0, x, h, ha, hb => by
    have e : y = x := by simpa using h
    subst e
    rw [wo_cons, if_neg (by simp; omega)]
    simp
  | y :: xs, i, k + 1, x, h, ha, hb => by
    have ih := wo_keep (a := a) (b := b) xs (i + 1) k x (by simpa using h) (by omega) (by omega)
    rw [wo_cons]
    split
    · exact ih
    · exact List.mem_cons_of_mem _ ih
theorem sum_ge {α : Type} (f : α → Nat) {i j : Nat} (hij : i ≠ j) (xs : List α) (hi : i < xs.length) (hj : j < xs.length) : f xs[i] + f xs[j] ≤ sum f xs := by
  have := wo_sum0 f hij xs hi hj
  omega
theorem sum_one {α : Type} (f : α → Nat) : ∀ (xs : List α) (x : α), x ∈ xs → f x ≤ sum f xs
  | y :: xs, x, h => by
    unfold sum
    rcases List.mem_cons.1 h with rfl | h
    · omega
    · have := sum_one f xs x h; omega
theorem sum_map {α β : Type} (g : α → β) (f : β → Nat) : ∀ (xs : List α), sum f (xs.map g) = sum (fun x => f (g x)) xs
  | [] => rfl
  | x :: xs => by simp only [List.map_cons, sum, sum_map g f xs]

structure Inv (n : Nat) (ps : List Nd) (f : Nat → Nat) : Prop where
  dup : ∀ s, sum (fun p : Nd => p.2.count s) ps ≤ 1
  rng : ∀ p ∈ ps, ∀ s ∈ p.2, s < n
  hgt : ∀ s, s < n → f s = 0 ∨ (∃ p ∈ ps, s ∈ p.2 ∧ f s ≤ p.1.2) ∨ (ps.length = 1 ∧ f s ≤ 1)
  wgt : sum (fun p : Nd => p.1.1) ps ≤ 3000000
  len : ps.length ≤ 300
  tot : sum (fun p : Nd => p.2.length) ps ≤ 300
  fin_bound : ∀ p ∈ ps, p.1.2 ≤ 400 - ps.length

/-- the nodes behind one round -/
def next (ps : List Nd) (a b : Nat) (x y : Nd) : List Nd := wo a b ps 0 ++ [((x.1.1 + y.1.1, 1 + Nat.max x.1.2 y.1.2), x.2 ++ y.2)]
theorem next_ns {ps : List Nd} {a b wa wb : Nat} {x y : Nd} (h1 : lst (-1) (ps.map (fun p => p.1)) 0 none = some (a, wa)) (h2 : lst (a : Int) (ps.map (fun p => p.1)) 0 none = some (b, wb)) (hx : ps[a]? = some x) (hy : ps[b]? = some y) : (next ps a b x y).map (fun p => p.1) = step (ps.map (fun p => p.1)) := by
  have hgx : ∀ (i : Nat) (z : Nd), ps[i]? = some z → Cf.hgt (ps.map (fun p => p.1)) i = z.1.2 := fun i z hz => by
    unfold Cf.hgt
    rw [List.getD_eq_getElem?_getD, List.getElem?_map, hz]; rfl
  obtain ⟨_, _, x', e1, e2⟩ := lst_at h1
  obtain ⟨_, _, y', e3, e4⟩ := lst_at h2
  simp only at e1 e2 e3 e4
  rw [List.getElem?_map, hx] at e1
  rw [List.getElem?_map, hy] at e3
  have e1' : x.1 = x' := by simpa using e1
  have e3' : y.1 = y' := by simpa using e3
  rw [step_two h1 h2]
  unfold next
  rw [List.map_append, wo_map, hgx a x hx, hgx b y hy, ← e2, ← e4, ← e1', ← e3']
  rfl
theorem Inv.next {n : Nat} {ps : List Nd} {f : Nat → Nat} (h : Inv n ps f) {a b : Nat} {x y : Nd} (hx : ps[a]? = some x) (hy : ps[b]? = some y) (hab : a ≠ b) : Inv n (Cf.next ps a b x y) (fun s => f s + (x.2 ++ y.2).count s) := by
  obtain ⟨ha, rfl⟩ := List.getElem?_eq_some_iff.1 hx
  obtain ⟨hb, rfl⟩ := List.getElem?_eq_some_iff.1 hy
  have hlen := wo_len0 hab ps ha hb
  refine ⟨fun s => ?_, fun p hp s hs => ?_, fun s hs => ?_, ?_, ?_, ?_, fun p hp => ?_⟩
  · unfold Cf.next
    rw [sum_append]
    have := wo_sum0 (fun p : Nd => p.2.count s) hab ps ha hb
    have h2 := h.dup s
    simp only [sum, List.count_append]
    omega
  · unfold Cf.next at hp
    rcases List.mem_append.1 hp with hp | hp
    · exact h.rng p (wo_mem ps 0 p hp) s hs
    · rw [List.mem_singleton] at hp
      subst hp
      rcases List.mem_append.1 hs with hs | hs
      · exact h.rng _ (List.getElem_mem ha) s hs
      · exact h.rng _ (List.getElem_mem hb) s hs
  · have hd := h.dup s
    have hge := sum_ge (fun p : Nd => p.2.count s) hab ps ha hb
    simp only [List.count_append]
    by_cases hin : s ∈ ps[a].2 ∨ s ∈ ps[b].2
    · right; left
      refine ⟨_, List.mem_append.2 (.inr (List.mem_singleton.2 rfl)), List.mem_append.2 hin, ?_⟩
      have hf : f s ≤ Nat.max ps[a].1.2 ps[b].1.2 := by
        rcases h.hgt s hs with h0 | ⟨p, hp, hsp, hle⟩ | ⟨h1, _⟩
        · omega
        · obtain ⟨i, hi, rfl⟩ := List.getElem_of_mem hp
          by_cases ea : i = a
          · subst ea; exact Nat.le_trans hle (Nat.le_max_left _ _)
          · by_cases eb : i = b
            · subst eb; exact Nat.le_trans hle (Nat.le_max_right _ _)
            · exfalso
              have c1 : 0 < ps[i].2.count s := List.count_pos_iff.2 hsp
              rcases hin with hin | hin
              · have := sum_ge (fun p : Nd => p.2.count s) ea ps hi ha
                have c2 : 0 < ps[a].2.count s := List.count_pos_iff.2 hin
                omega
              · have := sum_ge (fun p : Nd => p.2.count s) eb ps hi hb
                have c2 : 0 < ps[b].2.count s := List.count_pos_iff.2 hin
                omega
        · omega
      show f s + (ps[a].2.count s + ps[b].2.count s) ≤ 1 + Nat.max ps[a].1.2 ps[b].1.2
      omega
    · have c1 : ps[a].2.count s = 0 := List.count_eq_zero.2 (fun e => hin (.inl e))
      have c2 : ps[b].2.count s = 0 := List.count_eq_zero.2 (fun e => hin (.inr e))
      rw [c1, c2, Nat.add_zero]
      rcases h.hgt s hs with h0 | ⟨p, hp, hsp, hle⟩ | ⟨h1, _⟩
      · exact .inl h0
      · right; left
        obtain ⟨i, hi, rfl⟩ := List.getElem_of_mem hp
        refine ⟨ps[i], List.mem_append.2 (.inl (wo_keep ps 0 i _ (List.getElem?_eq_getElem hi) (fun e => ?_) (fun e => ?_))), hsp, hle⟩
        · rw [Nat.zero_add] at e; subst e; exact hin (.inl hsp)
        · rw [Nat.zero_add] at e; subst e; exact hin (.inr hsp)
      · omega
  · unfold Cf.next
    rw [sum_append]
    have := wo_sum0 (fun p : Nd => p.1.1) hab ps ha hb
    have h2 := h.wgt
    simp only [sum]
    omega
  · unfold Cf.next
    rw [List.length_append, List.length_singleton]
    have := h.len
    omega
  · unfold Cf.next
    rw [sum_append]
    have := wo_sum0 (fun p : Nd => p.2.length) hab ps ha hb
    have h2 := h.tot
    simp only [sum, List.length_append]
    omega
  · have hl := h.len
    unfold Cf.next at hp ⊢
    rw [List.length_append, List.length_singleton]
    rcases List.mem_append.1 hp with hp | hp
    · have := h.fin_bound p (wo_mem ps 0 p hp)
      omega
    · rw [List.mem_singleton] at hp
      subst hp
      have h1 := h.fin_bound _ (List.getElem_mem ha)
      have h2 := h.fin_bound _ (List.getElem_mem hb)
      have h3 : Nat.max ps[a].1.2 ps[b].1.2 ≤ 400 - ps.length := Nat.max_le.2 ⟨h1, h2⟩
      show 1 + Nat.max ps[a].1.2 ps[b].1.2 ≤ _
      omega
/-- at the end -/
theorem Inv.end {n : Nat} {ps : List Nd} {f : Nat → Nat} (h : Inv n ps f) (hl : ps.length ≤ 1) : ∀ s, s < n → f s ≤ Nat.max 1 (fin (ps.map (fun p => p.1))) := by
  intro s hs
  rw [fin_one (by rw [List.length_map]; exact hl)]
  rcases h.hgt s hs with h0 | ⟨p, hp, _, hle⟩ | ⟨_, h1⟩
  · rw [h0]; exact Nat.zero_le _
  · exact Nat.le_trans (Nat.le_trans hle (maxh_mem _ _ (List.mem_map.2 ⟨p, hp, rfl⟩))) (Nat.le_max_right _ _)
  · exact Nat.le_trans h1 (Nat.le_max_left _ _)
/-- at the beginning: the first k -/
def init (zs : List Int) : Nat → List Nd
  | 0 => []
  | k + 1 => if 0 < zs.getD k 0 then init zs k ++ [(((zs.getD k 0).toNat, 0), [k])] else init zs k
theorem init_len (zs : List Int) : ∀ k, (init zs k).length ≤ k
  | 0 => Nat.le_refl _
  | k + 1 => by
    have := init_len zs k
    unfold init
    split
    · rw [List.length_append, List.length_singleton]; omega
    · omega
theorem init_mem (zs : List Int) : ∀ k p, p ∈ init zs k → p.1.2 = 0 ∧ ∃ s, s < k ∧ p.2 = [s] ∧ p.1.1 = (zs.getD s 0).toNat
  | 0, p, h => by simp [init] at h
  | k + 1, p, h => by
    unfold init at h
    split at h
    · rcases List.mem_append.1 h with h | h
      · obtain ⟨h1, s, h2, h3, h4⟩ := init_mem zs k p h
        exact ⟨h1, s, by omega, h3, h4⟩
      · rw [List.mem_singleton] at h
        subst h
        exact ⟨rfl, k, by omega, rfl, rfl⟩
    · obtain ⟨h1, s, h2, h3, h4⟩ := init_mem zs k p h
      exact ⟨h1, s, by omega, h3, h4⟩
theorem init_dup (zs : List Int) (s : Nat) : ∀ k, sum (fun p : Nd => p.2.count s) (init zs k) ≤ 1 ∧ (k ≤ s → sum (fun p : Nd => p.2.count s) (init zs k) = 0)
  | 0 => ⟨by simp [init, sum], fun _ => rfl⟩
  | k + 1 => by
    obtain ⟨h1, h2⟩ := init_dup zs s k
    unfold init
    split
    · rw [sum_append]
      simp only [sum]
      by_cases e : k = s
      · subst e
        rw [h2 (Nat.le_refl _)]
        refine ⟨by simp, fun h => by omega⟩
      · have : List.count s [k] = 0 := by rw [List.count_eq_zero]; simp; omega
        rw [this]
        exact ⟨by omega, fun h => by rw [h2 (by omega)]⟩
    · exact ⟨h1, fun h => h2 (by omega)⟩
theorem init_wgt {zs : List Int} (hz : ∀ i, i < zs.length → 0 ≤ zs.getD i 0 ∧ zs.getD i 0 ≤ 9000) : ∀ k, k ≤ zs.length → sum (fun p : Nd => p.1.1) (init zs k) ≤ 9000 * k
  | 0, _ => by simp [init, sum]
  | k + 1, h => by
    have ih := init_wgt hz k (by omega)
    have := hz k (by omega)
    unfold init
    split
    · rw [sum_append]
      simp only [sum]
      omega
    · omega
theorem init_tot (zs : List Int) : ∀ k, sum (fun p : Nd => p.2.length) (init zs k) ≤ k
  | 0 => by simp [init, sum]
  | k + 1 => by
    have ih := init_tot zs k
    unfold init
    split
    · rw [sum_append]
      simp only [sum, List.length_singleton]
      omega
    · omega
theorem init_inv {zs : List Int} (hz : ∀ i, i < zs.length → 0 ≤ zs.getD i 0 ∧ zs.getD i 0 ≤ 9000) (hl : zs.length ≤ 300) : Inv zs.length (init zs zs.length) (fun _ => 0) := by
  refine ⟨fun s => (init_dup zs s _).1, fun p hp s hs => ?_, fun s _ => .inl rfl, ?_, ?_, Nat.le_trans (init_tot zs _) hl, fun p hp => by rw [(init_mem zs _ p hp).1]; exact Nat.zero_le _⟩
  · obtain ⟨_, t, h2, h3, _⟩ := init_mem zs _ p hp
    rw [h3, List.mem_singleton] at hs
    omega
  · have := init_wgt hz zs.length (Nat.le_refl _)
    omega
  · have := init_len zs zs.length
    omega
/-- how deep it goes -/
def deep (zs : List Int) : Nat := Nat.max 1 (fin ((init zs zs.length).map (fun p => p.1)))
end Cf
end Go.Proofs.Ytcolgcddhchkhaa
