/- The lengths of a tree leave nothing over (mathematics). -/
import Derived.Test.YtcolgcddhchkhaaCtMono
import Derived.Test.YtcolgcddhchkhaaCtFit
import Derived.Test.YtcolgcddhchkhaaCodeMath
namespace Go.Proofs.Ytcolgcddhchkhaa
namespace Ct

def sg (g : Nat → Nat) : Nat → Nat
  | 0 => 0
  | n + 1 => sg g n + g n
theorem sg_same {g h : Nat → Nat} : ∀ {n : Nat}, (∀ i, i < n → g i = h i) → sg g n = sg h n
  | 0, _ => rfl
  | n + 1, e => by
    show sg g n + g n = sg h n + h n
    rw [sg_same (n := n) (fun i hi => e i (by omega)), e n (by omega)]
theorem sg_add (g h : Nat → Nat) : ∀ n, sg (fun i => g i + h i) n = sg g n + sg h n
  | 0 => rfl
  | n + 1 => by
    show sg (fun i => g i + h i) n + (g n + h n) = sg g n + g n + (sg h n + h n)
    rw [sg_add g h n]
    omega
theorem sg_one (s v : Nat) : ∀ n, sg (fun i => if i = s then v else 0) n = if s < n then v else 0
  | 0 => by rw [if_neg (by omega)]; rfl
  | n + 1 => by
    show sg (fun i => if i = s then v else 0) n + (if n = s then v else 0) = _
    rw [sg_one s v n]
    by_cases h : n = s
    · rw [if_pos h, if_neg (by omega), if_pos (by omega)]; omega
    · rw [if_neg h]
      by_cases q : s < n
      · rw [if_pos q, if_pos (by omega)]; omega
      · rw [if_neg q, if_neg (by omega)]
theorem sg_zero (n : Nat) : sg (fun _ => 0) n = 0 := by
  induction n with
  | zero => rfl
  | succ n ih => show sg _ n + 0 = 0; rw [ih]
theorem taken_sg (f : Nat → Nat) : ∀ n, Cd.taken ((List.range n).map (fun i => ((f i : Nat) : Int))) = sg (fun i => Cd.part ((f i : Nat) : Int)) n
  | 0 => rfl
  | n + 1 => by
    rw [List.range_succ, List.map_append, Cd.taken_append, taken_sg f n]
    show _ + (Cd.part _ + 0) = sg _ n + _
    rfl
theorem part_nat (k : Nat) (h : 0 < k) : Cd.part (k : Int) = 2 ^ (15 - k) := by
  unfold Cd.part
  rw [if_pos (by omega)]
  rfl
theorem syms_some : ∀ t : Tr, ∃ s, s ∈ syms t
  | .leaf s => ⟨s, by simp [syms]⟩
  | .node l _ => by obtain ⟨s, h⟩ := syms_some l; exact ⟨s, by simp [syms, h]⟩
theorem dep_left {l r : Tr} {s : Nat} (hc : (syms (.node l r)).count s ≤ 1) (h : s ∈ syms l) : s ∉ syms r ∧ dep (.node l r) s = 1 + dep l s := by
  simp only [syms, List.count_append] at hc
  have h1 := List.one_le_count_iff.2 h
  have hn : s ∉ syms r := fun q => by have := List.one_le_count_iff.2 q; omega
  refine ⟨hn, ?_⟩
  simp only [dep, List.count_append]
  rw [dep_none hn, List.count_eq_zero.2 hn]
  omega
theorem dep_right {l r : Tr} {s : Nat} (hc : (syms (.node l r)).count s ≤ 1) (h : s ∈ syms r) : s ∉ syms l ∧ dep (.node l r) s = 1 + dep r s := by
  simp only [syms, List.count_append] at hc
  have h1 := List.one_le_count_iff.2 h
  have hn : s ∉ syms l := fun q => by have := List.one_le_count_iff.2 q; omega
  refine ⟨hn, ?_⟩
  simp only [dep, List.count_append]
  rw [dep_none hn, List.count_eq_zero.2 hn]
  omega
/-- the leaves of a tree take what its top takes -/
theorem kraft (n : Nat) : ∀ (t : Tr) (d : Nat), 0 < d → (∀ s, (syms t).count s ≤ 1) → (∀ s ∈ syms t, s < n ∧ d + dep t s ≤ 15) → sg (fun i => Cd.part ((if i ∈ syms t then d + dep t i else 0 : Nat) : Int)) n = 2 ^ (15 - d)
  | .leaf x, d, hd, _, hb => by
    have h1 := (hb x (by simp [syms])).1
    rw [sg_same (h := fun i => if i = x then 2 ^ (15 - d) else 0) (fun i _ => by
      by_cases e : i = x
      · rw [if_pos (by simp [syms, e]), if_pos e]
        exact part_nat _ (by show 0 < d + 0; omega)
      · rw [if_neg (by simp [syms, e]), if_neg e]; rfl), sg_one, if_pos h1]
  | .node l r, d, hd, hc, hb => by
    have hl := kraft n l (d + 1) (by omega) (fun s => by have := hc s; simp only [syms, List.count_append] at this; omega) (fun s hs => by
      have := hb s (by simp [syms, hs])
      rw [(dep_left (hc s) hs).2] at this
      omega)
    have hr := kraft n r (d + 1) (by omega) (fun s => by have := hc s; simp only [syms, List.count_append] at this; omega) (fun s hs => by
      have := hb s (by simp [syms, hs])
      rw [(dep_right (hc s) hs).2] at this
      omega)
    obtain ⟨x, hx⟩ := syms_some l
    have hd2 : d + 1 ≤ 15 := by
      have := hb x (by simp [syms, hx])
      rw [(dep_left (hc x) hx).2] at this
      omega
    rw [sg_same (h := fun i => Cd.part ((if i ∈ syms l then d + 1 + dep l i else 0 : Nat) : Int) + Cd.part ((if i ∈ syms r then d + 1 + dep r i else 0 : Nat) : Int)) (fun i _ => by
      by_cases h1 : i ∈ syms l
      · obtain ⟨h2, h3⟩ := dep_left (hc i) h1
        rw [if_pos (by simp [syms, h1]), if_pos h1, if_neg h2, h3, ← Nat.add_assoc]
        rfl
      · by_cases h2 : i ∈ syms r
        · obtain ⟨_, h3⟩ := dep_right (hc i) h2
          rw [if_pos (by simp [syms, h2]), if_neg h1, if_pos h2, h3, ← Nat.add_assoc]
          show _ = 0 + _
          rw [Nat.zero_add]
        · rw [if_neg (by simp [syms, h1, h2]), if_neg h1, if_neg h2]; rfl), sg_add, hl, hr]
    have e : 15 - d = 15 - (d + 1) + 1 := by omega
    rw [e, Nat.pow_succ]
    omega
theorem kraft_node {n : Nat} {l r : Tr} (hc : ∀ s, (syms (.node l r)).count s ≤ 1) (hb : ∀ s ∈ syms (.node l r), s < n ∧ dep (.node l r) s ≤ 15) : sg (fun i => Cd.part ((if i ∈ syms (.node l r) then dep (.node l r) i else 0 : Nat) : Int)) n = 32768 := by
  have hl := kraft n l 1 (by omega) (fun s => by have := hc s; simp only [syms, List.count_append] at this; omega) (fun s hs => by
    have := hb s (by simp [syms, hs])
    rw [(dep_left (hc s) hs).2] at this
    omega)
  have hr := kraft n r 1 (by omega) (fun s => by have := hc s; simp only [syms, List.count_append] at this; omega) (fun s hs => by
    have := hb s (by simp [syms, hs])
    rw [(dep_right (hc s) hs).2] at this
    omega)
  rw [sg_same (h := fun i => Cd.part ((if i ∈ syms l then 1 + dep l i else 0 : Nat) : Int) + Cd.part ((if i ∈ syms r then 1 + dep r i else 0 : Nat) : Int)) (fun i _ => by
    by_cases h1 : i ∈ syms l
    · obtain ⟨h2, h3⟩ := dep_left (hc i) h1
      rw [if_pos (by simp [syms, h1]), if_pos h1, if_neg h2, h3]
      rfl
    · by_cases h2 : i ∈ syms r
      · obtain ⟨_, h3⟩ := dep_right (hc i) h2
        rw [if_pos (by simp [syms, h2]), if_neg h1, if_pos h2, h3]
        show _ = 0 + _
        rw [Nat.zero_add]
      · rw [if_neg (by simp [syms, h1, h2]), if_neg h1, if_neg h2]; rfl), sg_add, hl, hr]
theorem sum_mem {α : Type} {f : α → Nat} {x : α} : ∀ {l : List α}, x ∈ l → f x ≤ Cf.sum f l
  | y :: l, h => by
    show f x ≤ f y + Cf.sum f l
    rcases List.mem_cons.1 h with rfl | h
    · omega
    · have := sum_mem (f := f) h; omega
theorem init_cnt_no {zs : List Int} {s : Nat} (h : ¬ 0 < zs.getD s 0) : ∀ k, Cf.sum (cnt s) (initT zs k) = 0
  | 0 => rfl
  | k + 1 => by
    have ih := init_cnt_no h k
    unfold initT
    split
    · rename_i hp
      rw [Cf.sum_append, ih]
      have e : k ≠ s := fun e => h (e ▸ hp)
      simp [Cf.sum, cnt, syms, e]
    · exact ih
theorem init_cnt_big (zs : List Int) (s k : Nat) (h : k ≤ s) : Cf.sum (cnt s) (initT zs k) = 0 := (init_cnt zs s k).2 h
/-- which symbols stand in the tree -/
theorem tree_syms {zs : List Int} {o : Nat} {t : Tr} {j : Nat} (h : iterT (initT zs zs.length) j = [(o, t)]) : (∀ s, (syms t).count s ≤ 1) ∧ (∀ s, s ∈ syms t ↔ s < zs.length ∧ 0 < zs.getD s 0) ∧ (syms t).length = come zs := by
  have hcnt : ∀ x, (syms t).count x = Cf.sum (cnt x) (initT zs zs.length) := fun x => by
    have h1 := iter_cnt x (initT zs zs.length) j
    rw [h] at h1
    have e : Cf.sum (cnt x) [(o, t)] = (syms t).count x := by simp [Cf.sum, cnt]
    omega
  refine ⟨fun s => by rw [hcnt]; exact (init_cnt zs s zs.length).1, fun s => ⟨fun hs => ?_, fun ⟨hs, hp⟩ => ?_⟩, ?_⟩
  · have h1 := List.one_le_count_iff.2 hs
    rw [hcnt] at h1
    refine ⟨Nat.lt_of_not_le fun q => ?_, ?_⟩
    · rw [init_cnt_big zs s _ q] at h1; omega
    · by_cases hp : 0 < zs.getD s 0
      · exact hp
      · rw [init_cnt_no hp] at h1; omega
  · have h1 := sum_mem (f := cnt s) (init_has hp zs.length hs)
    rw [← hcnt] at h1
    have e : cnt s ((zs.getD s 0).toNat, Tr.leaf s) = 1 := by simp [cnt, syms]
    rw [e] at h1
    exact List.one_le_count_iff.1 h1
  · have h1 := iter_lvs (initT zs zs.length) j
    rw [h] at h1
    have e : Cf.sum lvs [(o, t)] = (syms t).length := by simp [Cf.sum, lvs]
    rw [← e, h1]
    unfold come
    have : ∀ l : List Nt, (∀ p ∈ l, ∃ s, p.2 = .leaf s) → Cf.sum lvs l = l.length := by
      intro l
      induction l with
      | nil => intro _; rfl
      | cons p l ih =>
        intro hl
        show lvs p + Cf.sum lvs l = l.length + 1
        obtain ⟨s, hs⟩ := hl p (by simp)
        rw [ih (fun q hq => hl q (by simp [hq]))]
        unfold lvs
        rw [hs]
        simp [syms]
        omega
    exact this _ (init_leaves zs zs.length)
/-- what the lengths of a tree are -/
structure Whole (zs : List Int) (f : Nat → Nat) : Prop where
  some : ∀ i, i < zs.length → (f i = 0 ↔ ¬ 0 < zs.getD i 0)
  one : come zs ≤ 1 → sg (fun i => Cd.part ((f i : Nat) : Int)) zs.length ≤ 32768
  full : 2 ≤ come zs → sg (fun i => Cd.part ((f i : Nat) : Int)) zs.length = 32768
theorem come_one {zs : List Int} (h : initT zs zs.length = []) (i : Nat) (hi : i < zs.length) : ¬ 0 < zs.getD i 0 := fun hp => by
  have := init_has hp zs.length hi
  rw [h] at this
  simp at this
theorem IsLens.whole {zs : List Int} {f : Nat → Nat} (h : IsLens zs f) (hm : ∀ i, i < zs.length → f i ≤ 15) : Whole zs f := by
  rcases h with ⟨hn, rfl⟩ | ⟨o, t, j, hit, rfl⟩
  · refine ⟨fun i hi => ⟨fun _ => come_one hn i hi, fun _ => rfl⟩, fun _ => ?_, fun q => ?_⟩
    · have e0 : sg (fun i => Cd.part (((fun _ => 0 : Nat → Nat) i : Nat) : Int)) zs.length = 0 := (sg_same (h := fun _ => 0) (fun i _ => rfl)).trans (sg_zero _)
      rw [e0]; omega
    · unfold come at q; rw [hn] at q; simp at q
  · obtain ⟨hc, hs, hl⟩ := tree_syms hit
    match t, hc, hs, hl, hm with
    | .leaf x, hc, hs, hl, hm =>
      refine ⟨fun i hi => ?_, fun _ => ?_, fun q => ?_⟩
      · show (if i = x then 1 else 0) = 0 ↔ _
        have h1 := hs i
        simp only [syms, List.mem_singleton] at h1
        by_cases e : i = x
        · rw [if_pos e]
          exact ⟨fun q => by omega, fun q => absurd (h1.1 e).2 q⟩
        · rw [if_neg e]
          exact ⟨fun _ q => e (h1.2 ⟨hi, q⟩), fun _ => rfl⟩
      · rw [sg_same (h := fun i => if i = x then 16384 else 0) (fun i _ => by
          show Cd.part ((if i = x then 1 else 0 : Nat) : Int) = _
          by_cases e : i = x
          · rw [if_pos e, if_pos e]; rfl
          · rw [if_neg e, if_neg e]; rfl), sg_one]
        split <;> omega
      · simp only [syms, List.length_singleton] at hl; omega
    | .node l r, hc, hs, hl, hm =>
      have ef : ∀ i, topT (.node l r) i = if i ∈ syms (.node l r) then dep (.node l r) i else 0 := fun i => by
        show Go.Proofs.Ytcolgcddhchkhaa.tell (.node l r) 0 (fun _ => 0) i = _
        rw [tell_is (hc i), Nat.zero_add]
      have hk := kraft_node (n := zs.length) hc (fun s hx => ⟨((hs s).1 hx).1, by
        have h1 := hm s ((hs s).1 hx).1
        rw [ef, if_pos hx] at h1
        exact h1⟩)
      have hk2 : sg (fun i => Cd.part ((topT (.node l r) i : Nat) : Int)) zs.length = 32768 := by
        rw [← hk]
        exact sg_same (fun i _ => by rw [ef])
      refine ⟨fun i hi => ?_, fun _ => by rw [hk2]; omega, fun _ => hk2⟩
      rw [ef]
      by_cases hx : i ∈ syms (.node l r)
      · rw [if_pos hx]
        refine ⟨fun q => ?_, fun q => absurd ((hs i).1 hx).2 q⟩
        have := List.one_le_count_iff.2 hx
        simp only [dep] at q
        simp only [syms] at this
        omega
      · rw [if_neg hx]
        exact ⟨fun _ q => hx ((hs i).2 ⟨hi, q⟩), fun _ => rfl⟩
theorem half_pos {z : Int} (h : 0 ≤ z) : 0 < half z ↔ 0 < z := by unfold half; omega
theorem Fits.whole {m : Nat} (h15 : m ≤ 15) {zs : List Int} {f : Nat → Nat} (h : Fits m zs f) : (∀ i, i < zs.length → 0 ≤ zs.getD i 0 ∧ zs.getD i 0 ≤ 9000) → Whole zs f ∧ ∀ i, i < zs.length → f i ≤ m := by
  induction h with
  | stop h1 h2 => exact fun _ => ⟨h1.whole (fun i hi => Nat.le_trans (h2 i hi) h15), h2⟩
  | @more zs F G h1 h2 h3 ih =>
    intro hz
    obtain ⟨w, wm⟩ := ih (fun i hi => by
      rw [hv_len] at hi
      rw [hv_get hi]
      have := hz i hi
      unfold half
      omega)
    have ec : come (hv zs) = come zs := by
      unfold come
      rw [hv_len]
      exact come_hv_k hz _ (Nat.le_refl _)
    refine ⟨⟨fun i hi => ?_, fun q => ?_, fun q => ?_⟩, fun i hi => wm i (by rw [hv_len]; exact hi)⟩
    · have h5 := w.some i (by rw [hv_len]; exact hi)
      rw [hv_get hi, half_pos (hz i hi).1] at h5
      exact h5
    · have h5 := w.one (by rw [ec]; exact q)
      rw [hv_len] at h5
      exact h5
    · have h5 := w.full (by rw [ec]; exact q)
      rw [hv_len] at h5
      exact h5
end Ct
end Go.Proofs.Ytcolgcddhchkhaa
