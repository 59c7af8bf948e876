/- Packing by LZW with a table of pairs: its mathematics. -/
import Derived.Test.YtjfihmpnbblomaaLpMath
namespace Go.Proofs.Ytjfihmpnbblomaa

theorem Lp.from_app (s : ByteArray) : ∀ (l m : List ByteArray) (i : Nat), Lp.from s (l ++ m) i = if 0 ≤ Lp.from s l i then Lp.from s l i else Lp.from s m (i + l.length)
  | [], m, i => by simp [Lp.from]
  | x :: xs, m, i => by
    rw [List.cons_append, show Lp.from s (x :: (xs ++ m)) i = if x = s then (i : Int) else Lp.from s (xs ++ m) (i + 1) from rfl, show Lp.from s (x :: xs) i = if x = s then (i : Int) else Lp.from s xs (i + 1) from rfl]
    by_cases h : x = s
    · rw [if_pos h, if_pos h, if_pos (by omega)]
    · rw [if_neg h, if_neg h, Lp.from_app s xs m (i + 1)]
      rw [List.length_cons, show i + 1 + xs.length = i + (xs.length + 1) by omega]
theorem Lp.from_some (s : ByteArray) : ∀ (l : List ByteArray) (i v : Nat), Lp.from s l i = (v : Int) → ∃ h : v - i < l.length, i ≤ v ∧ l[v - i] = s
  | [], i, v, h => by unfold Lp.from at h; omega
  | x :: xs, i, v, h => by
    unfold Lp.from at h
    split at h
    · rename_i e
      have : v = i := by omega
      subst this
      exact ⟨by simp, Nat.le_refl _, by simpa using e⟩
    · obtain ⟨h1, h2, h3⟩ := Lp.from_some s xs (i + 1) v h
      refine ⟨by simp only [List.length_cons]; omega, by omega, ?_⟩
      have e : v - i = (v - (i + 1)) + 1 := by omega
      simp only [e, List.getElem_cons_succ]
      exact h3
theorem Lp.find_some {l : List ByteArray} {s : ByteArray} {v : Nat} (h : Lp.find l s = (v : Int)) : ∃ hv : v < l.length, l[v] = s := by
  obtain ⟨h1, _, h3⟩ := Lp.from_some s l 0 v h
  exact ⟨by simpa using h1, by simpa using h3⟩
theorem Lp.from_mem (s : ByteArray) : ∀ (l : List ByteArray) (i : Nat), s ∈ l → 0 ≤ Lp.from s l i
  | x :: xs, i, h => by
    unfold Lp.from
    split
    · omega
    · rename_i hx
      rcases List.mem_cons.1 h with e | e
      · exact absurd e.symm hx
      · exact Lp.from_mem s xs (i + 1) e
theorem Lp.find_mem {l : List ByteArray} {s : ByteArray} (h : s ∈ l) : 0 ≤ Lp.find l s := Lp.from_mem s l 0 h
theorem Lp.find_app (l : List ByteArray) (z s : ByteArray) : Lp.find (l ++ [z]) s = if 0 ≤ Lp.find l s then Lp.find l s else if z = s then (l.length : Int) else -1 := by
  unfold Lp.find
  rw [Lp.from_app]
  split
  · rfl
  · unfold Lp.from
    split
    · rw [Nat.zero_add]
    · rfl

/-- what holds of the texts that are known -/
structure Lq.Inv (b : Nat) (l : List ByteArray) : Prop where
  lo : 2 ^ b + 2 ≤ l.length
  pre : l.take (2 ^ b + 2) = Lz.start b
  big : ∀ i (h : i < l.length), 2 ^ b + 2 ≤ i → 2 ≤ (l[i]).size
  inj : ∀ i j (h : i < l.length) (h' : j < l.length), l[i] = l[j] → (l[i]).size ≠ 0 → i = j
  pc : ∀ y c : ByteArray, c.size = 1 → 1 ≤ y.size → 0 ≤ Lp.find l (y ++ c) → 0 ≤ Lp.num l y

theorem Lz.start_at {b i : Nat} (h : i < 2 ^ b) : ∃ h' : i < (Lz.start b).length, (Lz.start b)[i] = Lz.one i := by
  refine ⟨by rw [Lz.start_len]; omega, ?_⟩
  simp only [Lz.start]
  rw [List.getElem_append_left (by simpa using h), List.getElem_map, List.getElem_range]
theorem Lz.start_big {b i : Nat} (h : i < (Lz.start b).length) (hi : 2 ^ b ≤ i) : (Lz.start b)[i] = ⟨#[]⟩ := by
  have hl := Lz.start_len b
  simp only [Lz.start]
  rw [List.getElem_append_right (by simpa using hi)]
  rcases (show i - 2 ^ b = 0 ∨ i - 2 ^ b = 1 by omega) with e | e <;> simp [e]
theorem Lp.one_of {x : ByteArray} (h : x.size = 1) : x = Lz.one (Lp.byte x) := by
  obtain ⟨⟨l⟩⟩ := x
  match l, h with
  | [a], _ => simp [Lz.one, Lp.byte]

theorem Lq.inv_start {b : Nat} (hb : b ≤ 8) : Lq.Inv b (Lz.start b) := by
  have hl := Lz.start_len b
  have hp := Lz.pow_le hb
  refine ⟨by omega, List.take_of_length_le (by omega), fun i h hi => by omega, fun i j h h' e hs => ?_, fun y c hc hy hf => ?_⟩
  · have hi : i < 2 ^ b := by
      rcases Nat.lt_or_ge i (2 ^ b) with h1 | h1
      · exact h1
      · rw [Lz.start_big h h1] at hs; exact absurd rfl hs
    have hj : j < 2 ^ b := by
      rcases Nat.lt_or_ge j (2 ^ b) with h1 | h1
      · exact h1
      · rw [e, Lz.start_big h' h1] at hs; exact absurd rfl hs
    obtain ⟨_, e1⟩ := Lz.start_at hi
    obtain ⟨_, e2⟩ := Lz.start_at hj
    rw [e1, e2] at e
    have e3 : UInt8.ofNat i = UInt8.ofNat j := by
      have := congrArg ByteArray.data e
      simpa [Lz.one] using this
    have e4 := congrArg UInt8.toNat e3
    rw [UInt8.toNat_ofNat', UInt8.toNat_ofNat'] at e4
    omega
  · have hn : 0 ≤ (Lp.find (Lz.start b) (y ++ c)) := hf
    obtain ⟨v, hv⟩ := Int.eq_ofNat_of_zero_le hn
    obtain ⟨hvl, e⟩ := Lp.find_some hv
    exfalso
    have hs : (y ++ c).size = y.size + 1 := by rw [ByteArray.size_append, hc]
    rcases Nat.lt_or_ge v (2 ^ b) with h1 | h1
    · obtain ⟨_, e1⟩ := Lz.start_at h1
      rw [e1] at e
      have := congrArg ByteArray.size e
      rw [Lz.one_size, hs] at this
      omega
    · rw [Lz.start_big hvl h1] at e
      have h0 : (ByteArray.mk #[]).size = 0 := rfl
      have := congrArg ByteArray.size e
      rw [hs, h0] at this
      omega

/-- a number stands for its text -/
theorem Lq.at_num {b v : Nat} {l : List ByteArray} {z : ByteArray} (g : Lq.Inv b l) (h : Lp.num l z = (v : Int)) (hz : z.size = 1 → Lp.byte z < 2 ^ b) : ∃ hv : v < l.length, l[v] = z := by
  unfold Lp.num at h
  split at h
  · rename_i h1
    have hb := hz h1
    have hlo := g.lo
    have e : v = Lp.byte z := by omega
    subst e
    refine ⟨by omega, ?_⟩
    obtain ⟨h2, e2⟩ := Lz.start_at hb
    have e3 : (l.take (2 ^ b + 2))[Lp.byte z]'(by rw [g.pre]; exact h2) = l[Lp.byte z] := List.getElem_take
    rw [← e3]
    simp only [g.pre]
    rw [e2]
    exact (Lp.one_of h1).symm
  · exact Lp.find_some h

theorem Lp.num_two {l : List ByteArray} {y c : ByteArray} (hc : c.size = 1) (hy : 1 ≤ y.size) : Lp.num l (y ++ c) = Lp.find l (y ++ c) := by
  unfold Lp.num
  rw [if_neg (by rw [ByteArray.size_append, hc]; omega)]
theorem Lp.num_more {l : List ByteArray} {z y : ByteArray} (h : 0 ≤ Lp.num l y) : Lp.num (l ++ [z]) y = Lp.num l y := by
  unfold Lp.num at h ⊢
  split
  · rfl
  · rename_i h1
    rw [if_neg h1] at h
    rw [Lp.find_app, if_pos h]
theorem app_inj {x y c d : ByteArray} (hc : c.size = 1) (hd : d.size = 1) (h : x ++ c = y ++ d) : x = y ∧ c = d := by
  have hl : (x.data.toList ++ c.data.toList) = (y.data.toList ++ d.data.toList) := by
    have := congrArg (fun z => z.data.toList) h
    simpa using this
  have hc' : c.data.toList.length = 1 := hc
  have hd' : d.data.toList.length = 1 := hd
  obtain ⟨h1, h2⟩ := List.append_inj' hl (by omega)
  exact ⟨ByteArray.ext (Array.toList_inj.1 h1), ByteArray.ext (Array.toList_inj.1 h2)⟩

/-- a text more -/
theorem Lq.inv_more {b : Nat} {l : List ByteArray} {z c : ByteArray} (g : Lq.Inv b l) (hc : c.size = 1) (hz : 1 ≤ z.size) (hk : 0 ≤ Lp.num l z) (hn : Lp.find l (z ++ c) < 0) : Lq.Inv b (l ++ [z ++ c]) := by
  have hlo := g.lo
  have hsz : (z ++ c).size = z.size + 1 := by rw [ByteArray.size_append, hc]
  have hnm : z ++ c ∉ l := fun h => by have := Lp.find_mem h; omega
  refine ⟨by simp; omega, by rw [List.take_append_of_le_length hlo]; exact g.pre, fun i h hi => ?_, fun i j h h' e hs => ?_, fun y d hd hy hf => ?_⟩
  · by_cases hil : i < l.length
    · rw [List.getElem_append_left hil]; exact g.big i hil hi
    · rw [List.getElem_append_right (by omega)]
      simp only [List.getElem_singleton]
      omega
  · simp only [List.length_append, List.length_singleton] at h h'
    by_cases hi : i < l.length <;> by_cases hj : j < l.length
    · rw [List.getElem_append_left hi, List.getElem_append_left hj] at e
      rw [List.getElem_append_left hi] at hs
      exact g.inj i j hi hj e hs
    · rw [List.getElem_append_left hi, List.getElem_append_right (by omega)] at e
      simp only [List.getElem_singleton] at e
      exact absurd (e ▸ List.getElem_mem hi) hnm
    · rw [List.getElem_append_right (by omega), List.getElem_append_left hj] at e
      simp only [List.getElem_singleton] at e
      exact absurd (e ▸ List.getElem_mem hj) hnm
    · omega
  · by_cases hf1 : 0 ≤ Lp.find l (y ++ d)
    · have := g.pc y d hd hy hf1
      rw [Lp.num_more this]; exact this
    · rw [Lp.find_app, if_neg hf1] at hf
      split at hf
      · rename_i e
        obtain ⟨rfl, rfl⟩ := app_inj hc hd e
        rw [Lp.num_more hk]; exact hk
      · omega

/-- what the table says at a number and a byte -/
def Lq.look (l : List ByteArray) (h c : Nat) : Int := if hh : h < l.length then (if (l[h]).size = 0 then -1 else Lp.find l (l[h] ++ Lz.one c)) else -1
theorem Lq.look_num {b v : Nat} (c : Nat) {l : List ByteArray} {z : ByteArray} (g : Lq.Inv b l) (h : Lp.num l z = (v : Int)) (hz : z.size = 1 → Lp.byte z < 2 ^ b) (hz1 : 1 ≤ z.size) : Lq.look l v c = Lp.num l (z ++ Lz.one c) := by
  obtain ⟨hv, e⟩ := Lq.at_num g h hz
  unfold Lq.look
  rw [dif_pos hv, e, if_neg (by omega), Lp.num_two rfl hz1]
theorem Lq.look_start {b : Nat} (h c : Nat) : Lq.look (Lz.start b) h c = -1 := by
  unfold Lq.look
  split
  · rename_i hh
    split
    · rfl
    · rename_i hs
      rcases Int.lt_or_le (Lp.find (Lz.start b) ((Lz.start b)[h] ++ Lz.one c)) 0 with h1 | h1
      · have := (Lp.find_bd (Lz.start b) ((Lz.start b)[h] ++ Lz.one c)).1
        omega
      · exfalso
        obtain ⟨v, hv⟩ := Int.eq_ofNat_of_zero_le h1
        obtain ⟨hvl, e⟩ := Lp.find_some hv
        have hsz : ((Lz.start b)[h] ++ Lz.one c).size = (Lz.start b)[h].size + 1 := by rw [ByteArray.size_append, Lz.one_size]
        have h2 : ((Lz.start b)[v]).size ≤ 1 := by
          rcases Nat.lt_or_ge v (2 ^ b) with h3 | h3
          · obtain ⟨_, e1⟩ := Lz.start_at h3
            rw [e1, Lz.one_size]; exact Nat.le_refl _
          · rw [Lz.start_big hvl h3]; exact Nat.zero_le _
        rw [e, hsz] at h2
        omega
  · rfl
/-- the table behind a text more -/
theorem Lq.look_more {b v c : Nat} {l : List ByteArray} {z : ByteArray} (g : Lq.Inv b l) (h : Lp.num l z = (v : Int)) (hz : z.size = 1 → Lp.byte z < 2 ^ b) (hz1 : 1 ≤ z.size) (hn : Lp.find l (z ++ Lz.one c) < 0) (hc : c < 256) (h' c' : Nat) (hc' : c' < 256) :
    Lq.look (l ++ [z ++ Lz.one c]) h' c' = if h' = v ∧ c' = c then (l.length : Int) else Lq.look l h' c' := by
  obtain ⟨hv, ev⟩ := Lq.at_num g h hz
  have hlen : (l ++ [z ++ Lz.one c]).length = l.length + 1 := by simp
  have hoi : ∀ i j : Nat, i < 256 → j < 256 → Lz.one i = Lz.one j → i = j := fun i j hi hj e => by
    have e3 := congrArg ByteArray.data e
    have e4 : UInt8.ofNat i = UInt8.ofNat j := by simpa [Lz.one] using e3
    have e5 := congrArg UInt8.toNat e4
    rw [UInt8.toNat_ofNat', UInt8.toNat_ofNat'] at e5
    omega
  by_cases hh : h' < l.length
  · have e1 : (l ++ [z ++ Lz.one c])[h']'(by omega) = l[h'] := List.getElem_append_left hh
    unfold Lq.look
    rw [dif_pos (by omega : h' < (l ++ [z ++ Lz.one c]).length), dif_pos hh, e1]
    by_cases hs : (l[h']).size = 0
    · rw [if_pos hs, if_pos hs, if_neg]
      rintro ⟨rfl, -⟩
      rw [ev] at hs
      omega
    · rw [if_neg hs, if_neg hs, Lp.find_app]
      by_cases hf : 0 ≤ Lp.find l (l[h'] ++ Lz.one c')
      · rw [if_pos hf, if_neg]
        rintro ⟨rfl, rfl⟩
        rw [ev] at hf
        omega
      · rw [if_neg hf]
        by_cases e : z ++ Lz.one c = l[h'] ++ Lz.one c'
        · obtain ⟨e2, e3⟩ := app_inj rfl rfl e
          have : h' = v := g.inj h' v hh hv (by rw [ev, e2]) hs
          rw [if_pos e, if_pos ⟨this, (hoi _ _ hc hc' e3).symm⟩]
        · rw [if_neg e, if_neg]
          · have := (Lp.find_bd l (l[h'] ++ Lz.one c')).1
            omega
          · rintro ⟨rfl, rfl⟩
            rw [ev] at e
            exact e rfl
  · have hne : ¬ (h' = v ∧ c' = c) := fun e => by omega
    rw [if_neg hne]
    unfold Lq.look
    rw [dif_neg hh]
    by_cases hx : h' = l.length
    · subst hx
      rw [dif_pos (by omega : l.length < (l ++ [z ++ Lz.one c]).length)]
      have e1 : (l ++ [z ++ Lz.one c])[l.length]'(by omega) = z ++ Lz.one c := by simp
      rw [e1]
      split
      · rfl
      · rw [Lp.find_app]
        have hs1 : (z ++ Lz.one c).size = z.size + 1 := by rw [ByteArray.size_append, Lz.one_size]
        have hs2 : (z ++ Lz.one c ++ Lz.one c').size = z.size + 2 := by rw [ByteArray.size_append, Lz.one_size, hs1]
        rw [if_neg, if_neg]
        · intro e
          have := congrArg ByteArray.size e
          omega
        · intro hf
          have := g.pc (z ++ Lz.one c) (Lz.one c') rfl (by omega) hf
          rw [Lp.num_two rfl hz1] at this
          omega
    · rw [dif_neg (by omega)]

/-- as far as it is known, the state stays -/
theorem Lq.run {b : Nat} {wide : Bool} {s : ByteArray} {p k : Nat} {l : List ByteArray} {out : List (Int × Int)} (h1 : Lp.at b wide s (p + 1) = ⟨l, out, s.extract p (p + 1)⟩)
    (hk : ∀ j, 1 ≤ j → j ≤ k → 0 ≤ Lp.num l (s.extract p (p + j))) : ∀ j, 1 ≤ j → j ≤ k → Lp.at b wide s (p + j) = ⟨l, out, s.extract p (p + j)⟩
  | 0, h, _ => absurd h (by omega)
  | 1, _, _ => h1
  | j + 2, _, h => by
    have ih := Lq.run h1 hk (j + 1) (by omega) (by omega)
    have e : p + (j + 2) = (p + (j + 1)) + 1 := by omega
    have es : s.extract p (p + (j + 1)) ++ s.extract (p + (j + 1)) (p + (j + 1) + 1) = s.extract p (p + (j + 2)) := by
      rw [ByteArray.extract_append_extract, Nat.min_eq_left (by omega), Nat.max_eq_right (by omega)]
      rfl
    rw [e]
    show Lp.one b wide (Lp.at b wide s (p + (j + 1))) (s.extract (p + (j + 1)) (p + (j + 1) + 1)) = _
    rw [ih]
    unfold Lp.one
    simp only [es]
    rw [if_pos (hk (j + 2) (by omega) h)]
    rfl
end Go.Proofs.Ytjfihmpnbblomaa
