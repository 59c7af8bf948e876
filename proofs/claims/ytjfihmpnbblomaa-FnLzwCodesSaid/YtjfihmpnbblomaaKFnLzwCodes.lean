/- Texts laid together: LqMath, LqMap, LqWr, LqFor, LpSmall, LqLong, LqLearn, LqLearn2. -/
import Derived.Test.YtjfihmpnbblomaaLpMath
import Derived.Test.YtjfihmpnbblomaaProg
import Derived.Test.YtjfihmpnbblomaaBase
import Derived.Maps.OwnSet
import Derived.DeepKeys4
import Derived.Test.YtjfihmpnbblomaaLzSmall
import Derived.Test.YtjfihmpnbblomaaEachReg
import Derived.Test.YtjfihmpnbblomaaBitOwn
import Derived.Test.YtjfihmpnbblomaaLzKeep
import Derived.Deep.Quiet
import Derived.Test.YtjfihmpnbblomaaLzStart
import Derived.BigQuiet
import Derived.Deep.QuietTactic
/- Packing by LZW with a table of pairs: its mathematics. -/
namespace Go.Proofs.Ytjfihmpnbblomaa

theorem Lp.from_app (s : ByteArray) : ∀ (l m : List ByteArray) (i : Nat), Lp.from s (l ++ m) i = if 0 ≤ Lp.from s l i then Lp.from s l i else Lp.from s m (i + l.length)
  | [], m, i => by simp [Lp.from]
  | x :: xs, m, i => by
    rw [List.cons_append, show Lp.from s (x :: (xs ++ m)) i = if x = s then (i : Int) else Lp.from s (xs ++ m) (i + 1) from rfl, show Lp.from s (x :: xs) i = if x = s then (i : Int) else Lp.from s xs (i + 1) from rfl]
    by_cases h : x = s
    · rw [if_pos h, if_pos h, if_pos (by omega)]
    · rw [if_neg h, if_neg h, Lp.from_app s xs m (i + 1)]
      rw [List.length_cons, show i + 1 + xs.length = i + (xs.length + 1) by omega]
theorem Lp.from_some (s : ByteArray) : ∀ (l : List ByteArray) (i v : Nat), Lp.from s l i = (v : Int) → ∃ h : v - i < l.length, i ≤ v ∧ l[v - i] = s
  | [], i, v, h => by unfold Lp.from at h; omega
  | x :: xs, i, v, h => by
    unfold Lp.from at h
    split at h
    · rename_i e
      have : v = i := by omega
      subst this
      exact ⟨by simp, Nat.le_refl _, by simpa using e⟩
    · obtain ⟨h1, h2, h3⟩ := Lp.from_some s xs (i + 1) v h
      refine ⟨by simp only [List.length_cons]; omega, by omega, ?_⟩
      have e : v - i = (v - (i + 1)) + 1 := by omega
      simp only [e, List.getElem_cons_succ]
      exact h3
theorem Lp.find_some {l : List ByteArray} {s : ByteArray} {v : Nat} (h : Lp.find l s = (v : Int)) : ∃ hv : v < l.length, l[v] = s := by
  obtain ⟨h1, _, h3⟩ := Lp.from_some s l 0 v h
  exact ⟨by simpa using h1, by simpa using h3⟩
theorem Lp.from_mem (s : ByteArray) : ∀ (l : List ByteArray) (i : Nat), s ∈ l → 0 ≤ Lp.from s l i
  | x :: xs, i, h => by
    unfold Lp.from
    split
    · omega
    · rename_i hx
      rcases List.mem_cons.1 h with e | e
      · exact absurd e.symm hx
      · exact Lp.from_mem s xs (i + 1) e
theorem Lp.find_mem {l : List ByteArray} {s : ByteArray} (h : s ∈ l) : 0 ≤ Lp.find l s := Lp.from_mem s l 0 h
theorem Lp.find_app (l : List ByteArray) (z s : ByteArray) : Lp.find (l ++ [z]) s = if 0 ≤ Lp.find l s then Lp.find l s else if z = s then (l.length : Int) else -1 := by
  unfold Lp.find
  rw [Lp.from_app]
  split
  · rfl
  · unfold Lp.from
    split
    · rw [Nat.zero_add]
    · rfl

/-- what holds of the texts that are known -/
structure Lq.Inv (b : Nat) (l : List ByteArray) : Prop where
  lo : 2 ^ b + 2 ≤ l.length
  pre : l.take (2 ^ b + 2) = Lz.start b
  big : ∀ i (h : i < l.length), 2 ^ b + 2 ≤ i → 2 ≤ (l[i]).size
  inj : ∀ i j (h : i < l.length) (h' : j < l.length), l[i] = l[j] → (l[i]).size ≠ 0 → i = j
  pc : ∀ y c : ByteArray, c.size = 1 → 1 ≤ y.size → 0 ≤ Lp.find l (y ++ c) → 0 ≤ Lp.num l y

theorem Lz.start_at {b i : Nat} (h : i < 2 ^ b) : ∃ h' : i < (Lz.start b).length, (Lz.start b)[i] = Lz.one i := by
  refine ⟨by rw [Lz.start_len]; omega, ?_⟩
  simp only [Lz.start]
  rw [List.getElem_append_left (by simpa using h), List.getElem_map, List.getElem_range]
theorem Lz.start_big {b i : Nat} (h : i < (Lz.start b).length) (hi : 2 ^ b ≤ i) : (Lz.start b)[i] = ⟨#[]⟩ := by
  have hl := Lz.start_len b
  simp only [Lz.start]
  rw [List.getElem_append_right (by simpa using hi)]
  rcases (show i - 2 ^ b = 0 ∨ i - 2 ^ b = 1 by omega) with e | e <;> simp [e]
theorem Lp.one_of {x : ByteArray} (h : x.size = 1) : x = Lz.one (Lp.byte x) := by
  obtain ⟨⟨l⟩⟩ := x
  match l, h with
  | [a], _ => simp [Lz.one, Lp.byte]

theorem Lq.inv_start {b : Nat} (hb : b ≤ 8) : Lq.Inv b (Lz.start b) := by
  have hl := Lz.start_len b
  have hp := Lz.pow_le hb
  refine ⟨by omega, List.take_of_length_le (by omega), fun i h hi => by omega, fun i j h h' e hs => ?_, fun y c hc hy hf => ?_⟩
  · have hi : i < 2 ^ b := by
      rcases Nat.lt_or_ge i (2 ^ b) with h1 | h1
      · exact h1
      · rw [Lz.start_big h h1] at hs; exact absurd rfl hs
    have hj : j < 2 ^ b := by
      rcases Nat.lt_or_ge j (2 ^ b) with h1 | h1
      · exact h1
      · rw [e, Lz.start_big h' h1] at hs; exact absurd rfl hs
    obtain ⟨_, e1⟩ := Lz.start_at hi
    obtain ⟨_, e2⟩ := Lz.start_at hj
    rw [e1, e2] at e
    have e3 : UInt8.ofNat i = UInt8.ofNat j := by
      have := congrArg ByteArray.data e
      simpa [Lz.one] using this
    have e4 := congrArg UInt8.toNat e3
    rw [UInt8.toNat_ofNat', UInt8.toNat_ofNat'] at e4
    omega
  · have hn : 0 ≤ (Lp.find (Lz.start b) (y ++ c)) := hf
    obtain ⟨v, hv⟩ := Int.eq_ofNat_of_zero_le hn
    obtain ⟨hvl, e⟩ := Lp.find_some hv
    exfalso
    have hs : (y ++ c).size = y.size + 1 := by rw [ByteArray.size_append, hc]
    rcases Nat.lt_or_ge v (2 ^ b) with h1 | h1
    · obtain ⟨_, e1⟩ := Lz.start_at h1
      rw [e1] at e
      have := congrArg ByteArray.size e
      rw [Lz.one_size, hs] at this
      omega
    · rw [Lz.start_big hvl h1] at e
      have h0 : (ByteArray.mk #[]).size = 0 := rfl
      have := congrArg ByteArray.size e
      rw [hs, h0] at this
      omega

/-- a number stands for its text -/
theorem Lq.at_num {b v : Nat} {l : List ByteArray} {z : ByteArray} (g : Lq.Inv b l) (h : Lp.num l z = (v : Int)) (hz : z.size = 1 → Lp.byte z < 2 ^ b) : ∃ hv : v < l.length, l[v] = z := by
  unfold Lp.num at h
  split at h
  · rename_i h1
    have hb := hz h1
    have hlo := g.lo
    have e : v = Lp.byte z := by omega
    subst e
    refine ⟨by omega, ?_⟩
    obtain ⟨h2, e2⟩ := Lz.start_at hb
    have e3 : (l.take (2 ^ b + 2))[Lp.byte z]'(by rw [g.pre]; exact h2) = l[Lp.byte z] := List.getElem_take
    rw [← e3]
    simp only [g.pre]
    rw [e2]
    exact (Lp.one_of h1).symm
  · exact Lp.find_some h

theorem Lp.num_two {l : List ByteArray} {y c : ByteArray} (hc : c.size = 1) (hy : 1 ≤ y.size) : Lp.num l (y ++ c) = Lp.find l (y ++ c) := by
  unfold Lp.num
  rw [if_neg (by rw [ByteArray.size_append, hc]; omega)]
theorem Lp.num_more {l : List ByteArray} {z y : ByteArray} (h : 0 ≤ Lp.num l y) : Lp.num (l ++ [z]) y = Lp.num l y := by
  unfold Lp.num at h ⊢
  split
  · rfl
  · rename_i h1
    rw [if_neg h1] at h
    rw [Lp.find_app, if_pos h]
theorem app_inj {x y c d : ByteArray} (hc : c.size = 1) (hd : d.size = 1) (h : x ++ c = y ++ d) : x = y ∧ c = d := by
  have hl : (x.data.toList ++ c.data.toList) = (y.data.toList ++ d.data.toList) := by
    have := congrArg (fun z => z.data.toList) h
    simpa using this
  have hc' : c.data.toList.length = 1 := hc
  have hd' : d.data.toList.length = 1 := hd
  obtain ⟨h1, h2⟩ := List.append_inj' hl (by omega)
  exact ⟨ByteArray.ext (Array.toList_inj.1 h1), ByteArray.ext (Array.toList_inj.1 h2)⟩

/-- a text more -/
theorem Lq.inv_more {b : Nat} {l : List ByteArray} {z c : ByteArray} (g : Lq.Inv b l) (hc : c.size = 1) (hz : 1 ≤ z.size) (hk : 0 ≤ Lp.num l z) (hn : Lp.find l (z ++ c) < 0) : Lq.Inv b (l ++ [z ++ c]) := by
  have hlo := g.lo
  have hsz : (z ++ c).size = z.size + 1 := by rw [ByteArray.size_append, hc]
  have hnm : z ++ c ∉ l := fun h => by have := Lp.find_mem h; omega
  refine ⟨by simp; omega, by rw [List.take_append_of_le_length hlo]; exact g.pre, fun i h hi => ?_, fun i j h h' e hs => ?_, fun y d hd hy hf => ?_⟩
  · by_cases hil : i < l.length
    · rw [List.getElem_append_left hil]; exact g.big i hil hi
    · rw [List.getElem_append_right (by omega)]
      simp only [List.getElem_singleton]
      omega
  · simp only [List.length_append, List.length_singleton] at h h'
    by_cases hi : i < l.length <;> by_cases hj : j < l.length
    · rw [List.getElem_append_left hi, List.getElem_append_left hj] at e
      rw [List.getElem_append_left hi] at hs
      exact g.inj i j hi hj e hs
    · rw [List.getElem_append_left hi, List.getElem_append_right (by omega)] at e
      simp only [List.getElem_singleton] at e
      exact absurd (e ▸ List.getElem_mem hi) hnm
    · rw [List.getElem_append_right (by omega), List.getElem_append_left hj] at e
      simp only [List.getElem_singleton] at e
      exact absurd (e ▸ List.getElem_mem hj) hnm
    · omega
  · by_cases hf1 : 0 ≤ Lp.find l (y ++ d)
    · have := g.pc y d hd hy hf1
      rw [Lp.num_more this]; exact this
    · rw [Lp.find_app, if_neg hf1] at hf
      split at hf
      · rename_i e
        obtain ⟨rfl, rfl⟩ := app_inj hc hd e
        rw [Lp.num_more hk]; exact hk
      · omega

/-- what the table says at a number and a byte -/
def Lq.look (l : List ByteArray) (h c : Nat) : Int := if hh : h < l.length then (if (l[h]).size = 0 then -1 else Lp.find l (l[h] ++ Lz.one c)) else -1
theorem Lq.look_num {b v : Nat} (c : Nat) {l : List ByteArray} {z : ByteArray} (g : Lq.Inv b l) (h : Lp.num l z = (v : Int)) (hz : z.size = 1 → Lp.byte z < 2 ^ b) (hz1 : 1 ≤ z.size) : Lq.look l v c = Lp.num l (z ++ Lz.one c) := by
  obtain ⟨hv, e⟩ := Lq.at_num g h hz
  unfold Lq.look
  rw [dif_pos hv, e, if_neg (by omega), Lp.num_two rfl hz1]
theorem Lq.look_start {b : Nat} (h c : Nat) : Lq.look (Lz.start b) h c = -1 := by
  unfold Lq.look
  split
  · rename_i hh
    split
    · rfl
    · rename_i hs
      rcases Int.lt_or_le (Lp.find (Lz.start b) ((Lz.start b)[h] ++ Lz.one c)) 0 with h1 | h1
      · have := (Lp.find_bd (Lz.start b) ((Lz.start b)[h] ++ Lz.one c)).1
        omega
      · exfalso
        obtain ⟨v, hv⟩ := Int.eq_ofNat_of_zero_le h1
        obtain ⟨hvl, e⟩ := Lp.find_some hv
        have hsz : ((Lz.start b)[h] ++ Lz.one c).size = (Lz.start b)[h].size + 1 := by rw [ByteArray.size_append, Lz.one_size]
        have h2 : ((Lz.start b)[v]).size ≤ 1 := by
          rcases Nat.lt_or_ge v (2 ^ b) with h3 | h3
          · obtain ⟨_, e1⟩ := Lz.start_at h3
            rw [e1, Lz.one_size]; exact Nat.le_refl _
          · rw [Lz.start_big hvl h3]; exact Nat.zero_le _
        rw [e, hsz] at h2
        omega
  · rfl
/-- the table behind a text more -/
theorem Lq.look_more {b v c : Nat} {l : List ByteArray} {z : ByteArray} (g : Lq.Inv b l) (h : Lp.num l z = (v : Int)) (hz : z.size = 1 → Lp.byte z < 2 ^ b) (hz1 : 1 ≤ z.size) (hn : Lp.find l (z ++ Lz.one c) < 0) (hc : c < 256) (h' c' : Nat) (hc' : c' < 256) :
    Lq.look (l ++ [z ++ Lz.one c]) h' c' = if h' = v ∧ c' = c then (l.length : Int) else Lq.look l h' c' := by
  obtain ⟨hv, ev⟩ := Lq.at_num g h hz
  have hlen : (l ++ [z ++ Lz.one c]).length = l.length + 1 := by simp
  have hoi : ∀ i j : Nat, i < 256 → j < 256 → Lz.one i = Lz.one j → i = j := fun i j hi hj e => by
    have e3 := congrArg ByteArray.data e
    have e4 : UInt8.ofNat i = UInt8.ofNat j := by simpa [Lz.one] using e3
    have e5 := congrArg UInt8.toNat e4
    rw [UInt8.toNat_ofNat', UInt8.toNat_ofNat'] at e5
    omega
  by_cases hh : h' < l.length
  · have e1 : (l ++ [z ++ Lz.one c])[h']'(by omega) = l[h'] := List.getElem_append_left hh
    unfold Lq.look
    rw [dif_pos (by omega : h' < (l ++ [z ++ Lz.one c]).length), dif_pos hh, e1]
    by_cases hs : (l[h']).size = 0
    · rw [if_pos hs, if_pos hs, if_neg]
      rintro ⟨rfl, -⟩
      rw [ev] at hs
      omega
    · rw [if_neg hs, if_neg hs, Lp.find_app]
      by_cases hf : 0 ≤ Lp.find l (l[h'] ++ Lz.one c')
      · rw [if_pos hf, if_neg]
        rintro ⟨rfl, rfl⟩
        rw [ev] at hf
        omega
      · rw [if_neg hf]
        by_cases e : z ++ Lz.one c = l[h'] ++ Lz.one c'
        · obtain ⟨e2, e3⟩ := app_inj rfl rfl e
          have : h' = v := g.inj h' v hh hv (by rw [ev, e2]) hs
          rw [if_pos e, if_pos ⟨this, (hoi _ _ hc hc' e3).symm⟩]
        · rw [if_neg e, if_neg]
          · have := (Lp.find_bd l (l[h'] ++ Lz.one c')).1
            omega
          · rintro ⟨rfl, rfl⟩
            rw [ev] at e
            exact e rfl
  · have hne : ¬ (h' = v ∧ c' = c) := fun e => by omega
    rw [if_neg hne]
    unfold Lq.look
    rw [dif_neg hh]
    by_cases hx : h' = l.length
    · subst hx
      rw [dif_pos (by omega : l.length < (l ++ [z ++ Lz.one c]).length)]
      have e1 : (l ++ [z ++ Lz.one c])[l.length]'(by omega) = z ++ Lz.one c := by simp
      rw [e1]
      split
      · rfl
      · rw [Lp.find_app]
        have hs1 : (z ++ Lz.one c).size = z.size + 1 := by rw [ByteArray.size_append, Lz.one_size]
        have hs2 : (z ++ Lz.one c ++ Lz.one c').size = z.size + 2 := by rw [ByteArray.size_append, Lz.one_size, hs1]
        rw [if_neg, if_neg]
        · intro e
          have := congrArg ByteArray.size e
          omega
        · intro hf
          have := g.pc (z ++ Lz.one c) (Lz.one c') rfl (by omega) hf
          rw [Lp.num_two rfl hz1] at this
          omega
    · rw [dif_neg (by omega)]

/-- as far as it is known, the state stays -/
theorem Lq.run {b : Nat} {wide : Bool} {s : ByteArray} {p k : Nat} {l : List ByteArray} {out : List (Int × Int)} (h1 : Lp.at b wide s (p + 1) = ⟨l, out, s.extract p (p + 1)⟩)
    (hk : ∀ j, 1 ≤ j → j ≤ k → 0 ≤ Lp.num l (s.extract p (p + j))) : ∀ j, 1 ≤ j → j ≤ k → Lp.at b wide s (p + j) = ⟨l, out, s.extract p (p + j)⟩
  | 0, h, _ => absurd h (by omega)
  | 1, _, _ => h1
  | j + 2, _, h => by
    have ih := Lq.run h1 hk (j + 1) (by omega) (by omega)
    have e : p + (j + 2) = (p + (j + 1)) + 1 := by omega
    have es : s.extract p (p + (j + 1)) ++ s.extract (p + (j + 1)) (p + (j + 1) + 1) = s.extract p (p + (j + 2)) := by
      rw [ByteArray.extract_append_extract, Nat.min_eq_left (by omega), Nat.max_eq_right (by omega)]
      rfl
    rw [e]
    show Lp.one b wide (Lp.at b wide s (p + (j + 1))) (s.extract (p + (j + 1)) (p + (j + 1) + 1)) = _
    rw [ih]
    unfold Lp.one
    simp only [es]
    rw [if_pos (hk (j + 2) (by omega) h)]
    rfl
end Go.Proofs.Ytjfihmpnbblomaa

/- The table of pairs in memory. -/
namespace Go.Proofs.Ytjfihmpnbblomaa
open Go.RowKit Go.Maps

theorem laidOut_ : laidOutB Try.prog = true := by kernel_rfl
theorem row_pair : (69 : TypeId) < Try.prog.types.size := of_decide_eq_true (by kernel_rfl)
set_option maxRecDepth 100000 in
theorem ktype_pair : Try.prog.keyTypeAt 2 69 = true := by kernel_rfl
theorem key_pair : Keyed Try.prog 69 := Keyed.of_law (deep_law_laid laidOut_ (m := 2) (Nat.le_of_ble_eq_true rfl) row_pair ktype_pair (by rw [Try.underlying69]))
def pairV (h c : Nat) : Value := .agg #[.int .i64 (h : Int), .int .u8 (c : Int)]
theorem cells_pair : Try.prog.cellsOf 69 = 2 := by kernel_rfl
theorem cells_i : Try.prog.cellsOf 3 = 1 := by kernel_rfl
theorem cells_b : Try.prog.cellsOf 5 = 1 := by kernel_rfl
set_option maxRecDepth 100000 in
theorem kt_pair : Try.prog.keyType 69 = true := by kernel_rfl
theorem size_pos {n k : Nat} (h : k < n) : ∃ d, n = d + 1 := ⟨n - 1, by omega⟩
def pairKey (h c : Nat) : Lit := .string (keyBytes [.int .i64 (h : Int), .int .u8 (c : Int)])
theorem pairKey_of (h c : Nat) (hh : h ≤ 100000) (hc : c < 256) : keyOf Try.prog 69 (pairV h c) = some (pairKey h c) := by
  have w1 : (Lit.int .i64 (h : Int)).wf = true := WalkArith.wf_i64 (by omega)
  have w2 : (Lit.int .u8 (c : Int)).wf = true := WalkArith.wf_u8 (by omega)
  have hl : Try.prog.keyLits (Try.prog.types.size + 1) 69 (pairV h c).cells.toList = some [.int .i64 (h : Int), .int .u8 (c : Int)] := by
    show Try.prog.keyLits (Try.prog.types.size + 1) 69 [.int .i64 (h : Int), .int .u8 (c : Int)] = _
    obtain ⟨d, hd⟩ := size_pos row_pair
    rw [hd]
    unfold Program.keyLits
    simp only [Try.underlying69]
    have k1 : Try.prog.keyLits (d + 1) 3 [.int .i64 (h : Int)] = some [.int .i64 (h : Int)] := by
      unfold Program.keyLits
      simp only [Try.underlying3]
      rw [if_pos ⟨trivial, w1⟩]
    have k2 : Try.prog.keyLits (d + 1) 5 [.int .u8 (c : Int)] = some [.int .u8 (c : Int)] := by
      unfold Program.keyLits
      simp only [Try.underlying5]
      rw [if_pos ⟨trivial, w2⟩]
    rw [if_pos ⟨by rw [cells_pair]; rfl, by simp⟩]
    simp [cells_i, cells_b, k1, k2]
  have hf : (pairV h c).formed Try.prog 69 = true := by simp [pairV, Value.formed, Try.underlying69, cells_pair]
  unfold keyOf
  simp only [Try.underlying69, kt_pair, hf, hl, Bool.and_self, if_true, Option.map_some]
  rfl

theorem pairKey_inj {h c h' c' : Nat} (hh : h ≤ 100000) (hc : c < 256) (hh' : h' ≤ 100000) (hc' : c' < 256) (e : pairKey h c = pairKey h' c') : h = h' ∧ c = c' := by
  have h1 := pairKey_of h c hh hc
  have h2 := pairKey_of h' c' hh' hc'
  rw [← e] at h2
  have h3 := key_pair.inj h1 h2
  unfold pairV at h3
  injection h3 with h4
  simp at h4
  omega
theorem pairKey_lit (h c : Nat) : WideAt.IsKeyLit (pairKey h c) := trivial

/-- the table tells what is known -/
structure TabIs (D : DataW Unit) (b : Nat) (l : List ByteArray) : Prop where
  isMap : IsMap D
  has_ : ∀ h c : Nat, h ≤ 100000 → c < 256 → has D (pairKey h c) = decide (0 ≤ Lq.look l h c)
  at_ : ∀ h c : Nat, h ≤ 100000 → c < 256 → 0 ≤ Lq.look l h c → ∀ z, D.atKey (pairKey h c) z = .lit (.int .i64 (Lq.look l h c))
  size_ : size D + (2 ^ b + 2) = l.length
theorem tab_start (b : Nat) : TabIs (.map []) b (Lz.start b) :=
  ⟨isMap_empty, fun h c _ _ => by rw [Lq.look_start]; rfl, fun h c _ _ hl => by rw [Lq.look_start] at hl; omega, by rw [Lz.start_len]; show 0 + _ = _; omega⟩
theorem TabIs.more {D : DataW Unit} {b v c : Nat} {l : List ByteArray} {z : ByteArray} (t : TabIs D b l) (ti : Tidy D) (g : Lq.Inv b l) (h : Lp.num l z = (v : Int)) (hz : z.size = 1 → Lp.byte z < 2 ^ b) (hz1 : 1 ≤ z.size) (hn : Lp.find l (z ++ Lz.one c) < 0) (hc : c < 256) (hv : v ≤ 100000) :
    TabIs (D.put (pairKey v c) (.lit (.int .i64 (l.length : Int)))) b (l ++ [z ++ Lz.one c]) := by
  have hlk : Lq.look l v c < 0 := by rw [Lq.look_num c g h hz hz1, Lp.num_two rfl hz1]; exact hn
  have hh0 : has D (pairKey v c) = false := by rw [t.has_ v c hv hc]; exact decide_eq_false (by omega)
  refine ⟨t.isMap.put _ _, fun h' c' hh' hc' => ?_, fun h' c' hh' hc' hl y => ?_, ?_⟩
  · rw [Lq.look_more g h hz hz1 hn hc h' c' hc']
    by_cases e : h' = v ∧ c' = c
    · obtain ⟨rfl, rfl⟩ := e
      rw [if_pos ⟨rfl, rfl⟩, has_put_same t.isMap (pairKey_lit _ _)]
      exact (decide_eq_true (by omega)).symm
    · rw [if_neg e, has_put_other (fun q => e (pairKey_inj hh' hc' hv hc q)), t.has_ h' c' hh' hc']
  · rw [Lq.look_more g h hz hz1 hn hc h' c' hc'] at hl ⊢
    by_cases e : h' = v ∧ c' = c
    · obtain ⟨rfl, rfl⟩ := e
      rw [if_pos ⟨rfl, rfl⟩, atKey_put_same t.isMap (pairKey_lit _ _)]
    · rw [if_neg e] at hl ⊢
      rw [atKey_put_other (fun q => e (pairKey_inj hh' hc' hv hc q)), t.at_ h' c' hh' hc' hl]
  · rw [size_put ti, hh0, List.length_append]
    have := t.size_
    simp
    omega
end Go.Proofs.Ytjfihmpnbblomaa

/- The writer of LZW in memory: put. -/
namespace Go.Proofs.Ytjfihmpnbblomaa
open Go.RowKit Go.Maps

/-- the writer in block B -/
def Wr (w : World) (B b : Nat) (wide : Bool) (mv : Value) (since : Nat) (ov : Value) : Prop :=
  w.heap[B]? = some (.cells #[.int .i64 (b : Int), .bool wide, mv, .int .i64 (since : Int), ov] 63 (0, 0))
theorem Wr.lt {w : World} {B b since : Nat} {wide : Bool} {mv ov : Value} (h : Wr w B b wide mv since ov) : B < w.heap.size := (Array.getElem?_eq_some_iff.1 h).1
theorem Wr.cell {w : World} {B b since : Nat} {wide : Bool} {mv ov : Value} (h : Wr w B b wide mv since ov) (i : Nat) : w.cell? ⟨B, i, none⟩ = (#[Value.int .i64 (b : Int), .bool wide, mv, .int .i64 (since : Int), ov])[i]? := by
  simp [World.cell?, show w.heap[B]? = _ from h]
theorem Wr.free {w : World} {B b since : Nat} {wide : Bool} {mv ov : Value} (h : Wr w B b wide mv since ov) (i : Nat) : w.frozen? ⟨B, i, none⟩ = false := by
  simp [World.frozen?, show w.heap[B]? = _ from h]
theorem Wr.same {w w' : World} {B b since : Nat} {wide : Bool} {mv ov : Value} (h : Wr w B b wide mv since ov) (hb : w'.heap[B]? = w.heap[B]?) : Wr w' B b wide mv since ov := hb.trans h
theorem Wr.set {w : World} {B b since since' : Nat} {wide : Bool} {mv ov mv' ov' u : Value} {i : Nat} (h : Wr w B b wide mv since ov)
    (hi : (#[Value.int .i64 (b : Int), .bool wide, mv, .int .i64 (since : Int), ov]).setIfInBounds i u = #[Value.int .i64 (b : Int), .bool wide, mv', .int .i64 (since' : Int), ov']) : Wr (w.setCell ⟨B, i, none⟩ u) B b wide mv' since' ov' := by
  unfold Wr
  rw [setCell_eq_setRow w B i _ _ (0, 0) _ h, hi]
  exact setRow_heap w B _ _ _ _ h
theorem Wr.apart {w : World} {B b since lo n z e : Nat} {wide : Bool} {mv ov v : Value} {l : List Value} (h : Wr w B b wide mv since ov) (ho : w.ownsRow lo e z v n l) (hne : e ≠ 63) : v.ownBlock ≠ some B := fun hk => by
  rcases ho.2 with ⟨rfl, _⟩ | ⟨g, cap, cur, rfl, _, hg, _⟩
  · cases hk
  · have e : g = B := by cases hk; rfl
    subst e
    rw [show w.heap[g]? = _ from h] at hg
    cases hg
    exact hne rfl
/-- the state told while a region runs -/
def WrT (w : World) (B b : Nat) (wide : Bool) (mv : Value) (since : Nat) (ov : Value) (wy : World) : Prop := Wr wy B b wide mv since ov ∧ Below w.heap.size w wy
theorem WrT.kept {w wy wz : World} {B b since : Nat} {wide : Bool} {mv ov : Value} (h : WrT w B b wide mv since ov wy) (hb : Below wy.heap.size wy wz) : WrT w B b wide mv since ov wz := ⟨h.1.same (hb.block _ h.1.lt), h.2.trans (hb.mono h.2.size)⟩
theorem WrT.new {w : World} {B b since : Nat} {wide : Bool} {mv ov : Value} (h : Wr w B b wide mv since ov) : WrT w B b wide mv since ov w.drew := ⟨h, (Below.refl _ _).drew⟩

/-- what a put turns: the writer, the row of bits, new blocks -/
structure WrG (B : Nat) (ov : Value) (w w' : World) : Prop where
  os : w'.os = w.os
  tape : w'.tape = w.tape
  output : w'.output = w.output
  size : w.heap.size ≤ w'.heap.size
  block : ∀ k, k < w.heap.size → k ≠ B → some k ≠ ov.ownBlock → w'.heap[k]? = w.heap[k]?
theorem WrG.set {B : Nat} {ov : Value} {w w' : World} (h : WrG B ov w w') (i : Nat) (v : Value) : WrG B ov w (w'.setCell ⟨B, i, none⟩ v) :=
  ⟨h.os, h.tape, h.output, by rw [World.size_setCell]; exact h.size, fun k hk hB ho => (Below.heap_setCell w' ⟨B, i, none⟩ v k hB).trans (h.block k hk hB ho)⟩
theorem WrG.below {B base : Nat} {ov : Value} {w w' W : World} (h : WrG B ov w w') (hb : Below base W w) (hB : base ≤ B) (hs : base ≤ w.heap.size) (ho : ∀ k, ov.ownBlock = some k → base ≤ k) : Below base W w' :=
  hb.trans ⟨h.os, h.tape, h.output, h.size, fun k hk => h.block k (by omega) (by omega) (fun e => by have := ho k e.symm; omega)⟩

/-- one pair in a block of its own -/
def LayP (v : Value) (w : World) (x : Int × Int) : Prop := ∃ b : Nat, v = .slice (some ⟨b, 0, none⟩) 1 1 ∧ w.cell? ⟨b, 0, none⟩ = some (.int .i64 x.1) ∧ w.cell? ⟨b, 1, none⟩ = some (.int .i64 x.2)
theorem LayP.kept {v : Value} {w w' : World} {x : Int × Int} (h : LayP v w x) (hb : Below w.heap.size w w') : LayP v w' x := by
  obtain ⟨b, h1, h2, h3⟩ := h
  have hlt := World.block_lt_of_cell? w _ h2
  exact ⟨b, h1, (hb.cell (p := ⟨b, 0, none⟩) hlt).trans h2, (hb.cell (p := ⟨b, 1, none⟩) hlt).trans h3⟩
theorem layP_new (w : World) (x : Int × Int) : LayP (.slice (some ⟨w.heap.size, 0, none⟩) 1 1) (w.alloc (.cells #[.int .i64 x.1, .int .i64 x.2] 94)) x := ⟨w.heap.size, rfl, by simp, by simp⟩
theorem step_appP {ops : Array Oper} {o : Oper} {a : Act} {K : Act → World → Prop} {Q : Exit → Act → World → Prop} {E : Prop} (w : World) (hgd : o.guard = none) (s x : Operand)
    (ho : o.op = .call { callee := .builtin .append, args := #[s, x], argTypes := #[61, 61] })
    (base : Nat) (v : Value) (n : Nat) (l : List (Int × Int)) (z : Int × Int) (b : Nat) (hs : a.eval s = v) (hown : OwnP w base v n l) (hx : a.eval x = .slice (some ⟨b, 0, none⟩) 1 1) (hc : w.cell? ⟨b, 0, none⟩ = some (.int .i64 z.1)) (hc1 : w.cell? ⟨b, 1, none⟩ = some (.int .i64 z.2)) (hn : n ≤ 2000000) (hb : base ≤ w.heap.size)
    (h : ∀ g cap w', OwnP w' base (.slice (some ⟨g, 0, none⟩) (n + 1) cap) (n + 1) (l ++ [z]) → Grew base w w' v g → K (a.put o.dst (.slice (some ⟨g, 0, none⟩) (n + 1) cap)) w') :
    if Region.wanted o (yielded ops a.tmps) = true then Oper.wp Try.prog o a w K Q else E := by
  obtain ⟨i0, hi0, hz0, hz1, hz2⟩ := info_parts info_bit
  refine step_append_lies _ hgd s x _ ho base 94 i0 (.agg #[.int .i64 0, .int .i64 0]) 2 16 Try.underlying61 hi0 hz0 hz1 hz2 rfl (by decide) v n (cellsOf l) hs hown ⟨b, 0, none⟩ 1 1 [.int .i64 z.1, .int .i64 z.2] hx rfl ?_ (fun u hu => by simp at hu; rcases hu with rfl | rfl <;> rfl) (by decide) (by unfold maxLen; omega) (by omega) hb _ rfl ?_
  · intro j u hj
    match j, hj with
    | 0, hj => simp at hj; subst hj; simpa [Addr.add] using hc
    | 1, hj => simp at hj; subst hj; simpa [Addr.add] using hc1
  · intro g cap w' hown' hg hat hlt
    exact h g cap w' (OwnP.more hown') (Grew.of2 hown hg hat hlt)

set_option linter.unusedSimpArgs false in
set_option linter.unusedVariables false in
set_option maxHeartbeats 2000000 in
set_option maxRecDepth 20000 in
theorem wrPut (B b since n lo : Nat) (wide : Bool) (mv ov : Value) (v : Int) (out : List (Int × Int)) (C : Int × Int) (w : World) (hb : b ≤ 8) (h : Wr w B b wide mv since ov) (ho : OwnP w lo ov n out) (hlo : lo ≤ w.heap.size) (hn : n ≤ 100000) (hs : since ≤ 4200) (hC : C = (v, (Lz.width b wide (2 ^ b + 2 + (since - 1)) : Int))) :
    Calls Try.prog 40 #[.pointer (some ⟨B, 0, none⟩), .int .i64 v] w fun e w' => e = .returned (.tuple #[]) ∧ ∃ g cap, Wr w' B b wide mv (since + 1) (.slice (some ⟨g, 0, none⟩) (n + 1) cap) ∧ OwnP w' lo (.slice (some ⟨g, 0, none⟩) (n + 1) cap) (n + 1) (out ++ [C]) ∧ WrG B ov w w' := by
  have hpw := Lz.pow_le hb
  have HFI : Hid (∀ w', Calls Try.prog 58 #[.agg #[.int .i64 (b : Int), .bool wide]] w' fun e w'' => e = .returned (.int .i64 ((2 ^ b + 2 : Nat) : Int)) ∧ Below w'.heap.size w' w'') := fun w' => lzFirst_any b hb wide w'
  obtain ⟨K0, hK0⟩ : ∃ K0 : Nat, K0 = 2 ^ b + 2 + (since - 1) := ⟨_, rfl⟩
  have HWI : Hid (∀ w', Calls Try.prog 59 #[.agg #[.int .i64 (b : Int), .bool wide], .int .i64 (K0 : Int)] w' fun e w'' => e = .returned (.int .i64 (Lz.width b wide K0 : Int)) ∧ Below w'.heap.size w' w'') := fun w' => lzWidth_any b K0 hb (by omega) wide w'
  obtain ⟨W0, hW0⟩ : ∃ W0, W0 = Lz.width b wide K0 := ⟨_, rfl⟩
  rw [← hW0] at HWI
  have hC2 : C = (v, (W0 : Int)) := by rw [hC, hW0, hK0]
  obtain ⟨F, hF⟩ : ∃ F : Nat, F = 2 ^ b + 2 := ⟨_, rfl⟩
  rw [← hF] at HFI
  obtain ⟨M, hM⟩ : ∃ M : Nat, M = since - 1 := ⟨_, rfl⟩
  have eK : (F : Int) + (M : Int) = (K0 : Int) := by omega
  have eM : (if (since : Int) - 1 < 0 then 0 else (since : Int) - 1) = (M : Int) := by split <;> omega
  have wS : IntKind.i64.wrap ((since : Int) - 1) = (since : Int) - 1 := by
    by_cases h0 : since = 0
    · subst h0; rfl
    · have e := wrap_i64_nat (since - 1) (by omega)
      rw [show (((since - 1 : Nat)) : Int) = (since : Int) - 1 by omega] at e
      exact e
  have wK : IntKind.i64.wrap (K0 : Int) = (K0 : Int) := wrap_i64_nat K0 (by omega)
  have hsb : (since : Int) ≤ 4200 := by omega
  have HOP : Hid (OwnP w lo ov n out) := ho
  have HL : Hid (Wr w B b wide mv since ov) := h
  have HCC : Hid (C = (v, (W0 : Int))) := hC2
  obtain ⟨ao, ocap, rfl⟩ : ∃ ao ocap, ov = .slice ao n ocap := by
    rcases ho.2 with ⟨rfl, h0⟩ | ⟨g', cap', cur, rfl, _⟩
    · exact ⟨none, 0, by rw [h0]⟩
    · exact ⟨_, _, rfl⟩
  clear hC hC2 hW0 hF hK0 hM h ho
  go_enter Try.func40, Try.ntmps40
  go_wp2_with fail
  refine wp_region_told (S := (fun wy => WrT w B b wide mv since (.slice ao n ocap) wy)) 12 41 [.is (.pointer (some ⟨B, 0, none⟩)), .is (.pointer (some ⟨B, 0, none⟩)), .is (.pointer (some ⟨B, 0, none⟩)), .is (.agg #[.int .i64 (b : Int), .bool wide]), .is (.int .i64 (F : Int)), .is (.pointer (some ⟨B, 0, none⟩)), .is (.pointer (some ⟨B, 0, none⟩)), .is (.pointer (some ⟨B, 3, none⟩)), .is (.int .i64 (since : Int)), .is (.int .i64 ((since : Int) - 1)), .is (.int .i64 (M : Int)), .is (.int .i64 (K0 : Int))] (by kernel_rfl) (by kernel_rfl) (by rfl) (fun _ _ _ _ hd h => ⟨hd.trans h.1, h.2⟩) (fun vs => by simp only [puts, List.getElem?_toArray, List.getElem?_cons_succ, List.getElem?_cons_zero, Option.bind_some, Act.put, List.setIfInBounds_toArray, List.set_cons_zero, List.set_cons_succ]; exact rfl) (WrT.new HL.out) ?_ ?_
  · refine TellsFrom.cons rfl (fun vs wz hS hd K hK => ?_) ?_
    · try dsimp only at hK ⊢
      try simp only [List.getElem_toArray, List.getElem_cons_succ, List.getElem_cons_zero, Act.put, List.setIfInBounds_toArray, List.set_cons_zero, List.set_cons_succ]
      have s0 := hS.1.cell 0
      have s1 := hS.1.cell 1
      have s3 := hS.1.cell 3
      have s4 := hS.1.cell 4
      simp at s0 s1 s3 s4
      go_simp
      exact hK.out _ _ hS (Below.refl _ _) rfl
    refine TellsFrom.cons rfl (fun vs wz hS hd K hK => ?_) ?_
    · try dsimp only at hK ⊢
      have h0 : vs 0 = (.pointer (some ⟨B, 0, none⟩)) := hd 0 (by kernel_rfl)
      generalize vs 0 = x0 at *
      subst h0
      try simp only [List.getElem_toArray, List.getElem_cons_succ, List.getElem_cons_zero, Act.put, List.setIfInBounds_toArray, List.set_cons_zero, List.set_cons_succ]
      have s0 := hS.1.cell 0
      have s1 := hS.1.cell 1
      have s3 := hS.1.cell 3
      have s4 := hS.1.cell 4
      simp at s0 s1 s3 s4
      go_simp
      exact hK.out _ _ hS (Below.refl _ _) rfl
    refine TellsFrom.cons rfl (fun vs wz hS hd K hK => ?_) ?_
    · try dsimp only at hK ⊢
      have h1 : vs 1 = (.pointer (some ⟨B, 0, none⟩)) := hd 1 (by kernel_rfl)
      generalize vs 1 = x1 at *
      subst h1
      try simp only [List.getElem_toArray, List.getElem_cons_succ, List.getElem_cons_zero, Act.put, List.setIfInBounds_toArray, List.set_cons_zero, List.set_cons_succ]
      have s0 := hS.1.cell 0
      have s1 := hS.1.cell 1
      have s3 := hS.1.cell 3
      have s4 := hS.1.cell 4
      simp at s0 s1 s3 s4
      go_simp
      exact hK.out _ _ hS (Below.refl _ _) rfl
    refine TellsFrom.cons rfl (fun vs wz hS hd K hK => ?_) ?_
    · try dsimp only at hK ⊢
      have h2 : vs 2 = (.pointer (some ⟨B, 0, none⟩)) := hd 2 (by kernel_rfl)
      generalize vs 2 = x2 at *
      subst h2
      try simp only [List.getElem_toArray, List.getElem_cons_succ, List.getElem_cons_zero, Act.put, List.setIfInBounds_toArray, List.set_cons_zero, List.set_cons_succ]
      have s0 := hS.1.cell 0
      have s1 := hS.1.cell 1
      have s3 := hS.1.cell 3
      have s4 := hS.1.cell 4
      simp at s0 s1 s3 s4
      go_simp
      exact hK.out _ _ hS (Below.refl _ _) rfl
    refine TellsFrom.cons rfl (fun vs wz hS hd K hK => ?_) ?_
    · try dsimp only at hK ⊢
      have h3 : vs 3 = (.agg #[.int .i64 (b : Int), .bool wide]) := hd 3 (by kernel_rfl)
      generalize vs 3 = x3 at *
      subst h3
      try simp only [List.getElem_toArray, List.getElem_cons_succ, List.getElem_cons_zero, Act.put, List.setIfInBounds_toArray, List.set_cons_zero, List.set_cons_succ]
      go_simp
      refine (HFI.out _).mono ?_
      rintro e v1 ⟨rfl, b1⟩
      exact hK.out _ _ (hS.kept b1) b1 rfl
    refine TellsFrom.cons rfl (fun vs wz hS hd K hK => ?_) ?_
    · try dsimp only at hK ⊢
      try simp only [List.getElem_toArray, List.getElem_cons_succ, List.getElem_cons_zero, Act.put, List.setIfInBounds_toArray, List.set_cons_zero, List.set_cons_succ]
      have s0 := hS.1.cell 0
      have s1 := hS.1.cell 1
      have s3 := hS.1.cell 3
      have s4 := hS.1.cell 4
      simp at s0 s1 s3 s4
      go_simp
      exact hK.out _ _ hS (Below.refl _ _) rfl
    refine TellsFrom.cons rfl (fun vs wz hS hd K hK => ?_) ?_
    · try dsimp only at hK ⊢
      have h5 : vs 5 = (.pointer (some ⟨B, 0, none⟩)) := hd 5 (by kernel_rfl)
      generalize vs 5 = x5 at *
      subst h5
      try simp only [List.getElem_toArray, List.getElem_cons_succ, List.getElem_cons_zero, Act.put, List.setIfInBounds_toArray, List.set_cons_zero, List.set_cons_succ]
      have s0 := hS.1.cell 0
      have s1 := hS.1.cell 1
      have s3 := hS.1.cell 3
      have s4 := hS.1.cell 4
      simp at s0 s1 s3 s4
      go_simp
      exact hK.out _ _ hS (Below.refl _ _) rfl
    refine TellsFrom.cons rfl (fun vs wz hS hd K hK => ?_) ?_
    · try dsimp only at hK ⊢
      have h6 : vs 6 = (.pointer (some ⟨B, 0, none⟩)) := hd 6 (by kernel_rfl)
      generalize vs 6 = x6 at *
      subst h6
      try simp only [List.getElem_toArray, List.getElem_cons_succ, List.getElem_cons_zero, Act.put, List.setIfInBounds_toArray, List.set_cons_zero, List.set_cons_succ]
      have s0 := hS.1.cell 0
      have s1 := hS.1.cell 1
      have s3 := hS.1.cell 3
      have s4 := hS.1.cell 4
      simp at s0 s1 s3 s4
      go_simp
      exact hK.out _ _ hS (Below.refl _ _) rfl
    refine TellsFrom.cons rfl (fun vs wz hS hd K hK => ?_) ?_
    · try dsimp only at hK ⊢
      have h7 : vs 7 = (.pointer (some ⟨B, 3, none⟩)) := hd 7 (by kernel_rfl)
      generalize vs 7 = x7 at *
      subst h7
      try simp only [List.getElem_toArray, List.getElem_cons_succ, List.getElem_cons_zero, Act.put, List.setIfInBounds_toArray, List.set_cons_zero, List.set_cons_succ]
      have s0 := hS.1.cell 0
      have s1 := hS.1.cell 1
      have s3 := hS.1.cell 3
      have s4 := hS.1.cell 4
      simp at s0 s1 s3 s4
      go_simp
      exact hK.out _ _ hS (Below.refl _ _) rfl
    refine TellsFrom.cons rfl (fun vs wz hS hd K hK => ?_) ?_
    · try dsimp only at hK ⊢
      have h8 : vs 8 = (.int .i64 (since : Int)) := hd 8 (by kernel_rfl)
      generalize vs 8 = x8 at *
      subst h8
      try simp only [List.getElem_toArray, List.getElem_cons_succ, List.getElem_cons_zero, Act.put, List.setIfInBounds_toArray, List.set_cons_zero, List.set_cons_succ]
      have s0 := hS.1.cell 0
      have s1 := hS.1.cell 1
      have s3 := hS.1.cell 3
      have s4 := hS.1.cell 4
      simp at s0 s1 s3 s4
      go_simp
      exact hK.out _ _ hS (Below.refl _ _) rfl
    refine TellsFrom.cons rfl (fun vs wz hS hd K hK => ?_) ?_
    · try dsimp only at hK ⊢
      have h9 : vs 9 = (.int .i64 ((since : Int) - 1)) := hd 9 (by kernel_rfl)
      generalize vs 9 = x9 at *
      subst h9
      try simp only [List.getElem_toArray, List.getElem_cons_succ, List.getElem_cons_zero, Act.put, List.setIfInBounds_toArray, List.set_cons_zero, List.set_cons_succ]
      have s0 := hS.1.cell 0
      have s1 := hS.1.cell 1
      have s3 := hS.1.cell 3
      have s4 := hS.1.cell 4
      simp at s0 s1 s3 s4
      go_simp
      first | exact hK.out _ _ hS (Below.refl _ _) rfl | (rw [eM]; exact hK.out _ _ hS (Below.refl _ _) rfl)
    refine TellsFrom.cons rfl (fun vs wz hS hd K hK => ?_) ?_
    · try dsimp only at hK ⊢
      have h4 : vs 4 = (.int .i64 (F : Int)) := hd 4 (by kernel_rfl)
      generalize vs 4 = x4 at *
      subst h4
      have h10 : vs 10 = (.int .i64 (M : Int)) := hd 10 (by kernel_rfl)
      generalize vs 10 = x10 at *
      subst h10
      try simp only [List.getElem_toArray, List.getElem_cons_succ, List.getElem_cons_zero, Act.put, List.setIfInBounds_toArray, List.set_cons_zero, List.set_cons_succ]
      have s0 := hS.1.cell 0
      have s1 := hS.1.cell 1
      have s3 := hS.1.cell 3
      have s4 := hS.1.cell 4
      simp at s0 s1 s3 s4
      go_simp
      exact hK.out _ _ hS (Below.refl _ _) rfl
    exact TellsFrom.nil
  · intro vs wz hS hd
    try dsimp only
    have h11 : vs 11 = .int .i64 (K0 : Int) := hd 11 (by omega)
    clear hd
    generalize vs 0 = y0 at *
    generalize vs 1 = y1 at *
    generalize vs 2 = y2 at *
    generalize vs 3 = y3 at *
    generalize vs 4 = y4 at *
    generalize vs 5 = y5 at *
    generalize vs 6 = y6 at *
    generalize vs 7 = y7 at *
    generalize vs 8 = y8 at *
    generalize vs 9 = y9 at *
    generalize vs 10 = y10 at *
    generalize vs 11 = y11 at *
    subst h11
    have HW1 : Hid (WrT w B b wide mv since (.slice ao n ocap) wz) := hS
    clear hS
    refine wpAnyH_take (i := 12) (v := .int .i64 (K0 : Int)) rfl (by kernel_rfl) (by kernel_rfl) (by kernel_rfl) (fun _ _ _ h => h) (Or.inl ⟨by rfl, ?_⟩) trivial ?_
    · intro wy _
      go_simp
    try simp only [List.getElem_toArray, List.getElem_cons_succ, List.getElem_cons_zero, Act.put, List.setIfInBounds_toArray, List.set_cons_zero, List.set_cons_succ]
    refine wpAnyH_done (by kernel_rfl) ?_ _
    try simp only [List.getElem_toArray, List.getElem_cons_succ, List.getElem_cons_zero, Act.put, List.setIfInBounds_toArray, List.set_cons_zero, List.set_cons_succ]
    obtain ⟨w1, hw1⟩ : ∃ w1, w1 = wz := ⟨_, rfl⟩
    rw [← hw1] at HW1 ⊢
    clear hw1
    have HG1 : Hid (Below w.heap.size w w1) := HW1.out.2
    have HOP1 : Hid (OwnP w1 lo (.slice ao n ocap) n out) := ownsRow_besides HOP.out (fun k hk => HG1.out.block k (World.ownsRow.lt HOP.out k hk).2)
    have hlo1 : lo ≤ w1.heap.size := Nat.le_trans hlo HG1.out.size
    go_wp2_with fail
    refine wp_region_any (by kernel_rfl) ?_
    refine wpAny_take (i := 0) (v := (.pointer (some ⟨B, 0, none⟩))) rfl (by kernel_rfl) (by kernel_rfl) (by kernel_rfl) (fun _ _ _ h => h) (Or.inl ⟨by rfl, ?_⟩) ?_
    · intro wy
      go_simp
    try simp only [List.getElem_toArray, List.getElem_cons_succ, List.getElem_cons_zero, Act.put, List.setIfInBounds_toArray, List.set_cons_zero, List.set_cons_succ]
    refine wpAny_told (S := (fun wy => WrT w1 B b wide mv since (.slice ao n ocap) wy)) [0] 14 41 [.is (.pointer (some ⟨B, 0, none⟩)), .is (.pointer (some ⟨B, 0, none⟩)), .is (.pointer (some ⟨B, 0, none⟩)), .is (.pointer (some ⟨B, 4, none⟩)), .is (.slice ao n ocap), .is (.int .i64 v), .is (.pointer (some ⟨B, 0, none⟩)), .is (.pointer (some ⟨B, 0, none⟩)), .is (.pointer (some ⟨B, 0, none⟩)), .is (.agg #[.int .i64 (b : Int), .bool wide]), .is (.int .i64 (K0 : Int)), .is (.int .i64 (W0 : Int)), .is (.agg #[.int .i64 v, .int .i64 (W0 : Int)]), .own (fun v w => LayP v w C) (fun _ _ _ b h => h.kept b)] (fun j => if j = 0 then (.pointer (some ⟨B, 0, none⟩)) else undef) (by kernel_rfl) (by kernel_rfl) (by kernel_rfl) (by kernel_rfl) (by kernel_rfl) (by rfl) (fun _ _ _ _ hd h => ⟨hd.trans h.1, h.2⟩) (by kernel_rfl) (fun j hj => by simp only [List.mem_cons, List.not_mem_nil, or_false] at hj; rcases hj with rfl <;> rfl) (fun vs => by simp only [puts, List.getElem?_toArray, List.getElem?_cons_succ, List.getElem?_cons_zero, Option.bind_some, Act.put, List.setIfInBounds_toArray, List.set_cons_zero, List.set_cons_succ]; exact rfl) (WrT.new HW1.out.1) ?_ ?_
    · refine TellsFrom.cons rfl (fun vs wz hS hd K hK => ?_) ?_
      · try dsimp only at hK ⊢
        try simp only [List.getElem_toArray, List.getElem_cons_succ, List.getElem_cons_zero, Act.put, List.setIfInBounds_toArray, List.set_cons_zero, List.set_cons_succ]
        have s0 := hS.1.cell 0
        have s1 := hS.1.cell 1
        have s3 := hS.1.cell 3
        have s4 := hS.1.cell 4
        simp at s0 s1 s3 s4
        go_simp
        exact hK.out _ _ hS (Below.refl _ _) rfl
      refine TellsFrom.cons rfl (fun vs wz hS hd K hK => ?_) ?_
      · try dsimp only at hK ⊢
        try simp only [List.getElem_toArray, List.getElem_cons_succ, List.getElem_cons_zero, Act.put, List.setIfInBounds_toArray, List.set_cons_zero, List.set_cons_succ]
        have s0 := hS.1.cell 0
        have s1 := hS.1.cell 1
        have s3 := hS.1.cell 3
        have s4 := hS.1.cell 4
        simp at s0 s1 s3 s4
        go_simp
        exact hK.out _ _ hS (Below.refl _ _) rfl
      refine TellsFrom.cons rfl (fun vs wz hS hd K hK => ?_) ?_
      · try dsimp only at hK ⊢
        have h1 : vs 1 = (.pointer (some ⟨B, 0, none⟩)) := hd 1 (by kernel_rfl)
        generalize vs 1 = x1 at *
        subst h1
        try simp only [List.getElem_toArray, List.getElem_cons_succ, List.getElem_cons_zero, Act.put, List.setIfInBounds_toArray, List.set_cons_zero, List.set_cons_succ]
        have s0 := hS.1.cell 0
        have s1 := hS.1.cell 1
        have s3 := hS.1.cell 3
        have s4 := hS.1.cell 4
        simp at s0 s1 s3 s4
        go_simp
        exact hK.out _ _ hS (Below.refl _ _) rfl
      refine TellsFrom.cons rfl (fun vs wz hS hd K hK => ?_) ?_
      · try dsimp only at hK ⊢
        have h2 : vs 2 = (.pointer (some ⟨B, 0, none⟩)) := hd 2 (by kernel_rfl)
        generalize vs 2 = x2 at *
        subst h2
        try simp only [List.getElem_toArray, List.getElem_cons_succ, List.getElem_cons_zero, Act.put, List.setIfInBounds_toArray, List.set_cons_zero, List.set_cons_succ]
        have s0 := hS.1.cell 0
        have s1 := hS.1.cell 1
        have s3 := hS.1.cell 3
        have s4 := hS.1.cell 4
        simp at s0 s1 s3 s4
        go_simp
        exact hK.out _ _ hS (Below.refl _ _) rfl
      refine TellsFrom.cons rfl (fun vs wz hS hd K hK => ?_) ?_
      · try dsimp only at hK ⊢
        have h3 : vs 3 = (.pointer (some ⟨B, 4, none⟩)) := hd 3 (by kernel_rfl)
        generalize vs 3 = x3 at *
        subst h3
        try simp only [List.getElem_toArray, List.getElem_cons_succ, List.getElem_cons_zero, Act.put, List.setIfInBounds_toArray, List.set_cons_zero, List.set_cons_succ]
        have s0 := hS.1.cell 0
        have s1 := hS.1.cell 1
        have s3 := hS.1.cell 3
        have s4 := hS.1.cell 4
        simp at s0 s1 s3 s4
        go_simp
        exact hK.out _ _ hS (Below.refl _ _) rfl
      refine TellsFrom.cons rfl (fun vs wz hS hd K hK => ?_) ?_
      · try dsimp only at hK ⊢
        try simp only [List.getElem_toArray, List.getElem_cons_succ, List.getElem_cons_zero, Act.put, List.setIfInBounds_toArray, List.set_cons_zero, List.set_cons_succ]
        have s0 := hS.1.cell 0
        have s1 := hS.1.cell 1
        have s3 := hS.1.cell 3
        have s4 := hS.1.cell 4
        simp at s0 s1 s3 s4
        go_simp
        exact hK.out _ _ hS (Below.refl _ _) rfl
      refine TellsFrom.cons rfl (fun vs wz hS hd K hK => ?_) ?_
      · try dsimp only at hK ⊢
        try simp only [List.getElem_toArray, List.getElem_cons_succ, List.getElem_cons_zero, Act.put, List.setIfInBounds_toArray, List.set_cons_zero, List.set_cons_succ]
        have s0 := hS.1.cell 0
        have s1 := hS.1.cell 1
        have s3 := hS.1.cell 3
        have s4 := hS.1.cell 4
        simp at s0 s1 s3 s4
        go_simp
        exact hK.out _ _ hS (Below.refl _ _) rfl
      refine TellsFrom.cons rfl (fun vs wz hS hd K hK => ?_) ?_
      · try dsimp only at hK ⊢
        have h6 : vs 6 = (.pointer (some ⟨B, 0, none⟩)) := hd 6 (by kernel_rfl)
        generalize vs 6 = x6 at *
        subst h6
        try simp only [List.getElem_toArray, List.getElem_cons_succ, List.getElem_cons_zero, Act.put, List.setIfInBounds_toArray, List.set_cons_zero, List.set_cons_succ]
        have s0 := hS.1.cell 0
        have s1 := hS.1.cell 1
        have s3 := hS.1.cell 3
        have s4 := hS.1.cell 4
        simp at s0 s1 s3 s4
        go_simp
        exact hK.out _ _ hS (Below.refl _ _) rfl
      refine TellsFrom.cons rfl (fun vs wz hS hd K hK => ?_) ?_
      · try dsimp only at hK ⊢
        have h7 : vs 7 = (.pointer (some ⟨B, 0, none⟩)) := hd 7 (by kernel_rfl)
        generalize vs 7 = x7 at *
        subst h7
        try simp only [List.getElem_toArray, List.getElem_cons_succ, List.getElem_cons_zero, Act.put, List.setIfInBounds_toArray, List.set_cons_zero, List.set_cons_succ]
        have s0 := hS.1.cell 0
        have s1 := hS.1.cell 1
        have s3 := hS.1.cell 3
        have s4 := hS.1.cell 4
        simp at s0 s1 s3 s4
        go_simp
        exact hK.out _ _ hS (Below.refl _ _) rfl
      refine TellsFrom.cons rfl (fun vs wz hS hd K hK => ?_) ?_
      · try dsimp only at hK ⊢
        have h8 : vs 8 = (.pointer (some ⟨B, 0, none⟩)) := hd 8 (by kernel_rfl)
        generalize vs 8 = x8 at *
        subst h8
        try simp only [List.getElem_toArray, List.getElem_cons_succ, List.getElem_cons_zero, Act.put, List.setIfInBounds_toArray, List.set_cons_zero, List.set_cons_succ]
        have s0 := hS.1.cell 0
        have s1 := hS.1.cell 1
        have s3 := hS.1.cell 3
        have s4 := hS.1.cell 4
        simp at s0 s1 s3 s4
        go_simp
        exact hK.out _ _ hS (Below.refl _ _) rfl
      refine TellsFrom.cons rfl (fun vs wz hS hd K hK => ?_) ?_
      · try dsimp only at hK ⊢
        try simp only [List.getElem_toArray, List.getElem_cons_succ, List.getElem_cons_zero, Act.put, List.setIfInBounds_toArray, List.set_cons_zero, List.set_cons_succ]
        have s0 := hS.1.cell 0
        have s1 := hS.1.cell 1
        have s3 := hS.1.cell 3
        have s4 := hS.1.cell 4
        simp at s0 s1 s3 s4
        go_simp
        exact hK.out _ _ hS (Below.refl _ _) rfl
      refine TellsFrom.cons rfl (fun vs wz hS hd K hK => ?_) ?_
      · try dsimp only at hK ⊢
        have h9 : vs 9 = (.agg #[.int .i64 (b : Int), .bool wide]) := hd 9 (by kernel_rfl)
        generalize vs 9 = x9 at *
        subst h9
        have h10 : vs 10 = (.int .i64 (K0 : Int)) := hd 10 (by kernel_rfl)
        generalize vs 10 = x10 at *
        subst h10
        try simp only [List.getElem_toArray, List.getElem_cons_succ, List.getElem_cons_zero, Act.put, List.setIfInBounds_toArray, List.set_cons_zero, List.set_cons_succ]
        go_simp
        refine (HWI.out _).mono ?_
        rintro e v1 ⟨rfl, b1⟩
        exact hK.out _ _ (hS.kept b1) b1 rfl
      refine TellsFrom.cons rfl (fun vs wz hS hd K hK => ?_) ?_
      · try dsimp only at hK ⊢
        have h5 : vs 5 = (.int .i64 v) := hd 5 (by kernel_rfl)
        generalize vs 5 = x5 at *
        subst h5
        have h11 : vs 11 = (.int .i64 (W0 : Int)) := hd 11 (by kernel_rfl)
        generalize vs 11 = x11 at *
        subst h11
        try simp only [List.getElem_toArray, List.getElem_cons_succ, List.getElem_cons_zero, Act.put, List.setIfInBounds_toArray, List.set_cons_zero, List.set_cons_succ]
        have s0 := hS.1.cell 0
        have s1 := hS.1.cell 1
        have s3 := hS.1.cell 3
        have s4 := hS.1.cell 4
        simp at s0 s1 s3 s4
        go_simp
        exact hK.out _ _ hS (Below.refl _ _) rfl
      refine TellsFrom.cons rfl (fun vs wz hS hd K hK => ?_) ?_
      · try dsimp only at hK ⊢
        have h12 : vs 12 = (.agg #[.int .i64 v, .int .i64 (W0 : Int)]) := hd 12 (by kernel_rfl)
        generalize vs 12 = x12 at *
        subst h12
        try simp only [List.getElem_toArray, List.getElem_cons_succ, List.getElem_cons_zero, Act.put, List.setIfInBounds_toArray, List.set_cons_zero, List.set_cons_succ]
        go_simp
        exact hK.out _ _ (hS.kept ((Below.refl _ _).alloc (Nat.le_refl _) _)) ((Below.refl _ _).alloc (Nat.le_refl _) _) (by rw [HCC.out]; exact layP_new wz (v, (W0 : Int)))
      exact TellsFrom.nil
    · intro vs wz hS hd
      try dsimp only
      have h12 : LayP (vs 13) wz C := hd 13 (by omega)
      have h0 : vs 0 = .pointer (some ⟨B, 0, none⟩) := hd 0 (by omega)
      have h4 : vs 4 = .slice ao n ocap := hd 4 (by omega)
      clear hd
      generalize vs 0 = y0 at *
      generalize vs 1 = y1 at *
      generalize vs 2 = y2 at *
      generalize vs 3 = y3 at *
      generalize vs 4 = y4 at *
      generalize vs 5 = y5 at *
      generalize vs 6 = y6 at *
      generalize vs 7 = y7 at *
      generalize vs 8 = y8 at *
      generalize vs 9 = y9 at *
      generalize vs 10 = y10 at *
      generalize vs 11 = y11 at *
      generalize vs 12 = y12 at *
      generalize vs 13 = y13 at *
      subst h0
      subst h4
      obtain ⟨Bn, rfl, hCn, hCn1⟩ := h12
      have HL1 : Hid (Wr wz B b wide mv since (.slice ao n ocap)) := hS.1
      have HB1 : Hid (Below w1.heap.size w1 wz) := hS.2
      clear hS
      refine wpAnyH_ready (rs := [14]) (by kernel_rfl) (by simp) ?_
      refine AllReadyH.cons rfl (fun K hK => ?_) AllReadyH.nil
      refine step_appP wz rfl (.tmp 21) (.tmp 30) rfl lo (.slice ao n ocap) n out C Bn rfl (ownsRow_besides HOP1.out (fun k hk => HB1.out.block k (World.ownsRow.lt HOP1.out k hk).2)) rfl hCn hCn1 (by omega) (Nat.le_trans hlo1 HB1.out.size) ?_
      intro g2 cap2 w2 ho2 hg2
      have hoB : (Value.slice ao n ocap).ownBlock ≠ some B := HL.out.apart HOP.out (by decide)
      have hr2 : Wr w2 B b wide mv since (.slice ao n ocap) := HL1.out.same (hg2.block B HL1.out.lt (fun e => hoB e.symm))
      have hs12 := HB1.out.size
      have hG2 : WrG B (.slice ao n ocap) w w2 := ⟨hg2.os.trans (HB1.out.os.trans HG1.out.os), hg2.tape.trans (HB1.out.tape.trans HG1.out.tape), hg2.output.trans (HB1.out.output.trans HG1.out.output), by have := hg2.size; have := HG1.out.size; omega, fun k hk hkB hko => by
        have := HG1.out.size
        exact (hg2.block k (by omega) hko).trans ((HB1.out.block k (by omega)).trans (HG1.out.block k hk))⟩
      have HO2 : Hid (OwnP w2 lo (.slice (some ⟨g2, 0, none⟩) (n + 1) cap2) (n + 1) (out ++ [C])) := ho2
      have HG2 : Hid (WrG B (.slice ao n ocap) w w2) := hG2
      have HR3 : Hid (Wr (w2.setCell ⟨B, 4, none⟩ (.slice (some ⟨g2, 0, none⟩) (n + 1) cap2)) B b wide mv since (.slice (some ⟨g2, 0, none⟩) (n + 1) cap2)) := hr2.set rfl
      have HO3 : Hid (OwnP (w2.setCell ⟨B, 4, none⟩ (.slice (some ⟨g2, 0, none⟩) (n + 1) cap2)) lo (.slice (some ⟨g2, 0, none⟩) (n + 1) cap2) (n + 1) (out ++ [C])) := ownsRow_besides ho2 (fun k hk => Below.heap_setCell w2 ⟨B, 4, none⟩ _ k (fun e => hr2.apart ho2 (by decide) (by rw [hk]; exact congrArg some e)))
      have d4 := hr2.cell 4
      have df4 := hr2.free 4
      have k3 := HR3.out.cell 3
      have kf3 := HR3.out.free 3
      simp at d4 k3
      clear ho2 hg2 hr2 hG2 hoB hs12 HL HOP HL1 HB1 HOP1
      refine hK.out _ _ trivial (fun _ => ?_)
      clear hK K
      try simp only [List.getElem_toArray, List.getElem_cons_succ, List.getElem_cons_zero, Act.put, List.setIfInBounds_toArray, List.set_cons_zero, List.set_cons_succ]
      refine wpAnyH_take (i := 15) (v := .pointer (some ⟨B, 0, none⟩)) rfl (by kernel_rfl) (by kernel_rfl) (by kernel_rfl) (fun _ _ _ h => h) (Or.inl ⟨by rfl, ?_⟩) trivial ?_
      · intro wy _
        go_simp
      try simp only [List.getElem_toArray, List.getElem_cons_succ, List.getElem_cons_zero, Act.put, List.setIfInBounds_toArray, List.set_cons_zero, List.set_cons_succ]
      refine wpAnyH_take (i := 16) (v := .pointer (some ⟨B, 4, none⟩)) rfl (by kernel_rfl) (by kernel_rfl) (by kernel_rfl) (fun _ _ _ h => h) (Or.inl ⟨by rfl, ?_⟩) trivial ?_
      · intro wy _
        go_simp
      try simp only [List.getElem_toArray, List.getElem_cons_succ, List.getElem_cons_zero, Act.put, List.setIfInBounds_toArray, List.set_cons_zero, List.set_cons_succ]
      refine wpAnyH_ready (rs := [17]) (by kernel_rfl) (by simp) ?_
      refine AllReadyH.cons rfl (fun K hK => ?_) AllReadyH.nil
      go_simp
      refine hK.out _ _ trivial (fun _ => ?_)
      clear hK K
      refine wpAnyH_done (by kernel_rfl) ?_ _
      try simp only [List.getElem_toArray, List.getElem_cons_succ, List.getElem_cons_zero, Act.put, List.setIfInBounds_toArray, List.set_cons_zero, List.set_cons_succ]
      have wP : IntKind.i64.wrap ((since : Int) + 1) = ((since + 1 : Nat) : Int) := by
        have := wrap_i64_nat (since + 1) (by omega)
        simpa using this
      go_wp2_with fail
      go_end0
      refine ⟨rfl, g2, cap2, HR3.out.set (by first | rfl | simp), ?_, (HG2.out.set 4 _).set 3 _⟩
      exact ownsRow_besides HO3.out (fun k hk => Below.heap_setCell _ ⟨B, 3, none⟩ _ k (fun e => HR3.out.apart HO3.out (by decide) (by rw [hk]; exact congrArg some e)))
end Go.Proofs.Ytjfihmpnbblomaa

/- The writer of LZW: forget; the longest text that is known. -/
namespace Go.Proofs.Ytjfihmpnbblomaa
open Go.RowKit Go.Maps

/-- what forget leaves -/
def WrNew (B b n lo : Nat) (wide : Bool) (ov : Value) (out : List (Int × Int)) (w w' : World) : Prop :=
  ∃ g cap mb, Wr w' B b wide (.map (some mb)) 0 (.slice (some ⟨g, 0, none⟩) (n + 1) cap) ∧ OwnP w' lo (.slice (some ⟨g, 0, none⟩) (n + 1) cap) (n + 1) out ∧ w'.ownsMap Try.prog 69 (plainElem (H := Unit) Try.prog 3) mb 0 (.map []) ∧ w.heap.size ≤ mb ∧ WrG B ov w w'

set_option maxHeartbeats 2000000 in
theorem wrForget (B b since n lo : Nat) (wide : Bool) (mv ov : Value) (out : List (Int × Int)) (C : Int × Int) (w : World) (hb : b ≤ 8) (h : Wr w B b wide mv since ov) (ho : OwnP w lo ov n out) (hlo : lo ≤ w.heap.size) (hn : n ≤ 100000) (hs : since ≤ 4200) (hC : C = (((2 ^ b : Nat) : Int), (Lz.width b wide (2 ^ b + 2 + (since - 1)) : Int))) :
    Calls Try.prog 38 #[.pointer (some ⟨B, 0, none⟩)] w fun e w' => e = .returned (.tuple #[]) ∧ WrNew B b n lo wide ov (out ++ [C]) w w' := by
  have HCL : Hid (∀ w', Calls Try.prog 57 #[.agg #[.int .i64 (b : Int), .bool wide]] w' fun e w'' => e = .returned (.int .i64 ((2 ^ b : Nat) : Int)) ∧ Below w'.heap.size w' w'') := fun w' => lzClear_any b hb wide w'
  have HPU : Hid (∀ (w' : World), Wr w' B b wide mv since ov → OwnP w' lo ov n out → lo ≤ w'.heap.size → Calls Try.prog 40 #[.pointer (some ⟨B, 0, none⟩), .int .i64 ((2 ^ b : Nat) : Int)] w' fun e w'' => e = .returned (.tuple #[]) ∧ ∃ g cap, Wr w'' B b wide mv (since + 1) (.slice (some ⟨g, 0, none⟩) (n + 1) cap) ∧ OwnP w'' lo (.slice (some ⟨g, 0, none⟩) (n + 1) cap) (n + 1) (out ++ [C]) ∧ WrG B ov w' w'') := fun w' h1 h2 h3 => wrPut B b since n lo wide mv ov _ out C w' hb h1 h2 h3 hn hs hC
  have HW : Hid (Wr w B b wide mv since ov ∧ OwnP w lo ov n out) := ⟨h, ho⟩
  have c0 := h.cell 0
  have c1 := h.cell 1
  simp at c0 c1
  generalize 2 ^ b = P at *
  clear h ho hC
  go_enter Try.func38, Try.ntmps38
  go_wp2_with fail
  refine (HCL.out _).mono ?_
  rintro e w1 ⟨rfl, b1⟩
  have HW1 : Hid (Wr w1 B b wide mv since ov ∧ OwnP w1 lo ov n out ∧ lo ≤ w1.heap.size ∧ Below w.heap.size w w1) := ⟨HW.out.1.same (b1.block _ HW.out.1.lt), ownsRow_besides HW.out.2 (fun k hk => b1.block k (World.ownsRow.lt HW.out.2 k hk).2), Nat.le_trans hlo b1.size, b1⟩
  clear b1 HCL c0 c1
  go_wp2_with fail
  refine (HPU.out w1 HW1.out.1 HW1.out.2.1 HW1.out.2.2.1).mono ?_
  rintro e w2 ⟨rfl, g, cap, hr2, ho2, hg2⟩
  obtain ⟨W3, hW3⟩ : ∃ W3, W3 = w2.alloc (.map #[] 0) := ⟨_, rfl⟩
  have hB3 : Below w2.heap.size w2 W3 := by rw [hW3]; exact (Below.refl _ _).alloc (Nat.le_refl _) _
  have hr3 : Wr W3 B b wide mv (since + 1) (.slice (some ⟨g, 0, none⟩) (n + 1) cap) := hr2.same (hB3.block _ hr2.lt)
  have ho3 : OwnP W3 lo (.slice (some ⟨g, 0, none⟩) (n + 1) cap) (n + 1) (out ++ [C]) := ownsRow_besides ho2 (fun k hk => hB3.block k (World.ownsRow.lt ho2 k hk).2)
  have hm3 : W3.ownsMap Try.prog 69 (plainElem (H := Unit) Try.prog 3) w2.heap.size 0 (.map []) := by rw [hW3]; exact World.ownsMap_made w2 Try.prog _ _
  have hr4 : Wr (W3.setCell ⟨B, 2, none⟩ (.map (some w2.heap.size))) B b wide (.map (some w2.heap.size)) (since + 1) (.slice (some ⟨g, 0, none⟩) (n + 1) cap) := hr3.set rfl
  have hBm : w2.heap.size ≠ B := by have := hr2.lt; omega
  have HFIN : Hid (WrNew B b n lo wide ov (out ++ [C]) w ((W3.setCell ⟨B, 2, none⟩ (.map (some w2.heap.size))).setCell ⟨B, 3, none⟩ (.int .i64 0))) := by
    have hoB := hr3.apart ho3 (by decide)
    have hsz : w.heap.size ≤ w2.heap.size := Nat.le_trans HW1.out.2.2.2.size hg2.size
    refine ⟨g, cap, w2.heap.size, hr4.set (since' := 0) rfl, ?_, (hm3.setCell hBm _).setCell hBm _, hsz, ?_⟩
    · refine ownsRow_besides ho3 (fun k hk => (Below.heap_setCell _ ⟨B, 3, none⟩ _ k ?_).trans (Below.heap_setCell _ ⟨B, 2, none⟩ _ k ?_))
      · exact fun e => hoB (by rw [hk]; exact congrArg some e)
      · exact fun e => hoB (by rw [hk]; exact congrArg some e)
    · have hG3 : WrG B ov w W3 := ⟨hB3.os.trans (hg2.os.trans HW1.out.2.2.2.os), hB3.tape.trans (hg2.tape.trans HW1.out.2.2.2.tape), hB3.output.trans (hg2.output.trans HW1.out.2.2.2.output), Nat.le_trans hsz hB3.size, fun k hk hkB hko => (hB3.block k (by omega)).trans ((hg2.block k (by have := HW1.out.2.2.2.size; omega) hkB hko).trans (HW1.out.2.2.2.block k hk))⟩
      exact (hG3.set 2 _).set 3 _
  have k2 := hr3.cell 2
  have kf2 := hr3.free 2
  have k3 := hr4.cell 3
  have kf3 := hr4.free 3
  simp at k2 k3
  rw [hW3] at k2 kf2 k3 kf3
  have HW3 : Hid (w2.alloc (.map #[] 0) = W3) := hW3.symm
  have hmm : Sem.run Try.prog (Instr.makeMap 60 none) w2 = .ok (.map (some w2.heap.size)) (w2.alloc (.map #[] 0)) := rfl
  clear hW3 hB3 hr2 ho2 hg2 hr3 ho3 hm3 hr4 HW HW1 HPU
  go_wp2_with fail
  go_end0
  refine ⟨rfl, ?_⟩
  first | (rw [HW3.out]; exact HFIN.out) | (rw [← World.setCell_alloc_past, ← World.setCell_alloc_past, HW3.out]; exact HFIN.out)
end Go.Proofs.Ytjfihmpnbblomaa

/- The small functions of packing by LZW, of the specification. -/
namespace Go.Proofs.Ytjfihmpnbblomaa
open Go.RowKit

set_option maxHeartbeats 1000000 in
theorem l6Find_any (base n g cap : Nat) (l : List ByteArray) (s : ByteArray) (w : World) (ho : OwnL w base (.slice (some ⟨g, 0, none⟩) n cap) n l) (hn : n ≤ 5000) :
    Calls Try.prog 78 #[.slice (some ⟨g, 0, none⟩) n cap, .string s] w fun e w' => e = .returned (.int .i64 (Lp.find l s)) ∧ w' = w := by
  have hln := ho.len
  have HC : Hid (∀ i (h : i < l.length), w.cell? ⟨g, i, none⟩ = some (.string l[i])) := fun i h => ho.cell i h
  obtain ⟨R, hR⟩ : ∃ R, R = Lp.find l s := ⟨_, rfl⟩
  rw [← hR]
  have HR0 : Hid (Lp.from s (l.drop 0) 0 = R) := by rw [hR]; rfl
  clear hR ho
  go_enter Try.func78, Try.ntmps78
  go_wp2_with fail
  go_loop [5] (fun i => ∃ k : Nat, k ≤ n ∧ i = .int .i64 (k : Int) ∧ Hid (Lp.from s (l.drop k) k = R)) (fun i => n - (intOf i).toNat)
  case atStart => exact ⟨0, Nat.zero_le _, rfl, HR0⟩
  case round =>
    obtain ⟨k, hk, rfl, HR⟩ := hrel
    clear HR0
    by_cases hlt : k < n
    · have hkl : k < l.length := by omega
      have hck := HC.out k hkl
      have hd : l.drop k = l[k] :: l.drop (k + 1) := List.drop_eq_getElem_cons hkl
      have hi : (k : Int) < (n : Int) := by omega
      have HE : Hid ((if l[k] = s then (k : Int) else Lp.from s (l.drop (k + 1)) (k + 1)) = R) := by
        have := HR.out
        rw [hd] at this
        exact this
      generalize l[k] = x at *
      clear hd HR hln hkl
      by_cases hx : x = s
      · subst hx
        have hRk : R = (k : Int) := by have := HE.out; rw [if_pos rfl] at this; exact this.symm
        subst hRk
        have hbx : (x.toList == x.toList) = true := by simp
        clear HE
        go_wp2_with fail
        go_ret
        exact ⟨rfl, rfl⟩
      · have HE2 : Hid (Lp.from s (l.drop (k + 1)) (k + 1) = R) := by have := HE.out; rw [if_neg hx] at this; exact this
        have hbx : (x.toList == s.toList) = false := by
          rw [beq_eq_false_iff_ne]
          intro e
          rw [ByteArray.toList_eq, ByteArray.toList_eq] at e
          exact hx (ByteArray.ext (Array.toList_inj.1 e))
        clear HE
        go_wp2_with fail
        go_round
        case rel => exact ⟨k + 1, by omega, by go_num, HE2⟩
        case measure => simp [intOf]; omega
    · have hRk : R = -1 := by
        have := HR.out
        rw [List.drop_eq_nil_of_le (by omega)] at this
        exact this.symm
      subst hRk
      clear HR
      go_wp2_with fail
      go_ret
      exact ⟨rfl, rfl⟩

theorem first_byte (s : ByteArray) (h : 0 < s.size) : (s[0]).toNat = Lp.byte s := by
  unfold Lp.byte
  obtain ⟨⟨l⟩⟩ := s
  cases l with
  | nil => exact absurd h (by decide)
  | cons a t => rfl

set_option maxHeartbeats 1000000 in
theorem l6Num_any (base n g cap : Nat) (l : List ByteArray) (s : ByteArray) (w : World) (ho : OwnL w base (.slice (some ⟨g, 0, none⟩) n cap) n l) (hn : n ≤ 5000) (_hs : s.size ≤ 6000) :
    Calls Try.prog 64 #[.slice (some ⟨g, 0, none⟩) n cap, .string s] w fun e w' => e = .returned (.int .i64 (Lp.num l s)) ∧ w' = w := by
  have HF : Hid (∀ w', w' = w → Calls Try.prog 78 #[.slice (some ⟨g, 0, none⟩) n cap, .string s] w' fun e w'' => e = .returned (.int .i64 (Lp.find l s)) ∧ w'' = w') := fun w' e => by subst e; exact l6Find_any base n g cap l s w' ho hn
  clear ho
  unfold Lp.num
  by_cases h1 : s.size = 1
  · rw [if_pos h1]
    have hb := first_byte s (by omega)
    have hbl := Lp.byte_lt s
    have hi1 : (s.size : Int) = 1 := by omega
    have h0 : 0 < s.size := by omega
    generalize Lp.byte s = B at *
    clear HF
    go_enter Try.func64, Try.ntmps64
    go_wp2_with fail
    go_ret
    exact ⟨rfl, rfl⟩
  · rw [if_neg h1]
    have hi1 : ¬ (s.size : Int) = 1 := by omega
    generalize Lp.find l s = R at *
    go_enter Try.func64, Try.ntmps64
    go_wp2_with fail
    refine (HF.out _ rfl).mono ?_
    rintro e w1 ⟨rfl, hw1⟩
    subst hw1
    go_wp2_with fail
    go_ret
    exact ⟨rfl, rfl⟩

set_option maxHeartbeats 1000000 in
theorem l6Known_any (b n cap : Nat) (ao : Option Addr) (w : World) (hb : b ≤ 8) (hn : n ≤ 5000) (hn1 : 1 ≤ n) :
    Calls Try.prog 79 #[.slice ao n cap, .int .i64 (b : Int)] w fun e w' => e = .returned (.int .i64 (Lp.known b n : Int)) ∧ w' = w := by
  have HPW : Hid (∀ w', Calls Try.prog 35 #[.int .i64 (b : Int)] w' fun e w'' => e = .returned (.int .i64 ((2 ^ b : Nat) : Int)) ∧ w'' = w') := fun w' => l1Pow_any b w' (by omega)
  have hp := Lz.pow_le hb
  unfold Lp.known
  generalize 2 ^ b = P at *
  by_cases h1 : n = P + 2
  · rw [if_pos h1]
    have hi : (n : Int) = (P : Int) + 2 := by omega
    have HI : Hid (n = P + 2) := h1
    have hbe : ((n : Int) == (P : Int) + 2) = true := by simp [hi]
    clear h1 hi
    go_enter Try.func79, Try.ntmps79
    go_wp2_with fail
    refine (HPW.out _).mono ?_
    rintro e w1 ⟨rfl, hw1⟩
    subst hw1
    go_wp2_with fail
    all_goals first | (go_ret; exact ⟨rfl, rfl⟩) | (exfalso; have := HI.out; omega)
  · rw [if_neg h1]
    have hi : ¬ (n : Int) = (P : Int) + 2 := by omega
    have hbe : ((n : Int) == (P : Int) + 2) = false := by simpa using hi
    go_enter Try.func79, Try.ntmps79
    go_wp2_with fail
    refine (HPW.out _).mono ?_
    rintro e w1 ⟨rfl, hw1⟩
    subst hw1
    go_wp2_with fail
    go_ret
    exact ⟨by first | go_num | (congr 2; omega), rfl⟩

set_option maxHeartbeats 1000000 in
theorem l6Code_any (b n cap : Nat) (ao : Option Addr) (v : Int) (wide : Bool) (w : World) (hb : b ≤ 8) (hn : n ≤ 5000) (hn1 : 1 ≤ n) :
    Calls Try.prog 65 #[.int .i64 v, .slice ao n cap, .int .i64 (b : Int), .bool wide] w fun e w' => e = .returned (.agg #[.int .i64 (Lp.code b wide v n).1, .int .i64 (Lp.code b wide v n).2]) ∧ Below w.heap.size w w' := by
  have HK : Hid (∀ w', Calls Try.prog 79 #[.slice ao n cap, .int .i64 (b : Int)] w' fun e w'' => e = .returned (.int .i64 (Lp.known b n : Int)) ∧ w'' = w') := fun w' => l6Known_any b n cap ao w' hb hn hn1
  have hkb : Lp.known b n ≤ 5000 := by unfold Lp.known; split <;> omega
  have HW : Hid (∀ w', Calls Try.prog 74 #[.int .i64 (Lp.known b n : Int), .int .i64 (b : Int), .bool wide] w' fun e w'' => e = .returned (.int .i64 (Lz.width b wide (Lp.known b n) : Int)) ∧ w'' = w') := fun w' => l6Width_any b (Lp.known b n) hb hkb wide w'
  unfold Lp.code
  generalize Lz.width b wide (Lp.known b n) = W at *
  generalize Lp.known b n = K at *
  go_enter Try.func65, Try.ntmps65
  go_wp2_with fail
  refine (HK.out _).mono ?_
  rintro e w1 ⟨rfl, hw1⟩
  replace hw1 := hw1.symm
  subst hw1
  go_wp2_with fail
  refine (HW.out _).mono ?_
  rintro e w1 ⟨rfl, hw1⟩
  replace hw1 := hw1.symm
  subst hw1
  go_wp2_with fail
  exact bodyPost_ret (v := .agg #[.int .i64 v, .int .i64 (W : Int)]) (by simp [results, Try.results65, go_sem]) rfl ⟨rfl, (Below.refl _ _).alloc (Nat.le_refl _) _⟩

set_option maxHeartbeats 400000 in
theorem l6Full_any (wide : Bool) (w : World) : Calls Try.prog 66 #[.bool wide] w fun e w' => e = .returned (.int .i64 (Lp.full wide : Int)) ∧ w' = w := by
  cases wide
  all_goals
    go_enter Try.func66, Try.ntmps66
    go_wp2_with fail
    go_ret
    exact ⟨rfl, rfl⟩

def Lp.smallB (b : Nat) (s : ByteArray) : Bool := (List.range s.size).all fun k => decide (Lp.byte (s.extract k (k + 1)) < 2 ^ b)
theorem Lp.small_of {b : Nat} {s : ByteArray} (h : Lp.smallB b s = true) : Lp.small b s := fun k hk => by
  have := List.all_eq_true.1 h k (List.mem_range.2 hk)
  simpa using this
theorem extract_byte (s : ByteArray) (k : Nat) (h : k < s.size) : Lp.byte (s.extract k (k + 1)) = (s[k]).toNat := by
  have hz : 0 < (s.extract k (k + 1)).size := by rw [ByteArray.size_extract]; omega
  rw [← first_byte _ hz, ByteArray.getElem_extract]
  rfl

set_option maxHeartbeats 1000000 in
theorem l6Fits_any (b : Nat) (s : ByteArray) (w : World) (hb : b ≤ 8) (hs : s.size ≤ 9000) :
    Calls Try.prog 44 #[.string s, .int .i64 (b : Int)] w fun e w' => e = .returned (.bool (Lp.smallB b s)) ∧ ∃ m, w' = w.drewN m := by
  have HPW : Hid (∀ w', Calls Try.prog 35 #[.int .i64 (b : Int)] w' fun e w'' => e = .returned (.int .i64 ((2 ^ b : Nat) : Int)) ∧ w'' = w') := fun w' => l1Pow_any b w' (by omega)
  have hp := Lz.pow_le hb
  have HNO : Hid (∀ k (h : k < s.size), 2 ^ b ≤ (s[k]).toNat → Lp.smallB b s = false) := fun k h hk => by
    rw [← Bool.not_eq_true]
    intro hc
    have := Lp.small_of hc k h
    rw [extract_byte s k h] at this
    omega
  have HYES : Hid ((∀ k (h : k < s.size), (s[k]).toNat < 2 ^ b) → Lp.smallB b s = true) := fun h => by
    unfold Lp.smallB
    rw [List.all_eq_true]
    intro k hk
    have hk' := List.mem_range.1 hk
    rw [extract_byte s k hk']
    simpa using h k hk'
  generalize hB : Lp.smallB b s = B at *
  clear hB
  generalize 2 ^ b = P at *
  go_enter Try.func44, Try.ntmps44
  go_wp2_with fail
  go_loopw [5] (fun i wr => ∃ k : Nat, k ≤ s.size ∧ i = .int .i64 (k : Int) ∧ Hid (∀ j (h : j < s.size), j < k → (s[j]).toNat < P) ∧ Hid (∃ m, wr = w.drewN m)) (fun i _ => s.size - (intOf i).toNat)
  case atStart => exact ⟨0, Nat.zero_le _, rfl, fun j _ h => absurd h (Nat.not_lt_zero _), 0, rfl⟩
  case round =>
    obtain ⟨k, hk, rfl, HA, HM⟩ := hrel
    by_cases hlt : k < s.size
    · obtain ⟨y, hy⟩ : ∃ y, y = (s[k]).toNat := ⟨_, rfl⟩
      have hyb : y < 256 := by rw [hy]; exact UInt8.toNat_lt _
      have hsy : (s[k]).toNat = y := hy.symm
      have hi : (k : Int) < (s.size : Int) := by omega
      by_cases hsm : y < P
      · have HA2 : Hid (∀ j (h : j < s.size), j < k + 1 → (s[j]).toNat < P) := fun j h hj => by
          rcases Nat.lt_or_ge j k with h1 | h1
          · exact HA.out j h h1
          · have e : j = k := by omega
            subst e
            omega
        have hd : decide ((y : Int) ≥ (P : Int)) = false := decide_eq_false (by omega)
        clear hy HA
        go_wp2_with fail
        go_quiet ((go_at_call 35; exact Calls.quiet_of_same (HPW.out _)))
        go_wp2_with fail
        go_roundw
        case rel => exact ⟨k + 1, by omega, by go_num, HA2, by obtain ⟨m, rfl⟩ := HM.out; exact ⟨_, World.drewN_drewN _ _ _⟩⟩
        case measure => simp [intOf]; omega
      · have hBf : B = false := HNO.out k hlt (by omega)
        subst hBf
        have hd : decide ((y : Int) ≥ (P : Int)) = true := decide_eq_true (by omega)
        clear hy HA
        go_wp2_with fail
        go_quiet ((go_at_call 35; exact Calls.quiet_of_same (HPW.out _)))
        go_wp2_with fail
        go_ret
        obtain ⟨m, rfl⟩ := HM.out
        exact ⟨rfl, _, World.drewN_drewN _ _ _⟩
    · have hBt : B = true := HYES.out (fun j h => HA.out j h (by omega))
      subst hBt
      go_wp2_with fail
      go_ret
      exact ⟨rfl, HM.out⟩
end Go.Proofs.Ytjfihmpnbblomaa

/- The writer of LZW: the longest text that is known and stands next. -/
namespace Go.Proofs.Ytjfihmpnbblomaa
open Go.RowKit Go.Maps

theorem lit_inj {a b : Int} (h : (DataW.lit (.int .i64 a) : DataW Unit) = .lit (.int .i64 b)) : a = b := by
  injection h with h
  injection h
theorem zero_int_ (w : World) : (zeroValue 3).run Try.prog w = .ok (.int .i64 0) w := by kernel_rfl
/-- what the table answers -/
theorem tab_look {w : World} {mb N b : Nat} {D : DataW Unit} {l : List ByteArray} (hm : w.ownsMap Try.prog 69 (plainElem Try.prog 3) mb N D) (t : TabIs D b l) (h c : Nat) (hh : h ≤ 100000) (hc : c < 256) :
    ∃ x : Int, (Instr.lookup 60 (.map (some mb)) (pairV h c) true).run Try.prog w = .ok (.tuple #[.int .i64 x, .bool (decide (0 ≤ Lq.look l h c))]) w ∧ (0 ≤ Lq.look l h c → x = Lq.look l h c) ∧ D.atKey (pairKey h c) (.lit (.int .i64 0)) = .lit (.int .i64 x) := by
  obtain ⟨v, ps, hrun, hv⟩ := hm.look_ok key_pair Try.underlying60 (zero_int_ w) (zd := .lit (.int .i64 0)) (zp := []) (plainElem_int Try.underlying3 (by decide)) (pairKey_of h c hh hc)
  obtain ⟨x, rfl, hx, -⟩ := plainElem_int_inv Try.underlying3 hv
  rw [t.has_ h c hh hc] at hrun
  have h2 := congrArg Prod.fst hx
  refine ⟨x, hrun, fun hl => ?_, h2⟩
  exact (lit_inj ((t.at_ h c hh hc hl _).symm.trans h2)).symm

/-- what longest answers -/
def LongOut (l : List ByteArray) (u : ByteArray) (w : World) (e : Ending) (w' : World) : Prop :=
  ∃ v k : Nat, e = .returned (.tuple #[.int .i64 (v : Int), .int .i64 (k : Int)]) ∧ 1 ≤ k ∧ k ≤ u.size ∧ (∀ j, 1 ≤ j → j ≤ k → 0 ≤ Lp.num l (u.extract 0 j)) ∧ Lp.num l (u.extract 0 k) = (v : Int) ∧ (k = u.size ∨ (k < u.size ∧ Lp.num l (u.extract 0 (k + 1)) < 0)) ∧ ∃ m, w' = w.drewN m
/-- how far it is -/
def LongAt (l : List ByteArray) (u : ByteArray) (k v : Nat) : Prop := 1 ≤ k ∧ k ≤ u.size ∧ (∀ j, 1 ≤ j → j ≤ k → 0 ≤ Lp.num l (u.extract 0 j)) ∧ Lp.num l (u.extract 0 k) = (v : Int)

theorem extract_next (u : ByteArray) (k : Nat) (h : k < u.size) : u.extract 0 (k + 1) = u.extract 0 k ++ Lz.one (u[k]).toNat := by
  have h1 : u.extract 0 (k + 1) = u.extract 0 k ++ u.extract k (k + 1) := by
    rw [ByteArray.extract_append_extract, Nat.min_eq_left (by omega), Nat.max_eq_right (by omega)]
  rw [h1]
  congr 1
  have hs : (u.extract k (k + 1)).size = 1 := by rw [ByteArray.size_extract]; omega
  rw [Lp.one_of hs, extract_byte u k h]

set_option linter.unusedSimpArgs false in
set_option maxHeartbeats 2000000 in
set_option maxRecDepth 20000 in
theorem wrLongest (B b since mb N : Nat) (wide : Bool) (ov : Value) (D : DataW Unit) (l : List ByteArray) (u : ByteArray) (w : World) (hb : b ≤ 8) (h : Wr w B b wide (.map (some mb)) since ov) (hm : w.ownsMap Try.prog 69 (plainElem Try.prog 3) mb N D) (tb : TabIs D b l) (g : Lq.Inv b l) (hl4 : l.length ≤ 4096) (hu : 1 ≤ u.size) (hu5 : u.size ≤ 5000) (hsm : ∀ k (h : k < u.size), (u[k]).toNat < 2 ^ b) :
    Calls Try.prog 39 #[.pointer (some ⟨B, 0, none⟩), .string u] w (LongOut l u w) := by
  have hpw := Lz.pow_le hb
  have hb0 := first_byte u (by omega)
  have HSM : Hid (∀ k (h : k < u.size), (u[k]).toNat < 2 ^ b) := hsm
  have e1 : u.extract 0 1 = Lz.one (Lp.byte u) := by
    have hs : (u.extract 0 1).size = 1 := by rw [ByteArray.size_extract]; omega
    rw [Lp.one_of hs, show (1 : Nat) = 0 + 1 from rfl, extract_byte u 0 (by omega), hb0]
  have hbb : Lp.byte u < 2 ^ b := by rw [← hb0]; exact hsm 0 (by omega)
  have hone : Lp.byte (Lz.one (Lp.byte u)) = Lp.byte u := by
    have := Lp.byte_lt u
    have e : Lp.byte (Lz.one (Lp.byte u)) = (UInt8.ofNat (Lp.byte u)).toNat := rfl
    rw [e, UInt8.toNat_ofNat']
    omega
  have H0 : Hid (LongAt l u 1 (Lp.byte u)) := by
    have hn : Lp.num l (u.extract 0 1) = (Lp.byte u : Int) := by rw [e1, Lp.num_one rfl, hone]
    refine ⟨Nat.le_refl _, hu, fun j h1 h2 => ?_, hn⟩
    have : j = 1 := by omega
    subst this
    rw [hn]; omega
  have HM : Hid (Wr w B b wide (.map (some mb)) since ov ∧ w.ownsMap Try.prog 69 (plainElem Try.prog 3) mb N D ∧ TabIs D b l ∧ Lq.Inv b l) := ⟨h, hm, tb, g⟩
  have hb8 : Lp.byte u < 256 := Lp.byte_lt u
  generalize Lp.byte u = y0 at *
  have h0s : 0 < u.size := by omega
  have hui : (0 : Int) < (u.size : Int) := by omega
  clear h hm tb g hsm e1 hone
  go_enter Try.func39, Try.ntmps39
  go_wp2_with fail
  go_loopw [6, 7] (fun nv kv wr => ∃ k v : Nat, nv = .int .i64 (v : Int) ∧ kv = .int .i64 (k : Int) ∧ Hid (LongAt l u k v) ∧ Hid (∃ m, wr = w.drewN m)) (fun _ kv _ => u.size - (intOf kv).toNat)
  case atStart => exact ⟨1, y0, rfl, rfl, H0, 0, rfl⟩
  case round =>
    obtain ⟨k, v, rfl, rfl, HA, HW⟩ := hrel
    clear H0
    have hk1 := HA.out.1
    have hk2 := HA.out.2.1
    have HF : Hid (k = u.size → LongOut l u w (.returned (.tuple #[.int .i64 (v : Int), .int .i64 (k : Int)])) wr) := fun e => ⟨v, k, rfl, hk1, hk2, HA.out.2.2.1, HA.out.2.2.2, .inl e, HW.out⟩
    have hvl : v < l.length := by
      obtain ⟨hv, -⟩ := Lq.at_num HM.out.2.2.2 HA.out.2.2.2 (fun hs => by
        have hk : k = 1 := by rw [ByteArray.size_extract] at hs; omega
        subst hk
        rw [show (1 : Nat) = 0 + 1 from rfl, extract_byte u 0 h0s]
        exact HSM.out 0 h0s)
      exact hv
    by_cases hlt : k < u.size
    · obtain ⟨y, hy⟩ : ∃ y, y = (u[k]).toNat := ⟨_, rfl⟩
      have hsy : (u[k]).toNat = y := hy.symm
      have hyb : y < 256 := by rw [hy]; exact UInt8.toNat_lt _
      have hki : (k : Int) < (u.size : Int) := by omega
      have hlook : Lq.look l v y = Lp.num l (u.extract 0 (k + 1)) := by
        rw [extract_next u k hlt, ← hy]
        refine Lq.look_num y HM.out.2.2.2 HA.out.2.2.2 (fun hs => ?_) (by rw [ByteArray.size_extract]; omega)
        have hk : k = 1 := by rw [ByteArray.size_extract] at hs; omega
        subst hk
        rw [show (1 : Nat) = 0 + 1 from rfl, extract_byte u 0 h0s]
        exact HSM.out 0 h0s
      have HLK : Hid (Lq.look l v y = Lp.num l (u.extract 0 (k + 1))) := hlook
      have HMR : Hid (Wr wr B b wide (.map (some mb)) since ov ∧ wr.ownsMap Try.prog 69 (plainElem Try.prog 3) mb N D) := by
        obtain ⟨m, rfl⟩ := HW.out
        exact ⟨HM.out.1, HM.out.2.1⟩
      obtain ⟨x, hx, hxe, hxa⟩ := tab_look HMR.out.2 HM.out.2.2.1 v y (by omega) hyb
      have HX : Hid (∀ m, (Instr.lookup 60 (.map (some mb)) (pairV v y) true).run Try.prog (wr.drewN m) = .ok (.tuple #[.int .i64 x, .bool (decide (0 ≤ Lq.look l v y))]) (wr.drewN m)) := fun m => by
        obtain ⟨x', hx', -, hxa'⟩ := tab_look (w := wr.drewN m) (show (wr.drewN m).ownsMap _ _ _ _ _ _ from HMR.out.2) HM.out.2.2.1 v y (by omega) hyb
        have e : x' = x := by
          exact lit_inj (hxa'.symm.trans hxa)
        rw [← e]
        exact hx'
      obtain ⟨r, hr⟩ : ∃ r : Bool, r = decide (0 ≤ Lq.look l v y) := ⟨_, rfl⟩
      have HRR : Hid (r = decide (0 ≤ Lq.look l v y)) := hr
      have HXE : Hid (0 ≤ Lq.look l v y → x = Lq.look l v y) := hxe
      rw [← hr] at HX
      clear hx hxe hxa hr hy hlook HF
      go_wp2_with fail
      refine wp_region_told (S := (fun wy => ∃ m, wy = wr.drewN m)) 15 40 [.is (.pointer (some ⟨B, 0, none⟩)), .is (.pointer (some ⟨B, 0, none⟩)), .is (.pointer (some ⟨B, 2, none⟩)), .is (.map (some mb)), .is (.int .i64 (v : Int)), .is (.string u), .is (.int .i64 (k : Int)), .is (.int .u8 (y : Int)), .is (pairV v y), .is (.tuple #[.int .i64 x, .bool r]), .is (.tuple #[.int .i64 x, .bool r]), .is (.int .i64 x), .is (.bool r), .is (.int .i64 x), .is (.bool r)] (by kernel_rfl) (by kernel_rfl) (by rfl) (fun _ _ _ _ hd h => ⟨hd.trans h.1, h.2⟩) (fun vs => by simp only [puts, List.getElem?_toArray, List.getElem?_cons_succ, List.getElem?_cons_zero, Option.bind_some, Act.put, List.setIfInBounds_toArray, List.set_cons_zero, List.set_cons_succ]; exact rfl) ⟨1, rfl⟩ ?_ ?_
      · refine TellsFrom.cons rfl (fun vs wz hS hd K hK => ?_) ?_
        · try dsimp only at hK ⊢
          try simp only [List.getElem_toArray, List.getElem_cons_succ, List.getElem_cons_zero, Act.put, List.setIfInBounds_toArray, List.set_cons_zero, List.set_cons_succ]
          obtain ⟨mz, hmz⟩ := hS
          subst hmz
          have s2 := HMR.out.1.cell 2
          simp at s2
          go_simp
          exact hK.out _ _ ⟨mz, rfl⟩ (Below.refl _ _) rfl
        refine TellsFrom.cons rfl (fun vs wz hS hd K hK => ?_) ?_
        · try dsimp only at hK ⊢
          have h0 : vs 0 = (.pointer (some ⟨B, 0, none⟩)) := hd 0 (by kernel_rfl)
          generalize vs 0 = x0 at *
          subst h0
          try simp only [List.getElem_toArray, List.getElem_cons_succ, List.getElem_cons_zero, Act.put, List.setIfInBounds_toArray, List.set_cons_zero, List.set_cons_succ]
          obtain ⟨mz, hmz⟩ := hS
          subst hmz
          have s2 := HMR.out.1.cell 2
          simp at s2
          go_simp
          exact hK.out _ _ ⟨mz, rfl⟩ (Below.refl _ _) rfl
        refine TellsFrom.cons rfl (fun vs wz hS hd K hK => ?_) ?_
        · try dsimp only at hK ⊢
          have h1 : vs 1 = (.pointer (some ⟨B, 0, none⟩)) := hd 1 (by kernel_rfl)
          generalize vs 1 = x1 at *
          subst h1
          try simp only [List.getElem_toArray, List.getElem_cons_succ, List.getElem_cons_zero, Act.put, List.setIfInBounds_toArray, List.set_cons_zero, List.set_cons_succ]
          obtain ⟨mz, hmz⟩ := hS
          subst hmz
          have s2 := HMR.out.1.cell 2
          simp at s2
          go_simp
          exact hK.out _ _ ⟨mz, rfl⟩ (Below.refl _ _) rfl
        refine TellsFrom.cons rfl (fun vs wz hS hd K hK => ?_) ?_
        · try dsimp only at hK ⊢
          have h2 : vs 2 = (.pointer (some ⟨B, 2, none⟩)) := hd 2 (by kernel_rfl)
          generalize vs 2 = x2 at *
          subst h2
          try simp only [List.getElem_toArray, List.getElem_cons_succ, List.getElem_cons_zero, Act.put, List.setIfInBounds_toArray, List.set_cons_zero, List.set_cons_succ]
          obtain ⟨mz, hmz⟩ := hS
          subst hmz
          have s2 := HMR.out.1.cell 2
          simp at s2
          go_simp
          exact hK.out _ _ ⟨mz, rfl⟩ (Below.refl _ _) rfl
        refine TellsFrom.cons rfl (fun vs wz hS hd K hK => ?_) ?_
        · try dsimp only at hK ⊢
          try simp only [List.getElem_toArray, List.getElem_cons_succ, List.getElem_cons_zero, Act.put, List.setIfInBounds_toArray, List.set_cons_zero, List.set_cons_succ]
          obtain ⟨mz, hmz⟩ := hS
          subst hmz
          have s2 := HMR.out.1.cell 2
          simp at s2
          go_simp
          exact hK.out _ _ ⟨mz, rfl⟩ (Below.refl _ _) rfl
        refine TellsFrom.cons rfl (fun vs wz hS hd K hK => ?_) ?_
        · try dsimp only at hK ⊢
          try simp only [List.getElem_toArray, List.getElem_cons_succ, List.getElem_cons_zero, Act.put, List.setIfInBounds_toArray, List.set_cons_zero, List.set_cons_succ]
          obtain ⟨mz, hmz⟩ := hS
          subst hmz
          have s2 := HMR.out.1.cell 2
          simp at s2
          go_simp
          exact hK.out _ _ ⟨mz, rfl⟩ (Below.refl _ _) rfl
        refine TellsFrom.cons rfl (fun vs wz hS hd K hK => ?_) ?_
        · try dsimp only at hK ⊢
          try simp only [List.getElem_toArray, List.getElem_cons_succ, List.getElem_cons_zero, Act.put, List.setIfInBounds_toArray, List.set_cons_zero, List.set_cons_succ]
          obtain ⟨mz, hmz⟩ := hS
          subst hmz
          have s2 := HMR.out.1.cell 2
          simp at s2
          go_simp
          exact hK.out _ _ ⟨mz, rfl⟩ (Below.refl _ _) rfl
        refine TellsFrom.cons rfl (fun vs wz hS hd K hK => ?_) ?_
        · try dsimp only at hK ⊢
          have h5 : vs 5 = (.string u) := hd 5 (by kernel_rfl)
          generalize vs 5 = x5 at *
          subst h5
          have h6 : vs 6 = (.int .i64 (k : Int)) := hd 6 (by kernel_rfl)
          generalize vs 6 = x6 at *
          subst h6
          try simp only [List.getElem_toArray, List.getElem_cons_succ, List.getElem_cons_zero, Act.put, List.setIfInBounds_toArray, List.set_cons_zero, List.set_cons_succ]
          obtain ⟨mz, hmz⟩ := hS
          subst hmz
          have s2 := HMR.out.1.cell 2
          simp at s2
          go_simp
          exact hK.out _ _ ⟨mz, rfl⟩ (Below.refl _ _) rfl
        refine TellsFrom.cons rfl (fun vs wz hS hd K hK => ?_) ?_
        · try dsimp only at hK ⊢
          have h4 : vs 4 = (.int .i64 (v : Int)) := hd 4 (by kernel_rfl)
          generalize vs 4 = x4 at *
          subst h4
          have h7 : vs 7 = (.int .u8 (y : Int)) := hd 7 (by kernel_rfl)
          generalize vs 7 = x7 at *
          subst h7
          try simp only [List.getElem_toArray, List.getElem_cons_succ, List.getElem_cons_zero, Act.put, List.setIfInBounds_toArray, List.set_cons_zero, List.set_cons_succ]
          obtain ⟨mz, hmz⟩ := hS
          subst hmz
          have s2 := HMR.out.1.cell 2
          simp at s2
          go_simp
          exact hK.out _ _ ⟨mz, rfl⟩ (Below.refl _ _) rfl
        refine TellsFrom.cons rfl (fun vs wz hS hd K hK => ?_) ?_
        · try dsimp only at hK ⊢
          have h3 : vs 3 = (.map (some mb)) := hd 3 (by kernel_rfl)
          generalize vs 3 = x3 at *
          subst h3
          have h8 : vs 8 = (pairV v y) := hd 8 (by kernel_rfl)
          generalize vs 8 = x8 at *
          subst h8
          try simp only [List.getElem_toArray, List.getElem_cons_succ, List.getElem_cons_zero, Act.put, List.setIfInBounds_toArray, List.set_cons_zero, List.set_cons_succ]
          obtain ⟨mz, hmz⟩ := hS
          subst hmz
          have s2 := HMR.out.1.cell 2
          simp at s2
          have hx := HX.out mz
          go_simp
          exact hK.out _ _ ⟨mz, rfl⟩ (Below.refl _ _) rfl
        refine TellsFrom.cons rfl (fun vs wz hS hd K hK => ?_) ?_
        · try dsimp only at hK ⊢
          have h9 : vs 9 = (.tuple #[.int .i64 x, .bool r]) := hd 9 (by kernel_rfl)
          generalize vs 9 = x9 at *
          subst h9
          try simp only [List.getElem_toArray, List.getElem_cons_succ, List.getElem_cons_zero, Act.put, List.setIfInBounds_toArray, List.set_cons_zero, List.set_cons_succ]
          obtain ⟨mz, hmz⟩ := hS
          subst hmz
          have s2 := HMR.out.1.cell 2
          simp at s2
          go_simp
          exact hK.out _ _ ⟨mz, rfl⟩ (Below.refl _ _) rfl
        refine TellsFrom.cons rfl (fun vs wz hS hd K hK => ?_) ?_
        · try dsimp only at hK ⊢
          have h10 : vs 10 = (.tuple #[.int .i64 x, .bool r]) := hd 10 (by kernel_rfl)
          generalize vs 10 = x10 at *
          subst h10
          try simp only [List.getElem_toArray, List.getElem_cons_succ, List.getElem_cons_zero, Act.put, List.setIfInBounds_toArray, List.set_cons_zero, List.set_cons_succ]
          obtain ⟨mz, hmz⟩ := hS
          subst hmz
          have s2 := HMR.out.1.cell 2
          simp at s2
          go_simp
          exact hK.out _ _ ⟨mz, rfl⟩ (Below.refl _ _) rfl
        refine TellsFrom.cons rfl (fun vs wz hS hd K hK => ?_) ?_
        · try dsimp only at hK ⊢
          have h10 : vs 10 = (.tuple #[.int .i64 x, .bool r]) := hd 10 (by kernel_rfl)
          generalize vs 10 = x10 at *
          subst h10
          try simp only [List.getElem_toArray, List.getElem_cons_succ, List.getElem_cons_zero, Act.put, List.setIfInBounds_toArray, List.set_cons_zero, List.set_cons_succ]
          obtain ⟨mz, hmz⟩ := hS
          subst hmz
          have s2 := HMR.out.1.cell 2
          simp at s2
          go_simp
          exact hK.out _ _ ⟨mz, rfl⟩ (Below.refl _ _) rfl
        refine TellsFrom.cons rfl (fun vs wz hS hd K hK => ?_) ?_
        · try dsimp only at hK ⊢
          have h11 : vs 11 = (.int .i64 x) := hd 11 (by kernel_rfl)
          generalize vs 11 = x11 at *
          subst h11
          try simp only [List.getElem_toArray, List.getElem_cons_succ, List.getElem_cons_zero, Act.put, List.setIfInBounds_toArray, List.set_cons_zero, List.set_cons_succ]
          obtain ⟨mz, hmz⟩ := hS
          subst hmz
          have s2 := HMR.out.1.cell 2
          simp at s2
          go_simp
          exact hK.out _ _ ⟨mz, rfl⟩ (Below.refl _ _) rfl
        refine TellsFrom.cons rfl (fun vs wz hS hd K hK => ?_) ?_
        · try dsimp only at hK ⊢
          have h12 : vs 12 = (.bool r) := hd 12 (by kernel_rfl)
          generalize vs 12 = x12 at *
          subst h12
          try simp only [List.getElem_toArray, List.getElem_cons_succ, List.getElem_cons_zero, Act.put, List.setIfInBounds_toArray, List.set_cons_zero, List.set_cons_succ]
          obtain ⟨mz, hmz⟩ := hS
          subst hmz
          have s2 := HMR.out.1.cell 2
          simp at s2
          go_simp
          exact hK.out _ _ ⟨mz, rfl⟩ (Below.refl _ _) rfl
        exact TellsFrom.nil
      · intro vs wz hS hd
        try dsimp only
        have h13 : vs 13 = .int .i64 x := hd 13 (by omega)
        have h14 : vs 14 = .bool r := hd 14 (by omega)
        clear hd
        generalize vs 0 = y0 at *
        generalize vs 1 = y1 at *
        generalize vs 2 = y2 at *
        generalize vs 3 = y3 at *
        generalize vs 4 = y4 at *
        generalize vs 5 = y5 at *
        generalize vs 6 = y6 at *
        generalize vs 7 = y7 at *
        generalize vs 8 = y8 at *
        generalize vs 9 = y9 at *
        generalize vs 10 = y10 at *
        generalize vs 11 = y11 at *
        generalize vs 12 = y12 at *
        generalize vs 13 = y13 at *
        generalize vs 14 = y14 at *
        subst h13
        subst h14
        obtain ⟨mz, hmz⟩ := hS
        subst hmz
        refine wpAnyH_done (by kernel_rfl) ?_ _
        try simp only [List.getElem_toArray, List.getElem_cons_succ, List.getElem_cons_zero, Act.put, List.setIfInBounds_toArray, List.set_cons_zero, List.set_cons_succ]
        have HW2 : Hid (∃ m, wr.drewN mz = w.drewN m) := by
          obtain ⟨m, rfl⟩ := HW.out
          exact ⟨_, World.drewN_drewN _ _ _⟩
        cases hrc : r with
        | true =>
          have hl0 : 0 ≤ Lq.look l v y := by have := HRR.out; rw [hrc] at this; exact of_decide_eq_true this.symm
          obtain ⟨v2, hv2⟩ := Int.eq_ofNat_of_zero_le hl0
          have hxv : x = (v2 : Int) := (HXE.out hl0).trans hv2
          subst hxv
          have HA2 : Hid (LongAt l u (k + 1) v2) := by
            have hn : Lp.num l (u.extract 0 (k + 1)) = (v2 : Int) := HLK.out.symm.trans hv2
            refine ⟨by omega, by omega, fun j h1 h2 => ?_, hn⟩
            by_cases hj : j ≤ k
            · exact HA.out.2.2.1 j h1 hj
            · have : j = k + 1 := by omega
              subst this
              rw [hn]; omega
          subst hrc
          clear HRR HXE HLK hv2 hl0 HX HMR
          go_wp2_with fail
          go_roundw
          case rel => exact ⟨k + 1, v2, rfl, by go_num, HA2, HW2⟩
          case measure => simp [intOf]; omega
        | false =>
          have hl0 : Lp.num l (u.extract 0 (k + 1)) < 0 := by
            have := HRR.out
            rw [hrc] at this
            have h2 := of_decide_eq_false this.symm
            rw [HLK.out] at h2
            omega
          have HF2 : Hid (LongOut l u w (.returned (.tuple #[.int .i64 (v : Int), .int .i64 (k : Int)])) (wr.drewN mz)) := ⟨v, k, rfl, hk1, hk2, HA.out.2.2.1, HA.out.2.2.2, .inr ⟨hlt, hl0⟩, HW2.out⟩
          subst hrc
          clear HRR HXE HLK hl0 HX HMR
          go_wp2_with fail
          go_ret2
          exact HF2.out
    · have HF2 : Hid (LongOut l u w (.returned (.tuple #[.int .i64 (v : Int), .int .i64 (u.size : Int)])) wr) := by
        have e : k = u.size := by omega
        have := HF.out e
        rw [← e]
        exact this
      have hki : ¬ (k : Int) < (u.size : Int) := by omega
      clear HF HM
      go_wp2_with fail
      go_ret2
      exact HF2.out
end Go.Proofs.Ytjfihmpnbblomaa

/- The writer of LZW: learn. -/
namespace Go.Proofs.Ytjfihmpnbblomaa
open Go.RowKit Go.Maps

set_option maxHeartbeats 400000 in
theorem lzFull_any (b : Int) (wide : Bool) (w : World) : Calls Try.prog 60 #[.agg #[.int .i64 b, .bool wide]] w fun e w' => e = .returned (.int .i64 (Lp.full wide : Int)) ∧ Below w.heap.size w w' := by
  have hB0 : Below w.heap.size w (w.alloc (.cells #[.int .i64 b, .bool wide] 50)) := (Below.refl _ _).alloc (Nat.le_refl _) _
  cases wide
  all_goals
    go_enter Try.func60, Try.ntmps60
    go_wp2_with fail
    go_ret
    exact ⟨rfl, hB0⟩

/-- the map's block is no row's -/
theorem map_apart {w : World} {k e : TypeId} {R : Value → Option (DataW Unit × List MemPlace)} {mb N lo n z : Nat} {D : DataW Unit} {v : Value} {l : List Value} (hm : w.ownsMap Try.prog k R mb N D) (ho : w.ownsRow lo e z v n l) : v.ownBlock ≠ some mb := fun hk => by
  obtain ⟨es, cl, hb, -⟩ := hm
  rcases ho.2 with ⟨rfl, _⟩ | ⟨g, cap, cur, rfl, _, hg, _⟩
  · cases hk
  · have e : g = mb := by cases hk; rfl
    subst e
    rw [hb] at hg
    cases hg
theorem map_writer {w : World} {k : TypeId} {R : Value → Option (DataW Unit × List MemPlace)} {mb N B b since : Nat} {D : DataW Unit} {wide : Bool} {mv ov : Value} (hm : w.ownsMap Try.prog k R mb N D) (h : Wr w B b wide mv since ov) : mb ≠ B := fun e => by
  obtain ⟨es, cl, hb, -⟩ := hm
  subst e
  rw [show w.heap[mb]? = _ from h] at hb
  cases hb
theorem map_same {w w' : World} {k : TypeId} {R : Value → Option (DataW Unit × List MemPlace)} {mb N : Nat} {D : DataW Unit} (hm : w.ownsMap Try.prog k R mb N D) (hb : w'.heap[mb]? = w.heap[mb]?) : w'.ownsMap Try.prog k R mb N D := by
  obtain ⟨es, cl, h1, h2⟩ := hm
  exact ⟨es, cl, hb.trans h1, h2⟩
abbrev MapAt (w : World) (mb N : Nat) (D : DataW Unit) : Prop := w.ownsMap Try.prog 69 (plainElem Try.prog 3) mb N D

/-- what learn leaves: a text more is known -/
def LrAdd (B b since n lo mb N : Nat) (wide : Bool) (ov : Value) (l2 : List ByteArray) (out : List (Int × Int)) (w w' : World) : Prop :=
  ∃ D2, Wr w' B b wide (.map (some mb)) since ov ∧ OwnP w' lo ov n out ∧ MapAt w' mb (N + 1) D2 ∧ TabIs D2 b l2 ∧ Below lo w w'
/-- what learn leaves: all is forgotten -/
def LrFull (B b n lo : Nat) (wide : Bool) (out : List (Int × Int)) (w w' : World) : Prop :=
  ∃ g cap mb', Wr w' B b wide (.map (some mb')) 0 (.slice (some ⟨g, 0, none⟩) (n + 1) cap) ∧ OwnP w' lo (.slice (some ⟨g, 0, none⟩) (n + 1) cap) (n + 1) out ∧ MapAt w' mb' 0 (.map []) ∧ lo ≤ mb' ∧ Below lo w w'
/-- the state told while a region runs -/
def WrM (w : World) (B b : Nat) (wide : Bool) (since : Nat) (ov : Value) (pb v c mb N : Nat) (D : DataW Unit) (wy : World) : Prop :=
  Wr wy B b wide (.map (some mb)) since ov ∧ MapAt wy mb N D ∧ Below w.heap.size w wy ∧ wy.cell? ⟨pb, 0, none⟩ = some (.int .i64 (v : Int)) ∧ wy.cell? ⟨pb, 1, none⟩ = some (.int .u8 (c : Int))
theorem WrM.kept {w wy wz : World} {B b since pb v c mb N : Nat} {wide : Bool} {ov : Value} {D : DataW Unit} (h : WrM w B b wide since ov pb v c mb N D wy) (hb : Below wy.heap.size wy wz) : WrM w B b wide since ov pb v c mb N D wz :=
  ⟨h.1.same (hb.block _ h.1.lt), map_same h.2.1 (hb.block _ h.2.1.lt), h.2.2.1.trans (hb.mono h.2.2.1.size), (hb.cell (p := ⟨pb, 0, none⟩) (World.block_lt_of_cell? wy _ h.2.2.2.1)).trans h.2.2.2.1, (hb.cell (p := ⟨pb, 1, none⟩) (World.block_lt_of_cell? wy _ h.2.2.2.2)).trans h.2.2.2.2⟩

set_option linter.unusedSimpArgs false in
set_option linter.unusedVariables false in
set_option maxHeartbeats 4000000 in
set_option maxRecDepth 20000 in
theorem wrLearn_add (B b since n lo mb N v c : Nat) (wide : Bool) (ov : Value) (D : DataW Unit) (l : List ByteArray) (z : ByteArray) (out : List (Int × Int)) (w : World) (hb : b ≤ 8) (h : Wr w B b wide (.map (some mb)) since ov) (ho : OwnP w lo ov n out) (hm : MapAt w mb N D) (tb : TabIs D b l) (g : Lq.Inv b l) (hlB : lo ≤ B) (hlm : lo ≤ mb) (hn : n ≤ 100000) (hN : N ≤ 5000)
    (hv : Lp.num l z = (v : Int)) (hz : z.size = 1 → Lp.byte z < 2 ^ b) (hz1 : 1 ≤ z.size) (hf : Lp.find l (z ++ Lz.one c) < 0) (hc : c < 256) (hfull : l.length + 1 < Lp.full wide) :
    Calls Try.prog 41 #[.pointer (some ⟨B, 0, none⟩), .agg #[.int .i64 (v : Int), .int .u8 (c : Int)]] w fun e w' => e = .returned (.tuple #[]) ∧ LrAdd B b since n lo mb N wide ov (l ++ [z ++ Lz.one c]) out w w' := by
  have hpw := Lz.pow_le hb
  have hfb := Lp.full_bd wide
  have HFI : Hid (∀ w', Calls Try.prog 58 #[.agg #[.int .i64 (b : Int), .bool wide]] w' fun e w'' => e = .returned (.int .i64 ((2 ^ b + 2 : Nat) : Int)) ∧ Below w'.heap.size w' w'') := fun w' => lzFirst_any b hb wide w'
  have HFU : Hid (∀ w', Calls Try.prog 60 #[.agg #[.int .i64 (b : Int), .bool wide]] w' fun e w'' => e = .returned (.int .i64 (Lp.full wide : Int)) ∧ Below w'.heap.size w' w'') := fun w' => lzFull_any b wide w'
  obtain ⟨hvl, -⟩ := Lq.at_num g hv hz
  have htsz := tb.size_
  obtain ⟨F, hF⟩ : ∃ F : Nat, F = 2 ^ b + 2 := ⟨_, rfl⟩
  rw [← hF] at HFI htsz
  obtain ⟨U, hU⟩ : ∃ U : Nat, U = Lp.full wide := ⟨_, rfl⟩
  rw [← hU] at HFU hfb
  obtain ⟨S0, hS0⟩ : ∃ S0 : Nat, S0 = size D := ⟨_, rfl⟩
  rw [← hS0] at htsz
  obtain ⟨L, hL⟩ : ∃ L : Nat, L = l.length := ⟨_, rfl⟩
  have eA : (F : Int) + (S0 : Int) = (L : Int) := by omega
  have hLb : L ≤ 4095 := by omega
  have wA : IntKind.i64.wrap (L : Int) = (L : Int) := wrap_i64_nat L (by omega)
  have hLF : L + 1 < U := by omega
  have HLEN : Hid (∀ wy : World, MapAt wy mb N D → (Builtin.len_ #[60] 3 #[.map (some mb)]).run Try.prog wy = .ok (.int .i64 (S0 : Int)) wy) := fun wy hm => by rw [hS0]; exact hm.len Try.underlying60 _
  have hlk : Lq.look l v c < 0 := by rw [Lq.look_num c g hv hz hz1, Lp.num_two rfl hz1]; exact hf
  have HUP : Hid (∀ wy : World, MapAt wy mb N D → ∃ w', (Instr.mapUpdate 60 (.map (some mb)) (pairV v c) (.int .i64 (L : Int))).run Try.prog wy = .ok () w' ∧ (∃ D', MapAt w' mb (N + 1) D' ∧ TabIs D' b (l ++ [z ++ Lz.one c]) ∧ size D' = S0 + 1) ∧ wy.grownBy w' (some mb)) := fun wy hmy => by
    obtain ⟨w', h1, h2, h3⟩ := hmy.update key_pair Try.underlying60 (by unfold maxLen; omega) (pairKey_of v c (by omega) hc) (plainElem_int (H := Unit) Try.underlying3 (WalkArith.wf_i64 (n := (L : Int)) (by omega)))
    have ht := tb.more (hmy.tidy key_pair) g hv hz hz1 hf hc (by omega)
    rw [← hL] at ht
    refine ⟨w', h1, ⟨_, h2, ht, ?_⟩, h3⟩
    have := ht.size_
    rw [List.length_append, ← hL, ← hF] at this
    simp at this
    omega
  have hBm := map_writer hm h
  have hoB := h.apart ho (by decide)
  have hom := map_apart hm ho
  have hBlt := h.lt
  have HO : Hid (OwnP w lo ov n out) := ho
  have hlw : lo ≤ w.heap.size := by omega
  have HST : Hid (WrM w B b wide since ov w.heap.size v c mb N D (w.alloc (.cells #[.int .i64 (v : Int), .int .u8 (c : Int)] 69)) ∧ OwnP (w.alloc (.cells #[.int .i64 (v : Int), .int .u8 (c : Int)] 69)) lo ov n out) := by
    have hba : Below w.heap.size w (w.alloc (.cells #[.int .i64 (v : Int), .int .u8 (c : Int)] 69)) := (Below.refl _ _).alloc (Nat.le_refl _) _
    exact ⟨⟨h.same (hba.block _ h.lt), hm.alloc _, hba, by simp, by simp⟩, World.ownsRow.alloc (show World.ownsRow _ _ _ _ _ _ _ from ho) _⟩
  clear h ho hm tb hv hz hf hlk hvl hS0 hU g hF hL htsz
  go_enter Try.func41, Try.ntmps41
  go_wp2_with fail
  obtain ⟨w1, hw1⟩ : ∃ w1, w1 = w.alloc (.cells #[.int .i64 (v : Int), .int .u8 (c : Int)] 69) := ⟨_, rfl⟩
  rw [← hw1] at HST ⊢
  clear hw1
  have hpb : w.heap.size ≠ B := by omega
  refine wp_region_told (S := (fun wy => WrM w B b wide since ov w.heap.size v c mb N D wy)) 16 39 [.is (.pointer (some ⟨B, 0, none⟩)), .is (.pointer (some ⟨B, 0, none⟩)), .is (.pointer (some ⟨B, 2, none⟩)), .is (.map (some mb)), .is (pairV v c), .is (.pointer (some ⟨B, 0, none⟩)), .is (.pointer (some ⟨B, 0, none⟩)), .is (.pointer (some ⟨B, 0, none⟩)), .is (.agg #[.int .i64 (b : Int), .bool wide]), .is (.int .i64 (F : Int)), .is (.pointer (some ⟨B, 0, none⟩)), .is (.pointer (some ⟨B, 0, none⟩)), .is (.pointer (some ⟨B, 2, none⟩)), .is (.map (some mb)), .is (.int .i64 (S0 : Int)), .is (.int .i64 (L : Int))] (by kernel_rfl) (by kernel_rfl) (by rfl) (fun _ _ _ _ hd h => ⟨hd.trans h.1, h.2⟩) (fun vs => by simp only [puts, List.getElem?_toArray, List.getElem?_cons_succ, List.getElem?_cons_zero, Option.bind_some, Act.put, List.setIfInBounds_toArray, List.set_cons_zero, List.set_cons_succ]; exact rfl) (HST.out.1.kept (Below.refl _ _).drew) ?_ ?_
  · refine TellsFrom.cons rfl (fun vs wz hS hd K hK => ?_) ?_
    · try dsimp only at hK ⊢
      try simp only [List.getElem_toArray, List.getElem_cons_succ, List.getElem_cons_zero, Act.put, List.setIfInBounds_toArray, List.set_cons_zero, List.set_cons_succ]
      have s0 := hS.1.cell 0
      have s1 := hS.1.cell 1
      have s2 := hS.1.cell 2
      have p0 := hS.2.2.2.1
      have p1 := hS.2.2.2.2
      have hlenm := HLEN.out _ hS.2.1
      simp at s0 s1 s2
      go_simp
      exact hK.out _ _ hS (Below.refl _ _) rfl
    refine TellsFrom.cons rfl (fun vs wz hS hd K hK => ?_) ?_
    · try dsimp only at hK ⊢
      have h0 : vs 0 = (.pointer (some ⟨B, 0, none⟩)) := hd 0 (by kernel_rfl)
      generalize vs 0 = x0 at *
      subst h0
      try simp only [List.getElem_toArray, List.getElem_cons_succ, List.getElem_cons_zero, Act.put, List.setIfInBounds_toArray, List.set_cons_zero, List.set_cons_succ]
      have s0 := hS.1.cell 0
      have s1 := hS.1.cell 1
      have s2 := hS.1.cell 2
      have p0 := hS.2.2.2.1
      have p1 := hS.2.2.2.2
      have hlenm := HLEN.out _ hS.2.1
      simp at s0 s1 s2
      go_simp
      exact hK.out _ _ hS (Below.refl _ _) rfl
    refine TellsFrom.cons rfl (fun vs wz hS hd K hK => ?_) ?_
    · try dsimp only at hK ⊢
      have h1 : vs 1 = (.pointer (some ⟨B, 0, none⟩)) := hd 1 (by kernel_rfl)
      generalize vs 1 = x1 at *
      subst h1
      try simp only [List.getElem_toArray, List.getElem_cons_succ, List.getElem_cons_zero, Act.put, List.setIfInBounds_toArray, List.set_cons_zero, List.set_cons_succ]
      have s0 := hS.1.cell 0
      have s1 := hS.1.cell 1
      have s2 := hS.1.cell 2
      have p0 := hS.2.2.2.1
      have p1 := hS.2.2.2.2
      have hlenm := HLEN.out _ hS.2.1
      simp at s0 s1 s2
      go_simp
      exact hK.out _ _ hS (Below.refl _ _) rfl
    refine TellsFrom.cons rfl (fun vs wz hS hd K hK => ?_) ?_
    · try dsimp only at hK ⊢
      have h2 : vs 2 = (.pointer (some ⟨B, 2, none⟩)) := hd 2 (by kernel_rfl)
      generalize vs 2 = x2 at *
      subst h2
      try simp only [List.getElem_toArray, List.getElem_cons_succ, List.getElem_cons_zero, Act.put, List.setIfInBounds_toArray, List.set_cons_zero, List.set_cons_succ]
      have s0 := hS.1.cell 0
      have s1 := hS.1.cell 1
      have s2 := hS.1.cell 2
      have p0 := hS.2.2.2.1
      have p1 := hS.2.2.2.2
      have hlenm := HLEN.out _ hS.2.1
      simp at s0 s1 s2
      go_simp
      exact hK.out _ _ hS (Below.refl _ _) rfl
    refine TellsFrom.cons rfl (fun vs wz hS hd K hK => ?_) ?_
    · try dsimp only at hK ⊢
      try simp only [List.getElem_toArray, List.getElem_cons_succ, List.getElem_cons_zero, Act.put, List.setIfInBounds_toArray, List.set_cons_zero, List.set_cons_succ]
      have s0 := hS.1.cell 0
      have s1 := hS.1.cell 1
      have s2 := hS.1.cell 2
      have p0 := hS.2.2.2.1
      have p1 := hS.2.2.2.2
      have hlenm := HLEN.out _ hS.2.1
      simp at s0 s1 s2
      go_simp
      exact hK.out _ _ hS (Below.refl _ _) rfl
    refine TellsFrom.cons rfl (fun vs wz hS hd K hK => ?_) ?_
    · try dsimp only at hK ⊢
      try simp only [List.getElem_toArray, List.getElem_cons_succ, List.getElem_cons_zero, Act.put, List.setIfInBounds_toArray, List.set_cons_zero, List.set_cons_succ]
      have s0 := hS.1.cell 0
      have s1 := hS.1.cell 1
      have s2 := hS.1.cell 2
      have p0 := hS.2.2.2.1
      have p1 := hS.2.2.2.2
      have hlenm := HLEN.out _ hS.2.1
      simp at s0 s1 s2
      go_simp
      exact hK.out _ _ hS (Below.refl _ _) rfl
    refine TellsFrom.cons rfl (fun vs wz hS hd K hK => ?_) ?_
    · try dsimp only at hK ⊢
      have h5 : vs 5 = (.pointer (some ⟨B, 0, none⟩)) := hd 5 (by kernel_rfl)
      generalize vs 5 = x5 at *
      subst h5
      try simp only [List.getElem_toArray, List.getElem_cons_succ, List.getElem_cons_zero, Act.put, List.setIfInBounds_toArray, List.set_cons_zero, List.set_cons_succ]
      have s0 := hS.1.cell 0
      have s1 := hS.1.cell 1
      have s2 := hS.1.cell 2
      have p0 := hS.2.2.2.1
      have p1 := hS.2.2.2.2
      have hlenm := HLEN.out _ hS.2.1
      simp at s0 s1 s2
      go_simp
      exact hK.out _ _ hS (Below.refl _ _) rfl
    refine TellsFrom.cons rfl (fun vs wz hS hd K hK => ?_) ?_
    · try dsimp only at hK ⊢
      have h6 : vs 6 = (.pointer (some ⟨B, 0, none⟩)) := hd 6 (by kernel_rfl)
      generalize vs 6 = x6 at *
      subst h6
      try simp only [List.getElem_toArray, List.getElem_cons_succ, List.getElem_cons_zero, Act.put, List.setIfInBounds_toArray, List.set_cons_zero, List.set_cons_succ]
      have s0 := hS.1.cell 0
      have s1 := hS.1.cell 1
      have s2 := hS.1.cell 2
      have p0 := hS.2.2.2.1
      have p1 := hS.2.2.2.2
      have hlenm := HLEN.out _ hS.2.1
      simp at s0 s1 s2
      go_simp
      exact hK.out _ _ hS (Below.refl _ _) rfl
    refine TellsFrom.cons rfl (fun vs wz hS hd K hK => ?_) ?_
    · try dsimp only at hK ⊢
      have h7 : vs 7 = (.pointer (some ⟨B, 0, none⟩)) := hd 7 (by kernel_rfl)
      generalize vs 7 = x7 at *
      subst h7
      try simp only [List.getElem_toArray, List.getElem_cons_succ, List.getElem_cons_zero, Act.put, List.setIfInBounds_toArray, List.set_cons_zero, List.set_cons_succ]
      have s0 := hS.1.cell 0
      have s1 := hS.1.cell 1
      have s2 := hS.1.cell 2
      have p0 := hS.2.2.2.1
      have p1 := hS.2.2.2.2
      have hlenm := HLEN.out _ hS.2.1
      simp at s0 s1 s2
      go_simp
      exact hK.out _ _ hS (Below.refl _ _) rfl
    refine TellsFrom.cons rfl (fun vs wz hS hd K hK => ?_) ?_
    · try dsimp only at hK ⊢
      have h8 : vs 8 = (.agg #[.int .i64 (b : Int), .bool wide]) := hd 8 (by kernel_rfl)
      generalize vs 8 = x8 at *
      subst h8
      try simp only [List.getElem_toArray, List.getElem_cons_succ, List.getElem_cons_zero, Act.put, List.setIfInBounds_toArray, List.set_cons_zero, List.set_cons_succ]
      go_simp
      refine (HFI.out _).mono ?_
      rintro e v1 ⟨rfl, b1⟩
      exact hK.out _ _ (hS.kept b1) b1 rfl
    refine TellsFrom.cons rfl (fun vs wz hS hd K hK => ?_) ?_
    · try dsimp only at hK ⊢
      try simp only [List.getElem_toArray, List.getElem_cons_succ, List.getElem_cons_zero, Act.put, List.setIfInBounds_toArray, List.set_cons_zero, List.set_cons_succ]
      have s0 := hS.1.cell 0
      have s1 := hS.1.cell 1
      have s2 := hS.1.cell 2
      have p0 := hS.2.2.2.1
      have p1 := hS.2.2.2.2
      have hlenm := HLEN.out _ hS.2.1
      simp at s0 s1 s2
      go_simp
      exact hK.out _ _ hS (Below.refl _ _) rfl
    refine TellsFrom.cons rfl (fun vs wz hS hd K hK => ?_) ?_
    · try dsimp only at hK ⊢
      have h10 : vs 10 = (.pointer (some ⟨B, 0, none⟩)) := hd 10 (by kernel_rfl)
      generalize vs 10 = x10 at *
      subst h10
      try simp only [List.getElem_toArray, List.getElem_cons_succ, List.getElem_cons_zero, Act.put, List.setIfInBounds_toArray, List.set_cons_zero, List.set_cons_succ]
      have s0 := hS.1.cell 0
      have s1 := hS.1.cell 1
      have s2 := hS.1.cell 2
      have p0 := hS.2.2.2.1
      have p1 := hS.2.2.2.2
      have hlenm := HLEN.out _ hS.2.1
      simp at s0 s1 s2
      go_simp
      exact hK.out _ _ hS (Below.refl _ _) rfl
    refine TellsFrom.cons rfl (fun vs wz hS hd K hK => ?_) ?_
    · try dsimp only at hK ⊢
      have h11 : vs 11 = (.pointer (some ⟨B, 0, none⟩)) := hd 11 (by kernel_rfl)
      generalize vs 11 = x11 at *
      subst h11
      try simp only [List.getElem_toArray, List.getElem_cons_succ, List.getElem_cons_zero, Act.put, List.setIfInBounds_toArray, List.set_cons_zero, List.set_cons_succ]
      have s0 := hS.1.cell 0
      have s1 := hS.1.cell 1
      have s2 := hS.1.cell 2
      have p0 := hS.2.2.2.1
      have p1 := hS.2.2.2.2
      have hlenm := HLEN.out _ hS.2.1
      simp at s0 s1 s2
      go_simp
      exact hK.out _ _ hS (Below.refl _ _) rfl
    refine TellsFrom.cons rfl (fun vs wz hS hd K hK => ?_) ?_
    · try dsimp only at hK ⊢
      have h12 : vs 12 = (.pointer (some ⟨B, 2, none⟩)) := hd 12 (by kernel_rfl)
      generalize vs 12 = x12 at *
      subst h12
      try simp only [List.getElem_toArray, List.getElem_cons_succ, List.getElem_cons_zero, Act.put, List.setIfInBounds_toArray, List.set_cons_zero, List.set_cons_succ]
      have s0 := hS.1.cell 0
      have s1 := hS.1.cell 1
      have s2 := hS.1.cell 2
      have p0 := hS.2.2.2.1
      have p1 := hS.2.2.2.2
      have hlenm := HLEN.out _ hS.2.1
      simp at s0 s1 s2
      go_simp
      exact hK.out _ _ hS (Below.refl _ _) rfl
    refine TellsFrom.cons rfl (fun vs wz hS hd K hK => ?_) ?_
    · try dsimp only at hK ⊢
      have h13 : vs 13 = (.map (some mb)) := hd 13 (by kernel_rfl)
      generalize vs 13 = x13 at *
      subst h13
      try simp only [List.getElem_toArray, List.getElem_cons_succ, List.getElem_cons_zero, Act.put, List.setIfInBounds_toArray, List.set_cons_zero, List.set_cons_succ]
      have s0 := hS.1.cell 0
      have s1 := hS.1.cell 1
      have s2 := hS.1.cell 2
      have p0 := hS.2.2.2.1
      have p1 := hS.2.2.2.2
      have hlenm := HLEN.out _ hS.2.1
      simp at s0 s1 s2
      go_simp
      exact hK.out _ _ hS (Below.refl _ _) rfl
    refine TellsFrom.cons rfl (fun vs wz hS hd K hK => ?_) ?_
    · try dsimp only at hK ⊢
      have h9 : vs 9 = (.int .i64 (F : Int)) := hd 9 (by kernel_rfl)
      generalize vs 9 = x9 at *
      subst h9
      have h14 : vs 14 = (.int .i64 (S0 : Int)) := hd 14 (by kernel_rfl)
      generalize vs 14 = x14 at *
      subst h14
      try simp only [List.getElem_toArray, List.getElem_cons_succ, List.getElem_cons_zero, Act.put, List.setIfInBounds_toArray, List.set_cons_zero, List.set_cons_succ]
      have s0 := hS.1.cell 0
      have s1 := hS.1.cell 1
      have s2 := hS.1.cell 2
      have p0 := hS.2.2.2.1
      have p1 := hS.2.2.2.2
      have hlenm := HLEN.out _ hS.2.1
      simp at s0 s1 s2
      go_simp
      exact hK.out _ _ hS (Below.refl _ _) rfl
    exact TellsFrom.nil
  · intro vs wz hS hd
    try dsimp only
    have h3 : vs 3 = .map (some mb) := hd 3 (by omega)
    have h4 : vs 4 = pairV v c := hd 4 (by omega)
    have h15 : vs 15 = .int .i64 (L : Int) := hd 15 (by omega)
    clear hd
    generalize vs 0 = y0 at *
    generalize vs 1 = y1 at *
    generalize vs 2 = y2 at *
    generalize vs 3 = y3 at *
    generalize vs 4 = y4 at *
    generalize vs 5 = y5 at *
    generalize vs 6 = y6 at *
    generalize vs 7 = y7 at *
    generalize vs 8 = y8 at *
    generalize vs 9 = y9 at *
    generalize vs 10 = y10 at *
    generalize vs 11 = y11 at *
    generalize vs 12 = y12 at *
    generalize vs 13 = y13 at *
    generalize vs 14 = y14 at *
    generalize vs 15 = y15 at *
    subst h3
    subst h4
    subst h15
    have HS2 : Hid (WrM w B b wide since ov w.heap.size v c mb N D wz) := hS
    clear hS
    obtain ⟨w3, hup, ⟨D2, hm3, ht3, hs3⟩, hg3⟩ := HUP.out wz HS2.out.2.1
    have HR3 : Hid (Wr w3 B b wide (.map (some mb)) since ov) := HS2.out.1.same (hg3.block B HS2.out.1.lt (fun e => hBm (by cases e; rfl)))
    have HM3 : Hid (MapAt w3 mb (N + 1) D2) := hm3
    have HT3 : Hid (TabIs D2 b (l ++ [z ++ Lz.one c])) := ht3
    have HG3 : Hid (wz.grownBy w3 (some mb)) := hg3
    obtain ⟨S1, hS1⟩ : ∃ S1 : Nat, S1 = S0 + 1 := ⟨_, rfl⟩
    obtain ⟨L1, hL1⟩ : ∃ L1 : Nat, L1 = L + 1 := ⟨_, rfl⟩
    have HLEN2 : Hid (∀ wy : World, MapAt wy mb (N + 1) D2 → (Builtin.len_ #[60] 3 #[.map (some mb)]).run Try.prog wy = .ok (.int .i64 (S1 : Int)) wy) := fun wy hm => by rw [hS1, ← hs3]; exact hm.len Try.underlying60 _
    clear hm3 ht3 hs3 hg3 HUP HLEN
    refine wpAnyH_ready (rs := [16]) (by kernel_rfl) (by simp) ?_
    refine AllReadyH.cons rfl (fun K hK => ?_) AllReadyH.nil
    have hup2 : Sem.run Try.prog (Instr.mapUpdate 60 (.map (some mb)) (.agg #[.int .i64 (v : Int), .int .u8 (c : Int)]) (.int .i64 (L : Int))) wz = .ok () w3 := hup
    unfold pairV
    go_simp
    refine hK.out _ _ trivial (fun _ => ?_)
    clear hK K hup hup2
    refine wpAnyH_done (by kernel_rfl) ?_ _
    try simp only [List.getElem_toArray, List.getElem_cons_succ, List.getElem_cons_zero, Act.put, List.setIfInBounds_toArray, List.set_cons_zero, List.set_cons_succ]
    have eA2 : (F : Int) + (S1 : Int) = (L1 : Int) := by omega
    have wA2 : IntKind.i64.wrap (L1 : Int) = (L1 : Int) := wrap_i64_nat L1 (by omega)
    obtain ⟨r, hr⟩ : ∃ r : Bool, r = ((L1 : Int) == (U : Int)) := ⟨_, rfl⟩
    have hrv : r = false := by rw [hr]; rw [beq_eq_false_iff_ne]; omega
    have HRV : Hid (r = false) := hrv
    have hr2 : ((L1 : Int) == (U : Int)) = r := hr.symm
    clear hS1 hL1 hr hrv hLF eA wA
    go_wp2_with fail
    refine wp_region_told (S := (fun wy => WrT w3 B b wide (.map (some mb)) since ov wy ∧ MapAt wy mb (N + 1) D2)) 17 39 [.is (.pointer (some ⟨B, 0, none⟩)), .is (.pointer (some ⟨B, 0, none⟩)), .is (.pointer (some ⟨B, 0, none⟩)), .is (.agg #[.int .i64 (b : Int), .bool wide]), .is (.int .i64 (F : Int)), .is (.pointer (some ⟨B, 0, none⟩)), .is (.pointer (some ⟨B, 0, none⟩)), .is (.pointer (some ⟨B, 2, none⟩)), .is (.map (some mb)), .is (.int .i64 (S1 : Int)), .is (.int .i64 (L1 : Int)), .is (.pointer (some ⟨B, 0, none⟩)), .is (.pointer (some ⟨B, 0, none⟩)), .is (.pointer (some ⟨B, 0, none⟩)), .is (.agg #[.int .i64 (b : Int), .bool wide]), .is (.int .i64 (U : Int)), .is (.bool r)] (by kernel_rfl) (by kernel_rfl) (by rfl) (fun _ _ _ _ hd h => ⟨hd.trans h.1, h.2⟩) (fun vs => by simp only [puts, List.getElem?_toArray, List.getElem?_cons_succ, List.getElem?_cons_zero, Option.bind_some, Act.put, List.setIfInBounds_toArray, List.set_cons_zero, List.set_cons_succ]; exact rfl) ⟨WrT.new HR3.out, HM3.out⟩ ?_ ?_
    · refine TellsFrom.cons rfl (fun vs wz hS hd K hK => ?_) ?_
      · try dsimp only at hK ⊢
        try simp only [List.getElem_toArray, List.getElem_cons_succ, List.getElem_cons_zero, Act.put, List.setIfInBounds_toArray, List.set_cons_zero, List.set_cons_succ]
        have s0 := hS.1.1.cell 0
        have s1 := hS.1.1.cell 1
        have s2 := hS.1.1.cell 2
        have hlenm := HLEN2.out _ hS.2
        simp at s0 s1 s2
        go_simp
        exact hK.out _ _ hS (Below.refl _ _) rfl
      refine TellsFrom.cons rfl (fun vs wz hS hd K hK => ?_) ?_
      · try dsimp only at hK ⊢
        have h0 : vs 0 = (.pointer (some ⟨B, 0, none⟩)) := hd 0 (by kernel_rfl)
        generalize vs 0 = x0 at *
        subst h0
        try simp only [List.getElem_toArray, List.getElem_cons_succ, List.getElem_cons_zero, Act.put, List.setIfInBounds_toArray, List.set_cons_zero, List.set_cons_succ]
        have s0 := hS.1.1.cell 0
        have s1 := hS.1.1.cell 1
        have s2 := hS.1.1.cell 2
        have hlenm := HLEN2.out _ hS.2
        simp at s0 s1 s2
        go_simp
        exact hK.out _ _ hS (Below.refl _ _) rfl
      refine TellsFrom.cons rfl (fun vs wz hS hd K hK => ?_) ?_
      · try dsimp only at hK ⊢
        have h1 : vs 1 = (.pointer (some ⟨B, 0, none⟩)) := hd 1 (by kernel_rfl)
        generalize vs 1 = x1 at *
        subst h1
        try simp only [List.getElem_toArray, List.getElem_cons_succ, List.getElem_cons_zero, Act.put, List.setIfInBounds_toArray, List.set_cons_zero, List.set_cons_succ]
        have s0 := hS.1.1.cell 0
        have s1 := hS.1.1.cell 1
        have s2 := hS.1.1.cell 2
        have hlenm := HLEN2.out _ hS.2
        simp at s0 s1 s2
        go_simp
        exact hK.out _ _ hS (Below.refl _ _) rfl
      refine TellsFrom.cons rfl (fun vs wz hS hd K hK => ?_) ?_
      · try dsimp only at hK ⊢
        have h2 : vs 2 = (.pointer (some ⟨B, 0, none⟩)) := hd 2 (by kernel_rfl)
        generalize vs 2 = x2 at *
        subst h2
        try simp only [List.getElem_toArray, List.getElem_cons_succ, List.getElem_cons_zero, Act.put, List.setIfInBounds_toArray, List.set_cons_zero, List.set_cons_succ]
        have s0 := hS.1.1.cell 0
        have s1 := hS.1.1.cell 1
        have s2 := hS.1.1.cell 2
        have hlenm := HLEN2.out _ hS.2
        simp at s0 s1 s2
        go_simp
        exact hK.out _ _ hS (Below.refl _ _) rfl
      refine TellsFrom.cons rfl (fun vs wz hS hd K hK => ?_) ?_
      · try dsimp only at hK ⊢
        have h3 : vs 3 = (.agg #[.int .i64 (b : Int), .bool wide]) := hd 3 (by kernel_rfl)
        generalize vs 3 = x3 at *
        subst h3
        try simp only [List.getElem_toArray, List.getElem_cons_succ, List.getElem_cons_zero, Act.put, List.setIfInBounds_toArray, List.set_cons_zero, List.set_cons_succ]
        go_simp
        refine (HFI.out _).mono ?_
        rintro e v1 ⟨rfl, b1⟩
        exact hK.out _ _ ⟨hS.1.kept b1, map_same hS.2 (b1.block _ hS.2.lt)⟩ b1 rfl
      refine TellsFrom.cons rfl (fun vs wz hS hd K hK => ?_) ?_
      · try dsimp only at hK ⊢
        try simp only [List.getElem_toArray, List.getElem_cons_succ, List.getElem_cons_zero, Act.put, List.setIfInBounds_toArray, List.set_cons_zero, List.set_cons_succ]
        have s0 := hS.1.1.cell 0
        have s1 := hS.1.1.cell 1
        have s2 := hS.1.1.cell 2
        have hlenm := HLEN2.out _ hS.2
        simp at s0 s1 s2
        go_simp
        exact hK.out _ _ hS (Below.refl _ _) rfl
      refine TellsFrom.cons rfl (fun vs wz hS hd K hK => ?_) ?_
      · try dsimp only at hK ⊢
        have h5 : vs 5 = (.pointer (some ⟨B, 0, none⟩)) := hd 5 (by kernel_rfl)
        generalize vs 5 = x5 at *
        subst h5
        try simp only [List.getElem_toArray, List.getElem_cons_succ, List.getElem_cons_zero, Act.put, List.setIfInBounds_toArray, List.set_cons_zero, List.set_cons_succ]
        have s0 := hS.1.1.cell 0
        have s1 := hS.1.1.cell 1
        have s2 := hS.1.1.cell 2
        have hlenm := HLEN2.out _ hS.2
        simp at s0 s1 s2
        go_simp
        exact hK.out _ _ hS (Below.refl _ _) rfl
      refine TellsFrom.cons rfl (fun vs wz hS hd K hK => ?_) ?_
      · try dsimp only at hK ⊢
        have h6 : vs 6 = (.pointer (some ⟨B, 0, none⟩)) := hd 6 (by kernel_rfl)
        generalize vs 6 = x6 at *
        subst h6
        try simp only [List.getElem_toArray, List.getElem_cons_succ, List.getElem_cons_zero, Act.put, List.setIfInBounds_toArray, List.set_cons_zero, List.set_cons_succ]
        have s0 := hS.1.1.cell 0
        have s1 := hS.1.1.cell 1
        have s2 := hS.1.1.cell 2
        have hlenm := HLEN2.out _ hS.2
        simp at s0 s1 s2
        go_simp
        exact hK.out _ _ hS (Below.refl _ _) rfl
      refine TellsFrom.cons rfl (fun vs wz hS hd K hK => ?_) ?_
      · try dsimp only at hK ⊢
        have h7 : vs 7 = (.pointer (some ⟨B, 2, none⟩)) := hd 7 (by kernel_rfl)
        generalize vs 7 = x7 at *
        subst h7
        try simp only [List.getElem_toArray, List.getElem_cons_succ, List.getElem_cons_zero, Act.put, List.setIfInBounds_toArray, List.set_cons_zero, List.set_cons_succ]
        have s0 := hS.1.1.cell 0
        have s1 := hS.1.1.cell 1
        have s2 := hS.1.1.cell 2
        have hlenm := HLEN2.out _ hS.2
        simp at s0 s1 s2
        go_simp
        exact hK.out _ _ hS (Below.refl _ _) rfl
      refine TellsFrom.cons rfl (fun vs wz hS hd K hK => ?_) ?_
      · try dsimp only at hK ⊢
        have h8 : vs 8 = (.map (some mb)) := hd 8 (by kernel_rfl)
        generalize vs 8 = x8 at *
        subst h8
        try simp only [List.getElem_toArray, List.getElem_cons_succ, List.getElem_cons_zero, Act.put, List.setIfInBounds_toArray, List.set_cons_zero, List.set_cons_succ]
        have s0 := hS.1.1.cell 0
        have s1 := hS.1.1.cell 1
        have s2 := hS.1.1.cell 2
        have hlenm := HLEN2.out _ hS.2
        simp at s0 s1 s2
        go_simp
        exact hK.out _ _ hS (Below.refl _ _) rfl
      refine TellsFrom.cons rfl (fun vs wz hS hd K hK => ?_) ?_
      · try dsimp only at hK ⊢
        have h4 : vs 4 = (.int .i64 (F : Int)) := hd 4 (by kernel_rfl)
        generalize vs 4 = x4 at *
        subst h4
        have h9 : vs 9 = (.int .i64 (S1 : Int)) := hd 9 (by kernel_rfl)
        generalize vs 9 = x9 at *
        subst h9
        try simp only [List.getElem_toArray, List.getElem_cons_succ, List.getElem_cons_zero, Act.put, List.setIfInBounds_toArray, List.set_cons_zero, List.set_cons_succ]
        have s0 := hS.1.1.cell 0
        have s1 := hS.1.1.cell 1
        have s2 := hS.1.1.cell 2
        have hlenm := HLEN2.out _ hS.2
        simp at s0 s1 s2
        go_simp
        exact hK.out _ _ hS (Below.refl _ _) rfl
      refine TellsFrom.cons rfl (fun vs wz hS hd K hK => ?_) ?_
      · try dsimp only at hK ⊢
        try simp only [List.getElem_toArray, List.getElem_cons_succ, List.getElem_cons_zero, Act.put, List.setIfInBounds_toArray, List.set_cons_zero, List.set_cons_succ]
        have s0 := hS.1.1.cell 0
        have s1 := hS.1.1.cell 1
        have s2 := hS.1.1.cell 2
        have hlenm := HLEN2.out _ hS.2
        simp at s0 s1 s2
        go_simp
        exact hK.out _ _ hS (Below.refl _ _) rfl
      refine TellsFrom.cons rfl (fun vs wz hS hd K hK => ?_) ?_
      · try dsimp only at hK ⊢
        have h11 : vs 11 = (.pointer (some ⟨B, 0, none⟩)) := hd 11 (by kernel_rfl)
        generalize vs 11 = x11 at *
        subst h11
        try simp only [List.getElem_toArray, List.getElem_cons_succ, List.getElem_cons_zero, Act.put, List.setIfInBounds_toArray, List.set_cons_zero, List.set_cons_succ]
        have s0 := hS.1.1.cell 0
        have s1 := hS.1.1.cell 1
        have s2 := hS.1.1.cell 2
        have hlenm := HLEN2.out _ hS.2
        simp at s0 s1 s2
        go_simp
        exact hK.out _ _ hS (Below.refl _ _) rfl
      refine TellsFrom.cons rfl (fun vs wz hS hd K hK => ?_) ?_
      · try dsimp only at hK ⊢
        have h12 : vs 12 = (.pointer (some ⟨B, 0, none⟩)) := hd 12 (by kernel_rfl)
        generalize vs 12 = x12 at *
        subst h12
        try simp only [List.getElem_toArray, List.getElem_cons_succ, List.getElem_cons_zero, Act.put, List.setIfInBounds_toArray, List.set_cons_zero, List.set_cons_succ]
        have s0 := hS.1.1.cell 0
        have s1 := hS.1.1.cell 1
        have s2 := hS.1.1.cell 2
        have hlenm := HLEN2.out _ hS.2
        simp at s0 s1 s2
        go_simp
        exact hK.out _ _ hS (Below.refl _ _) rfl
      refine TellsFrom.cons rfl (fun vs wz hS hd K hK => ?_) ?_
      · try dsimp only at hK ⊢
        have h13 : vs 13 = (.pointer (some ⟨B, 0, none⟩)) := hd 13 (by kernel_rfl)
        generalize vs 13 = x13 at *
        subst h13
        try simp only [List.getElem_toArray, List.getElem_cons_succ, List.getElem_cons_zero, Act.put, List.setIfInBounds_toArray, List.set_cons_zero, List.set_cons_succ]
        have s0 := hS.1.1.cell 0
        have s1 := hS.1.1.cell 1
        have s2 := hS.1.1.cell 2
        have hlenm := HLEN2.out _ hS.2
        simp at s0 s1 s2
        go_simp
        exact hK.out _ _ hS (Below.refl _ _) rfl
      refine TellsFrom.cons rfl (fun vs wz hS hd K hK => ?_) ?_
      · try dsimp only at hK ⊢
        have h14 : vs 14 = (.agg #[.int .i64 (b : Int), .bool wide]) := hd 14 (by kernel_rfl)
        generalize vs 14 = x14 at *
        subst h14
        try simp only [List.getElem_toArray, List.getElem_cons_succ, List.getElem_cons_zero, Act.put, List.setIfInBounds_toArray, List.set_cons_zero, List.set_cons_succ]
        go_simp
        refine (HFU.out _).mono ?_
        rintro e v1 ⟨rfl, b1⟩
        exact hK.out _ _ ⟨hS.1.kept b1, map_same hS.2 (b1.block _ hS.2.lt)⟩ b1 rfl
      refine TellsFrom.cons rfl (fun vs wz hS hd K hK => ?_) ?_
      · try dsimp only at hK ⊢
        have h10 : vs 10 = (.int .i64 (L1 : Int)) := hd 10 (by kernel_rfl)
        generalize vs 10 = x10 at *
        subst h10
        have h15 : vs 15 = (.int .i64 (U : Int)) := hd 15 (by kernel_rfl)
        generalize vs 15 = x15 at *
        subst h15
        try simp only [List.getElem_toArray, List.getElem_cons_succ, List.getElem_cons_zero, Act.put, List.setIfInBounds_toArray, List.set_cons_zero, List.set_cons_succ]
        have s0 := hS.1.1.cell 0
        have s1 := hS.1.1.cell 1
        have s2 := hS.1.1.cell 2
        have hlenm := HLEN2.out _ hS.2
        simp at s0 s1 s2
        go_simp
        exact hK.out _ _ hS (Below.refl _ _) rfl
      exact TellsFrom.nil
    · intro vs wz hS hd
      try dsimp only
      have h16 : vs 16 = .bool r := hd 16 (by omega)
      clear hd
      generalize vs 0 = y0 at *
      generalize vs 1 = y1 at *
      generalize vs 2 = y2 at *
      generalize vs 3 = y3 at *
      generalize vs 4 = y4 at *
      generalize vs 5 = y5 at *
      generalize vs 6 = y6 at *
      generalize vs 7 = y7 at *
      generalize vs 8 = y8 at *
      generalize vs 9 = y9 at *
      generalize vs 10 = y10 at *
      generalize vs 11 = y11 at *
      generalize vs 12 = y12 at *
      generalize vs 13 = y13 at *
      generalize vs 14 = y14 at *
      generalize vs 15 = y15 at *
      generalize vs 16 = y16 at *
      subst h16
      have HS5 : Hid (WrT w3 B b wide (.map (some mb)) since ov wz ∧ MapAt wz mb (N + 1) D2) := hS
      clear hS
      refine wpAnyH_done (by kernel_rfl) ?_ _
      try simp only [List.getElem_toArray, List.getElem_cons_succ, List.getElem_cons_zero, Act.put, List.setIfInBounds_toArray, List.set_cons_zero, List.set_cons_succ]
      have hrv := HRV.out
      subst hrv
      have hb5 := HS5.out.1.2
      have hz2 := HS2.out.2.2.1
      have hs2 := hz2.size
      have hs3 := HG3.out.size
      have hown5 : OwnP wz lo ov n out := ownsRow_besides HO.out (fun k hk => by
        have hkl := (World.ownsRow.lt HO.out k hk).2
        exact (hb5.block k (by omega)).trans ((HG3.out.block k (by omega) (fun e => hom (by rw [hk]; exact e))).trans (hz2.block k hkl)))
      have hbel5 : Below lo w wz := ((hz2.mono hlw).grown HG3.out (by omega) (fun k hk => by cases hk; exact hlm)).trans (hb5.mono (by omega))
      have HFIN : Hid (LrAdd B b since n lo mb N wide ov (l ++ [z ++ Lz.one c]) out w wz) := ⟨D2, HS5.out.1.1, hown5, HS5.out.2, HT3.out, hbel5⟩
      clear hb5 hz2 hs2 hs3 hown5 hbel5
      go_wp2_with fail
      go_end0
      exact ⟨rfl, HFIN.out⟩
end Go.Proofs.Ytjfihmpnbblomaa

/- The writer of LZW: learn, where all is forgotten. -/
namespace Go.Proofs.Ytjfihmpnbblomaa
open Go.RowKit Go.Maps

set_option linter.unusedSimpArgs false in
set_option linter.unusedVariables false in
set_option maxHeartbeats 4000000 in
set_option maxRecDepth 20000 in
theorem wrLearn_full (B b since n lo mb N v c : Nat) (wide : Bool) (ov : Value) (D : DataW Unit) (l : List ByteArray) (z : ByteArray) (out : List (Int × Int)) (C : Int × Int) (w : World) (hb : b ≤ 8) (h : Wr w B b wide (.map (some mb)) since ov) (ho : OwnP w lo ov n out) (hm : MapAt w mb N D) (tb : TabIs D b l) (g : Lq.Inv b l) (hlB : lo ≤ B) (hlm : lo ≤ mb) (hn : n ≤ 100000) (hN : N ≤ 5000)
    (hv : Lp.num l z = (v : Int)) (hz : z.size = 1 → Lp.byte z < 2 ^ b) (hz1 : 1 ≤ z.size) (hf : Lp.find l (z ++ Lz.one c) < 0) (hc : c < 256) (hfull : l.length + 1 = Lp.full wide) (hsn : since = l.length - (2 ^ b + 2) + 1) (hC : C = Lp.code b wide ((2 ^ b : Nat) : Int) (l.length + 1)) :
    Calls Try.prog 41 #[.pointer (some ⟨B, 0, none⟩), .agg #[.int .i64 (v : Int), .int .u8 (c : Int)]] w fun e w' => e = .returned (.tuple #[]) ∧ LrFull B b n lo wide (out ++ [C]) w w' := by
  have hpw := Lz.pow_le hb
  have hfb := Lp.full_bd wide
  have HFI : Hid (∀ w', Calls Try.prog 58 #[.agg #[.int .i64 (b : Int), .bool wide]] w' fun e w'' => e = .returned (.int .i64 ((2 ^ b + 2 : Nat) : Int)) ∧ Below w'.heap.size w' w'') := fun w' => lzFirst_any b hb wide w'
  have HFU : Hid (∀ w', Calls Try.prog 60 #[.agg #[.int .i64 (b : Int), .bool wide]] w' fun e w'' => e = .returned (.int .i64 (Lp.full wide : Int)) ∧ Below w'.heap.size w' w'') := fun w' => lzFull_any b wide w'
  obtain ⟨hvl, -⟩ := Lq.at_num g hv hz
  have htsz := tb.size_
  obtain ⟨F, hF⟩ : ∃ F : Nat, F = 2 ^ b + 2 := ⟨_, rfl⟩
  rw [← hF] at HFI htsz
  obtain ⟨U, hU⟩ : ∃ U : Nat, U = Lp.full wide := ⟨_, rfl⟩
  rw [← hU] at HFU hfb
  obtain ⟨S0, hS0⟩ : ∃ S0 : Nat, S0 = size D := ⟨_, rfl⟩
  rw [← hS0] at htsz
  obtain ⟨L, hL⟩ : ∃ L : Nat, L = l.length := ⟨_, rfl⟩
  have eA : (F : Int) + (S0 : Int) = (L : Int) := by omega
  have hLb : L ≤ 4095 := by omega
  have wA : IntKind.i64.wrap (L : Int) = (L : Int) := wrap_i64_nat L (by omega)
  have hLF : L + 1 = U := by omega
  have HLEN : Hid (∀ wy : World, MapAt wy mb N D → (Builtin.len_ #[60] 3 #[.map (some mb)]).run Try.prog wy = .ok (.int .i64 (S0 : Int)) wy) := fun wy hm => by rw [hS0]; exact hm.len Try.underlying60 _
  have hlk : Lq.look l v c < 0 := by rw [Lq.look_num c g hv hz hz1, Lp.num_two rfl hz1]; exact hf
  have HUP : Hid (∀ wy : World, MapAt wy mb N D → ∃ w', (Instr.mapUpdate 60 (.map (some mb)) (pairV v c) (.int .i64 (L : Int))).run Try.prog wy = .ok () w' ∧ (∃ D', MapAt w' mb (N + 1) D' ∧ TabIs D' b (l ++ [z ++ Lz.one c]) ∧ size D' = S0 + 1) ∧ wy.grownBy w' (some mb)) := fun wy hmy => by
    obtain ⟨w', h1, h2, h3⟩ := hmy.update key_pair Try.underlying60 (by unfold maxLen; omega) (pairKey_of v c (by omega) hc) (plainElem_int (H := Unit) Try.underlying3 (WalkArith.wf_i64 (n := (L : Int)) (by omega)))
    have ht := tb.more (hmy.tidy key_pair) g hv hz hz1 hf hc (by omega)
    rw [← hL] at ht
    refine ⟨w', h1, ⟨_, h2, ht, ?_⟩, h3⟩
    have := ht.size_
    rw [List.length_append, ← hL, ← hF] at this
    simp at this
    omega
  have hBm := map_writer hm h
  have hoB := h.apart ho (by decide)
  have hom := map_apart hm ho
  have hBlt := h.lt
  have HO : Hid (OwnP w lo ov n out) := ho
  have hlw : lo ≤ w.heap.size := by omega
  have HST : Hid (WrM w B b wide since ov w.heap.size v c mb N D (w.alloc (.cells #[.int .i64 (v : Int), .int .u8 (c : Int)] 69)) ∧ OwnP (w.alloc (.cells #[.int .i64 (v : Int), .int .u8 (c : Int)] 69)) lo ov n out) := by
    have hba : Below w.heap.size w (w.alloc (.cells #[.int .i64 (v : Int), .int .u8 (c : Int)] 69)) := (Below.refl _ _).alloc (Nat.le_refl _) _
    exact ⟨⟨h.same (hba.block _ h.lt), hm.alloc _, hba, by simp, by simp⟩, World.ownsRow.alloc (show World.ownsRow _ _ _ _ _ _ _ from ho) _⟩
  have hglo := g.lo
  have HFO : Hid (∀ w' : World, Wr w' B b wide (.map (some mb)) since ov → OwnP w' lo ov n out → lo ≤ w'.heap.size → Calls Try.prog 38 #[.pointer (some ⟨B, 0, none⟩)] w' fun e w'' => e = .returned (.tuple #[]) ∧ WrNew B b n lo wide ov (out ++ [C]) w' w'') := fun w' h1 h2 h3 => wrForget B b since n lo wide _ ov out C w' hb h1 h2 h3 hn (by omega) (by
    rw [hC]
    unfold Lp.code Lp.known
    rw [if_neg (by omega), show l.length + 1 - 1 = 2 ^ b + 2 + (since - 1) by omega])
  clear hC hsn hfull
  clear h ho hm tb hv hz hf hlk hvl hS0 hU g hF hL htsz
  go_enter Try.func41, Try.ntmps41
  go_wp2_with fail
  obtain ⟨w1, hw1⟩ : ∃ w1, w1 = w.alloc (.cells #[.int .i64 (v : Int), .int .u8 (c : Int)] 69) := ⟨_, rfl⟩
  rw [← hw1] at HST ⊢
  clear hw1
  have hpb : w.heap.size ≠ B := by omega
  refine wp_region_told (S := (fun wy => WrM w B b wide since ov w.heap.size v c mb N D wy)) 16 39 [.is (.pointer (some ⟨B, 0, none⟩)), .is (.pointer (some ⟨B, 0, none⟩)), .is (.pointer (some ⟨B, 2, none⟩)), .is (.map (some mb)), .is (pairV v c), .is (.pointer (some ⟨B, 0, none⟩)), .is (.pointer (some ⟨B, 0, none⟩)), .is (.pointer (some ⟨B, 0, none⟩)), .is (.agg #[.int .i64 (b : Int), .bool wide]), .is (.int .i64 (F : Int)), .is (.pointer (some ⟨B, 0, none⟩)), .is (.pointer (some ⟨B, 0, none⟩)), .is (.pointer (some ⟨B, 2, none⟩)), .is (.map (some mb)), .is (.int .i64 (S0 : Int)), .is (.int .i64 (L : Int))] (by kernel_rfl) (by kernel_rfl) (by rfl) (fun _ _ _ _ hd h => ⟨hd.trans h.1, h.2⟩) (fun vs => by simp only [puts, List.getElem?_toArray, List.getElem?_cons_succ, List.getElem?_cons_zero, Option.bind_some, Act.put, List.setIfInBounds_toArray, List.set_cons_zero, List.set_cons_succ]; exact rfl) (HST.out.1.kept (Below.refl _ _).drew) ?_ ?_
  · refine TellsFrom.cons rfl (fun vs wz hS hd K hK => ?_) ?_
    · try dsimp only at hK ⊢
      try simp only [List.getElem_toArray, List.getElem_cons_succ, List.getElem_cons_zero, Act.put, List.setIfInBounds_toArray, List.set_cons_zero, List.set_cons_succ]
      have s0 := hS.1.cell 0
      have s1 := hS.1.cell 1
      have s2 := hS.1.cell 2
      have p0 := hS.2.2.2.1
      have p1 := hS.2.2.2.2
      have hlenm := HLEN.out _ hS.2.1
      simp at s0 s1 s2
      go_simp
      exact hK.out _ _ hS (Below.refl _ _) rfl
    refine TellsFrom.cons rfl (fun vs wz hS hd K hK => ?_) ?_
    · try dsimp only at hK ⊢
      have h0 : vs 0 = (.pointer (some ⟨B, 0, none⟩)) := hd 0 (by kernel_rfl)
      generalize vs 0 = x0 at *
      subst h0
      try simp only [List.getElem_toArray, List.getElem_cons_succ, List.getElem_cons_zero, Act.put, List.setIfInBounds_toArray, List.set_cons_zero, List.set_cons_succ]
      have s0 := hS.1.cell 0
      have s1 := hS.1.cell 1
      have s2 := hS.1.cell 2
      have p0 := hS.2.2.2.1
      have p1 := hS.2.2.2.2
      have hlenm := HLEN.out _ hS.2.1
      simp at s0 s1 s2
      go_simp
      exact hK.out _ _ hS (Below.refl _ _) rfl
    refine TellsFrom.cons rfl (fun vs wz hS hd K hK => ?_) ?_
    · try dsimp only at hK ⊢
      have h1 : vs 1 = (.pointer (some ⟨B, 0, none⟩)) := hd 1 (by kernel_rfl)
      generalize vs 1 = x1 at *
      subst h1
      try simp only [List.getElem_toArray, List.getElem_cons_succ, List.getElem_cons_zero, Act.put, List.setIfInBounds_toArray, List.set_cons_zero, List.set_cons_succ]
      have s0 := hS.1.cell 0
      have s1 := hS.1.cell 1
      have s2 := hS.1.cell 2
      have p0 := hS.2.2.2.1
      have p1 := hS.2.2.2.2
      have hlenm := HLEN.out _ hS.2.1
      simp at s0 s1 s2
      go_simp
      exact hK.out _ _ hS (Below.refl _ _) rfl
    refine TellsFrom.cons rfl (fun vs wz hS hd K hK => ?_) ?_
    · try dsimp only at hK ⊢
      have h2 : vs 2 = (.pointer (some ⟨B, 2, none⟩)) := hd 2 (by kernel_rfl)
      generalize vs 2 = x2 at *
      subst h2
      try simp only [List.getElem_toArray, List.getElem_cons_succ, List.getElem_cons_zero, Act.put, List.setIfInBounds_toArray, List.set_cons_zero, List.set_cons_succ]
      have s0 := hS.1.cell 0
      have s1 := hS.1.cell 1
      have s2 := hS.1.cell 2
      have p0 := hS.2.2.2.1
      have p1 := hS.2.2.2.2
      have hlenm := HLEN.out _ hS.2.1
      simp at s0 s1 s2
      go_simp
      exact hK.out _ _ hS (Below.refl _ _) rfl
    refine TellsFrom.cons rfl (fun vs wz hS hd K hK => ?_) ?_
    · try dsimp only at hK ⊢
      try simp only [List.getElem_toArray, List.getElem_cons_succ, List.getElem_cons_zero, Act.put, List.setIfInBounds_toArray, List.set_cons_zero, List.set_cons_succ]
      have s0 := hS.1.cell 0
      have s1 := hS.1.cell 1
      have s2 := hS.1.cell 2
      have p0 := hS.2.2.2.1
      have p1 := hS.2.2.2.2
      have hlenm := HLEN.out _ hS.2.1
      simp at s0 s1 s2
      go_simp
      exact hK.out _ _ hS (Below.refl _ _) rfl
    refine TellsFrom.cons rfl (fun vs wz hS hd K hK => ?_) ?_
    · try dsimp only at hK ⊢
      try simp only [List.getElem_toArray, List.getElem_cons_succ, List.getElem_cons_zero, Act.put, List.setIfInBounds_toArray, List.set_cons_zero, List.set_cons_succ]
      have s0 := hS.1.cell 0
      have s1 := hS.1.cell 1
      have s2 := hS.1.cell 2
      have p0 := hS.2.2.2.1
      have p1 := hS.2.2.2.2
      have hlenm := HLEN.out _ hS.2.1
      simp at s0 s1 s2
      go_simp
      exact hK.out _ _ hS (Below.refl _ _) rfl
    refine TellsFrom.cons rfl (fun vs wz hS hd K hK => ?_) ?_
    · try dsimp only at hK ⊢
      have h5 : vs 5 = (.pointer (some ⟨B, 0, none⟩)) := hd 5 (by kernel_rfl)
      generalize vs 5 = x5 at *
      subst h5
      try simp only [List.getElem_toArray, List.getElem_cons_succ, List.getElem_cons_zero, Act.put, List.setIfInBounds_toArray, List.set_cons_zero, List.set_cons_succ]
      have s0 := hS.1.cell 0
      have s1 := hS.1.cell 1
      have s2 := hS.1.cell 2
      have p0 := hS.2.2.2.1
      have p1 := hS.2.2.2.2
      have hlenm := HLEN.out _ hS.2.1
      simp at s0 s1 s2
      go_simp
      exact hK.out _ _ hS (Below.refl _ _) rfl
    refine TellsFrom.cons rfl (fun vs wz hS hd K hK => ?_) ?_
    · try dsimp only at hK ⊢
      have h6 : vs 6 = (.pointer (some ⟨B, 0, none⟩)) := hd 6 (by kernel_rfl)
      generalize vs 6 = x6 at *
      subst h6
      try simp only [List.getElem_toArray, List.getElem_cons_succ, List.getElem_cons_zero, Act.put, List.setIfInBounds_toArray, List.set_cons_zero, List.set_cons_succ]
      have s0 := hS.1.cell 0
      have s1 := hS.1.cell 1
      have s2 := hS.1.cell 2
      have p0 := hS.2.2.2.1
      have p1 := hS.2.2.2.2
      have hlenm := HLEN.out _ hS.2.1
      simp at s0 s1 s2
      go_simp
      exact hK.out _ _ hS (Below.refl _ _) rfl
    refine TellsFrom.cons rfl (fun vs wz hS hd K hK => ?_) ?_
    · try dsimp only at hK ⊢
      have h7 : vs 7 = (.pointer (some ⟨B, 0, none⟩)) := hd 7 (by kernel_rfl)
      generalize vs 7 = x7 at *
      subst h7
      try simp only [List.getElem_toArray, List.getElem_cons_succ, List.getElem_cons_zero, Act.put, List.setIfInBounds_toArray, List.set_cons_zero, List.set_cons_succ]
      have s0 := hS.1.cell 0
      have s1 := hS.1.cell 1
      have s2 := hS.1.cell 2
      have p0 := hS.2.2.2.1
      have p1 := hS.2.2.2.2
      have hlenm := HLEN.out _ hS.2.1
      simp at s0 s1 s2
      go_simp
      exact hK.out _ _ hS (Below.refl _ _) rfl
    refine TellsFrom.cons rfl (fun vs wz hS hd K hK => ?_) ?_
    · try dsimp only at hK ⊢
      have h8 : vs 8 = (.agg #[.int .i64 (b : Int), .bool wide]) := hd 8 (by kernel_rfl)
      generalize vs 8 = x8 at *
      subst h8
      try simp only [List.getElem_toArray, List.getElem_cons_succ, List.getElem_cons_zero, Act.put, List.setIfInBounds_toArray, List.set_cons_zero, List.set_cons_succ]
      go_simp
      refine (HFI.out _).mono ?_
      rintro e v1 ⟨rfl, b1⟩
      exact hK.out _ _ (hS.kept b1) b1 rfl
    refine TellsFrom.cons rfl (fun vs wz hS hd K hK => ?_) ?_
    · try dsimp only at hK ⊢
      try simp only [List.getElem_toArray, List.getElem_cons_succ, List.getElem_cons_zero, Act.put, List.setIfInBounds_toArray, List.set_cons_zero, List.set_cons_succ]
      have s0 := hS.1.cell 0
      have s1 := hS.1.cell 1
      have s2 := hS.1.cell 2
      have p0 := hS.2.2.2.1
      have p1 := hS.2.2.2.2
      have hlenm := HLEN.out _ hS.2.1
      simp at s0 s1 s2
      go_simp
      exact hK.out _ _ hS (Below.refl _ _) rfl
    refine TellsFrom.cons rfl (fun vs wz hS hd K hK => ?_) ?_
    · try dsimp only at hK ⊢
      have h10 : vs 10 = (.pointer (some ⟨B, 0, none⟩)) := hd 10 (by kernel_rfl)
      generalize vs 10 = x10 at *
      subst h10
      try simp only [List.getElem_toArray, List.getElem_cons_succ, List.getElem_cons_zero, Act.put, List.setIfInBounds_toArray, List.set_cons_zero, List.set_cons_succ]
      have s0 := hS.1.cell 0
      have s1 := hS.1.cell 1
      have s2 := hS.1.cell 2
      have p0 := hS.2.2.2.1
      have p1 := hS.2.2.2.2
      have hlenm := HLEN.out _ hS.2.1
      simp at s0 s1 s2
      go_simp
      exact hK.out _ _ hS (Below.refl _ _) rfl
    refine TellsFrom.cons rfl (fun vs wz hS hd K hK => ?_) ?_
    · try dsimp only at hK ⊢
      have h11 : vs 11 = (.pointer (some ⟨B, 0, none⟩)) := hd 11 (by kernel_rfl)
      generalize vs 11 = x11 at *
      subst h11
      try simp only [List.getElem_toArray, List.getElem_cons_succ, List.getElem_cons_zero, Act.put, List.setIfInBounds_toArray, List.set_cons_zero, List.set_cons_succ]
      have s0 := hS.1.cell 0
      have s1 := hS.1.cell 1
      have s2 := hS.1.cell 2
      have p0 := hS.2.2.2.1
      have p1 := hS.2.2.2.2
      have hlenm := HLEN.out _ hS.2.1
      simp at s0 s1 s2
      go_simp
      exact hK.out _ _ hS (Below.refl _ _) rfl
    refine TellsFrom.cons rfl (fun vs wz hS hd K hK => ?_) ?_
    · try dsimp only at hK ⊢
      have h12 : vs 12 = (.pointer (some ⟨B, 2, none⟩)) := hd 12 (by kernel_rfl)
      generalize vs 12 = x12 at *
      subst h12
      try simp only [List.getElem_toArray, List.getElem_cons_succ, List.getElem_cons_zero, Act.put, List.setIfInBounds_toArray, List.set_cons_zero, List.set_cons_succ]
      have s0 := hS.1.cell 0
      have s1 := hS.1.cell 1
      have s2 := hS.1.cell 2
      have p0 := hS.2.2.2.1
      have p1 := hS.2.2.2.2
      have hlenm := HLEN.out _ hS.2.1
      simp at s0 s1 s2
      go_simp
      exact hK.out _ _ hS (Below.refl _ _) rfl
    refine TellsFrom.cons rfl (fun vs wz hS hd K hK => ?_) ?_
    · try dsimp only at hK ⊢
      have h13 : vs 13 = (.map (some mb)) := hd 13 (by kernel_rfl)
      generalize vs 13 = x13 at *
      subst h13
      try simp only [List.getElem_toArray, List.getElem_cons_succ, List.getElem_cons_zero, Act.put, List.setIfInBounds_toArray, List.set_cons_zero, List.set_cons_succ]
      have s0 := hS.1.cell 0
      have s1 := hS.1.cell 1
      have s2 := hS.1.cell 2
      have p0 := hS.2.2.2.1
      have p1 := hS.2.2.2.2
      have hlenm := HLEN.out _ hS.2.1
      simp at s0 s1 s2
      go_simp
      exact hK.out _ _ hS (Below.refl _ _) rfl
    refine TellsFrom.cons rfl (fun vs wz hS hd K hK => ?_) ?_
    · try dsimp only at hK ⊢
      have h9 : vs 9 = (.int .i64 (F : Int)) := hd 9 (by kernel_rfl)
      generalize vs 9 = x9 at *
      subst h9
      have h14 : vs 14 = (.int .i64 (S0 : Int)) := hd 14 (by kernel_rfl)
      generalize vs 14 = x14 at *
      subst h14
      try simp only [List.getElem_toArray, List.getElem_cons_succ, List.getElem_cons_zero, Act.put, List.setIfInBounds_toArray, List.set_cons_zero, List.set_cons_succ]
      have s0 := hS.1.cell 0
      have s1 := hS.1.cell 1
      have s2 := hS.1.cell 2
      have p0 := hS.2.2.2.1
      have p1 := hS.2.2.2.2
      have hlenm := HLEN.out _ hS.2.1
      simp at s0 s1 s2
      go_simp
      exact hK.out _ _ hS (Below.refl _ _) rfl
    exact TellsFrom.nil
  · intro vs wz hS hd
    try dsimp only
    have h3 : vs 3 = .map (some mb) := hd 3 (by omega)
    have h4 : vs 4 = pairV v c := hd 4 (by omega)
    have h15 : vs 15 = .int .i64 (L : Int) := hd 15 (by omega)
    clear hd
    generalize vs 0 = y0 at *
    generalize vs 1 = y1 at *
    generalize vs 2 = y2 at *
    generalize vs 3 = y3 at *
    generalize vs 4 = y4 at *
    generalize vs 5 = y5 at *
    generalize vs 6 = y6 at *
    generalize vs 7 = y7 at *
    generalize vs 8 = y8 at *
    generalize vs 9 = y9 at *
    generalize vs 10 = y10 at *
    generalize vs 11 = y11 at *
    generalize vs 12 = y12 at *
    generalize vs 13 = y13 at *
    generalize vs 14 = y14 at *
    generalize vs 15 = y15 at *
    subst h3
    subst h4
    subst h15
    have HS2 : Hid (WrM w B b wide since ov w.heap.size v c mb N D wz) := hS
    clear hS
    obtain ⟨w3, hup, ⟨D2, hm3, ht3, hs3⟩, hg3⟩ := HUP.out wz HS2.out.2.1
    have HR3 : Hid (Wr w3 B b wide (.map (some mb)) since ov) := HS2.out.1.same (hg3.block B HS2.out.1.lt (fun e => hBm (by cases e; rfl)))
    have HM3 : Hid (MapAt w3 mb (N + 1) D2) := hm3
    have HT3 : Hid (TabIs D2 b (l ++ [z ++ Lz.one c])) := ht3
    have HG3 : Hid (wz.grownBy w3 (some mb)) := hg3
    obtain ⟨S1, hS1⟩ : ∃ S1 : Nat, S1 = S0 + 1 := ⟨_, rfl⟩
    obtain ⟨L1, hL1⟩ : ∃ L1 : Nat, L1 = L + 1 := ⟨_, rfl⟩
    have HLEN2 : Hid (∀ wy : World, MapAt wy mb (N + 1) D2 → (Builtin.len_ #[60] 3 #[.map (some mb)]).run Try.prog wy = .ok (.int .i64 (S1 : Int)) wy) := fun wy hm => by rw [hS1, ← hs3]; exact hm.len Try.underlying60 _
    clear hm3 ht3 hs3 hg3 HUP HLEN
    refine wpAnyH_ready (rs := [16]) (by kernel_rfl) (by simp) ?_
    refine AllReadyH.cons rfl (fun K hK => ?_) AllReadyH.nil
    have hup2 : Sem.run Try.prog (Instr.mapUpdate 60 (.map (some mb)) (.agg #[.int .i64 (v : Int), .int .u8 (c : Int)]) (.int .i64 (L : Int))) wz = .ok () w3 := hup
    unfold pairV
    go_simp
    refine hK.out _ _ trivial (fun _ => ?_)
    clear hK K hup hup2
    refine wpAnyH_done (by kernel_rfl) ?_ _
    try simp only [List.getElem_toArray, List.getElem_cons_succ, List.getElem_cons_zero, Act.put, List.setIfInBounds_toArray, List.set_cons_zero, List.set_cons_succ]
    have eA2 : (F : Int) + (S1 : Int) = (L1 : Int) := by omega
    have wA2 : IntKind.i64.wrap (L1 : Int) = (L1 : Int) := wrap_i64_nat L1 (by omega)
    obtain ⟨r, hr⟩ : ∃ r : Bool, r = ((L1 : Int) == (U : Int)) := ⟨_, rfl⟩
    have hrv : r = true := by rw [hr]; rw [beq_iff_eq]; omega
    have HRV : Hid (r = true) := hrv
    have hr2 : ((L1 : Int) == (U : Int)) = r := hr.symm
    clear hS1 hL1 hr hrv hLF eA wA
    go_wp2_with fail
    refine wp_region_told (S := (fun wy => WrT w3 B b wide (.map (some mb)) since ov wy ∧ MapAt wy mb (N + 1) D2)) 17 39 [.is (.pointer (some ⟨B, 0, none⟩)), .is (.pointer (some ⟨B, 0, none⟩)), .is (.pointer (some ⟨B, 0, none⟩)), .is (.agg #[.int .i64 (b : Int), .bool wide]), .is (.int .i64 (F : Int)), .is (.pointer (some ⟨B, 0, none⟩)), .is (.pointer (some ⟨B, 0, none⟩)), .is (.pointer (some ⟨B, 2, none⟩)), .is (.map (some mb)), .is (.int .i64 (S1 : Int)), .is (.int .i64 (L1 : Int)), .is (.pointer (some ⟨B, 0, none⟩)), .is (.pointer (some ⟨B, 0, none⟩)), .is (.pointer (some ⟨B, 0, none⟩)), .is (.agg #[.int .i64 (b : Int), .bool wide]), .is (.int .i64 (U : Int)), .is (.bool r)] (by kernel_rfl) (by kernel_rfl) (by rfl) (fun _ _ _ _ hd h => ⟨hd.trans h.1, h.2⟩) (fun vs => by simp only [puts, List.getElem?_toArray, List.getElem?_cons_succ, List.getElem?_cons_zero, Option.bind_some, Act.put, List.setIfInBounds_toArray, List.set_cons_zero, List.set_cons_succ]; exact rfl) ⟨WrT.new HR3.out, HM3.out⟩ ?_ ?_
    · refine TellsFrom.cons rfl (fun vs wz hS hd K hK => ?_) ?_
      · try dsimp only at hK ⊢
        try simp only [List.getElem_toArray, List.getElem_cons_succ, List.getElem_cons_zero, Act.put, List.setIfInBounds_toArray, List.set_cons_zero, List.set_cons_succ]
        have s0 := hS.1.1.cell 0
        have s1 := hS.1.1.cell 1
        have s2 := hS.1.1.cell 2
        have hlenm := HLEN2.out _ hS.2
        simp at s0 s1 s2
        go_simp
        exact hK.out _ _ hS (Below.refl _ _) rfl
      refine TellsFrom.cons rfl (fun vs wz hS hd K hK => ?_) ?_
      · try dsimp only at hK ⊢
        have h0 : vs 0 = (.pointer (some ⟨B, 0, none⟩)) := hd 0 (by kernel_rfl)
        generalize vs 0 = x0 at *
        subst h0
        try simp only [List.getElem_toArray, List.getElem_cons_succ, List.getElem_cons_zero, Act.put, List.setIfInBounds_toArray, List.set_cons_zero, List.set_cons_succ]
        have s0 := hS.1.1.cell 0
        have s1 := hS.1.1.cell 1
        have s2 := hS.1.1.cell 2
        have hlenm := HLEN2.out _ hS.2
        simp at s0 s1 s2
        go_simp
        exact hK.out _ _ hS (Below.refl _ _) rfl
      refine TellsFrom.cons rfl (fun vs wz hS hd K hK => ?_) ?_
      · try dsimp only at hK ⊢
        have h1 : vs 1 = (.pointer (some ⟨B, 0, none⟩)) := hd 1 (by kernel_rfl)
        generalize vs 1 = x1 at *
        subst h1
        try simp only [List.getElem_toArray, List.getElem_cons_succ, List.getElem_cons_zero, Act.put, List.setIfInBounds_toArray, List.set_cons_zero, List.set_cons_succ]
        have s0 := hS.1.1.cell 0
        have s1 := hS.1.1.cell 1
        have s2 := hS.1.1.cell 2
        have hlenm := HLEN2.out _ hS.2
        simp at s0 s1 s2
        go_simp
        exact hK.out _ _ hS (Below.refl _ _) rfl
      refine TellsFrom.cons rfl (fun vs wz hS hd K hK => ?_) ?_
      · try dsimp only at hK ⊢
        have h2 : vs 2 = (.pointer (some ⟨B, 0, none⟩)) := hd 2 (by kernel_rfl)
        generalize vs 2 = x2 at *
        subst h2
        try simp only [List.getElem_toArray, List.getElem_cons_succ, List.getElem_cons_zero, Act.put, List.setIfInBounds_toArray, List.set_cons_zero, List.set_cons_succ]
        have s0 := hS.1.1.cell 0
        have s1 := hS.1.1.cell 1
        have s2 := hS.1.1.cell 2
        have hlenm := HLEN2.out _ hS.2
        simp at s0 s1 s2
        go_simp
        exact hK.out _ _ hS (Below.refl _ _) rfl
      refine TellsFrom.cons rfl (fun vs wz hS hd K hK => ?_) ?_
      · try dsimp only at hK ⊢
        have h3 : vs 3 = (.agg #[.int .i64 (b : Int), .bool wide]) := hd 3 (by kernel_rfl)
        generalize vs 3 = x3 at *
        subst h3
        try simp only [List.getElem_toArray, List.getElem_cons_succ, List.getElem_cons_zero, Act.put, List.setIfInBounds_toArray, List.set_cons_zero, List.set_cons_succ]
        go_simp
        refine (HFI.out _).mono ?_
        rintro e v1 ⟨rfl, b1⟩
        exact hK.out _ _ ⟨hS.1.kept b1, map_same hS.2 (b1.block _ hS.2.lt)⟩ b1 rfl
      refine TellsFrom.cons rfl (fun vs wz hS hd K hK => ?_) ?_
      · try dsimp only at hK ⊢
        try simp only [List.getElem_toArray, List.getElem_cons_succ, List.getElem_cons_zero, Act.put, List.setIfInBounds_toArray, List.set_cons_zero, List.set_cons_succ]
        have s0 := hS.1.1.cell 0
        have s1 := hS.1.1.cell 1
        have s2 := hS.1.1.cell 2
        have hlenm := HLEN2.out _ hS.2
        simp at s0 s1 s2
        go_simp
        exact hK.out _ _ hS (Below.refl _ _) rfl
      refine TellsFrom.cons rfl (fun vs wz hS hd K hK => ?_) ?_
      · try dsimp only at hK ⊢
        have h5 : vs 5 = (.pointer (some ⟨B, 0, none⟩)) := hd 5 (by kernel_rfl)
        generalize vs 5 = x5 at *
        subst h5
        try simp only [List.getElem_toArray, List.getElem_cons_succ, List.getElem_cons_zero, Act.put, List.setIfInBounds_toArray, List.set_cons_zero, List.set_cons_succ]
        have s0 := hS.1.1.cell 0
        have s1 := hS.1.1.cell 1
        have s2 := hS.1.1.cell 2
        have hlenm := HLEN2.out _ hS.2
        simp at s0 s1 s2
        go_simp
        exact hK.out _ _ hS (Below.refl _ _) rfl
      refine TellsFrom.cons rfl (fun vs wz hS hd K hK => ?_) ?_
      · try dsimp only at hK ⊢
        have h6 : vs 6 = (.pointer (some ⟨B, 0, none⟩)) := hd 6 (by kernel_rfl)
        generalize vs 6 = x6 at *
        subst h6
        try simp only [List.getElem_toArray, List.getElem_cons_succ, List.getElem_cons_zero, Act.put, List.setIfInBounds_toArray, List.set_cons_zero, List.set_cons_succ]
        have s0 := hS.1.1.cell 0
        have s1 := hS.1.1.cell 1
        have s2 := hS.1.1.cell 2
        have hlenm := HLEN2.out _ hS.2
        simp at s0 s1 s2
        go_simp
        exact hK.out _ _ hS (Below.refl _ _) rfl
      refine TellsFrom.cons rfl (fun vs wz hS hd K hK => ?_) ?_
      · try dsimp only at hK ⊢
        have h7 : vs 7 = (.pointer (some ⟨B, 2, none⟩)) := hd 7 (by kernel_rfl)
        generalize vs 7 = x7 at *
        subst h7
        try simp only [List.getElem_toArray, List.getElem_cons_succ, List.getElem_cons_zero, Act.put, List.setIfInBounds_toArray, List.set_cons_zero, List.set_cons_succ]
        have s0 := hS.1.1.cell 0
        have s1 := hS.1.1.cell 1
        have s2 := hS.1.1.cell 2
        have hlenm := HLEN2.out _ hS.2
        simp at s0 s1 s2
        go_simp
        exact hK.out _ _ hS (Below.refl _ _) rfl
      refine TellsFrom.cons rfl (fun vs wz hS hd K hK => ?_) ?_
      · try dsimp only at hK ⊢
        have h8 : vs 8 = (.map (some mb)) := hd 8 (by kernel_rfl)
        generalize vs 8 = x8 at *
        subst h8
        try simp only [List.getElem_toArray, List.getElem_cons_succ, List.getElem_cons_zero, Act.put, List.setIfInBounds_toArray, List.set_cons_zero, List.set_cons_succ]
        have s0 := hS.1.1.cell 0
        have s1 := hS.1.1.cell 1
        have s2 := hS.1.1.cell 2
        have hlenm := HLEN2.out _ hS.2
        simp at s0 s1 s2
        go_simp
        exact hK.out _ _ hS (Below.refl _ _) rfl
      refine TellsFrom.cons rfl (fun vs wz hS hd K hK => ?_) ?_
      · try dsimp only at hK ⊢
        have h4 : vs 4 = (.int .i64 (F : Int)) := hd 4 (by kernel_rfl)
        generalize vs 4 = x4 at *
        subst h4
        have h9 : vs 9 = (.int .i64 (S1 : Int)) := hd 9 (by kernel_rfl)
        generalize vs 9 = x9 at *
        subst h9
        try simp only [List.getElem_toArray, List.getElem_cons_succ, List.getElem_cons_zero, Act.put, List.setIfInBounds_toArray, List.set_cons_zero, List.set_cons_succ]
        have s0 := hS.1.1.cell 0
        have s1 := hS.1.1.cell 1
        have s2 := hS.1.1.cell 2
        have hlenm := HLEN2.out _ hS.2
        simp at s0 s1 s2
        go_simp
        exact hK.out _ _ hS (Below.refl _ _) rfl
      refine TellsFrom.cons rfl (fun vs wz hS hd K hK => ?_) ?_
      · try dsimp only at hK ⊢
        try simp only [List.getElem_toArray, List.getElem_cons_succ, List.getElem_cons_zero, Act.put, List.setIfInBounds_toArray, List.set_cons_zero, List.set_cons_succ]
        have s0 := hS.1.1.cell 0
        have s1 := hS.1.1.cell 1
        have s2 := hS.1.1.cell 2
        have hlenm := HLEN2.out _ hS.2
        simp at s0 s1 s2
        go_simp
        exact hK.out _ _ hS (Below.refl _ _) rfl
      refine TellsFrom.cons rfl (fun vs wz hS hd K hK => ?_) ?_
      · try dsimp only at hK ⊢
        have h11 : vs 11 = (.pointer (some ⟨B, 0, none⟩)) := hd 11 (by kernel_rfl)
        generalize vs 11 = x11 at *
        subst h11
        try simp only [List.getElem_toArray, List.getElem_cons_succ, List.getElem_cons_zero, Act.put, List.setIfInBounds_toArray, List.set_cons_zero, List.set_cons_succ]
        have s0 := hS.1.1.cell 0
        have s1 := hS.1.1.cell 1
        have s2 := hS.1.1.cell 2
        have hlenm := HLEN2.out _ hS.2
        simp at s0 s1 s2
        go_simp
        exact hK.out _ _ hS (Below.refl _ _) rfl
      refine TellsFrom.cons rfl (fun vs wz hS hd K hK => ?_) ?_
      · try dsimp only at hK ⊢
        have h12 : vs 12 = (.pointer (some ⟨B, 0, none⟩)) := hd 12 (by kernel_rfl)
        generalize vs 12 = x12 at *
        subst h12
        try simp only [List.getElem_toArray, List.getElem_cons_succ, List.getElem_cons_zero, Act.put, List.setIfInBounds_toArray, List.set_cons_zero, List.set_cons_succ]
        have s0 := hS.1.1.cell 0
        have s1 := hS.1.1.cell 1
        have s2 := hS.1.1.cell 2
        have hlenm := HLEN2.out _ hS.2
        simp at s0 s1 s2
        go_simp
        exact hK.out _ _ hS (Below.refl _ _) rfl
      refine TellsFrom.cons rfl (fun vs wz hS hd K hK => ?_) ?_
      · try dsimp only at hK ⊢
        have h13 : vs 13 = (.pointer (some ⟨B, 0, none⟩)) := hd 13 (by kernel_rfl)
        generalize vs 13 = x13 at *
        subst h13
        try simp only [List.getElem_toArray, List.getElem_cons_succ, List.getElem_cons_zero, Act.put, List.setIfInBounds_toArray, List.set_cons_zero, List.set_cons_succ]
        have s0 := hS.1.1.cell 0
        have s1 := hS.1.1.cell 1
        have s2 := hS.1.1.cell 2
        have hlenm := HLEN2.out _ hS.2
        simp at s0 s1 s2
        go_simp
        exact hK.out _ _ hS (Below.refl _ _) rfl
      refine TellsFrom.cons rfl (fun vs wz hS hd K hK => ?_) ?_
      · try dsimp only at hK ⊢
        have h14 : vs 14 = (.agg #[.int .i64 (b : Int), .bool wide]) := hd 14 (by kernel_rfl)
        generalize vs 14 = x14 at *
        subst h14
        try simp only [List.getElem_toArray, List.getElem_cons_succ, List.getElem_cons_zero, Act.put, List.setIfInBounds_toArray, List.set_cons_zero, List.set_cons_succ]
        go_simp
        refine (HFU.out _).mono ?_
        rintro e v1 ⟨rfl, b1⟩
        exact hK.out _ _ ⟨hS.1.kept b1, map_same hS.2 (b1.block _ hS.2.lt)⟩ b1 rfl
      refine TellsFrom.cons rfl (fun vs wz hS hd K hK => ?_) ?_
      · try dsimp only at hK ⊢
        have h10 : vs 10 = (.int .i64 (L1 : Int)) := hd 10 (by kernel_rfl)
        generalize vs 10 = x10 at *
        subst h10
        have h15 : vs 15 = (.int .i64 (U : Int)) := hd 15 (by kernel_rfl)
        generalize vs 15 = x15 at *
        subst h15
        try simp only [List.getElem_toArray, List.getElem_cons_succ, List.getElem_cons_zero, Act.put, List.setIfInBounds_toArray, List.set_cons_zero, List.set_cons_succ]
        have s0 := hS.1.1.cell 0
        have s1 := hS.1.1.cell 1
        have s2 := hS.1.1.cell 2
        have hlenm := HLEN2.out _ hS.2
        simp at s0 s1 s2
        go_simp
        exact hK.out _ _ hS (Below.refl _ _) rfl
      exact TellsFrom.nil
    · intro vs wz hS hd
      try dsimp only
      have h16 : vs 16 = .bool r := hd 16 (by omega)
      clear hd
      generalize vs 0 = y0 at *
      generalize vs 1 = y1 at *
      generalize vs 2 = y2 at *
      generalize vs 3 = y3 at *
      generalize vs 4 = y4 at *
      generalize vs 5 = y5 at *
      generalize vs 6 = y6 at *
      generalize vs 7 = y7 at *
      generalize vs 8 = y8 at *
      generalize vs 9 = y9 at *
      generalize vs 10 = y10 at *
      generalize vs 11 = y11 at *
      generalize vs 12 = y12 at *
      generalize vs 13 = y13 at *
      generalize vs 14 = y14 at *
      generalize vs 15 = y15 at *
      generalize vs 16 = y16 at *
      subst h16
      have HS5 : Hid (WrT w3 B b wide (.map (some mb)) since ov wz ∧ MapAt wz mb (N + 1) D2) := hS
      clear hS
      refine wpAnyH_done (by kernel_rfl) ?_ _
      try simp only [List.getElem_toArray, List.getElem_cons_succ, List.getElem_cons_zero, Act.put, List.setIfInBounds_toArray, List.set_cons_zero, List.set_cons_succ]
      have hrv := HRV.out
      subst hrv
      have hb5 := HS5.out.1.2
      have hz2 := HS2.out.2.2.1
      have hs2 := hz2.size
      have hs3 := HG3.out.size
      have hown5 : OwnP wz lo ov n out := ownsRow_besides HO.out (fun k hk => by
        have hkl := (World.ownsRow.lt HO.out k hk).2
        exact (hb5.block k (by omega)).trans ((HG3.out.block k (by omega) (fun e => hom (by rw [hk]; exact e))).trans (hz2.block k hkl)))
      have hbel5 : Below lo w wz := ((hz2.mono hlw).grown HG3.out (by omega) (fun k hk => by cases hk; exact hlm)).trans (hb5.mono (by omega))
      have hlz : lo ≤ wz.heap.size := Nat.le_trans hlw hbel5.size
      have HFC : Hid (Calls Try.prog 38 #[.pointer (some ⟨B, 0, none⟩)] wz fun e w'' => e = .returned (.tuple #[]) ∧ WrNew B b n lo wide ov (out ++ [C]) wz w'') := HFO.out wz HS5.out.1.1 hown5 hlz
      have HB5 : Hid (Below lo w wz ∧ OwnP wz lo ov n out) := ⟨hbel5, hown5⟩
      clear hb5 hz2 hs2 hs3 hown5 hbel5
      go_wp2_with fail
      refine HFC.out.mono ?_
      rintro e w6 ⟨rfl, g6, cap6, mb6, hr6, ho6, hm6, hmb6, hg6⟩
      have HFIN : Hid (LrFull B b n lo wide (out ++ [C]) w w6) := ⟨g6, cap6, mb6, hr6, ho6, hm6, by omega, hg6.below HB5.out.1 hlB hlz (fun k hk => (World.ownsRow.lt HB5.out.2 k hk).1)⟩
      clear hr6 ho6 hm6 hg6
      go_wp2_with fail
      go_end0
      exact ⟨rfl, HFIN.out⟩
end Go.Proofs.Ytjfihmpnbblomaa
