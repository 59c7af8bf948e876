/- Filters: what is taken away from a byte, rows turned both ways (mathematics). -/
import Derived.Test.YtjikjjganloobabBase
namespace Go.Proofs.Ytjikjjganloobab
namespace Fl

/-- how far two numbers are from each other -/
def ap (a b : Int) : Int := if a < b then b - a else a - b

/-- which of three is nearest to the first and second less the third -/
def near (a b c : Nat) : Nat :=
  if ap ((a : Int) + b - c) a ≤ ap ((a : Int) + b - c) b ∧ ap ((a : Int) + b - c) a ≤ ap ((a : Int) + b - c) c then a
  else if ap ((a : Int) + b - c) b ≤ ap ((a : Int) + b - c) c then b else c

theorem near_le (a b c : Nat) : near a b c = a ∨ near a b c = b ∨ near a b c = c := by
  unfold near
  split
  · exact .inl rfl
  · split
    · exact .inr (.inl rfl)
    · exact .inr (.inr rfl)

theorem ap_comm (a b : Int) : ap a b = ap b a := by
  unfold ap; split <;> split <;> omega

theorem near_loop (a b c n1 : Nat) (p : Int) (hp : p = (a : Int) + b - c) (h1 : n1 = if ap b p < ap a p then b else a) : (if ap c p < ap n1 p then c else n1) = near a b c := by
  unfold near
  rw [← hp, ap_comm p a, ap_comm p b, ap_comm p c]
  clear hp
  by_cases h : ap b p < ap a p
  · rw [if_pos h] at h1
    subst h1
    rw [if_neg (by omega : ¬ (ap a p ≤ ap n1 p ∧ ap a p ≤ ap c p))]
    by_cases g : ap c p < ap n1 p
    · rw [if_pos g, if_neg (by omega)]
    · rw [if_neg g, if_pos (by omega)]
  · rw [if_neg h] at h1
    subst h1
    by_cases g : ap c p < ap n1 p
    · rw [if_pos g, if_neg (by omega), if_neg (by omega)]
    · rw [if_neg g, if_pos (by omega)]

/-- what is taken away from a byte -/
def beside (kind a b c : Nat) : Nat := if kind = 1 then a else if kind = 2 then b else if kind = 3 then (a + b) / 2 else if kind = 4 then near a b c else 0

theorem beside_lt {kind a b c : Nat} (ha : a < 256) (hb : b < 256) (hc : c < 256) : beside kind a b c < 256 := by
  unfold beside
  have := near_le a b c
  repeat' split
  all_goals omega

/-- a byte, 0 if it is not there -/
def by_ (f : Nat → Nat) (z : Int) : Nat := if z < 0 then 0 else f z.toNat
theorem by_lt {f : Nat → Nat} (h : ∀ i, f i < 256) (z : Int) : by_ f z < 256 := by
  unfold by_; split
  · omega
  · exact h _
theorem by_nat (f : Nat → Nat) (k : Nat) : by_ f (k : Int) = f k := by
  unfold by_; rw [if_neg (by omega), Int.toNat_natCast]
theorem by_neg (f : Nat → Nat) (z : Int) (h : z < 0) : by_ f z = 0 := by unfold by_; rw [if_pos h]

/-- what is taken away at a place, the row and the one above being so -/
def gs (kind step : Nat) (f g : Nat → Nat) (k : Nat) : Nat := beside kind (by_ f ((k : Int) - step)) (g k) (by_ g ((k : Int) - step))

theorem gs_lt {kind step : Nat} {f g : Nat → Nat} (hf : ∀ i, f i < 256) (hg : ∀ i, g i < 256) (k : Nat) : gs kind step f g k < 256 :=
  beside_lt (by_lt hf _) (hg _) (by_lt hg _)

/-- only what stands ahead matters -/
theorem gs_congr {kind step : Nat} {f f' g : Nat → Nat} {k : Nat} (hs : 1 ≤ step) (h : ∀ i, i < k → f i = f' i) : gs kind step f g k = gs kind step f' g k := by
  have e : by_ f ((k : Int) - step) = by_ f' ((k : Int) - step) := by
    unfold by_
    split
    · rfl
    · exact h _ (by omega)
  unfold gs
  rw [e]

/-- the first n bytes of a row that is turned -/
def put (kind step : Nat) (f g : Nat → Nat) (n : Nat) : List Nat := (List.range n).map fun k => (f k + 512 - gs kind step f g k) % 256
theorem put_len (kind step : Nat) (f g : Nat → Nat) (n : Nat) : (put kind step f g n).length = n := by simp [put]
theorem put_snoc (kind step : Nat) (f g : Nat → Nat) (n : Nat) : put kind step f g (n + 1) = put kind step f g n ++ [(f n + 512 - gs kind step f g n) % 256] := by
  simp [put, List.range_succ]
theorem put_get (kind step : Nat) (f g : Nat → Nat) (n k : Nat) (h : k < n) : (put kind step f g n).getD k 0 = (f k + 512 - gs kind step f g k) % 256 := by
  simp [put, h]
theorem put_byte (kind step : Nat) (f g : Nat → Nat) (n : Nat) : ∀ x ∈ put kind step f g n, x < 256 := by
  intro x hx
  simp only [put, List.mem_map] at hx
  obtain ⟨k, _, rfl⟩ := hx
  omega

/-- the byte of a list, 0 behind its end -/
def of (l : List Nat) (i : Nat) : Nat := l.getD i 0

/-- the first bytes of a row that is turned back -/
def get (kind step : Nat) (f g : Nat → Nat) : Nat → List Nat
  | 0 => []
  | k + 1 => get kind step f g k ++ [(f k + gs kind step (of (get kind step f g k)) g k) % 256]
theorem get_len (kind step : Nat) (f g : Nat → Nat) (n : Nat) : (get kind step f g n).length = n := by
  induction n with
  | zero => rfl
  | succ n ih => simp [get, ih]
theorem get_byte (kind step : Nat) (f g : Nat → Nat) (n : Nat) : ∀ x ∈ get kind step f g n, x < 256 := by
  induction n with
  | zero => intro x hx; simp [get] at hx
  | succ n ih =>
    intro x hx
    rw [get, List.mem_append] at hx
    rcases hx with hx | hx
    · exact ih x hx
    · simp only [List.mem_singleton] at hx; omega

theorem of_lt {l : List Nat} (h : ∀ x ∈ l, x < 256) (i : Nat) : of l i < 256 := by
  unfold of
  by_cases hi : i < l.length
  · rw [List.getD_eq_getElem?_getD, List.getElem?_eq_getElem hi]; exact h _ (List.getElem_mem hi)
  · rw [List.getD_eq_getElem?_getD, List.getElem?_eq_none (by omega)]; exact Nat.zero_lt_succ _

theorem of_app_left (l m : List Nat) (i : Nat) (h : i < l.length) : of (l ++ m) i = of l i := by
  unfold of
  rw [List.getD_eq_getElem?_getD, List.getD_eq_getElem?_getD, List.getElem?_append_left h]
theorem of_app_last (l : List Nat) (x : Nat) : of (l ++ [x]) l.length = x := by
  unfold of
  rw [List.getD_eq_getElem?_getD, List.getElem?_append_right (Nat.le_refl _)]; simp

theorem get_mono (kind step : Nat) (f g : Nat → Nat) (n i : Nat) (h : i < n) : of (get kind step f g n) i = of (get kind step f g (i + 1)) i := by
  induction n with
  | zero => omega
  | succ n ih =>
    by_cases e : i < n
    · rw [get, of_app_left _ _ _ (by rw [get_len]; exact e), ih e]
    · have : i = n := by omega
      subst this; rfl

theorem get_at (kind step : Nat) (f g : Nat → Nat) (n k : Nat) (hs : 1 ≤ step) (h : k < n) : of (get kind step f g n) k = (f k + gs kind step (of (get kind step f g n)) g k) % 256 := by
  rw [get_mono kind step f g n k h]
  have e := of_app_last (get kind step f g k) ((f k + gs kind step (of (get kind step f g k)) g k) % 256)
  rw [get_len] at e
  rw [get, e]
  congr 2
  refine gs_congr hs fun i hi => ?_
  rw [get_mono kind step f g n i (by omega), get_mono kind step f g k i hi]

/-- what is taken away can be put back -/
theorem get_put (kind step : Nat) (f g : Nat → Nat) (n : Nat) (hs : 1 ≤ step) (hf : ∀ i, f i < 256) (hg : ∀ i, g i < 256) : ∀ k, k ≤ n → get kind step (of (put kind step f g n)) g k = (List.range k).map f := by
  intro k
  induction k with
  | zero => intro _; rfl
  | succ k ih =>
    intro hk
    rw [get, ih (by omega), List.range_succ, List.map_append]
    congr 1
    have e1 : of (put kind step f g n) k = (f k + 512 - gs kind step f g k) % 256 := put_get kind step f g n k (by omega)
    have e2 : gs kind step (of ((List.range k).map f)) g k = gs kind step f g k := by
      refine gs_congr hs fun i hi => ?_
      unfold of
      simp [hi]
    rw [e1, e2]
    have h1 := gs_lt (kind := kind) (step := step) hf hg k
    have h2 := hf k
    simp only [List.map_cons, List.map_nil, List.cons.injEq, and_true]
    omega

/-- and the other way round -/
theorem put_get_row (kind step : Nat) (f g : Nat → Nat) (n : Nat) (hs : 1 ≤ step) (hf : ∀ i, f i < 256) (hg : ∀ i, g i < 256) : put kind step (of (get kind step f g n)) g n = (List.range n).map f := by
  unfold put
  refine List.map_congr_left fun k hk => ?_
  have hkn : k < n := List.mem_range.1 hk
  have e := get_at kind step f g n k hs hkn
  have h1 := gs_lt (kind := kind) (step := step) (f := of (get kind step f g n)) (of_lt (get_byte kind step f g n)) hg k
  have h2 := hf k
  rw [e]
  generalize gs kind step (of (get kind step f g n)) g k = x at *
  omega
end Fl

/-- a text's bytes -/
theorem text_range (s : ByteArray) : ⟨(((List.range s.size).map (byteAt s)).map UInt8.ofNat).toArray⟩ = s := by
  have e : ((List.range s.size).map (byteAt s)).map UInt8.ofNat = s.data.toList := by
    apply List.ext_getElem
    · simp
    · intro i h1 h2
      have hi : i < s.size := by simpa using h1
      simp only [List.getElem_map, List.getElem_range]
      rw [← byteAt_eq s i hi]
      simp
      rfl
  rw [e]

/-- the bytes of a text that was made of bytes -/
theorem byteAt_text (l : List Nat) (h : ∀ x ∈ l, x < 256) (i : Nat) : byteAt ⟨(l.map UInt8.ofNat).toArray⟩ i = Fl.of l i := by
  unfold byteAt Fl.of
  simp only [List.getD_eq_getElem?_getD, List.getElem?_map]
  by_cases hi : i < l.length
  · have := h _ (List.getElem_mem hi)
    rw [List.getElem?_eq_getElem hi]
    simp
    omega
  · simp [List.getElem?_eq_none (show l.length ≤ i by omega)]
end Go.Proofs.Ytjikjjganloobab
