/- Plain mathematics of bits that are packed into bytes: each stands where it was put. -/
import Derived.Test.YtjfihmpnbblomaaBgMath
namespace Go.Proofs.Ytjfihmpnbblomaa
namespace Bp

/-- a byte of a text, with one bit more -/
theorem byte_bit : ∀ x, x < 256 → ∀ p, p < 8 → x / 2 ^ p % 2 = 0 → x ||| 2 ^ p = x + 2 ^ p ∧ x + 2 ^ p < 256 ∧ ∀ q, q < 8 → (x + 2 ^ p) / 2 ^ q % 2 = if q = p then 1 else x / 2 ^ q % 2 := by
  decide +kernel

theorem byte_step (x p b : Nat) (hx : x < 256) (hp : p < 8) (hb : b < 2) (h0 : x / 2 ^ p % 2 = 0) :
    x ||| b * 2 ^ p = x + b * 2 ^ p ∧ x + b * 2 ^ p < 256 ∧ ∀ q, q < 8 → (x + b * 2 ^ p) / 2 ^ q % 2 = if q = p then b else x / 2 ^ q % 2 := by
  rcases (by omega : b = 0 ∨ b = 1) with rfl | rfl
  · rw [Nat.zero_mul, Nat.add_zero, Nat.or_zero]
    refine ⟨rfl, hx, fun q hq => ?_⟩
    split
    · next e => rw [e]; exact h0
    · rfl
  · rw [Nat.one_mul]; exact byte_bit x hx p hp h0

/-- the bytes, with room for the next bit -/
def room (n : Nat) (out : List Nat) : List Nat := if n % 8 = 0 then out ++ [0] else out

/-- the bytes of the first n bits -/
def pack (hi : Bool) (f : Nat → Nat) : Nat → List Nat
  | 0 => []
  | n + 1 => (room n (pack hi f n)).set (n / 8) ((room n (pack hi f n)).getD (n / 8) 0 + f n * 2 ^ Bg.spot hi n)

theorem pack_len (hi : Bool) (f : Nat → Nat) : ∀ n, (pack hi f n).length = (n + 7) / 8 := by
  intro n
  induction n with
  | zero => rfl
  | succ n ih =>
    simp only [pack, List.length_set, room]
    split
    · rw [List.length_append, ih]; simp; omega
    · rw [ih]; omega

theorem room_len (hi : Bool) (f : Nat → Nat) (n : Nat) : (room n (pack hi f n)).length = n / 8 + 1 := by
  unfold room
  split
  · rw [List.length_append, pack_len]; simp; omega
  · rw [pack_len]; omega

theorem spot_inj (hi : Bool) (i n : Nat) (h : i / 8 = n / 8) (g : Bg.spot hi i = Bg.spot hi n) : i = n := by
  unfold Bg.spot at g
  split at g <;> omega

structure Inv (hi : Bool) (f : Nat → Nat) (n : Nat) (o : List Nat) : Prop where
  byte : ∀ j, o.getD j 0 < 256
  bit : ∀ i, i / 8 < o.length → o.getD (i / 8) 0 / 2 ^ Bg.spot hi i % 2 = if i < n then f i else 0

theorem getD_snoc (o : List Nat) (j : Nat) : (o ++ [0]).getD j 0 = o.getD j 0 := by
  rw [List.getD_eq_getElem?_getD, List.getD_eq_getElem?_getD]
  by_cases h : j < o.length
  · rw [List.getElem?_append_left h]
  · rw [List.getElem?_append_right (by omega), List.getElem?_eq_none (l := o) (by omega)]
    rcases (by omega : j - o.length = 0 ∨ 0 < j - o.length) with e | e
    · rw [e]; rfl
    · rw [List.getElem?_eq_none (by simp; omega)]

theorem inv_room (hi : Bool) (f : Nat → Nat) (n : Nat) (o : List Nat) (hl : o.length = (n + 7) / 8) (h : Inv hi f n o) : Inv hi f n (room n o) := by
  unfold room
  split
  · next e =>
    refine ⟨fun j => by rw [getD_snoc]; exact h.byte j, fun i hi' => ?_⟩
    rw [getD_snoc]
    by_cases g : i / 8 < o.length
    · exact h.bit i g
    · rw [List.getD_eq_getElem?_getD, List.getElem?_eq_none (by omega)]
      rw [List.length_append] at hi'
      simp at hi'
      rw [if_neg (by omega)]
      simp
  · exact h

theorem getD_set (o : List Nat) (j k x : Nat) (hj : j < o.length) : (o.set j x).getD k 0 = if j = k then x else o.getD k 0 := by
  rw [List.getD_eq_getElem?_getD, List.getElem?_set]
  split
  · first | rfl | (rw [if_pos (by omega)]; rfl)
  · rw [List.getD_eq_getElem?_getD]

theorem inv (hi : Bool) (f : Nat → Nat) (hf : ∀ i, f i < 2) : ∀ n, Inv hi f n (pack hi f n) := by
  intro n
  induction n with
  | zero => exact ⟨fun j => by simp [pack], fun i h => by simp [pack] at h⟩
  | succ n ih =>
    have hr := inv_room hi f n _ (pack_len hi f n) ih
    have hl := room_len hi f n
    simp only [pack]
    generalize room n (pack hi f n) = o at *
    have h0 := hr.bit n (by omega)
    rw [if_neg (by omega)] at h0
    have hs := Bg.spot_le hi n
    obtain ⟨_, s2, s3⟩ := byte_step (o.getD (n / 8) 0) (Bg.spot hi n) (f n) (hr.byte _) (by omega) (hf n) h0
    refine ⟨fun j => ?_, fun i hi' => ?_⟩
    · rw [getD_set _ _ _ _ (by omega)]
      split
      · exact s2
      · exact hr.byte j
    · rw [List.length_set] at hi'
      rw [getD_set _ _ _ _ (by omega)]
      have hq := Bg.spot_le hi i
      split
      · next e =>
        rw [s3 _ (by omega)]
        by_cases g : i = n
        · subst g; rw [if_pos rfl, if_pos (by omega)]
        · rw [if_neg (fun k => g (spot_inj hi i n e.symm k)), e, hr.bit i hi']
          by_cases l : i < n
          · rw [if_pos l, if_pos (by omega)]
          · rw [if_neg l, if_neg (by omega)]
      · next e =>
        rw [hr.bit i hi']
        by_cases l : i < n
        · rw [if_pos l, if_pos (by omega)]
        · have : ¬ i = n := fun k => e (by rw [k])
          rw [if_neg l, if_neg (by omega)]

/-- what a step finds: the byte with room, its bit not set -/
theorem step_facts (hi : Bool) (f : Nat → Nat) (hf : ∀ i, f i < 2) (n : Nat) :
    let x := (room n (pack hi f n)).getD (n / 8) 0
    x < 256 ∧ x + f n * 2 ^ Bg.spot hi n < 256 ∧ x ||| f n * 2 ^ Bg.spot hi n = x + f n * 2 ^ Bg.spot hi n := by
  have hr := inv_room hi f n _ (pack_len hi f n) (inv hi f hf n)
  have hl := room_len hi f n
  have h0 := hr.bit n (by omega)
  rw [if_neg (by omega)] at h0
  have hs := Bg.spot_le hi n
  obtain ⟨s1, s2, _⟩ := byte_step _ (Bg.spot hi n) (f n) (hr.byte (n / 8)) (by omega) (hf n) h0
  exact ⟨hr.byte _, s2, s1⟩

/-- the k-th bit of a number of s bits -/
def bitIn (hi : Bool) (v s k : Nat) : Nat := v / 2 ^ (if hi then s - 1 - k else k) % 2
theorem bitIn_lt (hi : Bool) (v s k : Nat) : bitIn hi v s k < 2 := Nat.mod_lt _ (by omega)

/-- a bit's number and size, ok -/
def Ok (p : Int × Int) : Prop := 0 ≤ p.2 ∧ p.2 ≤ 24 ∧ 0 ≤ p.1 ∧ p.1.toNat < 2 ^ p.2.toNat
def okB (p : Int × Int) : Bool := decide (0 ≤ p.2 ∧ p.2 ≤ 24 ∧ 0 ≤ p.1 ∧ p.1.toNat < 2 ^ p.2.toNat)
theorem okB_true {p : Int × Int} (h : Ok p) : okB p = true := by unfold okB; unfold Ok at h; exact decide_eq_true h
theorem okB_false {p : Int × Int} (h : ¬ Ok p) : okB p = false := by unfold okB; unfold Ok at h; exact decide_eq_false h
theorem okB_ok {p : Int × Int} (h : okB p = true) : Ok p := by unfold okB at h; unfold Ok; exact of_decide_eq_true h

/-- all bits, one behind the other -/
def bitsOf (hi : Bool) (l : List (Int × Int)) : List Nat := l.flatMap fun p => (List.range p.2.toNat).map fun k => bitIn hi p.1.toNat p.2.toNat k
def fOf (hi : Bool) (l : List (Int × Int)) (i : Nat) : Nat := (bitsOf hi l).getD i 0
/-- how many bits the first i have -/
def tot (l : List (Int × Int)) (i : Nat) : Nat := ((l.take i).map fun p => p.2.toNat).sum

theorem bitsOf_lt (hi : Bool) (l : List (Int × Int)) : ∀ x ∈ bitsOf hi l, x < 2 := by
  intro x hx
  unfold bitsOf at hx
  rw [List.mem_flatMap] at hx
  obtain ⟨p, _, hp⟩ := hx
  rw [List.mem_map] at hp
  obtain ⟨k, _, rfl⟩ := hp
  exact bitIn_lt _ _ _ _

theorem fOf_lt (hi : Bool) (l : List (Int × Int)) (i : Nat) : fOf hi l i < 2 := by
  unfold fOf
  rw [List.getD_eq_getElem?_getD]
  by_cases h : i < (bitsOf hi l).length
  · rw [List.getElem?_eq_getElem h]; exact bitsOf_lt hi l _ (List.getElem_mem h)
  · rw [List.getElem?_eq_none (by omega)]; simp

theorem tot_succ (l : List (Int × Int)) (i : Nat) (h : i < l.length) : tot l (i + 1) = tot l i + (l[i]).2.toNat := by
  unfold tot
  rw [List.take_succ_eq_append_getElem h, List.map_append, List.sum_append]
  simp

theorem fOf_at (hi : Bool) : ∀ (l : List (Int × Int)) (i k : Nat) (h : i < l.length), k < (l[i]).2.toNat → fOf hi l (tot l i + k) = bitIn hi (l[i]).1.toNat (l[i]).2.toNat k := by
  intro l
  induction l with
  | nil => intro i k h; simp at h
  | cons p l ih =>
    intro i k h hk
    have hb : bitsOf hi (p :: l) = ((List.range p.2.toNat).map fun k => bitIn hi p.1.toNat p.2.toNat k) ++ bitsOf hi l := by simp [bitsOf]
    cases i with
    | zero =>
      simp only [List.getElem_cons_zero] at hk ⊢
      unfold fOf
      rw [hb, List.getD_eq_getElem?_getD]
      have : tot (p :: l) 0 + k = k := by simp [tot]
      rw [this, List.getElem?_append_left (by simpa using hk)]
      simp [hk]
    | succ i =>
      simp only [List.getElem_cons_succ] at hk ⊢
      rw [← ih i k (by simpa using h) hk]
      unfold fOf
      rw [hb, List.getD_eq_getElem?_getD, List.getD_eq_getElem?_getD]
      have e : tot (p :: l) (i + 1) = p.2.toNat + tot l i := by simp [tot]
      rw [List.getElem?_append_right (by simp [e]; omega)]
      congr 2
      simp [e]
      omega

/-- all are ok, and not too many -/
def Fits (l : List (Int × Int)) (i : Nat) : Prop := ∀ j (h : j < l.length), j < i → Ok l[j] ∧ tot l (j + 1) ≤ 72000

theorem fits_zero (l : List (Int × Int)) : Fits l 0 := fun _ _ h => by omega
theorem fits_succ {l : List (Int × Int)} {i : Nat} (hl : i < l.length) (h : Fits l i) (ho : Ok l[i]) (ht : tot l (i + 1) ≤ 72000) : Fits l (i + 1) := by
  intro j hj hji
  by_cases e : j < i
  · exact h j hj e
  · have : j = i := by omega
    subst this; exact ⟨ho, ht⟩
theorem fits_not {l : List (Int × Int)} {i n : Nat} (hn : i < n) (hl : i < l.length) (h : ¬ (Ok l[i] ∧ tot l (i + 1) ≤ 72000)) : ¬ Fits l n := fun g => h (g i hl hn)
theorem fits_tot {l : List (Int × Int)} {i n : Nat} (h : Fits l n) (hin : i ≤ n) (hl : i ≤ l.length) : tot l i ≤ 72000 := by
  cases i with
  | zero => simp [tot]
  | succ i => exact (h i (by omega) (by omega)).2

/-- the text that bits make -/
def text (hi : Bool) (l : List (Int × Int)) : List Nat := pack hi (fOf hi l) (tot l l.length)
end Bp
end Go.Proofs.Ytjfihmpnbblomaa
