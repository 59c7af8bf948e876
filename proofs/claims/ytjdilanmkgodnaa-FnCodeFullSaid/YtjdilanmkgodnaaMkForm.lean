/- The numbers of a code, told by a form: what comes ahead, and how many of the same length. -/
import Derived.Test.YtjdilanmkgodnaaMakeMath
import Derived.Test.YtjdilanmkgodnaaCodeMath
namespace Go.Proofs.Ytjdilanmkgodnaa
namespace Mk

/-- how many of the first k have the length n -/
def cnt (zs : List Int) (n : Int) : Nat → Nat
  | 0 => 0
  | k + 1 => cnt zs n k + if zs.getD k 0 = n then 1 else 0
theorem cnt_mono (zs : List Int) (n : Int) : ∀ (k d : Nat), cnt zs n k ≤ cnt zs n (k + d)
  | k, 0 => Nat.le_refl _
  | k, d + 1 => by
    have := cnt_mono zs n k d
    show _ ≤ cnt zs n (k + d) + _
    omega
theorem cnt_lt {zs : List Int} {n : Int} {i k : Nat} (h : i < k) (hi : zs.getD i 0 = n) : cnt zs n i < cnt zs n k := by
  have h1 : cnt zs n (i + 1) = cnt zs n i + 1 := by show _ + _ = _; rw [if_pos hi]
  have h2 := cnt_mono zs n (i + 1) (k - (i + 1))
  rw [show i + 1 + (k - (i + 1)) = k by omega] at h2
  omega
theorem inner_fst (zs : List Int) (n : Int) (s : Nat × List Int) : ∀ k, (inner zs n k s).1 = s.1 + cnt zs n k
  | 0 => rfl
  | k + 1 => by
    by_cases h : zs.getD k 0 = n
    · rw [inner_hit zs n k s h]
      show (inner zs n k s).1 + 1 = s.1 + (cnt zs n k + _)
      rw [inner_fst zs n s k, if_pos h]; omega
    · rw [inner_miss zs n k s h, inner_fst zs n s k]
      show _ = s.1 + (cnt zs n k + _)
      rw [if_neg h]; omega
theorem inner_snd (zs : List Int) (n : Int) (s : Nat × List Int) (j : Nat) (hj : j < s.2.length) : ∀ k, (inner zs n k s).2.getD j 0 = if j < k ∧ zs.getD j 0 = n then ((s.1 + cnt zs n j : Nat) : Int) else s.2.getD j 0
  | 0 => by rw [if_neg (by omega)]; rfl
  | k + 1 => by
    have ih := inner_snd zs n s j hj k
    by_cases h : zs.getD k 0 = n
    · rw [inner_hit zs n k s h]
      show ((inner zs n k s).2.set k _).getD j 0 = _
      by_cases e : j = k
      · subst e
        rw [List.getD_eq_getElem?_getD, List.getElem?_set_self (by rw [inner_len]; exact hj), if_pos ⟨by omega, h⟩, inner_fst]
        rfl
      · rw [List.getD_eq_getElem?_getD, List.getElem?_set_ne (by omega), ← List.getD_eq_getElem?_getD, ih]
        by_cases g : j < k ∧ zs.getD j 0 = n
        · rw [if_pos g, if_pos ⟨by omega, g.2⟩]
        · rw [if_neg g, if_neg (fun q => g ⟨by omega, q.2⟩)]
    · rw [inner_miss zs n k s h, ih]
      by_cases g : j < k ∧ zs.getD j 0 = n
      · rw [if_pos g, if_pos ⟨by omega, g.2⟩]
      · rw [if_neg g, if_neg (fun q => g ⟨by
          by_cases e : j = k
          · exact absurd (e ▸ q.2) h
          · omega, q.2⟩)]

/-- what comes behind all of a length -/
def E (zs : List Int) (m : Nat) : Nat := (outer zs m).1
theorem E_succ (zs : List Int) (m : Nat) : E zs (m + 1) = 2 * E zs m + cnt zs ((m + 1 : Nat) : Int) zs.length := by
  show (inner zs _ zs.length _).1 = _
  rw [inner_fst]; rfl
theorem outer_get (zs : List Int) (j : Nat) (hj : j < zs.length) : ∀ m n : Nat, zs.getD j 0 = (n : Int) → (outer zs m).2.getD j 0 = if 1 ≤ n ∧ n ≤ m then ((2 * E zs (n - 1) + cnt zs (n : Int) j : Nat) : Int) else 0
  | 0, n, _ => by
    rw [if_neg (by omega)]
    show (List.replicate zs.length (0 : Int)).getD j 0 = 0
    rw [List.getD_eq_getElem?_getD, List.getElem?_replicate]
    split <;> rfl
  | m + 1, n, hn => by
    show (inner zs ((m + 1 : Nat) : Int) zs.length (2 * (outer zs m).1, (outer zs m).2)).2.getD j 0 = _
    rw [inner_snd zs _ _ j (by show j < (outer zs m).2.length; rw [outer_len]; exact hj)]
    show (if _ then ((2 * E zs m + cnt zs ((m + 1 : Nat) : Int) j : Nat) : Int) else (outer zs m).2.getD j 0) = _
    rw [outer_get zs j hj m n hn, hn]
    by_cases e : n = m + 1
    · subst e
      rw [if_pos ⟨hj, rfl⟩, if_pos (by omega), show m + 1 - 1 = m by omega]
    · rw [if_neg (fun q => e (by have := q.2; omega))]
      by_cases g : 1 ≤ n ∧ n ≤ m
      · rw [if_pos g, if_pos (by omega)]
      · rw [if_neg g, if_neg (by omega)]
theorem mk_get {zs : List Int} {j n : Nat} (hj : j < zs.length) (hn : zs.getD j 0 = (n : Int)) (h1 : 1 ≤ n) (h15 : n ≤ 15) : (mk zs).getD j 0 = ((2 * E zs (n - 1) + cnt zs (n : Int) j : Nat) : Int) := by
  unfold mk
  rw [outer_get zs j hj 15 n hn, if_pos ⟨h1, h15⟩]

/-- what lengths up to m take of a whole -/
def Ks (zs : List Int) (k : Nat) : Nat → Nat
  | 0 => 0
  | m + 1 => Ks zs k m + cnt zs ((m + 1 : Nat) : Int) k * 2 ^ (15 - (m + 1))
theorem Ks_zero (zs : List Int) : ∀ m, Ks zs 0 m = 0
  | 0 => rfl
  | m + 1 => by show Ks zs 0 m + cnt zs _ 0 * _ = 0; rw [Ks_zero zs m]; simp [cnt]
theorem Ks_succ (zs : List Int) (k : Nat) : ∀ m, Ks zs (k + 1) m = Ks zs k m + if 1 ≤ zs.getD k 0 ∧ zs.getD k 0 ≤ (m : Int) then 2 ^ (15 - (zs.getD k 0).toNat) else 0
  | 0 => by rw [if_neg (by omega)]; rfl
  | m + 1 => by
    show Ks zs (k + 1) m + (cnt zs ((m + 1 : Nat) : Int) k + _) * 2 ^ (15 - (m + 1)) = Ks zs k m + cnt zs ((m + 1 : Nat) : Int) k * 2 ^ (15 - (m + 1)) + _
    rw [Ks_succ zs k m, Nat.add_mul]
    by_cases e : zs.getD k 0 = ((m + 1 : Nat) : Int)
    · rw [if_pos e, if_neg (by omega), if_pos (by omega), e, Int.toNat_natCast]
      omega
    · rw [if_neg e]
      by_cases g : 1 ≤ zs.getD k 0 ∧ zs.getD k 0 ≤ (m : Int)
      · rw [if_pos g, if_pos (by omega)]; omega
      · rw [if_neg g, if_neg (by omega)]; omega
theorem Ks_taken (zs : List Int) : ∀ k, k ≤ zs.length → Ks zs k 15 ≤ Cd.taken (zs.take k)
  | 0, _ => by rw [Ks_zero]; exact Nat.zero_le _
  | k + 1, h => by
    have ih := Ks_taken zs k (by omega)
    have e : zs.getD k 0 = zs[k] := by rw [List.getD_eq_getElem?_getD, List.getElem?_eq_getElem (by omega)]; rfl
    rw [Ks_succ, Cd.taken_snoc zs k (by omega), e]
    unfold Cd.part
    by_cases g : 1 ≤ zs[k] ∧ zs[k] ≤ ((15 : Nat) : Int)
    · rw [if_pos g, if_pos (by omega)]; omega
    · rw [if_neg g]; omega
theorem E_Ks (zs : List Int) : ∀ m, m ≤ 15 → E zs m * 2 ^ (15 - m) = Ks zs zs.length m
  | 0, _ => by show (outer zs 0).1 * _ = 0; simp [outer]
  | m + 1, h => by
    have ih := E_Ks zs m (by omega)
    rw [E_succ, Nat.add_mul]
    show _ = Ks zs zs.length m + _
    rw [← ih]
    congr 1
    rw [show 15 - m = 15 - (m + 1) + 1 by omega, Nat.pow_succ]
    generalize 2 ^ (15 - (m + 1)) = p
    rw [Nat.mul_assoc, Nat.mul_left_comm, Nat.mul_comm 2 p]
theorem Ks_mono (zs : List Int) (k : Nat) : ∀ m d, Ks zs k m ≤ Ks zs k (m + d)
  | _, 0 => Nat.le_refl _
  | m, d + 1 => Nat.le_trans (Ks_mono zs k m d) (Nat.le_add_right (Ks zs k (m + d)) _)
theorem E_le {zs : List Int} (h : Cd.taken zs ≤ 32768) {m : Nat} (hm : m ≤ 15) : E zs m ≤ 2 ^ m := by
  have h1 := E_Ks zs m hm
  have h2 := Ks_mono zs zs.length m (15 - m)
  rw [show m + (15 - m) = 15 by omega] at h2
  have h3 := Ks_taken zs zs.length (Nat.le_refl _)
  rw [List.take_of_length_le (Nat.le_refl _)] at h3
  have h4 : E zs m * 2 ^ (15 - m) ≤ 2 ^ m * 2 ^ (15 - m) := by
    rw [← Nat.pow_add, show m + (15 - m) = 15 by omega]
    show _ ≤ 32768
    omega
  exact Nat.le_of_mul_le_mul_right h4 (Nat.pow_pos (by omega))
theorem E_up (zs : List Int) (m : Nat) : ∀ d, E zs m * 2 ^ d ≤ E zs (m + d)
  | 0 => by simp
  | d + 1 => by
    have ih := E_up zs m d
    rw [show m + (d + 1) = m + d + 1 by omega, E_succ, Nat.pow_succ, ← Nat.mul_assoc]
    omega

/-- a symbol's length and number -/
structure Sym (zs : List Int) (i n v : Nat) : Prop where
  lt : i < zs.length
  len : zs.getD i 0 = (n : Int)
  pos : 1 ≤ n
  le : n ≤ 15
  num : (mk zs).getD i 0 = (v : Int)
theorem Sym.eq {zs : List Int} {i n v : Nat} (h : Sym zs i n v) : v = 2 * E zs (n - 1) + cnt zs (n : Int) i := by
  have := mk_get h.lt h.len h.pos h.le
  rw [h.num] at this
  omega
theorem Sym.below {zs : List Int} {i n v : Nat} (h : Sym zs i n v) : v < E zs n := by
  have h1 := cnt_lt h.lt h.len
  have h2 := E_succ zs (n - 1)
  rw [show n - 1 + 1 = n by have := h.pos; omega] at h2
  have h3 := h.eq
  omega
/-- a number has no more bits than its length -/
theorem Sym.bits {zs : List Int} {i n v : Nat} (h : Sym zs i n v) (ht : Cd.taken zs ≤ 32768) : v < 2 ^ n := Nat.lt_of_lt_of_le h.below (E_le ht h.le)
/-- of one length, each has another number -/
theorem Sym.one {zs : List Int} {i k n v : Nat} (h : Sym zs i n v) (g : Sym zs k n v) : i = k := by
  have h1 := h.eq
  have h2 := g.eq
  rcases Nat.lt_trichotomy i k with e | e | e
  · have := cnt_lt e h.len; omega
  · exact e
  · have := cnt_lt e g.len; omega
/-- no number begins another one -/
theorem Sym.apart {zs : List Int} {i k n m v u : Nat} (h : Sym zs i n v) (g : Sym zs k m u) (hne : k ≠ i) (hnm : n ≤ m) : u / 2 ^ (m - n) ≠ v := by
  by_cases e : m = n
  · subst e
    rw [Nat.sub_self, Nat.pow_zero, Nat.div_one]
    intro e2
    subst e2
    exact hne (g.one h)
  · have h1 := E_up zs n (m - 1 - n)
    have h2 := h.below
    have h3 := g.eq
    rw [show n + (m - 1 - n) = m - 1 by omega] at h1
    have h4 : E zs n * 2 ^ (m - n) ≤ u := by
      rw [show m - n = (m - 1 - n) + 1 by omega, Nat.pow_succ, ← Nat.mul_assoc]
      omega
    have h5 : E zs n ≤ u / 2 ^ (m - n) := (Nat.le_div_iff_mul_le (Nat.pow_pos (by omega))).2 h4
    omega
end Mk
end Go.Proofs.Ytjdilanmkgodnaa
