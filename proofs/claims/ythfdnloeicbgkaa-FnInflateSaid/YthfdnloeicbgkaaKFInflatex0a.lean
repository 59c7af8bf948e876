/- Texts laid together: MakeMath, CodeMath, MkForm, GtMath, Base, GtMem, InWalks, PowWalks, BgMath, BgBits, OrdWalks, BgImpl, GtPlant, IntsWalks, CodeWalks, OwnRow, MakeWalks, MakeBound, TurnWalks, CpMath, GtTree, BgMath2, GtBits, DfMath, TkRow, ToMath, FxMath, NfMath, Fault, StrWalks, IntOwn, AppOne, OwnText, OnlyB, OffB, OtWalks, GtFind, NfMem, DfRow, NsMem, NfPut, NsBits, GtTop, GtSpec, NsGet, NsSym, NfFind, NfMove, NfMath2, FxI. -/
import Init
import Derived.WalkKit
import Derived.WalkSpells
import Derived.WalkLawsBesides
import Derived.Laws.CopyOwn
import Derived.Deep.QuietTactic
import Derived.BigQuiet
import Derived.BigRegion
import Derived.Deep.RegionWith
import Derived.OpenShut
import Derived.Laws.Tables
import Derived.Test.YthfdnloeicbgkaaProg
import Derived.Laws.MakeOwn
import Derived.Defers
import Derived.Recover
import Derived.RangeFuncBox
import Derived.Laws.BytesString
import Derived.Deep.AppendLies
import Derived.Laws.OwnMore
import Derived.Lib.AppendStr
import Derived.Below
import Derived.Deep.RegionHeld
import Derived.StillTailTactics
/- Plain mathematics of the numbers of a code, as both texts reckon them: length by length, symbol by symbol. -/
namespace Go.Proofs.Ythfdnloeicbgkaa
namespace Mk

/-- the first k symbols of one length -/
def inner (zs : List Int) (n : Int) : Nat → Nat × List Int → Nat × List Int
  | 0, s => s
  | k + 1, s => if zs.getD k 0 = n then ((inner zs n k s).1 + 1, (inner zs n k s).2.set k ((inner zs n k s).1 : Int)) else inner zs n k s

/-- all lengths up to m -/
def outer (zs : List Int) : Nat → Nat × List Int
  | 0 => (0, List.replicate zs.length 0)
  | m + 1 => inner zs ((m + 1 : Nat) : Int) zs.length (2 * (outer zs m).1, (outer zs m).2)

def mk (zs : List Int) : List Int := (outer zs 15).2

theorem inner_hit (zs : List Int) (n : Int) (k : Nat) (s : Nat × List Int) (h : zs.getD k 0 = n) :
    inner zs n (k + 1) s = ((inner zs n k s).1 + 1, (inner zs n k s).2.set k ((inner zs n k s).1 : Int)) := if_pos h
theorem inner_miss (zs : List Int) (n : Int) (k : Nat) (s : Nat × List Int) (h : ¬ zs.getD k 0 = n) : inner zs n (k + 1) s = inner zs n k s := if_neg h

theorem inner_le (zs : List Int) (n : Int) (s : Nat × List Int) : ∀ k, (inner zs n k s).1 ≤ s.1 + k := by
  intro k
  induction k with
  | zero => exact Nat.le_refl _
  | succ k ih =>
    by_cases h : zs.getD k 0 = n
    · rw [inner_hit zs n k s h]; simp only; omega
    · rw [inner_miss zs n k s h]; omega

theorem inner_len (zs : List Int) (n : Int) (s : Nat × List Int) : ∀ k, (inner zs n k s).2.length = s.2.length := by
  intro k
  induction k with
  | zero => rfl
  | succ k ih =>
    by_cases h : zs.getD k 0 = n
    · rw [inner_hit zs n k s h]; simp only [List.length_set]; exact ih
    · rw [inner_miss zs n k s h]; exact ih

theorem outer_len (zs : List Int) : ∀ m, (outer zs m).2.length = zs.length := by
  intro m
  induction m with
  | zero => simp [outer]
  | succ m ih => show (inner zs _ zs.length _).2.length = _; rw [inner_len]; exact ih

theorem outer_le (zs : List Int) (hz : zs.length ≤ 300) : ∀ m, (outer zs m).1 + 300 ≤ 300 * 2 ^ m := by
  intro m
  induction m with
  | zero => simp [outer]
  | succ m ih =>
    have := inner_le zs ((m + 1 : Nat) : Int) (2 * (outer zs m).1, (outer zs m).2) zs.length
    show (inner zs _ zs.length _).1 + 300 ≤ _
    rw [Nat.pow_succ]
    simp only at this
    omega

theorem outer_bound (zs : List Int) (hz : zs.length ≤ 300) (m : Nat) (hm : m ≤ 15) : (outer zs m).1 ≤ 9830400 := by
  have h := outer_le zs hz m
  have h2 : 2 ^ m ≤ 2 ^ 15 := Nat.pow_le_pow_right (by omega) hm
  omega

theorem mk_len (zs : List Int) : (mk zs).length = zs.length := outer_len zs 15
end Mk
end Go.Proofs.Ythfdnloeicbgkaa

/- Plain mathematics of lengths of a code: how much of a whole they take. -/
namespace Go.Proofs.Ythfdnloeicbgkaa
namespace Cd

def okLen (z : Int) : Bool := decide (0 ≤ z) && decide (z ≤ 15)
def part (z : Int) : Nat := if 0 < z then 2 ^ (15 - z.toNat) else 0
def taken : List Int → Nat
  | [] => 0
  | z :: l => part z + taken l
def valid (l : List Int) : Bool := l.all okLen

theorem taken_append (l m : List Int) : taken (l ++ m) = taken l + taken m := by
  induction l with
  | nil => simp [taken]
  | cons z l ih => simp only [List.cons_append, taken, ih]; omega

theorem valid_append (l m : List Int) : valid (l ++ m) = (valid l && valid m) := by
  unfold valid; rw [List.all_append]

theorem take_taken_le (l : List Int) (k : Nat) : taken (l.take k) ≤ taken l := by
  have h := taken_append (l.take k) (l.drop k)
  rw [List.take_append_drop] at h; omega

theorem take_valid (l : List Int) (k : Nat) (h : valid l = true) : valid (l.take k) = true := by
  have e := valid_append (l.take k) (l.drop k)
  rw [List.take_append_drop, h] at e
  exact (Bool.and_eq_true _ _ ▸ e.symm).1

theorem take_snoc (l : List Int) (k : Nat) (h : k < l.length) : l.take (k + 1) = l.take k ++ [l[k]] := by
  rw [List.take_succ_eq_append_getElem h]

theorem taken_snoc (l : List Int) (k : Nat) (h : k < l.length) : taken (l.take (k + 1)) = taken (l.take k) + part l[k] := by
  rw [take_snoc l k h, taken_append]; simp [taken]

theorem valid_snoc (l : List Int) (k : Nat) (h : k < l.length) : valid (l.take (k + 1)) = (valid (l.take k) && okLen l[k]) := by
  rw [take_snoc l k h, valid_append]; simp [valid]

theorem not_valid (l : List Int) (k : Nat) (h : k < l.length) (hz : okLen l[k] = false) : valid l = false := by
  cases e : valid l
  · rfl
  · have := take_valid l (k + 1) e
    rw [valid_snoc l k h, hz, Bool.and_false] at this
    cases this

/-- what is left of the whole; -1 if lengths are not ok -/
def left (l : List Int) : Int := if valid l = true ∧ taken l ≤ 32768 then 32768 - (taken l : Int) else -1

theorem left_bad (l : List Int) (k : Nat) (h : k < l.length) (hz : okLen l[k] = false) : left l = -1 := by
  unfold left; rw [not_valid l k h hz, if_neg (by simp)]

theorem left_over (l : List Int) (k : Nat) (h : 32768 < taken (l.take k)) : left l = -1 := by
  unfold left
  have := take_taken_le l k
  rw [if_neg (by omega)]

def okB (l : List Int) : Bool := decide (l.length ≤ 300) && (valid l && decide (taken l ≤ 32768))

end Cd
end Go.Proofs.Ythfdnloeicbgkaa

/- The numbers of a code, told by a form: what comes ahead, and how many of the same length. -/
namespace Go.Proofs.Ythfdnloeicbgkaa
namespace Mk

/-- how many of the first k have the length n -/
def cnt (zs : List Int) (n : Int) : Nat → Nat
  | 0 => 0
  | k + 1 => cnt zs n k + if zs.getD k 0 = n then 1 else 0
theorem cnt_mono (zs : List Int) (n : Int) : ∀ (k d : Nat), cnt zs n k ≤ cnt zs n (k + d)
  | k, 0 => Nat.le_refl _
  | k, d + 1 => by
    have := cnt_mono zs n k d
    show _ ≤ cnt zs n (k + d) + _
    omega
theorem cnt_lt {zs : List Int} {n : Int} {i k : Nat} (h : i < k) (hi : zs.getD i 0 = n) : cnt zs n i < cnt zs n k := by
  have h1 : cnt zs n (i + 1) = cnt zs n i + 1 := by show _ + _ = _; rw [if_pos hi]
  have h2 := cnt_mono zs n (i + 1) (k - (i + 1))
  rw [show i + 1 + (k - (i + 1)) = k by omega] at h2
  omega
theorem inner_fst (zs : List Int) (n : Int) (s : Nat × List Int) : ∀ k, (inner zs n k s).1 = s.1 + cnt zs n k
  | 0 => rfl
  | k + 1 => by
    by_cases h : zs.getD k 0 = n
    · rw [inner_hit zs n k s h]
      show (inner zs n k s).1 + 1 = s.1 + (cnt zs n k + _)
      rw [inner_fst zs n s k, if_pos h]; omega
    · rw [inner_miss zs n k s h, inner_fst zs n s k]
      show _ = s.1 + (cnt zs n k + _)
      rw [if_neg h]; omega
theorem inner_snd (zs : List Int) (n : Int) (s : Nat × List Int) (j : Nat) (hj : j < s.2.length) : ∀ k, (inner zs n k s).2.getD j 0 = if j < k ∧ zs.getD j 0 = n then ((s.1 + cnt zs n j : Nat) : Int) else s.2.getD j 0
  | 0 => by rw [if_neg (by omega)]; rfl
  | k + 1 => by
    have ih := inner_snd zs n s j hj k
    by_cases h : zs.getD k 0 = n
    · rw [inner_hit zs n k s h]
      show ((inner zs n k s).2.set k _).getD j 0 = _
      by_cases e : j = k
      · subst e
        rw [List.getD_eq_getElem?_getD, List.getElem?_set_self (by rw [inner_len]; exact hj), if_pos ⟨by omega, h⟩, inner_fst]
        rfl
      · rw [List.getD_eq_getElem?_getD, List.getElem?_set_ne (by omega), ← List.getD_eq_getElem?_getD, ih]
        by_cases g : j < k ∧ zs.getD j 0 = n
        · rw [if_pos g, if_pos ⟨by omega, g.2⟩]
        · rw [if_neg g, if_neg (fun q => g ⟨by omega, q.2⟩)]
    · rw [inner_miss zs n k s h, ih]
      by_cases g : j < k ∧ zs.getD j 0 = n
      · rw [if_pos g, if_pos ⟨by omega, g.2⟩]
      · rw [if_neg g, if_neg (fun q => g ⟨by
          by_cases e : j = k
          · exact absurd (e ▸ q.2) h
          · omega, q.2⟩)]

/-- what comes behind all of a length -/
def E (zs : List Int) (m : Nat) : Nat := (outer zs m).1
theorem E_succ (zs : List Int) (m : Nat) : E zs (m + 1) = 2 * E zs m + cnt zs ((m + 1 : Nat) : Int) zs.length := by
  show (inner zs _ zs.length _).1 = _
  rw [inner_fst]; rfl
theorem outer_get (zs : List Int) (j : Nat) (hj : j < zs.length) : ∀ m n : Nat, zs.getD j 0 = (n : Int) → (outer zs m).2.getD j 0 = if 1 ≤ n ∧ n ≤ m then ((2 * E zs (n - 1) + cnt zs (n : Int) j : Nat) : Int) else 0
  | 0, n, _ => by
    rw [if_neg (by omega)]
    show (List.replicate zs.length (0 : Int)).getD j 0 = 0
    rw [List.getD_eq_getElem?_getD, List.getElem?_replicate]
    split <;> rfl
  | m + 1, n, hn => by
    show (inner zs ((m + 1 : Nat) : Int) zs.length (2 * (outer zs m).1, (outer zs m).2)).2.getD j 0 = _
    rw [inner_snd zs _ _ j (by show j < (outer zs m).2.length; rw [outer_len]; exact hj)]
    show (if _ then ((2 * E zs m + cnt zs ((m + 1 : Nat) : Int) j : Nat) : Int) else (outer zs m).2.getD j 0) = _
    rw [outer_get zs j hj m n hn, hn]
    by_cases e : n = m + 1
    · subst e
      rw [if_pos ⟨hj, rfl⟩, if_pos (by omega), show m + 1 - 1 = m by omega]
    · rw [if_neg (fun q => e (by have := q.2; omega))]
      by_cases g : 1 ≤ n ∧ n ≤ m
      · rw [if_pos g, if_pos (by omega)]
      · rw [if_neg g, if_neg (by omega)]
theorem mk_get {zs : List Int} {j n : Nat} (hj : j < zs.length) (hn : zs.getD j 0 = (n : Int)) (h1 : 1 ≤ n) (h15 : n ≤ 15) : (mk zs).getD j 0 = ((2 * E zs (n - 1) + cnt zs (n : Int) j : Nat) : Int) := by
  unfold mk
  rw [outer_get zs j hj 15 n hn, if_pos ⟨h1, h15⟩]

/-- what lengths up to m take of a whole -/
def Ks (zs : List Int) (k : Nat) : Nat → Nat
  | 0 => 0
  | m + 1 => Ks zs k m + cnt zs ((m + 1 : Nat) : Int) k * 2 ^ (15 - (m + 1))
theorem Ks_zero (zs : List Int) : ∀ m, Ks zs 0 m = 0
  | 0 => rfl
  | m + 1 => by show Ks zs 0 m + cnt zs _ 0 * _ = 0; rw [Ks_zero zs m]; simp [cnt]
theorem Ks_succ (zs : List Int) (k : Nat) : ∀ m, Ks zs (k + 1) m = Ks zs k m + if 1 ≤ zs.getD k 0 ∧ zs.getD k 0 ≤ (m : Int) then 2 ^ (15 - (zs.getD k 0).toNat) else 0
  | 0 => by rw [if_neg (by omega)]; rfl
  | m + 1 => by
    show Ks zs (k + 1) m + (cnt zs ((m + 1 : Nat) : Int) k + _) * 2 ^ (15 - (m + 1)) = Ks zs k m + cnt zs ((m + 1 : Nat) : Int) k * 2 ^ (15 - (m + 1)) + _
    rw [Ks_succ zs k m, Nat.add_mul]
    by_cases e : zs.getD k 0 = ((m + 1 : Nat) : Int)
    · rw [if_pos e, if_neg (by omega), if_pos (by omega), e, Int.toNat_natCast]
      omega
    · rw [if_neg e]
      by_cases g : 1 ≤ zs.getD k 0 ∧ zs.getD k 0 ≤ (m : Int)
      · rw [if_pos g, if_pos (by omega)]; omega
      · rw [if_neg g, if_neg (by omega)]; omega
theorem Ks_taken (zs : List Int) : ∀ k, k ≤ zs.length → Ks zs k 15 ≤ Cd.taken (zs.take k)
  | 0, _ => by rw [Ks_zero]; exact Nat.zero_le _
  | k + 1, h => by
    have ih := Ks_taken zs k (by omega)
    have e : zs.getD k 0 = zs[k] := by rw [List.getD_eq_getElem?_getD, List.getElem?_eq_getElem (by omega)]; rfl
    rw [Ks_succ, Cd.taken_snoc zs k (by omega), e]
    unfold Cd.part
    by_cases g : 1 ≤ zs[k] ∧ zs[k] ≤ ((15 : Nat) : Int)
    · rw [if_pos g, if_pos (by omega)]; omega
    · rw [if_neg g]; omega
theorem E_Ks (zs : List Int) : ∀ m, m ≤ 15 → E zs m * 2 ^ (15 - m) = Ks zs zs.length m
  | 0, _ => by show (outer zs 0).1 * _ = 0; simp [outer]
  | m + 1, h => by
    have ih := E_Ks zs m (by omega)
    rw [E_succ, Nat.add_mul]
    show _ = Ks zs zs.length m + _
    rw [← ih]
    congr 1
    rw [show 15 - m = 15 - (m + 1) + 1 by omega, Nat.pow_succ]
    generalize 2 ^ (15 - (m + 1)) = p
    rw [Nat.mul_assoc, Nat.mul_left_comm, Nat.mul_comm 2 p]
theorem Ks_mono (zs : List Int) (k : Nat) : ∀ m d, Ks zs k m ≤ Ks zs k (m + d)
  | _, 0 => Nat.le_refl _
  | m, d + 1 => Nat.le_trans (Ks_mono zs k m d) (Nat.le_add_right (Ks zs k (m + d)) _)
theorem E_le {zs : List Int} (h : Cd.taken zs ≤ 32768) {m : Nat} (hm : m ≤ 15) : E zs m ≤ 2 ^ m := by
  have h1 := E_Ks zs m hm
  have h2 := Ks_mono zs zs.length m (15 - m)
  rw [show m + (15 - m) = 15 by omega] at h2
  have h3 := Ks_taken zs zs.length (Nat.le_refl _)
  rw [List.take_of_length_le (Nat.le_refl _)] at h3
  have h4 : E zs m * 2 ^ (15 - m) ≤ 2 ^ m * 2 ^ (15 - m) := by
    rw [← Nat.pow_add, show m + (15 - m) = 15 by omega]
    show _ ≤ 32768
    omega
  exact Nat.le_of_mul_le_mul_right h4 (Nat.pow_pos (by omega))
theorem E_up (zs : List Int) (m : Nat) : ∀ d, E zs m * 2 ^ d ≤ E zs (m + d)
  | 0 => by simp
  | d + 1 => by
    have ih := E_up zs m d
    rw [show m + (d + 1) = m + d + 1 by omega, E_succ, Nat.pow_succ, ← Nat.mul_assoc]
    omega

/-- a symbol's length and number -/
structure Sym (zs : List Int) (i n v : Nat) : Prop where
  lt : i < zs.length
  len : zs.getD i 0 = (n : Int)
  pos : 1 ≤ n
  le : n ≤ 15
  num : (mk zs).getD i 0 = (v : Int)
theorem Sym.eq {zs : List Int} {i n v : Nat} (h : Sym zs i n v) : v = 2 * E zs (n - 1) + cnt zs (n : Int) i := by
  have := mk_get h.lt h.len h.pos h.le
  rw [h.num] at this
  omega
theorem Sym.below {zs : List Int} {i n v : Nat} (h : Sym zs i n v) : v < E zs n := by
  have h1 := cnt_lt h.lt h.len
  have h2 := E_succ zs (n - 1)
  rw [show n - 1 + 1 = n by have := h.pos; omega] at h2
  have h3 := h.eq
  omega
/-- a number has no more bits than its length -/
theorem Sym.bits {zs : List Int} {i n v : Nat} (h : Sym zs i n v) (ht : Cd.taken zs ≤ 32768) : v < 2 ^ n := Nat.lt_of_lt_of_le h.below (E_le ht h.le)
/-- of one length, each has another number -/
theorem Sym.one {zs : List Int} {i k n v : Nat} (h : Sym zs i n v) (g : Sym zs k n v) : i = k := by
  have h1 := h.eq
  have h2 := g.eq
  rcases Nat.lt_trichotomy i k with e | e | e
  · have := cnt_lt e h.len; omega
  · exact e
  · have := cnt_lt e g.len; omega
/-- no number begins another one -/
theorem Sym.apart {zs : List Int} {i k n m v u : Nat} (h : Sym zs i n v) (g : Sym zs k m u) (hne : k ≠ i) (hnm : n ≤ m) : u / 2 ^ (m - n) ≠ v := by
  by_cases e : m = n
  · subst e
    rw [Nat.sub_self, Nat.pow_zero, Nat.div_one]
    intro e2
    subst e2
    exact hne (g.one h)
  · have h1 := E_up zs n (m - 1 - n)
    have h2 := h.below
    have h3 := g.eq
    rw [show n + (m - 1 - n) = m - 1 by omega] at h1
    have h4 : E zs n * 2 ^ (m - n) ≤ u := by
      rw [show m - n = (m - 1 - n) + 1 by omega, Nat.pow_succ, ← Nat.mul_assoc]
      omega
    have h5 : E zs n ≤ u / 2 ^ (m - n) := (Nat.le_div_iff_mul_le (Nat.pow_pos (by omega))).2 h4
    omega
end Mk
end Go.Proofs.Ythfdnloeicbgkaa

/- The symbol to which bits lead (mathematics). -/
namespace Go.Proofs.Ythfdnloeicbgkaa
namespace Gt

/-- down a tree: s tells the symbol at a depth and a number, below 0 if there is none -/
def go (s : Nat → Nat → Int) (bit : Nat → Nat) : Nat → Nat → Nat → Nat → Option (Nat × Nat)
  | 0, _, _, _ => none
  | m + 1, d, v, p => if 0 ≤ s (d + 1) (2 * v + bit p) then some ((s (d + 1) (2 * v + bit p)).toNat, p + 1) else go s bit m (d + 1) (2 * v + bit p) (p + 1)
theorem go_hit {s : Nat → Nat → Int} {bit : Nat → Nat} {m d v p i : Nat} (h : s (d + 1) (2 * v + bit p) = (i : Int)) : go s bit (m + 1) d v p = some (i, p + 1) := by
  rw [go, h, if_pos (by omega), Int.toNat_natCast]
theorem go_miss {s : Nat → Nat → Int} {bit : Nat → Nat} {m d v p : Nat} (h : s (d + 1) (2 * v + bit p) = -1) : go s bit (m + 1) d v p = go s bit m (d + 1) (2 * v + bit p) (p + 1) := by
  rw [go, h, if_neg (by omega)]
theorem go_none {s : Nat → Nat → Int} {bit : Nat → Nat} (D : Nat → Nat → Prop) (hD : ∀ d v p, D d v → s (d + 1) (2 * v + bit p) = -1 ∧ D (d + 1) (2 * v + bit p)) : ∀ m d v p, D d v → go s bit m d v p = none
  | 0, _, _, _, _ => rfl
  | m + 1, d, v, p, h => by
    obtain ⟨h1, h2⟩ := hD d v p h
    rw [go_miss h1]; exact go_none D hD m _ _ _ h2

def upd (s : Nat → Nat → Int) (n u : Nat) (x : Int) : Nat → Nat → Int := fun d v => if d = n ∧ v = u then x else s d v
/-- the first k symbols of a code -/
def S (zs : List Int) : Nat → Nat → Nat → Int
  | 0 => fun _ _ => -1
  | k + 1 => if 0 < zs.getD k 0 then upd (S zs k) (zs.getD k 0).toNat ((Mk.mk zs).getD k 0).toNat (k : Int) else S zs k
theorem S_miss {zs : List Int} : ∀ {k d v : Nat}, k ≤ zs.length → (∀ i, i < zs.length → zs.getD i 0 ≤ 15) → (∀ i, i < zs.length → 0 ≤ (Mk.mk zs).getD i 0) → (∀ i, i < k → ¬ Mk.Sym zs i d v) → S zs k d v = -1
  | 0, _, _, _, _, _, _ => rfl
  | k + 1, d, v, hk, h15, h0, h => by
    have ih := S_miss (d := d) (v := v) (k := k) (by omega) h15 h0 (fun i hi => h i (by omega))
    unfold S
    by_cases hz : 0 < zs.getD k 0
    · rw [if_pos hz]
      unfold upd
      rw [if_neg, ih]
      rintro ⟨e1, e2⟩
      have := h15 k (by omega)
      have := h0 k (by omega)
      exact h k (by omega) ⟨by omega, by omega, by omega, by omega, by omega⟩
    · rw [if_neg hz]; exact ih
theorem S_hit {zs : List Int} : ∀ {k d v i : Nat}, k ≤ zs.length → (∀ i, i < zs.length → zs.getD i 0 ≤ 15) → (∀ i, i < zs.length → 0 ≤ (Mk.mk zs).getD i 0) → i < k → Mk.Sym zs i d v → S zs k d v = (i : Int)
  | 0, _, _, _, _, _, _, hi, _ => by omega
  | k + 1, d, v, i, hk, h15, h0, hi, h => by
    unfold S
    by_cases e : i = k
    · subst e
      have h1 := h.len
      have h2 := h.num
      have h3 := h.pos
      rw [if_pos (by omega)]
      unfold upd
      rw [if_pos ⟨by omega, by omega⟩]
    · have ih := S_hit (k := k) (by omega) h15 h0 (by omega) h
      by_cases hz : 0 < zs.getD k 0
      · rw [if_pos hz]
        unfold upd
        rw [if_neg, ih]
        rintro ⟨e1, e2⟩
        have := h15 k (by omega)
        have := h0 k (by omega)
        exact e (h.one ⟨by omega, by omega, by omega, by omega, by omega⟩)
      · rw [if_neg hz]; exact ih

/-- what is read -/
def get (zs : List Int) (bit : Nat → Nat) (M p : Nat) : Option (Nat × Nat) := go (S zs zs.length) bit (M - p) 0 0 p
/-- below the longest there is nothing -/
theorem go_deep {zs : List Int} (h15 : ∀ i, i < zs.length → zs.getD i 0 ≤ 15) (h0 : ∀ i, i < zs.length → 0 ≤ (Mk.mk zs).getD i 0) (bit : Nat → Nat) (m d v p : Nat) (hd : 15 ≤ d) : go (S zs zs.length) bit m d v p = none :=
  go_none (fun d _ => 15 ≤ d) (fun d v p h => ⟨S_miss (Nat.le_refl _) h15 h0 (fun i _ g => by have := g.le; omega), by omega⟩) m d v p hd
theorem go_lt {s : Nat → Nat → Int} {bit : Nat → Nat} : ∀ {m d v p i q : Nat}, go s bit m d v p = some (i, q) → p < q ∧ q ≤ p + m
  | 0, _, _, _, _, _, h => by cases h
  | m + 1, d, v, p, i, q, h => by
    unfold go at h
    split at h
    · cases h; omega
    · have := go_lt h; omega
end Gt
end Go.Proofs.Ythfdnloeicbgkaa

/- Small facts that the walks share: endings, bytes of a text, bits of a 64-bit number. -/
namespace Go.Proofs.Ythfdnloeicbgkaa
open Go.RowKit

theorem ret_int {k : IntKind} {a b : Int} (h : a = b) : Ending.returned (.int k a) = .returned (.int k b) := by rw [h]

theorem take_snoc (s : ByteArray) (k : Nat) (h : k < s.size) : s.data.toList.take (k + 1) = s.data.toList.take k ++ [s[k]] := by
  rw [List.take_succ_eq_append_getElem (by simpa using h)]; rfl

theorem ofInt_i64 (a : Nat) (ha : a < 9223372036854775808) : (BitVec.ofInt 64 (a : Int)).toNat = a := by
  rw [BitVec.ofInt_natCast, BitVec.toNat_ofNat]; exact Nat.mod_eq_of_lt (by omega)

theorem wrap_i64_nat (a : Nat) (ha : a < 9223372036854775808) : IntKind.i64.wrap (a : Int) = (a : Int) := by
  simp [IntKind.wrap, IntKind.bits, IntKind.signed]; omega

theorem i64_or_nat (a b : Nat) (ha : a < 9223372036854775808) (hb : b < 9223372036854775808) : bits .or .i64 (a : Int) (b : Int) = ((a ||| b : Nat) : Int) := by
  have hx : a ||| b < 2 ^ 63 := Nat.or_lt_two_pow (by omega) (by omega)
  show IntKind.i64.wrap ((BitVec.ofInt 64 (a : Int) ||| BitVec.ofInt 64 (b : Int)).toNat : Int) = _
  rw [BitVec.toNat_or, ofInt_i64 a ha, ofInt_i64 b hb, wrap_i64_nat _ (by omega)]

theorem i64_and_nat (a b : Nat) (ha : a < 9223372036854775808) (hb : b < 9223372036854775808) : bits .and .i64 (a : Int) (b : Int) = ((a &&& b : Nat) : Int) := by
  have hx : a &&& b < 2 ^ 63 := Nat.and_lt_two_pow _ (by omega)
  show IntKind.i64.wrap ((BitVec.ofInt 64 (a : Int) &&& BitVec.ofInt 64 (b : Int)).toNat : Int) = _
  rw [BitVec.toNat_and, ofInt_i64 a ha, ofInt_i64 b hb, wrap_i64_nat _ (by omega)]

theorem i64_xor_nat (a b : Nat) (ha : a < 9223372036854775808) (hb : b < 9223372036854775808) : bits .xor .i64 (a : Int) (b : Int) = ((a ^^^ b : Nat) : Int) := by
  have hx : a ^^^ b < 2 ^ 63 := Nat.xor_lt_two_pow (by omega) (by omega)
  show IntKind.i64.wrap ((BitVec.ofInt 64 (a : Int) ^^^ BitVec.ofInt 64 (b : Int)).toNat : Int) = _
  rw [BitVec.toNat_xor, ofInt_i64 a ha, ofInt_i64 b hb, wrap_i64_nat _ (by omega)]

/-- a byte of a text, as a number; 0 past its end -/
def byteAt (s : ByteArray) (i : Nat) : Nat := (s.data.toList.getD i 0).toNat
theorem byteAt_lt (s : ByteArray) (i : Nat) : byteAt s i < 256 := UInt8.toNat_lt _
theorem byteAt_eq (s : ByteArray) (i : Nat) (h : i < s.size) : (s[i]).toNat = byteAt s i := by
  unfold byteAt
  rw [List.getD_eq_getElem?_getD, List.getElem?_eq_getElem (by simpa using h)]
  rfl

theorem ret_pair {a b : Int} {x y : Bool} (h : a = b) (g : x = y) : Ending.returned (.tuple #[.int .i64 a, .bool x]) = .returned (.tuple #[.int .i64 b, .bool y]) := by rw [h, g]

end Go.Proofs.Ythfdnloeicbgkaa

/- The tree of a code in memory. -/
namespace Go.Proofs.Ythfdnloeicbgkaa
open Go.RowKit

def ptr : Option Nat → Value
  | none => .pointer none
  | some b => .pointer (some ⟨b, 0, none⟩)
def nodeV (s : Int) (l r : Option Nat) : Obj := .cells #[.int .i64 s, ptr l, ptr r, .int .i64 0, .int .i64 0] 161 (0, 0)

/-- a tree: the node at a depth and a number lies in a block; its symbol -/
structure Tri (w : World) (lo : Nat) (N : Nat → Nat → Option Nat) (S : Nat → Nat → Int) : Prop where
  node : ∀ d v b, N d v = some b → lo ≤ b ∧ w.heap[b]? = some (nodeV (S d v) (N (d + 1) (2 * v)) (N (d + 1) (2 * v + 1)))
  inj : ∀ d v d' v' b, N d v = some b → N d' v' = some b → d = d' ∧ v = v'
  closed : ∀ d v b, N (d + 1) v = some b → ∃ b', N d (v / 2) = some b'
  dead : ∀ d v, N d v = none → S d v = -1

theorem Tri.lt {w : World} {lo : Nat} {N : Nat → Nat → Option Nat} {S : Nat → Nat → Int} (h : Tri w lo N S) {d v b : Nat} (hb : N d v = some b) : b < w.heap.size := (Array.getElem?_eq_some_iff.1 (h.node d v b hb).2).1
theorem Tri.same {w w' : World} {lo : Nat} {N : Nat → Nat → Option Nat} {S : Nat → Nat → Int} (h : Tri w lo N S) (hk : ∀ k, k < w.heap.size → lo ≤ k → w'.heap[k]? = w.heap[k]?) : Tri w' lo N S :=
  ⟨fun d v b hb => ⟨(h.node d v b hb).1, (hk b (h.lt hb) (h.node d v b hb).1).trans (h.node d v b hb).2⟩, h.inj, h.closed, h.dead⟩
theorem Tri.cells {w : World} {lo : Nat} {N : Nat → Nat → Option Nat} {S : Nat → Nat → Int} (h : Tri w lo N S) {d v b : Nat} (hb : N d v = some b) :
    w.cell? ⟨b, 0, none⟩ = some (.int .i64 (S d v)) ∧ w.cell? ⟨b, 1, none⟩ = some (ptr (N (d + 1) (2 * v))) ∧ w.cell? ⟨b, 2, none⟩ = some (ptr (N (d + 1) (2 * v + 1))) ∧ w.frozen? ⟨b, 0, none⟩ = false ∧ w.frozen? ⟨b, 1, none⟩ = false ∧ w.frozen? ⟨b, 2, none⟩ = false := by
  have := (h.node d v b hb).2
  unfold nodeV at this
  simp [World.cell?, World.frozen?, this]
/-- the tree of a top alone -/
theorem tri_new (w : World) : Tri (w.alloc (nodeV (-1) none none)) w.heap.size (fun d v => if d = 0 ∧ v = 0 then some w.heap.size else none) (fun _ _ => -1) := by
  refine ⟨fun d v b hb => ?_, fun d v d' v' b h1 h2 => ?_, fun d v b h => ?_, fun _ _ _ => rfl⟩
  · split at hb
    · rename_i hc
      obtain ⟨rfl, rfl⟩ := hc
      cases hb
      exact ⟨Nat.le_refl _, by rw [heap_alloc_new]; simp⟩
    · cases hb
  · split at h1
    · split at h2
      · omega
      · cases h2
    · cases h1
  · split at h
    · omega
    · cases h
/-- a symbol is set down -/
theorem Tri.setSym {w : World} {lo : Nat} {N : Nat → Nat → Option Nat} {S : Nat → Nat → Int} (h : Tri w lo N S) {n u b : Nat} (hb : N n u = some b) (x : Int) : Tri (w.setCell ⟨b, 0, none⟩ (.int .i64 x)) lo N (Gt.upd S n u x) := by
  have hn := (h.node n u b hb).2
  refine ⟨fun d v b' hb' => ⟨(h.node d v b' hb').1, ?_⟩, h.inj, h.closed, fun d v hd => ?_⟩
  · by_cases e : b' = b
    · subst e
      obtain ⟨rfl, rfl⟩ := h.inj d v n u b' hb' hb
      unfold nodeV at hn ⊢
      rw [setCell_eq_setRow w b' 0 _ _ (0, 0) _ hn, setRow_heap w b' _ _ _ _ hn]
      unfold Gt.upd
      rw [if_pos ⟨rfl, rfl⟩]
      simp
    · rw [Below.heap_setCell w ⟨b, 0, none⟩ _ b' e, (h.node d v b' hb').2]
      unfold Gt.upd
      rw [if_neg]
      rintro ⟨rfl, rfl⟩
      rw [hb] at hb'
      cases hb'
      exact e rfl
  · unfold Gt.upd
    rw [if_neg, h.dead d v hd]
    rintro ⟨rfl, rfl⟩
    rw [hb] at hd
    cases hd
/-- a new node below another -/
def addN (N : Nat → Nat → Option Nat) (d v b : Nat) : Nat → Nat → Option Nat := fun d' v' => if d' = d ∧ v' = v then some b else N d' v'
theorem Tri.grow {w : World} {lo : Nat} {N : Nat → Nat → Option Nat} {S : Nat → Nat → Int} (h : Tri w lo N S) {d v b t : Nat} (hb : N d v = some b) (ht : t < 2) (hno : N (d + 1) (2 * v + t) = none) (hlo : lo ≤ w.heap.size) :
    Tri ((w.alloc (nodeV (-1) none none)).setCell ⟨b, 1 + t, none⟩ (.pointer (some ⟨w.heap.size, 0, none⟩))) lo (addN N (d + 1) (2 * v + t) w.heap.size) S := by
  have hn := (h.node d v b hb).2
  have hblt := h.lt hb
  have hkids : ∀ x, N (d + 1 + 1) x = none ∨ x / 2 ≠ 2 * v + t := fun x => by
    rcases hx : N (d + 1 + 1) x with _ | y
    · exact .inl rfl
    · right
      intro e
      obtain ⟨b', hb'⟩ := h.closed (d + 1) x y hx
      rw [e, hno] at hb'
      cases hb'
  have hadd : ∀ d' v', (d' = d + 1 ∧ v' = 2 * v + t) ∨ addN N (d + 1) (2 * v + t) w.heap.size d' v' = N d' v' := fun d' v' => by
    by_cases e : d' = d + 1 ∧ v' = 2 * v + t
    · exact .inl e
    · right; unfold addN; rw [if_neg e]
  have hself : addN N (d + 1) (2 * v + t) w.heap.size (d + 1) (2 * v + t) = some w.heap.size := by unfold addN; rw [if_pos ⟨rfl, rfl⟩]
  refine ⟨fun d' v' b' hb' => ?_, fun d1 v1 d2 v2 b' h1 h2 => ?_, fun d' v' b' hb' => ?_, fun d' v' hd => ?_⟩
  · rcases hadd d' v' with ⟨rfl, rfl⟩ | e
    · rw [hself] at hb'
      cases hb'
      refine ⟨hlo, ?_⟩
      rw [Below.heap_setCell _ ⟨b, 1 + t, none⟩ _ _ (by show w.heap.size ≠ b; omega), heap_alloc_new]
      have e1 : ∀ c, c < 2 → addN N (d + 1) (2 * v + t) w.heap.size (d + 1 + 1) (2 * (2 * v + t) + c) = none := fun c hc => by
        unfold addN
        rw [if_neg (by omega)]
        rcases hkids (2 * (2 * v + t) + c) with hk | hk
        · exact hk
        · omega
      have e2 : addN N (d + 1) (2 * v + t) w.heap.size (d + 1 + 1) (2 * (2 * v + t)) = none := e1 0 (by omega)
      rw [e2, e1 1 (by omega), h.dead _ _ hno]
    · rw [e] at hb'
      have hlt := h.lt hb'
      refine ⟨(h.node d' v' b' hb').1, ?_⟩
      by_cases eb : b' = b
      · subst eb
        obtain ⟨rfl, rfl⟩ := h.inj d' v' d v b' hb' hb
        have hn2 : (w.alloc (nodeV (-1) none none)).heap[b']? = some (nodeV (S d' v') (N (d' + 1) (2 * v')) (N (d' + 1) (2 * v' + 1))) := (Below.heap_alloc _ _ _ hlt).trans hn
        unfold nodeV at hn2 ⊢
        rw [setCell_eq_setRow _ b' (1 + t) _ _ (0, 0) _ hn2, setRow_heap _ b' _ _ _ _ hn2]
        have : t = 0 ∨ t = 1 := by omega
        rcases this with rfl | rfl
        · have e1 : addN N (d' + 1) (2 * v' + 0) w.heap.size (d' + 1) (2 * v' + 1) = N (d' + 1) (2 * v' + 1) := by unfold addN; rw [if_neg (by omega)]
          have e0 : addN N (d' + 1) (2 * v' + 0) w.heap.size (d' + 1) (2 * v') = some w.heap.size := hself
          rw [e0, e1]
          simp [ptr]
        · have e0 : addN N (d' + 1) (2 * v' + 1) w.heap.size (d' + 1) (2 * v') = N (d' + 1) (2 * v') := by unfold addN; rw [if_neg (by omega)]
          rw [hself, e0]
          simp [ptr]
      · rw [Below.heap_setCell _ ⟨b, 1 + t, none⟩ _ _ eb, Below.heap_alloc _ _ _ hlt, (h.node d' v' b' hb').2]
        have e1 : ∀ c, c < 2 → addN N (d + 1) (2 * v + t) w.heap.size (d' + 1) (2 * v' + c) = N (d' + 1) (2 * v' + c) := fun c hc => by
          unfold addN
          rw [if_neg]
          rintro ⟨q1, q2⟩
          have q3 : d' = d := by omega
          have q4 : v' = v := by omega
          subst q3; subst q4
          rw [hb] at hb'
          cases hb'
          exact eb rfl
        have e0 : addN N (d + 1) (2 * v + t) w.heap.size (d' + 1) (2 * v') = N (d' + 1) (2 * v') := e1 0 (by omega)
        rw [e0, e1 1 (by omega)]
  · rcases hadd d1 v1 with ⟨rfl, rfl⟩ | e1
    · rw [hself] at h1
      cases h1
      rcases hadd d2 v2 with ⟨rfl, rfl⟩ | e2
      · exact ⟨rfl, rfl⟩
      · rw [e2] at h2
        have := h.lt h2
        omega
    · rw [e1] at h1
      rcases hadd d2 v2 with ⟨rfl, rfl⟩ | e2
      · rw [hself] at h2
        cases h2
        have := h.lt h1
        omega
      · rw [e2] at h2
        exact h.inj d1 v1 d2 v2 b' h1 h2
  · rcases hadd (d' + 1) v' with ⟨q1, q2⟩ | e
    · have q3 : d' = d := by omega
      subst q3
      refine ⟨b, ?_⟩
      rw [q2, show (2 * v + t) / 2 = v by omega]
      unfold addN
      rw [if_neg (by omega)]
      exact hb
    · rw [e] at hb'
      obtain ⟨b2, hb2⟩ := h.closed d' v' b' hb'
      rcases hadd d' (v' / 2) with ⟨q1, q2⟩ | e2
      · exact ⟨_, by rw [q1, q2]; exact hself⟩
      · exact ⟨b2, by rw [e2]; exact hb2⟩
  · rcases hadd d' v' with ⟨rfl, rfl⟩ | e
    · rw [hself] at hd; cases hd
    · rw [e] at hd; exact h.dead d' v' hd
end Go.Proofs.Ythfdnloeicbgkaa

/- Whether a number is within limits. -/
namespace Go.Proofs.Ythfdnloeicbgkaa
open Go.RowKit

set_option maxHeartbeats 400000 in
theorem l1In_yes (n lo hi : Int) (w : World) (h1 : lo ≤ n) (h2 : n ≤ hi) :
    Calls Try.prog 17 #[.int .i64 n, .int .i64 lo, .int .i64 hi] w fun e w' => e = .returned (.bool true) ∧ w' = w := by
  have hd : decide (n ≤ hi) = true := by simp; omega
  go_enter Try.func17, Try.ntmps17
  go_wp2
  go_ret
  exact ⟨rfl, rfl⟩

set_option maxHeartbeats 400000 in
theorem l1In_no (n lo hi : Int) (w : World) (h : ¬ (lo ≤ n ∧ n ≤ hi)) :
    Calls Try.prog 17 #[.int .i64 n, .int .i64 lo, .int .i64 hi] w fun e w' => e = .returned (.bool false) ∧ w' = w := by
  by_cases h1 : lo ≤ n
  · have hd : decide (n ≤ hi) = false := by simp; omega
    clear h
    go_enter Try.func17, Try.ntmps17
    go_wp2
    go_ret
    exact ⟨rfl, rfl⟩
  · have hd : decide (lo ≤ n) = false := by simp; omega
    clear h
    go_enter Try.func17, Try.ntmps17
    go_wp2
    go_ret
    exact ⟨rfl, rfl⟩

end Go.Proofs.Ythfdnloeicbgkaa

/- Two to the power of a number. -/
namespace Go.Proofs.Ythfdnloeicbgkaa
open Go.RowKit

set_option maxHeartbeats 400000 in
theorem l1Pow_any (n : Nat) (w : World) (hn : n ≤ 60) :
    Calls Try.prog 69 #[.int .i64 n] w fun e w' => e = .returned (.int .i64 ((2 ^ n : Nat) : Int)) ∧ w' = w := by
  go_enter Try.func69, Try.ntmps69
  go_wp2_with fail
  go_loop [3, 4] (fun x i => ∃ k y : Nat, k ≤ n ∧ i = .int .i64 k ∧ y = 2 ^ k ∧ x = .int .i64 y) (fun _ i => n - (intOf i).toNat)
  case atStart => exact ⟨0, 1, Nat.zero_le _, rfl, rfl, rfl⟩
  case round =>
    obtain ⟨k, y, hk, rfl, hy, rfl⟩ := hrel
    have hp : 2 ^ k ≤ 2 ^ 60 := Nat.pow_le_pow_right (by omega) (by omega)
    have hyb : y ≤ 1152921504606846976 := by omega
    have HY : Hid (y = 2 ^ k) := hy
    clear hy hp
    by_cases hlt : k < n
    · go_wp2_with fail
      go_round
      case rel => exact ⟨k + 1, y * 2, by omega, by go_num, by rw [HY.out, Nat.pow_succ], by go_num⟩
      case measure => simp [intOf]; omega
    · have hk' : k = n := by omega
      subst hk'
      go_wp2_with fail
      go_ret
      exact ⟨ret_int (by rw [HY.out]; simp), rfl⟩

end Go.Proofs.Ythfdnloeicbgkaa

/- Plain mathematics of bits of a text as a number: the lowest first, or the highest first. -/
namespace Go.Proofs.Ythfdnloeicbgkaa
namespace Bg

/-- the highest first, of the first k -/
def big (b : Nat → Nat) : Nat → Nat
  | 0 => 0
  | k + 1 => 2 * big b k + b k

/-- the lowest first, of the first k -/
def low (b : Nat → Nat) : Nat → Nat
  | 0 => 0
  | k + 1 => low b k + b k * 2 ^ k

theorem big_lt (b : Nat → Nat) (hb : ∀ i, b i < 2) : ∀ k, big b k < 2 ^ k := by
  intro k
  induction k with
  | zero => simp [big]
  | succ k ih => have := hb k; simp only [big, Nat.pow_succ]; omega

theorem low_lt (b : Nat → Nat) (hb : ∀ i, b i < 2) : ∀ k, low b k < 2 ^ k := by
  intro k
  induction k with
  | zero => simp [low]
  | succ k ih =>
    have h := hb k
    have h2 : b k * 2 ^ k ≤ 1 * 2 ^ k := Nat.mul_le_mul_right _ (by omega)
    simp only [low, Nat.pow_succ]; omega

def num (b : Nat → Nat) (size : Nat) (hi : Bool) : Nat := if hi then big b size else low b size

/-- where in its byte a bit stands -/
def spot (hi : Bool) (i : Nat) : Nat := if hi then 7 - i % 8 else i % 8
theorem spot_le (hi : Bool) (i : Nat) : spot hi i ≤ 7 := by unfold spot; split <;> omega
end Bg
end Go.Proofs.Ythfdnloeicbgkaa

/- Bits of a text as the specification reads them. -/
namespace Go.Proofs.Ythfdnloeicbgkaa
open Go.RowKit

/-- a bit of a text -/
def bitAt (s : ByteArray) (hi : Bool) (i : Nat) : Nat := byteAt s (i / 8) / 2 ^ Bg.spot hi i % 2
theorem bitAt_lt (s : ByteArray) (hi : Bool) (i : Nat) : bitAt s hi i < 2 := Nat.mod_lt _ (by omega)

set_option maxHeartbeats 400000 in
theorem l1Bit_low (s : ByteArray) (i : Nat) (w : World) (h : i / 8 < s.size) (hs : s.size ≤ 9000) :
    Calls Try.prog 138 #[.string s, .int .i64 i, .bool false] w fun e w' => e = .returned (.int .i64 (bitAt s false i : Nat)) ∧ ∃ m, w' = w.drewN m := by
  obtain ⟨j, hj⟩ : ∃ j, j = i / 8 := ⟨_, rfl⟩
  obtain ⟨p, hp⟩ : ∃ p, p = i % 8 := ⟨_, rfl⟩
  have hjs : j < s.size := by omega
  have hbe := byteAt_eq s j hjs
  have hbl := byteAt_lt s j
  obtain ⟨Q, hQ⟩ : ∃ Q, Q = 2 ^ p := ⟨_, rfl⟩
  have hQ1 : 0 < Q := by rw [hQ]; exact Nat.pow_pos (by omega)
  have hQ2 : Q ≤ 128 := by rw [hQ]; exact Nat.le_trans (Nat.pow_le_pow_right (by omega) (show p ≤ 7 by omega)) (by decide)
  have HP : Hid (∀ w : World, Calls Try.prog 69 #[.int .i64 (p : Int)] w fun e w' => e = .returned (.int .i64 (Q : Int)) ∧ w' = w) := by
    intro w
    have := l1Pow_any p w (by omega)
    rw [← hQ] at this
    exact this
  have HB : Hid (bitAt s false i = byteAt s j / Q % 2) := by show _ = _; unfold bitAt Bg.spot; rw [hQ, hp, hj]; rfl
  have hi8 : i ≤ 80000 := by omega
  have e1 : (i : Int) / 8 = (j : Int) := by omega
  have e2 : (i : Int) % 8 = (p : Int) := by omega
  have e3 : (i : Int).tdiv 8 = (j : Int) := by rw [Int.tdiv_eq_ediv_of_nonneg (by omega)]; exact e1
  have hji : (j : Int) < (s.size : Int) := by omega
  obtain ⟨D, hD⟩ : ∃ D, D = byteAt s j / Q := ⟨_, rfl⟩
  have hDl : D < 256 := by rw [hD]; exact Nat.lt_of_le_of_lt (Nat.div_le_self _ _) hbl
  have e4 : ((byteAt s j : Nat) : Int).tdiv (Q : Int) = (D : Int) := by rw [Int.tdiv_eq_ediv_of_nonneg (by omega), hD]; rfl
  have e5 := wrap_i64_nat j (by omega)
  have e6 := wrap_i64_nat (byteAt s j) (by omega)
  have e7 := wrap_i64_nat D (by omega)
  have e8 : (D : Int).tmod 2 = ((D % 2 : Nat) : Int) := by rw [Int.tmod_eq_emod_of_nonneg (by omega)]; rfl
  have hne : ((Q : Int) == 0) = false := by rw [beq_eq_false_iff_ne]; omega
  have hne' : ¬ Q = 0 := by omega
  rw [← hD] at HB
  clear hQ hp hj h hD
  go_enter Try.func138, Try.ntmps138
  go_wp2_with fail
  rw [e2]
  go_quiet ((go_at_call 69; exact Calls.quiet_of_same (HP.out _)))
  go_wp2_with fail
  go_ret
  exact ⟨ret_int (by rw [HB.out]; omega), nq, rfl⟩
set_option maxHeartbeats 400000 in
theorem l1Bit_high (s : ByteArray) (i : Nat) (w : World) (h : i / 8 < s.size) (hs : s.size ≤ 9000) :
    Calls Try.prog 138 #[.string s, .int .i64 i, .bool true] w fun e w' => e = .returned (.int .i64 (bitAt s true i : Nat)) ∧ ∃ m, w' = w.drewN m := by
  obtain ⟨j, hj⟩ : ∃ j, j = i / 8 := ⟨_, rfl⟩
  obtain ⟨p, hp⟩ : ∃ p, p = 7 - i % 8 := ⟨_, rfl⟩
  have hjs : j < s.size := by omega
  have hbe := byteAt_eq s j hjs
  have hbl := byteAt_lt s j
  obtain ⟨Q, hQ⟩ : ∃ Q, Q = 2 ^ p := ⟨_, rfl⟩
  have hQ1 : 0 < Q := by rw [hQ]; exact Nat.pow_pos (by omega)
  have hQ2 : Q ≤ 128 := by rw [hQ]; exact Nat.le_trans (Nat.pow_le_pow_right (by omega) (show p ≤ 7 by omega)) (by decide)
  have HP : Hid (∀ w : World, Calls Try.prog 69 #[.int .i64 (p : Int)] w fun e w' => e = .returned (.int .i64 (Q : Int)) ∧ w' = w) := by
    intro w
    have := l1Pow_any p w (by omega)
    rw [← hQ] at this
    exact this
  have HB : Hid (bitAt s true i = byteAt s j / Q % 2) := by show _ = _; unfold bitAt Bg.spot; rw [hQ, hp, hj]; rfl
  have hi8 : i ≤ 80000 := by omega
  have e1 : (i : Int) / 8 = (j : Int) := by omega
  have e2 : (7 : Int) - (i : Int) % 8 = (p : Int) := by omega
  have e3 : (i : Int).tdiv 8 = (j : Int) := by rw [Int.tdiv_eq_ediv_of_nonneg (by omega)]; exact e1
  have hji : (j : Int) < (s.size : Int) := by omega
  obtain ⟨D, hD⟩ : ∃ D, D = byteAt s j / Q := ⟨_, rfl⟩
  have hDl : D < 256 := by rw [hD]; exact Nat.lt_of_le_of_lt (Nat.div_le_self _ _) hbl
  have e4 : ((byteAt s j : Nat) : Int).tdiv (Q : Int) = (D : Int) := by rw [Int.tdiv_eq_ediv_of_nonneg (by omega), hD]; rfl
  have e5 := wrap_i64_nat j (by omega)
  have e6 := wrap_i64_nat (byteAt s j) (by omega)
  have e7 := wrap_i64_nat D (by omega)
  have e8 : (D : Int).tmod 2 = ((D % 2 : Nat) : Int) := by rw [Int.tmod_eq_emod_of_nonneg (by omega)]; rfl
  have hne : ((Q : Int) == 0) = false := by rw [beq_eq_false_iff_ne]; omega
  have hne' : ¬ Q = 0 := by omega
  rw [← hD] at HB
  clear hQ hp hj h hD
  go_enter Try.func138, Try.ntmps138
  go_wp2_with fail
  go_quiet ((go_at_call 69; exact Calls.quiet_of_same (HP.out _)))
  go_wp2_with fail
  go_ret
  exact ⟨ret_int (by rw [HB.out]; omega), nq, rfl⟩

theorem l1Bit_any (s : ByteArray) (i : Nat) (hi : Bool) (w : World) (h : i / 8 < s.size) (hs : s.size ≤ 9000) :
    Calls Try.prog 138 #[.string s, .int .i64 i, .bool hi] w fun e w' => e = .returned (.int .i64 (bitAt s hi i : Nat)) ∧ ∃ m, w' = w.drewN m := by
  cases hi
  · exact l1Bit_low s i w h hs
  · exact l1Bit_high s i w h hs

set_option maxHeartbeats 400000 in
theorem l1Get_low (s : ByteArray) (A S : Nat) (w : World) (h : A + S ≤ 8 * s.size) (hs : s.size ≤ 9000) (h24 : S ≤ 24) :
    Calls Try.prog 106 #[.string s, .int .i64 A, .int .i64 S, .bool false] w fun e w' => e = .returned (.int .i64 (Bg.low (fun i => bitAt s false (A + i)) S : Nat)) ∧ ∃ m, w' = w.drewN m := by
  go_enter Try.func106, Try.ntmps106
  go_wp2_with fail
  go_loopw [9, 10] (fun n i wr => ∃ k m x : Nat, k ≤ S ∧ i = .int .i64 k ∧ x = Bg.low (fun i => bitAt s false (A + i)) k ∧ n = .int .i64 x ∧ wr = w.drewN m) (fun _ i _ => S - (intOf i).toNat)
  case atStart => exact ⟨0, 0, 0, Nat.zero_le _, rfl, rfl, rfl, rfl⟩
  case round =>
    obtain ⟨k, m, x, hk, rfl, hx, rfl, rfl⟩ := hrel
    have hb := Bg.low_lt (fun i => bitAt s false (A + i)) (fun i => bitAt_lt _ _ _) k
    rw [← hx] at hb
    have hp : 2 ^ k ≤ 2 ^ 24 := Nat.pow_le_pow_right (by omega) (by omega)
    by_cases hlt : k < S
    · have hbl := bitAt_lt s false (A + k)
      obtain ⟨j, hj⟩ : ∃ j, j = A + k := ⟨_, rfl⟩
      obtain ⟨Q, hQ⟩ : ∃ Q, Q = 2 ^ k := ⟨_, rfl⟩
      have HN : Hid (x + bitAt s false j * Q = Bg.low (fun i => bitAt s false (A + i)) (k + 1)) := by rw [hj, hQ, hx]; rfl
      have hL := fun w => l1Bit_any s j false w (by omega) hs
      have HL : Hid (∀ (y : Int) (w : World), y = (j : Int) → Calls Try.prog 138 #[.string s, .int .i64 y, .bool false] w fun e w' => e = .returned (.int .i64 (bitAt s false j : Nat)) ∧ ∃ m, w' = w.drewN m) := by
        intro y w hy; rw [hy]; exact hL w
      have HP : Hid (∀ w : World, Calls Try.prog 69 #[.int .i64 (k : Int)] w fun e w' => e = .returned (.int .i64 (Q : Int)) ∧ w' = w) := by
        intro w; rw [hQ]; exact l1Pow_any k w (by omega)
      rw [← hj] at hbl
      rw [← hQ] at hp hb
      have hJ : Hid ((A : Int) + (k : Int) = (j : Int)) := by show _ = _; omega
      have hA : A ≤ 80000 := by omega
      clear hL hj hQ hx
      generalize bitAt s false j = b at *
      go_wp2_with fail
      refine (HL.out _ _ hJ.out).mono ?_
      rintro e w2 ⟨rfl, m2, rfl⟩
      go_wp2_with fail
      refine (HP.out _).mono ?_
      rintro e w3 ⟨rfl, hw3⟩
      subst hw3
      have hbq : (b : Int) * (Q : Int) = ((b * Q : Nat) : Int) := by simp
      obtain ⟨R, hR⟩ : ∃ R, R = b * Q := ⟨_, rfl⟩
      have hRb : R ≤ 16777216 := by
        rw [hR]; exact Nat.le_trans (Nat.mul_le_mul (show b ≤ 1 by omega) hp) (by decide)
      rw [← hR] at hbq HN
      have hwr : wrap64 ((b : Int) * (Q : Int)) = (R : Int) := by rw [hbq]; unfold wrap64; omega
      clear hR
      go_wp2_with fail
      go_roundw
      case rel => exact ⟨k + 1, m + m2, x + R, by omega, by go_num, HN.out, by first | go_num | (rw [hbq]; go_num), by first | rfl | rw [World.drewN_drewN]⟩
      case measure => simp [intOf]; omega
    · have hk' : k = S := by omega
      subst hk'
      have HX : Hid (x = _) := hx
      clear hx hb hp
      go_wp2_with fail
      go_ret
      exact ⟨ret_int (by rw [HX.out]), m, rfl⟩

end Go.Proofs.Ythfdnloeicbgkaa

/- Which comes first: the two closures, and who makes them. -/
namespace Go.Proofs.Ythfdnloeicbgkaa
open Go.RowKit

set_option maxHeartbeats 400000 in
theorem order_low (i size : Int) (w : World) :
    Calls Try.prog 98 #[.int .i64 i, .int .i64 size] w fun e w' => e = .returned (.int .i64 i) ∧ w' = w := by
  go_enter Try.func98, Try.ntmps98
  go_wp2
  go_ret
  exact ⟨rfl, rfl⟩

set_option maxHeartbeats 400000 in
theorem orderOf_low (w : World) :
    Calls Try.prog 53 #[.bool false] w fun e w' => e = .returned (.func (.func 98) #[] #[]) ∧ w' = w := by
  go_enter Try.func53, Try.ntmps53
  go_wp2
  go_ret
  exact ⟨rfl, rfl⟩

end Go.Proofs.Ythfdnloeicbgkaa

/- Bits of a text as the program reads them: a reader behind an interface. -/
namespace Go.Proofs.Ythfdnloeicbgkaa
open Go.RowKit

/-- the closure that tells which comes first -/
def ordV (hi : Bool) : Value := .func (.func (if hi then 97 else 98)) #[] #[]

/-- a reader of bits in block B, at bit p -/
structure Reads (w : World) (B : Nat) (hi : Bool) (s : ByteArray) (p : Nat) : Prop where
  c0 : w.cell? ⟨B, 0, none⟩ = some (ordV hi)
  c1 : w.cell? ⟨B, 1, none⟩ = some (.string s)
  c2 : w.cell? ⟨B, 2, none⟩ = some (.int .i64 (p : Int))
  f2 : w.frozen? ⟨B, 2, none⟩ = false

set_option maxHeartbeats 400000 in
theorem room_any (B p : Nat) (hi : Bool) (s : ByteArray) (w : World) (h : Reads w B hi s p) (hs : s.size ≤ 9000) (hp : p ≤ 9223372036854775807) :
    Calls Try.prog 145 #[.pointer (some ⟨B, 0, none⟩)] w fun e w' => e = .returned (.int .i64 (8 * (s.size : Int) - (p : Int))) ∧ ∃ m, w' = w.drewN m := by
  obtain ⟨h0, h1, h2, _⟩ := h
  go_enter Try.func145, Try.ntmps145
  go_wp2_with fail
  go_region
  all_goals go_wp2_with fail
  all_goals go_ret
  all_goals exact ⟨rfl, 1, rfl⟩

theorem and_bit (x q : Nat) (h : x < 256) : bits .and .i64 ((x : Int) / 2 ^ q) 1 = ((x / 2 ^ q % 2 : Nat) : Int) := by
  have e : (x : Int) / 2 ^ q = ((x / 2 ^ q : Nat) : Int) := by simp
  have hl : x / 2 ^ q ≤ x := Nat.div_le_self _ _
  have := i64_and_nat (x / 2 ^ q) 1 (by omega) (by omega)
  rw [show ((1 : Nat) : Int) = 1 from rfl] at this
  rw [e, this, nat_mask1]

set_option maxHeartbeats 1000000 in
theorem next_low (B p : Nat) (s : ByteArray) (n : Int) (w : World) (h : Reads w B false s p) (hs : s.size ≤ 9000) (hp : p / 8 < s.size) :
    Calls Try.prog 165 #[.pointer (some ⟨B, 0, none⟩), .int .i64 n] w fun e w' => e = .returned (.int .i64 (bitAt s false p : Nat)) ∧ ∃ m, w' = (w.setCell ⟨B, 2, none⟩ (.int .i64 ((p : Int) + 1))).drewN m := by
  obtain ⟨h0, h1, h2, hf⟩ := h
  have h0' : w.cell? ⟨B, 0, none⟩ = some (.func (.func 98) #[] #[]) := h0
  clear h0
  obtain ⟨j, hj⟩ : ∃ j, j = p / 8 := ⟨_, rfl⟩
  obtain ⟨q, hq⟩ : ∃ q, q = p % 8 := ⟨_, rfl⟩
  have hjs : j < s.size := by omega
  have hbe := byteAt_eq s j hjs
  have hbl := byteAt_lt s j
  have e1 : (p : Int) / 8 = (j : Int) := by omega
  have e2 : (p : Int) % 8 = (q : Int) := by omega
  have e3 : (p : Int).tdiv 8 = (j : Int) := by rw [Int.tdiv_eq_ediv_of_nonneg (by omega)]; exact e1
  have e4 : (p : Int).tmod 8 = (q : Int) := by rw [Int.tmod_eq_emod_of_nonneg (by omega)]; exact e2
  have hji : (j : Int) < (s.size : Int) := by omega
  have e5 := wrap_i64_nat j (by omega)
  have e6 := wrap_i64_nat (byteAt s j) (by omega)
  obtain ⟨v, hv⟩ : ∃ v, v = bitAt s false p := ⟨_, rfl⟩
  have hbit : bits .and .i64 (((byteAt s j : Nat) : Int) / 2 ^ q) 1 = (v : Int) := by
    rw [and_bit _ _ hbl, hv]; unfold bitAt Bg.spot; rw [hq, hj]; rfl
  rw [← hv]
  have hpb : p ≤ 80000 := by omega
  have hq8 : q ≤ 7 := by omega
  clear hj hq hp hv
  go_enter Try.func165, Try.ntmps165
  go_wp2_with fail
  go_quiet (exact Calls.quiet_of_same (order_low _ _ _))
  go_wp2_with fail
  go_ret
  exact ⟨rfl, nq, rfl⟩

theorem method_room (a : Addr) (w : World) : (method 308 148 (.pointer (some a)) "loop.example/intarsia/impl.room").run Try.prog w = .ok (145, .pointer (some a)) w := by kernel_rfl
theorem method_next (a : Addr) (w : World) : (method 308 148 (.pointer (some a)) "loop.example/intarsia/impl.next").run Try.prog w = .ok (165, .pointer (some a)) w := by kernel_rfl
theorem ahead_next (a : Addr) (w : World) : (nilAhead 308 148 (.pointer (some a)) "loop.example/intarsia/impl.next").run Try.prog w = .ok (some false) w := by kernel_rfl

theorem Reads.drewN {w : World} {B p : Nat} {hi : Bool} {s : ByteArray} (h : Reads w B hi s p) (m : Nat) : Reads (w.drewN m) B hi s p := ⟨h.c0, h.c1, h.c2, h.f2⟩
theorem Reads.drew {w : World} {B p : Nat} {hi : Bool} {s : ByteArray} (h : Reads w B hi s p) : Reads w.drew B hi s p := ⟨h.c0, h.c1, h.c2, h.f2⟩

theorem or_lowbit (x b k y : Nat) (hx : x < 2 ^ k) (hb : b < 2) (hk : k < 32) (hy : y = x + b * 2 ^ k) :
    bits .or .i64 (x : Int) (IntKind.i64.wrap ((b : Int) * 2 ^ k)) = (y : Int) := by
  have h3 : 2 ^ k ≤ 2 ^ 32 := Nat.pow_le_pow_right (by omega) (by omega)
  have h1 : b * 2 ^ k ≤ 1 * 2 ^ 32 := Nat.mul_le_mul (by omega) h3
  have e : (b : Int) * 2 ^ k = ((b * 2 ^ k : Nat) : Int) := by simp
  rw [e, wrap_i64_nat _ (by omega), i64_or_nat _ _ (by omega) (by omega), Nat.or_comm, nat_join k (b * 2 ^ k) x (Nat.mul_mod_left _ _) hx, hy]
  omega

end Go.Proofs.Ythfdnloeicbgkaa

/- The program plants a symbol in a tree. -/
namespace Go.Proofs.Ythfdnloeicbgkaa
open Go.RowKit

/-- how plant ends -/
def Planted (w : World) (lo B : Nat) (N : Nat → Nat → Option Nat) (S : Nat → Nat → Int) (n V : Nat) (x : Int) (e : Ending) (w' : World) : Prop :=
  e = .returned (.tuple #[]) ∧ (∃ N', Tri w' lo N' (Gt.upd S n V x) ∧ N' 0 0 = some B ∧ ∀ d v b, N' d v = some b → N d v = some b ∨ w.heap.size ≤ b) ∧ Below lo w w' ∧ ∀ k, k < w.heap.size → (∀ d v, N d v ≠ some k) → w'.heap[k]? = w.heap[k]?

/-- on the way -/
def PlI (w : World) (lo B : Nat) (N : Nat → Nat → Option Nat) (S : Nat → Nat → Int) (d v b : Nat) (wr : World) : Prop :=
  (∃ N1, Tri wr lo N1 S ∧ N1 0 0 = some B ∧ N1 d v = some b ∧ ∀ d v b, N1 d v = some b → N d v = some b ∨ w.heap.size ≤ b) ∧ Below lo w wr ∧ ∀ k, k < w.heap.size → (∀ d v, N d v ≠ some k) → wr.heap[k]? = w.heap[k]?

theorem and_one (x q : Nat) (h : x < 65536) : bits .and .i64 ((x : Int) / 2 ^ q) 1 = ((x / 2 ^ q % 2 : Nat) : Int) := by
  have e : (x : Int) / 2 ^ q = ((x / 2 ^ q : Nat) : Int) := by simp
  have hl : x / 2 ^ q ≤ x := Nat.div_le_self _ _
  have := i64_and_nat (x / 2 ^ q) 1 (by omega) (by omega)
  rw [show ((1 : Nat) : Int) = 1 from rfl] at this
  rw [e, this, nat_mask1]

theorem PlI.down {w wr : World} {lo B : Nat} {N : Nat → Nat → Option Nat} {S : Nat → Nat → Int} {d v b t : Nat} (h : PlI w lo B N S d v b wr) (ht : t < 2) :
    (∃ b2, wr.cell? ⟨b, 1 + t, none⟩ = some (.pointer (some ⟨b2, 0, none⟩)) ∧ PlI w lo B N S (d + 1) (2 * v + t) b2 wr) ∨
    (wr.cell? ⟨b, 1 + t, none⟩ = some (.pointer none) ∧ wr.frozen? ⟨b, 1 + t, none⟩ = false ∧ b < wr.heap.size ∧ PlI w lo B N S (d + 1) (2 * v + t) wr.heap.size ((wr.alloc (.cells #[.int .i64 (-1), .pointer none, .pointer none, .int .i64 0, .int .i64 0] 161)).setCell ⟨b, 1 + t, none⟩ (.pointer (some ⟨wr.heap.size, 0, none⟩)))) := by
  obtain ⟨⟨N1, hT, h0, hb, hN⟩, hbel, hfr⟩ := h
  obtain ⟨_, c1, c2, _, f1, f2⟩ := hT.cells hb
  have hc : wr.cell? ⟨b, 1 + t, none⟩ = some (ptr (N1 (d + 1) (2 * v + t))) := by
    have : t = 0 ∨ t = 1 := by omega
    rcases this with rfl | rfl
    · exact c1
    · exact c2
  have hf : wr.frozen? ⟨b, 1 + t, none⟩ = false := by
    have : t = 0 ∨ t = 1 := by omega
    rcases this with rfl | rfl
    · exact f1
    · exact f2
  rcases hx : N1 (d + 1) (2 * v + t) with _ | b2
  · right
    rw [hx] at hc
    have hlo := (hT.node d v b hb).1
    have hblt := hT.lt hb
    refine ⟨hc, hf, hblt, ⟨addN N1 (d + 1) (2 * v + t) wr.heap.size, hT.grow hb ht hx (by omega), ?_, ?_, ?_⟩, ?_, ?_⟩
    · unfold addN; rw [if_neg (by omega)]; exact h0
    · unfold addN; rw [if_pos ⟨rfl, rfl⟩]
    · intro d' v' b' hb'
      unfold addN at hb'
      split at hb'
      · cases hb'; exact .inr hbel.size
      · exact hN d' v' b' hb'
    · exact (hbel.alloc (by omega) _).setCell (p := ⟨b, 1 + t, none⟩) hlo _
    · intro k hk hno
      have hkb : k ≠ b := fun e => by
        subst e
        rcases hN d v k hb with h1 | h1
        · exact hno d v h1
        · omega
      rw [Below.heap_setCell _ ⟨b, 1 + t, none⟩ _ _ hkb, Below.heap_alloc _ _ _ (by have := hbel.size; omega)]
      exact hfr k hk hno
  · left
    rw [hx] at hc
    exact ⟨b2, hc, ⟨N1, hT, h0, hx, hN⟩, hbel, hfr⟩
theorem PlI.done {w wr : World} {lo B : Nat} {N : Nat → Nat → Option Nat} {S : Nat → Nat → Int} {n V b : Nat} (h : PlI w lo B N S n V b wr) (x : Int) :
    (∃ y, wr.cell? ⟨b, 0, none⟩ = some (.int .i64 y)) ∧ wr.frozen? ⟨b, 0, none⟩ = false ∧ Planted w lo B N S n V x (.returned (.tuple #[])) (wr.setCell ⟨b, 0, none⟩ (.int .i64 x)) := by
  obtain ⟨⟨N1, hT, h0, hb, hN⟩, hbel, hfr⟩ := h
  obtain ⟨c0, _, _, f0, _, _⟩ := hT.cells hb
  have hlo := (hT.node n V b hb).1
  refine ⟨⟨_, c0⟩, f0, rfl, ⟨N1, hT.setSym hb x, h0, hN⟩, hbel.setCell (p := ⟨b, 0, none⟩) hlo _, fun k hk hno => ?_⟩
  have hkb : k ≠ b := fun e => by
    subst e
    rcases hN n V k hb with h1 | h1
    · exact hno n V h1
    · omega
  rw [Below.heap_setCell _ ⟨b, 0, none⟩ _ _ hkb]
  exact hfr k hk hno

set_option maxHeartbeats 2000000 in
set_option maxRecDepth 20000 in
theorem plant_any (lo B V n : Nat) (x : Int) (N : Nat → Nat → Option Nat) (S : Nat → Nat → Int) (w : World) (h : Tri w lo N S) (h0 : N 0 0 = some B) (hn : n ≤ 15) (hV : V < 2 ^ n) :
    Calls Try.prog 131 #[.pointer (some ⟨B, 0, none⟩), .int .i64 x, .int .i64 (V : Int), .int .i64 (n : Int)] w (Planted w lo B N S n V x) := by
  have hV2 : V < 65536 := Nat.lt_of_lt_of_le hV (Nat.le_trans (Nat.pow_le_pow_right (by omega) hn) (by decide))
  have HV : Hid (V < 2 ^ n) := hV
  have HS : Hid (PlI w lo B N S 0 (V / 2 ^ n) B w) := by
    rw [Nat.div_eq_of_lt hV]
    exact ⟨⟨N, h, h0, h0, fun d v b hb => .inl hb⟩, Below.refl _ _, fun _ _ _ => rfl⟩
  clear h h0 hV
  go_enter Try.func131, Try.ntmps131
  go_wp2_with fail
  go_loopw [0, 8] (fun p pl wr => ∃ d b : Nat, d ≤ n ∧ pl = .int .i64 ((n : Int) - 1 - (d : Int)) ∧ p = .pointer (some ⟨b, 0, none⟩) ∧ Hid (PlI w lo B N S d (V / 2 ^ (n - d)) b wr)) (fun _ pl _ => (intOf pl + 1).toNat)
  case atStart => exact ⟨0, B, Nat.zero_le _, by simp, rfl, HS⟩
  case round =>
    obtain ⟨d, b, hd, rfl, rfl, HP⟩ := hrel
    clear HS
    by_cases hlt : d < n
    · obtain ⟨K, hK⟩ : ∃ K : Nat, K = n - 1 - d := ⟨_, rfl⟩
      have eK : (n : Int) - 1 - (d : Int) = (K : Int) := by omega
      obtain ⟨t, ht⟩ : ∃ t : Nat, t = V / 2 ^ K % 2 := ⟨_, rfl⟩
      have hbit : bits .and .i64 ((V : Int) / 2 ^ K) 1 = (t : Int) := by rw [ht]; exact and_one V K hV2
      have ht2 : t < 2 := by omega
      have hv2 : 2 * (V / 2 ^ (n - d)) + t = V / 2 ^ (n - (d + 1)) := by
        rw [show n - d = K + 1 by omega, show n - (d + 1) = K by omega, Nat.pow_succ, ← Nat.div_div_eq_div_mul, ht]
        omega
      have hdn := HP.out.down ht2
      rw [hv2] at hdn
      have eK1 : (K : Int) - 1 = (n : Int) - 1 - ((d + 1 : Nat) : Int) := by omega
      have HE1 : Hid ((K : Int) - 1 = (n : Int) - 1 - ((d + 1 : Nat) : Int)) := eK1
      have hK15 : K ≤ 14 := by omega
      rw [eK]
      clear hv2 HP ht hK eK eK1
      have ht01 : t = 0 ∨ t = 1 := by omega
      rcases hdn with ⟨b2, hc, hp⟩ | ⟨hc, hf, hblt, hp⟩
      · have HP2 : Hid (PlI w lo B N S (d + 1) (V / 2 ^ (n - (d + 1))) b2 wr) := hp
        clear hp
        rcases ht01 with rfl | rfl
        all_goals
          go_wp2_with fail
          go_roundw
          case rel => exact ⟨d + 1, b2, by omega, by rw [← HE1.out], rfl, HP2⟩
          case measure => simp [intOf]
      · have HP2 : Hid (PlI w lo B N S (d + 1) (V / 2 ^ (n - (d + 1))) wr.heap.size ((wr.alloc (.cells #[.int .i64 (-1), .pointer none, .pointer none, .int .i64 0, .int .i64 0] 161)).setCell ⟨b, 1 + t, none⟩ (.pointer (some ⟨wr.heap.size, 0, none⟩)))) := hp
        rw [World.setCell_alloc_past _ b (1 + t) _ hblt] at HP2
        have hc2 : (wr.alloc (.cells #[.int .i64 (-1), .pointer none, .pointer none, .int .i64 0, .int .i64 0] 161)).cell? ⟨b, 1 + t, none⟩ = some (.pointer none) := (World.cell?_alloc_past _ b (1 + t) hblt).trans hc
        have hf2 : (wr.alloc (.cells #[.int .i64 (-1), .pointer none, .pointer none, .int .i64 0, .int .i64 0] 161)).frozen? ⟨b, 1 + t, none⟩ = false := (World.frozen?_alloc_past _ b (1 + t) hblt).trans hf
        clear hp
        rcases ht01 with rfl | rfl
        all_goals
          go_wp2_with fail
          go_roundw
          case rel => exact ⟨d + 1, wr.heap.size, by omega, by rw [← HE1.out], rfl, HP2⟩
          case measure => simp [intOf]
    · obtain rfl : d = n := by omega
      have hneg : ¬ (0 : Int) ≤ (d : Int) - 1 - (d : Int) := by omega
      have e1 : (d : Int) - 1 - (d : Int) = -1 := by omega
      rw [e1]
      have hp := HP.out
      rw [Nat.sub_self, Nat.pow_zero, Nat.div_one] at hp
      obtain ⟨⟨y, hc⟩, hf, hpl⟩ := hp.done x
      have HPL : Hid (Planted w lo B N S d V x (.returned (.tuple #[])) (wr.setCell ⟨b, 0, none⟩ (.int .i64 x))) := hpl
      clear hp HP hpl e1 hneg
      go_wp2_with fail
      go_end0
      exact HPL.out
end Go.Proofs.Ythfdnloeicbgkaa

/- A list of ints in memory: read, copied, compared. -/
namespace Go.Proofs.Ythfdnloeicbgkaa
open Go.RowKit

/-- the slice's cells read as the list -/
def Ints (w : World) (a : Option Addr) (zs : List Int) : Prop :=
  zs = [] ∨ ∃ b off, a = some ⟨b, off, none⟩ ∧ b < w.heap.size ∧ ∀ i (h : i < zs.length), w.cell? ⟨b, off + i, none⟩ = some (.int .i64 zs[i])

theorem Ints.kept {w w' : World} {a : Option Addr} {zs : List Int} (h : Ints w a zs) (hb : Below w.heap.size w w') : Ints w' a zs := by
  rcases h with h | ⟨b, off, rfl, hbB, hc⟩
  · exact .inl h
  · exact .inr ⟨b, off, rfl, Nat.lt_of_lt_of_le hbB hb.size, fun i hi => (hb.cell (p := ⟨b, off + i, none⟩) hbB).trans (hc i hi)⟩

/-- a new row, its first k cells copied -/
def cp (zs : List Int) (k : Nat) : Array Value := ((List.range zs.length).map fun j => Value.int .i64 (if j < k then zs.getD j 0 else 0)).toArray

theorem cp_size (zs : List Int) (k : Nat) : (cp zs k).size = zs.length := by simp [cp]
theorem cp_get (zs : List Int) (k j : Nat) (h : j < zs.length) : (cp zs k)[j]? = some (Value.int .i64 (if j < k then zs.getD j 0 else 0)) := by
  simp [cp, h]
theorem made_cp (zs : List Int) : madeCells #[Value.int .i64 0] (zs.length * 1) = cp zs 0 := by
  apply Array.ext_getElem?
  intro j
  by_cases hj : j < zs.length
  · rw [cp_get _ _ _ hj, Nat.mul_one]
    unfold madeCells
    simp [hj, Nat.mod_one]
  · rw [Array.getElem?_eq_none (by rw [size_madeCells]; omega), Array.getElem?_eq_none (by rw [cp_size]; omega)]

theorem info_int : (Try.prog.info? 3).map (fun i => (i.zero, i.size, i.bytes)) = some (some (.int .i64 0), 1, 8) := by kernel_rfl

theorem make_ints (zs : List Int) (n : Nat) (hn : zs.length = n) (hl : n ≤ 2000000) (w : World) :
    (Instr.makeSlice 44 (.int .i64 (n : Int)) (.int .i64 (n : Int))).run Try.prog w = .ok (.slice (some ⟨w.heap.size, 0, none⟩) n n) (w.alloc (.cells (cp zs 0) 3)) := by
  obtain ⟨i0, hi, hz0, hz1, hz2⟩ := info_parts info_int
  have h := run_make (P := Try.prog) w 44 3 i0 (.int .i64 0) Try.underlying44 hi hz0 .i64 .i64 (n : Int) (n : Int) (by omega) (by omega) (by rw [hz2]; omega) (by omega)
  rw [h, Int.toNat_natCast, hz1, ← made_cp, hn]
  rfl

end Go.Proofs.Ythfdnloeicbgkaa

/- Whether lengths are those of a code. -/
namespace Go.Proofs.Ythfdnloeicbgkaa
open Go.RowKit

theorem ret_bool {a b : Bool} (h : a = b) : Ending.returned (.bool a) = .returned (.bool b) := by rw [h]

/-- what 'codeTaken' answers -/
def tkB (n : Nat) (zs : List Int) : Bool := decide (n ≤ 300) && Cd.valid zs
def tkN (n : Nat) (zs : List Int) : Int := if tkB n zs = true then (Cd.taken zs : Int) else 0
theorem tkN_no {n : Nat} {zs : List Int} (h : tkB n zs = false) : tkN n zs = 0 := by unfold tkN; rw [h]; rfl
theorem tkN_yes {n : Nat} {zs : List Int} (h : tkB n zs = true) : tkN n zs = (Cd.taken zs : Int) := by unfold tkN; rw [if_pos h]

theorem part_pos (Z : Nat) (h : 0 < Z) : Cd.part (Z : Int) = 2 ^ (15 - Z) := by
  unfold Cd.part; rw [if_pos (by omega), Int.toNat_natCast]
set_option maxHeartbeats 1000000 in
theorem l3Left_any (a : Option Addr) (cap n : Nat) (zs : List Int) (w : World) (h : Ints w a zs) (hn : zs.length = n) (hl : n ≤ 300) :
    Calls Try.prog 140 #[.slice a n cap] w fun e w' => e = .returned (.int .i64 (Cd.left zs)) ∧ w' = w := by
  have HI : Hid (Ints w a zs) := h
  have HN : Hid (zs.length = n) := hn
  clear h
  have hzg : n ≤ zs.length := by omega
  clear hn
  have HP : Hid (Calls Try.prog 69 #[.int .i64 15] w fun e w' => e = .returned (.int .i64 32768) ∧ w' = w) := l1Pow_any 15 w (by omega)
  go_enter Try.func140, Try.ntmps140
  go_wp2_with fail
  refine HP.out.mono ?_
  rintro e w1 ⟨rfl, hw1⟩
  subst hw1
  clear HP
  go_wp2_with fail
  go_loop [3, 4] (fun x i => ∃ k T : Nat, k ≤ n ∧ i = .int .i64 k ∧ T = Cd.taken (zs.take k) ∧ Cd.valid (zs.take k) = true ∧ T ≤ 32768 ∧ x = .int .i64 (32768 - (T : Int))) (fun _ i => n - (intOf i).toNat)
  case atStart => exact ⟨0, 0, Nat.zero_le _, rfl, rfl, rfl, by omega, rfl⟩
  case round =>
    obtain ⟨k, T, hk, rfl, hT, hV, hT2, rfl⟩ := hrel
    by_cases hlt : k < n
    · have hkz : k < zs.length := by omega
      rcases HI.out with h | ⟨b, off, rfl, hb, hc⟩
      · rw [h] at hkz; simp at hkz
      · have hck := hc k hkz
        have hki : (k : Int) < (n : Int) := by omega
        have hbad := Cd.left_bad zs k hkz
        have hts := Cd.taken_snoc zs k hkz
        have hvs := Cd.valid_snoc zs k hkz
        have hov := Cd.left_over zs (k + 1)
        rw [hV, Bool.true_and] at hvs
        rw [← hT] at hts
        clear hc hT hV
        generalize zs[k] = z at *
        by_cases hz : 0 ≤ z ∧ z ≤ 15
        · obtain ⟨Z, rfl⟩ := Int.eq_ofNat_of_zero_le hz.1
          have hok : Cd.okLen (Z : Int) = true := by simp [Cd.okLen]; omega
          have HV : Hid (Cd.valid (zs.take (k + 1)) = true) := by show _ = _; rw [hvs, hok]
          by_cases hz0 : 0 < Z
          · rw [part_pos Z hz0] at hts
            obtain ⟨q, hq⟩ : ∃ q, q = 2 ^ (15 - Z) := ⟨_, rfl⟩
            have hpw : Hid (∀ (x : Int) (w : World), x = 15 - (Z : Int) → Calls Try.prog 69 #[.int .i64 x] w fun e w' => e = .returned (.int .i64 (q : Int)) ∧ w' = w) := by
              intro x w hx
              have := l1Pow_any (15 - Z) w (by omega)
              rw [← hq, show ((15 - Z : Nat) : Int) = x from by omega] at this
              exact this
            have hqb : q ≤ 32768 := by
              rw [hq]; exact Nat.le_trans (Nat.pow_le_pow_right (by omega) (show 15 - Z ≤ 15 by omega)) (by decide)
            rw [← hq] at hts
            have HTS : Hid (T + q = Cd.taken (zs.take (k + 1))) := hts.symm
            have hz15 : Z ≤ 15 := by omega
            by_cases hlow : 32768 < T + q
            · have HL : Hid (Cd.left zs = -1) := hov (by rw [hts]; exact hlow)
              clear hbad hts hvs hov hq hok hz
              go_wp2_with fail
              refine (l1In_yes _ _ _ _ (by omega) (by omega)).mono ?_
              rintro e w2 ⟨rfl, rfl⟩
              go_wp2_with fail
              refine (hpw.out _ _ rfl).mono ?_
              rintro e w3 ⟨rfl, rfl⟩
              go_wp2_with fail
              go_ret
              exact ⟨ret_int HL.out.symm, rfl⟩
            · have hd : decide (32768 - (T : Int) - (q : Int) < 0) = false := by simp; omega
              clear hbad hts hvs hov hq hok hz
              go_wp2_with fail
              refine (l1In_yes _ _ _ _ (by omega) (by omega)).mono ?_
              rintro e w2 ⟨rfl, rfl⟩
              go_wp2_with fail
              refine (hpw.out _ _ rfl).mono ?_
              rintro e w3 ⟨rfl, rfl⟩
              go_wp2_with fail
              go_round
              case rel => exact ⟨k + 1, T + q, by omega, by go_num, HTS.out, HV.out, by omega, by go_num⟩
              case measure => simp [intOf]; omega
          · have hZ : Z = 0 := by omega
            subst hZ
            have HTS : Hid (T = Cd.taken (zs.take (k + 1))) := by show _ = _; rw [hts]; rfl
            have hd : decide (32768 - (T : Int) < 0) = false := by simp; omega
            clear hbad hts hvs hov hok hz
            go_wp2_with fail
            refine (l1In_yes _ _ _ _ (by omega) (by omega)).mono ?_
            rintro e w2 ⟨rfl, rfl⟩
            go_wp2_with fail
            go_round
            case rel => exact ⟨k + 1, T, by omega, by go_num, HTS.out, HV.out, by omega, rfl⟩
            case measure => simp [intOf]; omega
        · have HL : Hid (Cd.left zs = -1) := hbad (by simp only [Cd.okLen, Bool.and_eq_false_iff, decide_eq_false_iff_not]; omega)
          clear hbad hts hvs hov
          go_wp2_with fail
          refine (l1In_no _ _ _ _ hz).mono ?_
          rintro e w2 ⟨rfl, rfl⟩
          go_wp2_with fail
          go_ret
          exact ⟨ret_int HL.out.symm, rfl⟩
    · have hk' : zs.take k = zs := List.take_of_length_le (by have := HN.out; omega)
      rw [hk'] at hT hV
      have HL : Hid (Cd.left zs = 32768 - (T : Int)) := by show _ = _; unfold Cd.left; rw [← hT, if_pos ⟨hV, hT2⟩]
      clear hk' hT hV
      go_wp2_with fail
      go_ret
      exact ⟨ret_int HL.out.symm, rfl⟩

theorem shr_part (Z : Nat) (h : Z ≤ 15) : (32768 : Int) / 2 ^ Z = ((2 ^ (15 - Z) : Nat) : Int) := by
  have e : (32768 : Int) / 2 ^ Z = ((32768 / 2 ^ Z : Nat) : Int) := by simp
  rw [e, show (32768 : Nat) = 2 ^ 15 from rfl, Nat.pow_div h (by omega)]

set_option maxHeartbeats 1000000 in
theorem codeTaken_any (a : Option Addr) (cap n : Nat) (zs : List Int) (w : World) (h : Ints w a zs) (hn : zs.length = n) (hl : n ≤ 1048576) :
    Calls Try.prog 136 #[.slice a n cap] w fun e w' => e = .returned (.tuple #[.int .i64 (tkN n zs), .bool (tkB n zs)]) ∧ w' = w := by
  by_cases h3 : n ≤ 300
  · have HI : Hid (Ints w a zs) := h
    have HN : Hid (zs.length = n) := hn
    have hzg : n ≤ zs.length := by omega
    have hd : decide ((300 : Int) < (n : Int)) = false := by simp; omega
    clear h hn
    go_enter Try.func136, Try.ntmps136
    go_wp2_with fail
    go_loop [4, 12] (fun x i => ∃ k T : Nat, k ≤ n ∧ i = .int .i64 k ∧ T = Cd.taken (zs.take k) ∧ Cd.valid (zs.take k) = true ∧ T ≤ 32768 * k ∧ x = .int .i64 (T : Int)) (fun _ i => n - (intOf i).toNat)
    case atStart => exact ⟨0, 0, Nat.zero_le _, rfl, rfl, rfl, by omega, rfl⟩
    case round =>
      obtain ⟨k, T, hk, rfl, hT, hV, hT2, rfl⟩ := hrel
      by_cases hlt : k < n
      · have hkz : k < zs.length := by omega
        rcases HI.out with h | ⟨b, off, rfl, hb, hc⟩
        · rw [h] at hkz; simp at hkz
        · have hck := hc k hkz
          have hki : (k : Int) < (n : Int) := by omega
          have hbad := Cd.not_valid zs k hkz
          have hts := Cd.taken_snoc zs k hkz
          have hvs := Cd.valid_snoc zs k hkz
          rw [hV, Bool.true_and] at hvs
          rw [← hT] at hts
          clear hc hT hV
          generalize zs[k] = z at *
          by_cases hz : 0 ≤ z ∧ z ≤ 15
          · obtain ⟨Z, rfl⟩ := Int.eq_ofNat_of_zero_le hz.1
            have hok : Cd.okLen (Z : Int) = true := by simp [Cd.okLen]; omega
            have HV : Hid (Cd.valid (zs.take (k + 1)) = true) := by show _ = _; rw [hvs, hok]
            have hd1 : decide ((Z : Int) < 0) = false := by simp
            have hd2 : decide ((15 : Int) < (Z : Int)) = false := by simp; omega
            by_cases hz0 : 0 < Z
            · rw [part_pos Z hz0] at hts
              have hsh := shr_part Z (by omega)
              obtain ⟨q, hq⟩ : ∃ q, q = 2 ^ (15 - Z) := ⟨_, rfl⟩
              have hqb : q ≤ 32768 := by
                rw [hq]; exact Nat.le_trans (Nat.pow_le_pow_right (by omega) (show 15 - Z ≤ 15 by omega)) (by decide)
              rw [← hq] at hts hsh
              have HTS : Hid (T + q = Cd.taken (zs.take (k + 1))) := hts.symm
              have hz15 : Z ≤ 15 := by omega
              clear hbad hts hvs hq hok hz
              go_wp2_with fail
              go_round
              case rel => exact ⟨k + 1, T + q, by omega, by go_num, HTS.out, HV.out, by omega, by go_num⟩
              case measure => simp [intOf]; omega
            · have hZ : Z = 0 := by omega
              subst hZ
              have HTS : Hid (T = Cd.taken (zs.take (k + 1))) := by show _ = _; rw [hts]; rfl
              clear hbad hts hvs hok hz
              go_wp2_with fail
              go_round
              case rel => exact ⟨k + 1, T, by omega, by go_num, HTS.out, HV.out, by omega, rfl⟩
              case measure => simp [intOf]; omega
          · have HL : Hid (tkB n zs = false) := by
              show _ = _; unfold tkB; rw [hbad (by simp only [Cd.okLen, Bool.and_eq_false_iff, decide_eq_false_iff_not]; omega), Bool.and_false]
            clear hbad hts hvs
            by_cases hneg : z < 0
            · go_wp2_with fail
              go_ret2
              exact ⟨ret_pair (tkN_no HL.out).symm HL.out.symm, rfl⟩
            · have hd1 : decide (z < 0) = false := by simpa using hneg
              have hbig : 15 < z := by omega
              clear hz hneg
              go_wp2_with fail
              go_ret2
              exact ⟨ret_pair (tkN_no HL.out).symm HL.out.symm, rfl⟩
      · have hk' : zs.take k = zs := List.take_of_length_le (by have := HN.out; omega)
        rw [hk'] at hT hV
        have HL : Hid (tkB n zs = true) := by show _ = _; unfold tkB; rw [hV]; simp [h3]
        have HT : Hid (T = Cd.taken zs) := hT
        clear hk' hT hV
        go_wp2_with fail
        go_ret2
        exact ⟨ret_pair (by rw [tkN_yes HL.out, ← HT.out]) HL.out.symm, rfl⟩
  · have hd : (300 : Int) < (n : Int) := by omega
    have HL : Hid (tkB n zs = false) := by show _ = _; unfold tkB; simp [h3]
    clear h hn
    go_enter Try.func136, Try.ntmps136
    go_wp2_with fail
    go_ret2
    exact ⟨ret_pair (tkN_no HL.out).symm HL.out.symm, rfl⟩

set_option maxHeartbeats 400000 in
theorem impl_codeOk (a : Option Addr) (cap n : Nat) (zs : List Int) (w : World) (h : Ints w a zs) (hn : zs.length = n) (hl : n ≤ 1048576) :
    Calls Try.prog 120 #[.slice a n cap] w fun e w' => e = .returned (.bool (Cd.okB zs)) ∧ w' = w := by
  have hc := codeTaken_any a cap n zs w h hn hl
  have HC : Hid (Calls Try.prog 136 #[.slice a n cap] w fun e w' => e = .returned (.tuple #[.int .i64 (tkN n zs), .bool (tkB n zs)]) ∧ w' = w) := hc
  cases hy : tkB n zs
  · have HE : Hid (Cd.okB zs = false) := by
      show _ = _; unfold Cd.okB; rw [hn, ← Bool.and_assoc]
      have : (decide (n ≤ 300) && Cd.valid zs) = false := hy
      rw [this]; rfl
    rw [hy] at HC
    clear hc h hn hy
    generalize tkN n zs = T at *
    go_enter Try.func120, Try.ntmps120
    go_wp2_with fail
    refine HC.out.mono ?_
    rintro e w1 ⟨rfl, hw1⟩
    subst hw1
    go_wp2_with fail
    go_ret
    exact ⟨ret_bool HE.out.symm, rfl⟩
  · have HE : Hid (Cd.okB zs = decide ((Cd.taken zs : Int) ≤ 32768)) := by
      show _ = _; unfold Cd.okB; rw [hn, ← Bool.and_assoc]
      have : (decide (n ≤ 300) && Cd.valid zs) = true := hy
      rw [this, Bool.true_and]
      congr 1
      exact propext ⟨fun h => by omega, fun h => by omega⟩
    rw [tkN_yes hy, hy] at HC
    clear hc h hn hy
    generalize Cd.taken zs = T at *
    go_enter Try.func120, Try.ntmps120
    go_wp2_with fail
    refine HC.out.mono ?_
    rintro e w1 ⟨rfl, hw1⟩
    subst hw1
    go_wp2_with fail
    go_ret
    exact ⟨ret_bool HE.out.symm, rfl⟩
end Go.Proofs.Ythfdnloeicbgkaa

/- A new row of ints, written cell by cell. -/
namespace Go.Proofs.Ythfdnloeicbgkaa
open Go.RowKit

/-- a row of ints -/
def arr (l : List Int) : Array Value := (l.map (fun z => Value.int .i64 z)).toArray

theorem arr_set (l : List Int) (k : Nat) (v : Int) : (arr l).setIfInBounds k (.int .i64 v) = arr (l.set k v) := by
  unfold arr
  simp [List.map_set]
theorem arr_get (l : List Int) (k : Nat) (h : k < l.length) : (arr l)[k]? = some (.int .i64 l[k]) := by
  simp [arr, h]
theorem cp_arr (zs : List Int) : cp zs 0 = arr (List.replicate zs.length 0) := by
  apply Array.ext_getElem?
  intro j
  by_cases hj : j < zs.length
  · rw [cp_get _ _ _ hj, arr_get _ _ (by simpa using hj)]; simp
  · rw [Array.getElem?_eq_none (by rw [cp_size]; omega), Array.getElem?_eq_none (by simp [arr]; omega)]

/-- a list of the call's own, in a block from lo on: its cells can be written -/
def Owns (w : World) (lo : Nat) (a : Option Addr) (l : List Int) : Prop :=
  l = [] ∨ ∃ b, a = some ⟨b, 0, none⟩ ∧ lo ≤ b ∧ b < w.heap.size ∧ ∀ i (h : i < l.length), w.cell? ⟨b, i, none⟩ = some (.int .i64 l[i]) ∧ w.frozen? ⟨b, i, none⟩ = false

theorem Owns.ints {w : World} {lo : Nat} {a : Option Addr} {l : List Int} (h : Owns w lo a l) : Ints w a l := by
  rcases h with h | ⟨b, rfl, _, hb, hc⟩
  · exact .inl h
  · exact .inr ⟨b, 0, rfl, hb, fun i hi => by rw [Nat.zero_add]; exact (hc i hi).1⟩

theorem owns_arr (w : World) (l : List Int) : Owns (w.alloc (.cells (arr l) 3)) w.heap.size (some ⟨w.heap.size, 0, none⟩) l := by
  refine .inr ⟨w.heap.size, rfl, Nat.le_refl _, by simp, fun i hi => ⟨?_, ?_⟩⟩
  · rw [World.cell?_alloc_at _ _ _ _ rfl, arr_get _ _ hi]
  · rw [World.frozen?_alloc_at _ _ _ _ rfl]
end Go.Proofs.Ythfdnloeicbgkaa

/- The numbers of a code, as the specification and the program make them. -/
namespace Go.Proofs.Ythfdnloeicbgkaa
open Go.RowKit

theorem make_arr (zs : List Int) (n : Nat) (hn : zs.length = n) (hl : n ≤ 2000000) (w : World) :
    (Instr.makeSlice 44 (.int .i64 (n : Int)) (.int .i64 (n : Int))).run Try.prog w = .ok (.slice (some ⟨w.heap.size, 0, none⟩) n n) (w.alloc (.cells (arr (Mk.outer zs 0).2) 3)) := by
  rw [make_ints zs n hn hl w, cp_arr]; rfl

set_option maxHeartbeats 1000000 in
theorem l3Make_any (a : Option Addr) (cap n : Nat) (zs : List Int) (w : World) (h : Ints w a zs) (hn : zs.length = n) (hl : n ≤ 300) :
    Calls Try.prog 70 #[.slice a n cap] w fun e w' => e = .returned (.slice (some ⟨w.heap.size, 0, none⟩) n n) ∧ w' = w.alloc (.cells (arr (Mk.mk zs)) 3) := by
  have hmk := fun w => make_arr zs n hn (by omega) w
  have HI : Hid (Ints w a zs) := h
  have HN : Hid (zs.length = n) := hn
  have HB : Hid (∀ m, m ≤ 15 → (Mk.outer zs m).1 ≤ 9830400) := Mk.outer_bound zs (by omega)
  have hzg : n ≤ zs.length := by omega
  clear h hn
  go_enter Try.func70, Try.ntmps70
  go_wp2_with fail
  go_loopw [4, 5] (fun x i wr => ∃ m y : Nat, m ≤ 15 ∧ i = .int .i64 ((m : Int) + 1) ∧ y = (Mk.outer zs m).1 ∧ x = .int .i64 (y : Int) ∧ wr = w.alloc (.cells (arr (Mk.outer zs m).2) 3)) (fun _ i _ => 16 - (intOf i).toNat)
  case atStart => exact ⟨0, 0, by omega, rfl, rfl, rfl, rfl⟩
  case round =>
    obtain ⟨m, y, hm, rfl, hy, rfl, rfl⟩ := hrel
    clear hmk
    by_cases hlt : m < 15
    · have hyb : y ≤ 9830400 := by rw [hy]; exact HB.out m hm
      have HO : Hid (Mk.outer zs (m + 1) = Mk.inner zs ((m + 1 : Nat) : Int) zs.length (2 * (Mk.outer zs m).1, (Mk.outer zs m).2)) := rfl
      rw [← hy] at HO
      have hol := Mk.outer_len zs m
      clear hy
      generalize (Mk.outer zs m).2 = l0 at *
      go_wp2_with fail
      go_loopw [4, 6] (fun x i wr => ∃ (k z : Nat) (l : List Int), k ≤ n ∧ i = .int .i64 k ∧ (z, l) = Mk.inner zs ((m + 1 : Nat) : Int) k (2 * y, l0) ∧ x = .int .i64 (z : Int) ∧ wr = w.alloc (.cells (arr l) 3)) (fun _ i _ => n - (intOf i).toNat)
      case atStart => exact ⟨0, 2 * y, l0, Nat.zero_le _, rfl, rfl, by go_num, rfl⟩
      case round =>
        obtain ⟨k, z, l, hk, rfl, hzl, rfl, rfl⟩ := hrel
        have hin := Mk.inner_le zs ((m + 1 : Nat) : Int) (2 * y, l0) k
        have hil := Mk.inner_len zs ((m + 1 : Nat) : Int) (2 * y, l0) k
        rw [← hzl] at hin hil
        simp only at hin hil
        by_cases hltk : k < n
        · have hkz : k < zs.length := by omega
          have hkl : k < l.length := by omega
          rcases HI.out with h | ⟨b, off, rfl, hbB, hc⟩
          · rw [h] at hkz; simp at hkz
          · have hck := (World.cell?_alloc_past (.cells (arr l) 3) b (off + k) hbB).trans (hc k hkz)
            have hki : (k : Int) < (n : Int) := by omega
            have hgd : zs.getD k 0 = zs[k] := by rw [List.getD_eq_getElem?_getD, List.getElem?_eq_getElem hkz]; rfl
            have hhit := Mk.inner_hit zs ((m + 1 : Nat) : Int) k (2 * y, l0)
            have hmiss := Mk.inner_miss zs ((m + 1 : Nat) : Int) k (2 * y, l0)
            rw [hgd, ← hzl] at hhit hmiss
            have hset := arr_set l k (z : Int)
            have hgl := arr_get l k hkl
            clear hc hgd hol hil
            generalize zs[k] = q at *
            by_cases e : q = ((m + 1 : Nat) : Int)
            · have HT : Hid (Mk.inner zs ((m + 1 : Nat) : Int) (k + 1) (2 * y, l0) = (z + 1, l.set k (z : Int))) := hhit e
              have eb : (q == (m : Int) + 1) = true := by rw [beq_iff_eq, e]; omega
              have HS : Hid ((arr l).setIfInBounds k (.int .i64 (z : Int)) = arr (l.set k (z : Int))) := hset
              clear hhit hmiss e hzl hset
              generalize l[k] = lk at *
              generalize arr l = A at *
              go_wp2_with fail
              go_roundw
              case rel => exact ⟨k + 1, z + 1, l.set k (z : Int), by omega, by go_num, HT.out.symm, by go_num, by rw [HS.out]⟩
              case measure => simp [intOf]; omega
            · have HT : Hid (Mk.inner zs ((m + 1 : Nat) : Int) (k + 1) (2 * y, l0) = (z, l)) := hmiss e
              have eb : (q == (m : Int) + 1) = false := by rw [beq_eq_false_iff_ne]; intro g; apply e; rw [g]; omega
              clear hhit hmiss e hzl hset
              go_wp2_with fail
              go_roundw
              case rel => exact ⟨k + 1, z, l, by omega, by go_num, HT.out.symm, rfl, rfl⟩
              case measure => simp [intOf]; omega
        · have hk' : k = zs.length := by have := HN.out; omega
          rw [hk'] at hzl
          have HZ : Hid ((z, l) = Mk.outer zs (m + 1)) := by show _ = _; rw [HO.out, ← hzl]
          clear hzl hk' hol hil
          go_wp2_with fail
          go_roundw
          case rel => exact ⟨m + 1, z, by omega, by go_num, by rw [← HZ.out], rfl, by rw [← HZ.out]⟩
          case measure => simp [intOf]; omega
    · have hm' : m = 15 := by omega
      subst hm'
      clear hy
      go_wp2_with fail
      go_ret
      exact ⟨rfl, rfl⟩
set_option maxHeartbeats 1000000 in
theorem implMake_yes (a : Option Addr) (cap n : Nat) (zs : List Int) (w : World) (h : Ints w a zs) (hn : zs.length = n) (hl : n ≤ 300) (hok : Cd.okB zs = true) :
    Calls Try.prog 80 #[.slice a n cap] w fun e w' => e = .returned (.slice (some ⟨w.heap.size, 0, none⟩) n n) ∧ w' = w.alloc (.cells (arr (Mk.mk zs)) 3) := by
  have hmk := fun w => make_arr zs n hn (by omega) w
  have HI : Hid (Ints w a zs) := h
  have HN : Hid (zs.length = n) := hn
  have HB : Hid (∀ m, m ≤ 15 → (Mk.outer zs m).1 ≤ 9830400) := Mk.outer_bound zs (by omega)
  have hzg : n ≤ zs.length := by omega
  have HC : Hid (Calls Try.prog 120 #[.slice a n cap] w fun e w' => e = .returned (.bool true) ∧ w' = w) := by
    have := impl_codeOk a cap n zs w h hn (by omega); rw [hok] at this; exact this
  clear h hn hok
  go_enter Try.func80, Try.ntmps80
  go_wp2_with fail
  refine HC.out.mono ?_
  rintro e w0 ⟨rfl, hw0⟩
  subst hw0
  clear HC
  go_wp2_with fail
  go_loopw [4, 5] (fun x i wr => ∃ m y : Nat, m ≤ 15 ∧ i = .int .i64 ((m : Int) + 1) ∧ y = (Mk.outer zs m).1 ∧ x = .int .i64 (y : Int) ∧ wr = w0.alloc (.cells (arr (Mk.outer zs m).2) 3)) (fun _ i _ => 16 - (intOf i).toNat)
  case atStart => exact ⟨0, 0, by omega, rfl, rfl, rfl, rfl⟩
  case round =>
    obtain ⟨m, y, hm, rfl, hy, rfl, rfl⟩ := hrel
    clear hmk
    by_cases hlt : m < 15
    · have hyb : y ≤ 9830400 := by rw [hy]; exact HB.out m hm
      have HO : Hid (Mk.outer zs (m + 1) = Mk.inner zs ((m + 1 : Nat) : Int) zs.length (2 * (Mk.outer zs m).1, (Mk.outer zs m).2)) := rfl
      rw [← hy] at HO
      have hol := Mk.outer_len zs m
      clear hy
      generalize (Mk.outer zs m).2 = l0 at *
      go_wp2_with fail
      go_loopw [4, 21] (fun x i wr => ∃ (k z : Nat) (l : List Int), k ≤ n ∧ i = .int .i64 k ∧ (z, l) = Mk.inner zs ((m + 1 : Nat) : Int) k (2 * y, l0) ∧ x = .int .i64 (z : Int) ∧ wr = w0.alloc (.cells (arr l) 3)) (fun _ i _ => n - (intOf i).toNat)
      case atStart => exact ⟨0, 2 * y, l0, Nat.zero_le _, rfl, rfl, by go_num, rfl⟩
      case round =>
        obtain ⟨k, z, l, hk, rfl, hzl, rfl, rfl⟩ := hrel
        have hin := Mk.inner_le zs ((m + 1 : Nat) : Int) (2 * y, l0) k
        have hil := Mk.inner_len zs ((m + 1 : Nat) : Int) (2 * y, l0) k
        rw [← hzl] at hin hil
        simp only at hin hil
        by_cases hltk : k < n
        · have hkz : k < zs.length := by omega
          have hkl : k < l.length := by omega
          rcases HI.out with h | ⟨b, off, rfl, hbB, hc⟩
          · rw [h] at hkz; simp at hkz
          · have hck := (World.cell?_alloc_past (.cells (arr l) 3) b (off + k) hbB).trans (hc k hkz)
            have hki : (k : Int) < (n : Int) := by omega
            have hgd : zs.getD k 0 = zs[k] := by rw [List.getD_eq_getElem?_getD, List.getElem?_eq_getElem hkz]; rfl
            have hhit := Mk.inner_hit zs ((m + 1 : Nat) : Int) k (2 * y, l0)
            have hmiss := Mk.inner_miss zs ((m + 1 : Nat) : Int) k (2 * y, l0)
            rw [hgd, ← hzl] at hhit hmiss
            have hset := arr_set l k (z : Int)
            have hgl := arr_get l k hkl
            clear hc hgd hol hil
            generalize zs[k] = q at *
            by_cases e : q = ((m + 1 : Nat) : Int)
            · have HT : Hid (Mk.inner zs ((m + 1 : Nat) : Int) (k + 1) (2 * y, l0) = (z + 1, l.set k (z : Int))) := hhit e
              have eb : (q == (m : Int) + 1) = true := by rw [beq_iff_eq, e]; omega
              have HS : Hid ((arr l).setIfInBounds k (.int .i64 (z : Int)) = arr (l.set k (z : Int))) := hset
              clear hhit hmiss e hzl hset
              generalize l[k] = lk at *
              generalize arr l = A at *
              go_wp2_with fail
              go_roundw
              case rel => exact ⟨k + 1, z + 1, l.set k (z : Int), by omega, by go_num, HT.out.symm, by go_num, by rw [HS.out]⟩
              case measure => simp [intOf]; omega
            · have HT : Hid (Mk.inner zs ((m + 1 : Nat) : Int) (k + 1) (2 * y, l0) = (z, l)) := hmiss e
              have eb : (q == (m : Int) + 1) = false := by rw [beq_eq_false_iff_ne]; intro g; apply e; rw [g]; omega
              clear hhit hmiss e hzl hset
              go_wp2_with fail
              go_roundw
              case rel => exact ⟨k + 1, z, l, by omega, by go_num, HT.out.symm, rfl, rfl⟩
              case measure => simp [intOf]; omega
        · have hk' : k = zs.length := by have := HN.out; omega
          rw [hk'] at hzl
          have HZ : Hid ((z, l) = Mk.outer zs (m + 1)) := by show _ = _; rw [HO.out, ← hzl]
          clear hzl hk' hol hil
          go_wp2_with fail
          go_roundw
          case rel => exact ⟨m + 1, z, by omega, by go_num, by rw [← HZ.out], rfl, by rw [← HZ.out]⟩
          case measure => simp [intOf]; omega
    · have hm' : m = 15 := by omega
      subst hm'
      clear hy
      go_wp2_with fail
      go_ret
      exact ⟨rfl, rfl⟩

/-- the numbers of a code; nothing, if it is none -/
def mkB (zs : List Int) : List Int := if Cd.okB zs = true then Mk.mk zs else []
theorem mkB_yes {zs : List Int} (h : Cd.okB zs = true) : mkB zs = Mk.mk zs := by unfold mkB; rw [if_pos h]
theorem mkB_no {zs : List Int} (h : Cd.okB zs = false) : mkB zs = [] := by unfold mkB; rw [h]; rfl

theorem okB_len' {zs : List Int} (h : Cd.okB zs = true) : zs.length ≤ 300 := by
  unfold Cd.okB at h
  simp only [Bool.and_eq_true, decide_eq_true_eq] at h
  exact h.1

set_option maxHeartbeats 400000 in
theorem impl_codeMake (a : Option Addr) (cap n : Nat) (zs : List Int) (w : World) (h : Ints w a zs) (hn : zs.length = n) (hl : n ≤ 1048576) :
    Calls Try.prog 80 #[.slice a n cap] w fun e w' => (∃ x c, e = .returned (.slice x (mkB zs).length c) ∧ Owns w' w.heap.size x (mkB zs)) ∧ Below w.heap.size w w' := by
  cases hy : Cd.okB zs
  · have HC : Hid (Calls Try.prog 120 #[.slice a n cap] w fun e w' => e = .returned (.bool false) ∧ w' = w) := by
      have := impl_codeOk a cap n zs w h hn hl; rw [hy] at this; exact this
    rw [mkB_no hy]
    clear h hn hy
    go_enter Try.func80, Try.ntmps80
    go_wp2_with fail
    refine HC.out.mono ?_
    rintro e w0 ⟨rfl, hw0⟩
    subst hw0
    go_wp2_with fail
    go_ret
    exact ⟨⟨none, 0, rfl, .inl rfl⟩, Below.refl _ _⟩
  · have h3 := okB_len' hy
    rw [mkB_yes hy]
    refine (implMake_yes a cap n zs w h hn (by omega) hy).mono ?_
    rintro e w' ⟨rfl, rfl⟩
    exact ⟨⟨_, n, by rw [Mk.mk_len, hn], owns_arr w _⟩, (Below.refl _ _).alloc (Nat.le_refl _) _⟩
end Go.Proofs.Ythfdnloeicbgkaa

/- The numbers of a code are small numbers, none below nought. -/
namespace Go.Proofs.Ythfdnloeicbgkaa
namespace Mk

/-- each is a number from 0 to 9830400 -/
def Small (l : List Int) : Prop := ∀ z ∈ l, 0 ≤ z ∧ z ≤ 9830400

theorem small_set {l : List Int} (h : Small l) (k : Nat) (v : Int) (hv : 0 ≤ v ∧ v ≤ 9830400) : Small (l.set k v) := by
  intro z hz
  rcases List.mem_or_eq_of_mem_set hz with hz | rfl
  · exact h z hz
  · exact hv

theorem small_replicate (n : Nat) : Small (List.replicate n 0) := by
  intro z hz
  rw [List.mem_replicate] at hz
  obtain ⟨_, rfl⟩ := hz
  omega

theorem inner_small (zs : List Int) (n : Int) (s : Nat × List Int) (hs : s.1 + 300 ≤ 9830400) (h : Small s.2) : ∀ k, k ≤ 300 → Small (inner zs n k s).2 := by
  intro k
  induction k with
  | zero => intro _; exact h
  | succ k ih =>
    intro hk
    have hi := ih (by omega)
    have hl := inner_le zs n s k
    by_cases g : zs.getD k 0 = n
    · rw [inner_hit zs n k s g]; exact small_set hi k _ (by omega)
    · rw [inner_miss zs n k s g]; exact hi

theorem outer_small (zs : List Int) (hz : zs.length ≤ 300) : ∀ m, m ≤ 15 → Small (outer zs m).2 := by
  intro m
  induction m with
  | zero => intro _; exact small_replicate _
  | succ m ih =>
    intro hm
    have hb := outer_le zs hz m
    have hp : 2 ^ m ≤ 2 ^ 14 := Nat.pow_le_pow_right (by omega) (by omega)
    have h1 : 2 * (outer zs m).1 + 300 ≤ 9830400 := by omega
    exact inner_small zs ((m + 1 : Nat) : Int) (2 * (outer zs m).1, (outer zs m).2) h1 (ih (by omega)) zs.length hz

theorem mk_small (zs : List Int) (hz : zs.length ≤ 300) : Small (mk zs) := outer_small zs hz 15 (Nat.le_refl _)
end Mk
end Go.Proofs.Ythfdnloeicbgkaa

/- A number of so many bits the other way round: the specification's way, and the program's. -/
namespace Go.Proofs.Ythfdnloeicbgkaa
open Go.RowKit

/-- a number's bits the other way round -/
def turned (n size : Nat) : Nat := Bg.big (fun i => n / 2 ^ i % 2) size
theorem turned_lt (n size : Nat) : turned n size < 2 ^ size := Bg.big_lt _ (fun _ => Nat.mod_lt _ (by omega)) size

set_option maxHeartbeats 400000 in
theorem l3Turn_any (n size : Nat) (w : World) (hn : n ≤ 16777216) (hs : size ≤ 15) :
    Calls Try.prog 113 #[.int .i64 n, .int .i64 size] w fun e w' => e = .returned (.int .i64 (turned n size : Nat)) ∧ w' = w := by
  go_enter Try.func113, Try.ntmps113
  go_wp2_with fail
  go_loop [0, 5, 6] (fun m x i => ∃ k y z : Nat, k ≤ size ∧ i = .int .i64 k ∧ y = turned n k ∧ x = .int .i64 y ∧ z = n / 2 ^ k ∧ m = .int .i64 z) (fun _ _ i => size - (intOf i).toNat)
  case atStart => exact ⟨0, 0, n, Nat.zero_le _, rfl, rfl, rfl, by simp, rfl⟩
  case round =>
    obtain ⟨k, y, z, hk, rfl, hy, rfl, hz, rfl⟩ := hrel
    have hyl := turned_lt n k
    have hp : 2 ^ k ≤ 2 ^ 15 := Nat.pow_le_pow_right (by omega) (by omega)
    have hzl : z ≤ n := by rw [hz]; exact Nat.div_le_self _ _
    rw [← hy] at hyl
    have hyb : y ≤ 32768 := by omega
    have HY : Hid (2 * y + z % 2 = turned n (k + 1)) := by show _ = _; rw [hy, hz]; rfl
    have HZ : Hid (z / 2 = n / 2 ^ (k + 1)) := by show _ = _; rw [hz, Nat.div_div_eq_div_mul, Nat.pow_succ]
    have HX : Hid (y = turned n k) := hy
    clear hy hz hyl hp
    by_cases hlt : k < size
    · go_wp2_with fail
      go_round
      case rel => exact ⟨k + 1, 2 * y + z % 2, z / 2, by omega, by go_num, HY.out, by go_num, HZ.out, by go_num⟩
      case measure => simp [intOf]; omega
    · have hk' : k = size := by omega
      subst hk'
      go_wp2_with fail
      go_ret
      exact ⟨ret_int (by rw [HX.out]), rfl⟩

end Go.Proofs.Ythfdnloeicbgkaa

/- Symbols as bits: the mathematics. -/
namespace Go.Proofs.Ythfdnloeicbgkaa
namespace Cp

/-- the bits of a symbol -/
def bit (ls : List Int) (s : Nat) : Int × Int := (((turned ((Mk.mk ls).getD s 0).toNat (ls.getD s 0).toNat : Nat) : Int), ls.getD s 0)
/-- those of all symbols -/
def all (ls : List Int) : List (Int × Int) := (List.range ls.length).map (bit ls)
theorem all_len (ls : List Int) : (all ls).length = ls.length := by simp [all]
/-- symbols that a code has -/
def Good (ls : List Int) (z : Int) : Prop := 0 ≤ z ∧ z < (ls.length : Int) ∧ ls.getD z.toNat 0 ≠ 0
def Ok (zs ls : List Int) : Prop := Cd.okB ls = true ∧ zs.length ≤ 9000 ∧ ∀ z ∈ zs, Good ls z
open Classical in
noncomputable def put (zs ls : List Int) : List (Int × Int) := if Ok zs ls then zs.map (fun z => bit ls z.toNat) else []
/-- what a code's length and number are -/
theorem parts {ls : List Int} (h : Cd.okB ls = true) (s : Nat) (hs : s < ls.length) : ∃ V S : Nat, (Mk.mk ls).getD s 0 = (V : Int) ∧ ls.getD s 0 = (S : Int) ∧ V ≤ 9830400 ∧ S ≤ 15 := by
  have hl : ls.length ≤ 300 := by
    unfold Cd.okB at h; simp only [Bool.and_eq_true, decide_eq_true_eq] at h; exact h.1
  have hv : Cd.valid ls = true := by
    unfold Cd.okB at h; simp only [Bool.and_eq_true, decide_eq_true_eq] at h; exact h.2.1
  have hm : s < (Mk.mk ls).length := by rw [Mk.mk_len]; exact hs
  have e1 : (Mk.mk ls).getD s 0 = (Mk.mk ls)[s] := by rw [List.getD_eq_getElem?_getD, List.getElem?_eq_getElem hm]; rfl
  have e2 : ls.getD s 0 = ls[s] := by rw [List.getD_eq_getElem?_getD, List.getElem?_eq_getElem hs]; rfl
  have h1 := Mk.mk_small ls hl _ (List.getElem_mem hm)
  have h2 : Cd.okLen ls[s] = true := by
    unfold Cd.valid at hv; exact List.all_eq_true.1 hv _ (List.getElem_mem hs)
  unfold Cd.okLen at h2
  simp only [Bool.and_eq_true, decide_eq_true_eq] at h2
  obtain ⟨V, hV⟩ := Int.eq_ofNat_of_zero_le h1.1
  obtain ⟨S, hS⟩ := Int.eq_ofNat_of_zero_le h2.1
  exact ⟨V, S, by rw [e1, hV], by rw [e2, hS], by omega, by omega⟩
theorem bit_of {ls : List Int} {s V S : Nat} (hV : (Mk.mk ls).getD s 0 = (V : Int)) (hS : ls.getD s 0 = (S : Int)) : bit ls s = (((turned V S : Nat) : Int), (S : Int)) := by
  unfold bit; rw [hV, hS, Int.toNat_natCast, Int.toNat_natCast]
end Cp
end Go.Proofs.Ythfdnloeicbgkaa

/- The program makes the tree of a code, and goes down in it. -/
namespace Go.Proofs.Ythfdnloeicbgkaa
open Go.RowKit

/-- a code that is ok -/
structure GoodC (zs : List Int) : Prop where
  ok : Cd.okB zs = true
  len : zs.length ≤ 300
  le : ∀ i, i < zs.length → 0 ≤ zs.getD i 0 ∧ zs.getD i 0 ≤ 15
  num : ∀ i, i < zs.length → 0 ≤ (Mk.mk zs).getD i 0
  taken : Cd.taken zs ≤ 32768
theorem goodC {zs : List Int} (h : Cd.okB zs = true) : GoodC zs := by
  have h' := h
  unfold Cd.okB at h'
  simp only [Bool.and_eq_true, decide_eq_true_eq] at h'
  have hl := h'.1
  refine ⟨h, hl, fun i hi => ?_, fun i hi => ?_, h'.2.2⟩
  · obtain ⟨_, S, _, h2, _, h4⟩ := Cp.parts h i hi
    rw [h2]; omega
  · obtain ⟨V, _, h1, _, _, _⟩ := Cp.parts h i hi
    rw [h1]; omega

/-- how numberTree ends -/
def Treed (w : World) (zs : List Int) (e : Ending) (w' : World) : Prop :=
  e = .returned (.pointer (some ⟨w.heap.size, 0, none⟩)) ∧ (∃ N, Tri w' w.heap.size N (Gt.S zs zs.length) ∧ N 0 0 = some w.heap.size) ∧ Below w.heap.size w w'

set_option maxHeartbeats 2000000 in
set_option maxRecDepth 20000 in
theorem numberTree_any (a : Option Addr) (cap n : Nat) (zs : List Int) (w : World) (h : Ints w a zs) (hn : zs.length = n) (hg : GoodC zs) :
    Calls Try.prog 101 #[.slice a n cap] w (Treed w zs) := by
  have hl := hg.len
  have HG : Hid (GoodC zs) := hg
  have HN : Hid (zs.length = n) := hn
  have HI : Hid (Ints w a zs) := h
  obtain ⟨W1, hW1⟩ : ∃ W1, W1 = w.alloc (.cells #[.int .i64 (-1), .pointer none, .pointer none, .int .i64 0, .int .i64 0] 161) := ⟨_, rfl⟩
  have hW1' : w.alloc (.cells #[.int .i64 (-1), .pointer none, .pointer none, .int .i64 0, .int .i64 0] 161) = W1 := hW1.symm
  have HT1 : Hid (Tri W1 w.heap.size (fun d v => if d = 0 ∧ v = 0 then some w.heap.size else none) (fun _ _ => -1)) := by rw [hW1]; exact tri_new w
  have HB1 : Hid (Below w.heap.size w W1) := by rw [hW1]; exact (Below.refl _ _).alloc (Nat.le_refl _) _
  have hz1 : w.heap.size < W1.heap.size := by rw [hW1]; simp
  have HC : Hid (Calls Try.prog 80 #[.slice a n cap] W1 fun e w' => (∃ x c, e = .returned (.slice x n c) ∧ Owns w' W1.heap.size x (Mk.mk zs)) ∧ Below W1.heap.size W1 w') := by
    have := impl_codeMake a cap n zs W1 (h.kept HB1.out) hn (by omega)
    rw [mkB_yes hg.ok, Mk.mk_len, hn] at this
    exact this
  clear h hn hg hW1
  go_enter Try.func101, Try.ntmps101
  go_wp2_with fail
  refine HC.out.mono ?_
  rintro e w2 ⟨⟨x, c, rfl, hO⟩, b2⟩
  have HO : Hid (Owns w2 W1.heap.size x (Mk.mk zs)) := hO
  have HT2 : Hid (Tri w2 w.heap.size (fun d v => if d = 0 ∧ v = 0 then some w.heap.size else none) (fun _ _ => -1)) := HT1.out.same (fun k hk _ => b2.block k hk)
  have HB2 : Hid (Below w.heap.size w w2) := HB1.out.trans (b2.mono (Nat.le_of_lt hz1))
  have hz2 : w.heap.size < w2.heap.size := Nat.lt_of_lt_of_le hz1 b2.size
  obtain ⟨cb, hcb, hx, hcells⟩ : ∃ cb, (w.heap.size < cb ∧ cb < w2.heap.size ∨ n = 0 ∧ cb = w2.heap.size) ∧ (0 < n → x = some ⟨cb, 0, none⟩) ∧ ∀ i (hi : i < (Mk.mk zs).length), w2.cell? ⟨cb, i, none⟩ = some (.int .i64 (Mk.mk zs)[i]) := by
    rcases hO with e | ⟨b, e1, e2, e3, e4⟩
    · have h0 : n = 0 := by rw [← HN.out, ← Mk.mk_len zs, e]; rfl
      exact ⟨w2.heap.size, .inr ⟨h0, rfl⟩, fun q => by omega, fun i hi => by rw [e] at hi; simp at hi⟩
    · exact ⟨b, .inl ⟨by omega, e3⟩, fun _ => e1, fun i hi => (e4 i hi).1⟩
  have HCL : Hid (∀ i (hi : i < (Mk.mk zs).length), w2.cell? ⟨cb, i, none⟩ = some (.int .i64 (Mk.mk zs)[i])) := hcells
  clear hO b2 HT1 HB1 HC hW1' hcells hz1 HO
  go_wp2_with fail
  go_loopw [11] (fun i wr => ∃ k : Nat, k ≤ n ∧ i = .int .i64 (k : Int) ∧ Hid ((∃ N, Tri wr w.heap.size N (Gt.S zs k) ∧ N 0 0 = some w.heap.size ∧ ∀ d v, N d v ≠ some cb) ∧ Below w.heap.size w wr ∧ wr.heap[cb]? = w2.heap[cb]? ∧ w2.heap.size ≤ wr.heap.size)) (fun i _ => n - (intOf i).toNat)
  case atStart =>
    refine ⟨0, Nat.zero_le _, rfl, ⟨_, HT2.out, by simp, fun d v => ?_⟩, HB2.out, rfl, Nat.le_refl _⟩
    split
    · intro e; cases e; omega
    · intro e; cases e
  case round =>
    obtain ⟨k, hk, rfl, HP⟩ := hrel
    clear HT2 HB2
    by_cases hlt : k < n
    · have hki : (k : Int) < (n : Int) := by omega
      have hkl : k < zs.length := by rw [HN.out]; exact hlt
      obtain rfl := hx (by omega)
      have hcb2 : cb < w2.heap.size := by omega
      have hkm : k < (Mk.mk zs).length := by rw [Mk.mk_len]; exact hkl
      obtain ⟨V, L, hV, hL, _, hL15⟩ := Cp.parts HG.out.ok k hkl
      have hcc : wr.cell? ⟨cb, k, none⟩ = some (.int .i64 (V : Int)) := by
        rw [World.cell?_of_block (w := w2) (a := ⟨cb, k, none⟩) HP.out.2.2.1, HCL.out k hkm]
        rw [List.getD_eq_getElem?_getD, List.getElem?_eq_getElem hkm] at hV
        rw [← hV]; rfl
      obtain ⟨ab, ao, rfl, hab, hac⟩ : ∃ ab ao, a = some ⟨ab, ao, none⟩ ∧ ab < w.heap.size ∧ w.cell? ⟨ab, ao + k, none⟩ = some (.int .i64 (L : Int)) := by
        rcases HI.out with e | ⟨b, off, e1, e2, e3⟩
        · rw [e] at hkl; simp at hkl
        · refine ⟨b, off, e1, e2, ?_⟩
          rw [e3 k hkl]
          rw [List.getD_eq_getElem?_getD, List.getElem?_eq_getElem hkl] at hL
          rw [← hL]; rfl
      have hac2 : wr.cell? ⟨ab, ao + k, none⟩ = some (.int .i64 (L : Int)) := (HP.out.2.1.cell (p := ⟨ab, ao + k, none⟩) hab).trans hac
      obtain ⟨⟨N, hT, hN0, hNc⟩, hbel, hsame, hsz⟩ := HP.out
      by_cases hpos : 0 < L
      · have hpi : (0 : Int) < (L : Int) := by omega
        have hS : Mk.Sym zs k L V := ⟨hkl, hL, hpos, hL15, hV⟩
        have HPL : Hid (Calls Try.prog 131 #[.pointer (some ⟨w.heap.size, 0, none⟩), .int .i64 (k : Int), .int .i64 (V : Int), .int .i64 (L : Int)] wr (Planted wr w.heap.size w.heap.size N (Gt.S zs k) L V (k : Int))) := plant_any w.heap.size w.heap.size V L (k : Int) N (Gt.S zs k) wr hT hN0 hL15 (hS.bits HG.out.taken)
        have HSS : Hid (Gt.upd (Gt.S zs k) L V (k : Int) = Gt.S zs (k + 1)) := by
          show _ = _
          conv => rhs; unfold Gt.S
          rw [hL, if_pos (by omega), hV, Int.toNat_natCast, Int.toNat_natCast]
        have HNC : Hid (∀ d v, N d v ≠ some cb) := hNc
        have HBL : Hid (Below w.heap.size w wr) := hbel
        have HSM : Hid (wr.heap[cb]? = w2.heap[cb]?) := hsame
        clear hT hN0 hNc hbel hsame HP hac hS hV hL
        go_wp2_with fail
        refine HPL.out.mono ?_
        rintro e w3 ⟨rfl, ⟨N', hT', hN0', hN'⟩, hb3, hfr⟩
        have H3 : Hid ((∃ N, Tri w3 w.heap.size N (Gt.S zs (k + 1)) ∧ N 0 0 = some w.heap.size ∧ ∀ d v, N d v ≠ some cb) ∧ Below w.heap.size w w3 ∧ w3.heap[cb]? = w2.heap[cb]? ∧ w2.heap.size ≤ w3.heap.size) := by
          refine ⟨⟨N', by rw [← HSS.out]; exact hT', hN0', fun d v e => ?_⟩, HBL.out.trans hb3, (hfr cb (by omega) HNC.out).trans HSM.out, Nat.le_trans hsz hb3.size⟩
          rcases hN' d v cb e with h1 | h1
          · exact HNC.out d v h1
          · omega
        clear hT' hN0' hN' hb3 hfr HPL HBL HSM HNC HSS hcc hac2
        go_wp2_with fail
        go_roundw
        case rel => exact ⟨k + 1, by omega, by go_num, H3⟩
        case measure => simp [intOf]; omega
      · have hpi : ¬ (0 : Int) < (L : Int) := by omega
        have HSS : Hid (Gt.S zs k = Gt.S zs (k + 1)) := by
          show _ = _
          conv => rhs; unfold Gt.S
          rw [hL, if_neg (by omega)]
        have H3 : Hid ((∃ N, Tri wr w.heap.size N (Gt.S zs (k + 1)) ∧ N 0 0 = some w.heap.size ∧ ∀ d v, N d v ≠ some cb) ∧ Below w.heap.size w wr ∧ wr.heap[cb]? = w2.heap[cb]? ∧ w2.heap.size ≤ wr.heap.size) := by
          refine ⟨⟨N, by rw [← HSS.out]; exact hT, hN0, hNc⟩, hbel, hsame, hsz⟩
        clear hT hN0 hNc hbel hsame HP hac hV hL
        go_wp2_with fail
        go_roundw
        case rel => exact ⟨k + 1, by omega, by go_num, H3⟩
        case measure => simp [intOf]; omega
    · have hki : ¬ (k : Int) < (n : Int) := by omega
      obtain rfl : k = n := by omega
      have HF : Hid (Treed w zs (.returned (.pointer (some ⟨w.heap.size, 0, none⟩))) wr) := by
        obtain ⟨⟨N, hT, hN0, _⟩, hbel, _, _⟩ := HP.out
        exact ⟨rfl, ⟨N, by rw [HN.out]; exact hT, hN0⟩, hbel⟩
      clear HP
      go_wp2_with fail
      go_ret
      exact HF.out
end Go.Proofs.Ythfdnloeicbgkaa

/- Some bits, and some more behind, are all of them at once. -/
namespace Go.Proofs.Ythfdnloeicbgkaa
namespace Bg

theorem big_add (b : Nat → Nat) (k : Nat) : ∀ m, big b (k + m) = big b k * 2 ^ m + big (fun i => b (k + i)) m := by
  intro m
  induction m with
  | zero => simp [big]
  | succ m ih =>
    show 2 * big b (k + m) + b (k + m) = _
    rw [ih, Nat.pow_succ, ← Nat.mul_assoc]
    show _ = _ + (2 * big (fun i => b (k + i)) m + b (k + m))
    omega

theorem num_lt (b : Nat → Nat) (hb : ∀ i, b i < 2) (k : Nat) (hi : Bool) : num b k hi < 2 ^ k := by
  cases hi
  · exact low_lt b hb k
  · exact big_lt b hb k
end Bg
end Go.Proofs.Ythfdnloeicbgkaa

/- What is read is a symbol's number, turned (mathematics). -/
namespace Go.Proofs.Ythfdnloeicbgkaa
namespace Gt

theorem S_some {zs : List Int} (hg : GoodC zs) {d v : Nat} (h : 0 ≤ S zs zs.length d v) : Mk.Sym zs (S zs zs.length d v).toNat d v := by
  by_cases he : ∃ i, i < zs.length ∧ Mk.Sym zs i d v
  · obtain ⟨i, hi, hs⟩ := he
    rw [S_hit (Nat.le_refl _) (fun i hi => (hg.le i hi).2) hg.num hi hs, Int.toNat_natCast]
    exact hs
  · rw [S_miss (Nat.le_refl _) (fun i hi => (hg.le i hi).2) hg.num (fun i hi hs => he ⟨i, hi, hs⟩)] at h
    omega

theorem go_some {zs : List Int} (hg : GoodC zs) (bit : Nat → Nat) : ∀ {m d v p i q : Nat}, go (S zs zs.length) bit m d v p = some (i, q) → ∃ k, q = p + k ∧ 1 ≤ k ∧ k ≤ m ∧ Mk.Sym zs i (d + k) (v * 2 ^ k + Bg.big (fun j => bit (p + j)) k)
  | 0, _, _, _, _, _, h => by cases h
  | m + 1, d, v, p, i, q, h => by
    unfold go at h
    split at h
    · next hs =>
      have h1 := S_some hg hs
      injection h with h
      injection h with h2 h3
      rw [h2] at h1
      refine ⟨1, h3.symm, by omega, by omega, ?_⟩
      have e : v * 2 ^ 1 + Bg.big (fun j => bit (p + j)) 1 = 2 * v + bit p := by simp [Bg.big]; omega
      rw [e]; exact h1
    · obtain ⟨k, h1, h2, h3, h4⟩ := go_some hg bit h
      refine ⟨1 + k, by omega, by omega, by omega, ?_⟩
      have e : v * 2 ^ (1 + k) + Bg.big (fun j => bit (p + j)) (1 + k) = (2 * v + bit p) * 2 ^ k + Bg.big (fun j => bit (p + 1 + j)) k := by
        rw [Bg.big_add, Nat.pow_add, Nat.add_mul]
        have e1 : Bg.big (fun j => bit (p + j)) 1 = bit p := by simp [Bg.big]
        have e2 : (fun i => bit (p + (1 + i))) = fun j => bit (p + 1 + j) := by funext j; rw [Nat.add_assoc]
        rw [e1, e2, Nat.pow_one, ← Nat.mul_assoc, Nat.mul_comm v 2]
        omega
      rw [e, show d + (1 + k) = d + 1 + k by omega]; exact h4

theorem turned_big (b : Nat → Nat) (hb : ∀ i, b i < 2) : ∀ k, turned (Bg.big b k) k = Bg.low b k
  | 0 => rfl
  | k + 1 => by
    have ih := turned_big b hb k
    unfold turned at ih ⊢
    rw [show k + 1 = 1 + k by omega, Bg.big_add]
    have hk := hb k
    have e1 : Bg.big (fun i => Bg.big b (1 + k) / 2 ^ i % 2) 1 = b k := by
      rw [show 1 + k = k + 1 by omega]; simp [Bg.big]; omega
    have e2 : (fun i => Bg.big b (1 + k) / 2 ^ (1 + i) % 2) = fun i => Bg.big b k / 2 ^ i % 2 := by
      funext i
      rw [Nat.pow_add, ← Nat.div_div_eq_div_mul, show 1 + k = k + 1 by omega]
      congr 2
      simp only [Bg.big, Nat.pow_one]; omega
    rw [e1, e2, ih, show 1 + k = k + 1 by omega]
    simp only [Bg.low]; omega

/-- what is read: a symbol, its bits and its number -/
theorem get_some {zs : List Int} (hg : GoodC zs) {bit : Nat → Nat} (hb : ∀ i, bit i < 2) {M A i q : Nat} (h : get zs bit M A = some (i, q)) : ∃ L V, Mk.Sym zs i L V ∧ q = A + L ∧ A + L ≤ M ∧ turned V L = Bg.low (fun j => bit (A + j)) L := by
  unfold get at h
  obtain ⟨k, h1, h2, h3, h4⟩ := go_some hg bit h
  refine ⟨k, _, by rw [Nat.zero_add] at h4; exact h4, h1, by omega, ?_⟩
  rw [Nat.zero_mul, Nat.zero_add]
  exact turned_big _ (fun j => hb _) k
end Gt
end Go.Proofs.Ythfdnloeicbgkaa

/- Symbols of sizes and of distances (mathematics). -/
namespace Go.Proofs.Ythfdnloeicbgkaa
namespace Df
/-- the least size that a symbol tells, and its further bits -/
def szN (n : Nat) : Nat × Nat := if n = 28 then (258, 0) else if n < 8 then (3 + n, 0) else (3 + (4 + n % 4) * 2 ^ (n / 4 - 1), n / 4 - 1)
/-- the least distance that a symbol tells, and its further bits -/
def dsN (s : Nat) : Nat × Nat := if s < 4 then (1 + s, 0) else (1 + (2 + s % 2) * 2 ^ (s / 2 - 1), s / 2 - 1)
/-- the greatest number, so much at most, of which f is not above x -/
def down (f : Nat → Nat) (x : Nat) : Nat → Nat
  | 0 => 0
  | k + 1 => if f (k + 1) ≤ x then k + 1 else down f x k
theorem down_le (f : Nat → Nat) (x : Nat) : ∀ k, down f x k ≤ k
  | 0 => Nat.le_refl _
  | k + 1 => by
    unfold down
    split
    · exact Nat.le_refl _
    · exact Nat.le_succ_of_le (down_le f x k)
theorem down_is {f : Nat → Nat} {x : Nat} (h0 : f 0 ≤ x) : ∀ k, f (down f x k) ≤ x
  | 0 => h0
  | k + 1 => by
    unfold down
    split
    · assumption
    · exact down_is h0 k
theorem down_yes {f : Nat → Nat} {x k : Nat} (h0 : f k ≤ x) : down f x k = k := by
  cases k with
  | zero => rfl
  | succ k => unfold down; rw [if_pos h0]
theorem down_no {f : Nat → Nat} {x k : Nat} (h : ¬ f (k + 1) ≤ x) : down f x (k + 1) = down f x k := by
  show (if f (k + 1) ≤ x then k + 1 else down f x k) = _
  rw [if_neg h]
def szSym (x : Nat) : Nat := down (fun k => (szN k).1) x 28
def dsSym (x : Nat) : Nat := down (fun k => (dsN k).1) x 29
theorem szN_all : ∀ k, k < 29 → 3 ≤ (szN k).1 ∧ (szN k).1 ≤ 258 ∧ (szN k).2 ≤ 5 := by decide +kernel
theorem dsN_all : ∀ k, k < 30 → 1 ≤ (dsN k).1 ∧ (dsN k).1 ≤ 24577 ∧ (dsN k).2 ≤ 13 := by decide +kernel
theorem szSym_lt (x : Nat) : szSym x < 29 := Nat.lt_succ_of_le (down_le _ _ _)
theorem dsSym_lt (x : Nat) : dsSym x < 30 := Nat.lt_succ_of_le (down_le _ _ _)
/-- the further bits of a size, and of a distance -/
def szBit (x : Nat) : Int × Int := (((x - (szN (szSym x)).1 : Nat) : Int), (((szN (szSym x)).2 : Nat) : Int))
def dsBit (x : Nat) : Int × Int := (((x - (dsN (dsSym x)).1 : Nat) : Int), (((dsN (dsSym x)).2 : Nat) : Int))
theorem szBit_all : ∀ x, x < 259 → 3 ≤ x → (szN (szSym x)).1 ≤ x ∧ x - (szN (szSym x)).1 < 2 ^ (szN (szSym x)).2 := by decide +kernel
end Df
end Go.Proofs.Ythfdnloeicbgkaa

/- A list of tokens (three numbers each) in memory. -/
namespace Go.Proofs.Ythfdnloeicbgkaa
open Go.RowKit

abbrev Tk := Int × Int × Int
/-- the slice's cells read as the list: three cells an element -/
def Toks (w : World) (a : Option Addr) (l : List Tk) : Prop :=
  l = [] ∨ ∃ b off, a = some ⟨b, off, none⟩ ∧ b < w.heap.size ∧ ∀ i (h : i < l.length), w.cell? ⟨b, off + i * 3, none⟩ = some (.int .i64 (l[i]).1) ∧ w.cell? ⟨b, off + i * 3 + 1, none⟩ = some (.int .i64 (l[i]).2.1) ∧ w.cell? ⟨b, off + i * 3 + 2, none⟩ = some (.int .i64 (l[i]).2.2)

theorem Toks.kept {w w' : World} {a : Option Addr} {l : List Tk} (h : Toks w a l) (hb : Below w.heap.size w w') : Toks w' a l := by
  rcases h with h | ⟨b, off, rfl, hbB, hc⟩
  · exact .inl h
  · exact .inr ⟨b, off, rfl, Nat.lt_of_lt_of_le hbB hb.size, fun i hi => ⟨(hb.cell (p := ⟨b, off + i * 3, none⟩) hbB).trans (hc i hi).1, (hb.cell (p := ⟨b, off + i * 3 + 1, none⟩) hbB).trans (hc i hi).2.1, (hb.cell (p := ⟨b, off + i * 3 + 2, none⟩) hbB).trans (hc i hi).2.2⟩⟩

theorem Toks.at {w : World} {a : Option Addr} {l : List Tk} (h : Toks w a l) {i : Nat} (hi : i < l.length) :
    ∃ b off, a = some ⟨b, off, none⟩ ∧ b < w.heap.size ∧ w.cell? ⟨b, off + i * 3, none⟩ = some (.int .i64 (l[i]).1) ∧ w.cell? ⟨b, off + i * 3 + 1, none⟩ = some (.int .i64 (l[i]).2.1) ∧ w.cell? ⟨b, off + i * 3 + 2, none⟩ = some (.int .i64 (l[i]).2.2) := by
  rcases h with h | ⟨b, off, rfl, hbB, hc⟩
  · rw [h] at hi; simp at hi
  · exact ⟨b, off, rfl, hbB, hc i hi⟩
end Go.Proofs.Ythfdnloeicbgkaa

/- What tokens make (mathematics). -/
namespace Go.Proofs.Ythfdnloeicbgkaa
namespace To

def okTok (p : Tk) (n : Nat) : Bool :=
  if p.2.1 = 0 then decide (0 ≤ p.1) && (decide (p.1 ≤ 255) && decide (p.2.2 = 0))
  else decide (p.1 = 0) && (decide (3 ≤ p.2.1) && (decide (p.2.1 ≤ 258) && (decide (1 ≤ p.2.2) && decide (p.2.2 ≤ (n : Int)))))
def again (l : List UInt8) (d : Nat) : Nat → List UInt8
  | 0 => l
  | k + 1 => again l d k ++ [(again l d k).getD ((again l d k).length - d) 0]
theorem again_len (l : List UInt8) (d : Nat) : ∀ k, (again l d k).length = l.length + k
  | 0 => rfl
  | k + 1 => by rw [again, List.length_append, again_len l d k]; rfl
def step (p : Tk) (l : List UInt8) : Option (List UInt8) :=
  if okTok p l.length = true then
    (if p.2.1 = 0 then (if l.length < 5000 then some (l ++ [UInt8.ofNat p.1.toNat]) else none)
     else if l.length + p.2.1.toNat ≤ 5000 then some (again l p.2.2.toNat p.2.1.toNat) else none)
  else none
def get : List Tk → List UInt8 → Option (List UInt8)
  | [], l => some l
  | p :: ts, l => (step p l).bind (get ts)
end To
end Go.Proofs.Ythfdnloeicbgkaa

/- The fixed codes, and the order of the lengths of lengths (mathematics). -/
namespace Go.Proofs.Ythfdnloeicbgkaa
namespace Df
/-- the order in which the lengths of lengths stand -/
def lord : List Nat := [16, 17, 18, 0, 8, 7, 9, 6, 10, 5, 11, 4, 12, 3, 13, 2, 14, 1, 15]
def fixS : List Int := (List.range 288).map (fun i => if i < 144 then 8 else if i < 256 then 9 else if i < 280 then 7 else 8)
def fixD : List Int := List.replicate 32 5
theorem fixS_len : fixS.length = 288 := by unfold fixS; rw [List.length_map, List.length_range]
theorem fixD_len : fixD.length = 32 := List.length_replicate ..
theorem fixS_ok : Cd.okB fixS = true := by decide +kernel
theorem fixD_ok : Cd.okB fixD = true := by decide +kernel
theorem fixS_le (i : Nat) : fixS.getD i 0 ≤ 9 := by
  by_cases h : i < 288
  · unfold fixS
    rw [List.getD_eq_getElem?_getD, List.getElem?_map, List.getElem?_range h]
    show (if i < 144 then (8 : Int) else _) ≤ 9
    split
    · decide
    · split
      · decide
      · split <;> decide
  · rw [List.getD_eq_getElem?_getD, List.getElem?_eq_none (by rw [fixS_len]; omega)]
    decide
theorem fixD_le (i : Nat) : fixD.getD i 0 ≤ 5 := by
  unfold fixD
  rw [List.getD_eq_getElem?_getD, List.getElem?_replicate]
  split <;> decide
end Df
end Go.Proofs.Ythfdnloeicbgkaa

/- What a packed text makes (mathematics). -/
namespace Go.Proofs.Ythfdnloeicbgkaa
namespace Nf

/-- the next bits as a number -/
def num (s : ByteArray) (n p : Nat) : Nat := Bg.low (fun i => bitAt s false (p + i)) n
theorem num_lt (s : ByteArray) (n p : Nat) : num s n p < 2 ^ n := Bg.low_lt _ (fun _ => bitAt_lt _ _ _) n
/-- the next number, if there are so many bits -/
def nxt (s : ByteArray) (n p : Nat) : Except Nat Nat := if p + n ≤ 8 * s.size then .ok (num s n p) else .error 2
/-- the next symbol of a code, and the place behind it -/
def sym (s : ByteArray) (zs : List Int) (p : Nat) : Except Nat (Nat × Nat) :=
  match Gt.get zs (bitAt s false) (8 * s.size) p with
  | some r => .ok r
  | none => .error (if 8 * s.size - p < 15 then 2 else 1)
/-- a size, and the place behind it -/
def size (s : ByteArray) (k p : Nat) : Except Nat (Nat × Nat) :=
  match nxt s (Df.szN k).2 p with
  | .error c => .error c
  | .ok v => .ok ((Df.szN k).1 + v, p + (Df.szN k).2)
/-- a distance, and the place behind it -/
def dist (s : ByteArray) (B : List Int) (p : Nat) : Except Nat (Nat × Nat) :=
  match sym s B p with
  | .error c => .error c
  | .ok (d, q) => if d < 30 then
      (match nxt s (Df.dsN d).2 q with
      | .error c => .error c
      | .ok v => .ok ((Df.dsN d).1 + v, q + (Df.dsN d).2)) else .error 1
/-- what stands so far back comes again -/
def rep (lim : Nat) (out : List UInt8) (n d : Nat) : Except Nat (List UInt8) :=
  if d ≤ out.length then (if out.length + n ≤ lim then .ok (To.again out d n) else .error 3) else .error 1
def isByte (y : Nat) : Bool := decide (y < 256)
def isEnd (y : Nat) : Bool := decide (y = 256)
def isNone (y : Nat) : Bool := decide (286 ≤ y)
def szI (y : Nat) : Nat := y - 257
/-- what a symbol of sizes puts out -/
def copy (s : ByteArray) (lim : Nat) (B : List Int) (k q : Nat) (out : List UInt8) : Except Nat (List UInt8 × Nat) :=
  match size s k q with
  | .error c => .error c
  | .ok (n, q1) => match dist s B q1 with
    | .error c => .error c
    | .ok (d, q2) => match rep lim out n d with
      | .error c => .error c
      | .ok out2 => .ok (out2, q2)
/-- the symbols of a block, told by what reads one and what puts again -/
def bodyG (sy : Nat → Except Nat (Nat × Nat)) (cp : Nat → Nat → List UInt8 → Except Nat (List UInt8 × Nat)) (lim : Nat) : Nat → Nat → List UInt8 → Except Nat (List UInt8 × Nat)
  | 0, _, _ => .error 2
  | f + 1, p, out =>
    match sy p with
    | .error c => .error c
    | .ok (y, q) =>
      if isByte y = true then (if out.length < lim then bodyG sy cp lim f q (out ++ [UInt8.ofNat y]) else .error 3)
      else if isEnd y = true then .ok (out, q)
      else if isNone y = true then .error 1
      else match cp (szI y) q out with
        | .error c => .error c
        | .ok (out2, q2) => bodyG sy cp lim f q2 out2
/-- the symbols of a block -/
def body (s : ByteArray) (lim : Nat) (A B : List Int) : Nat → Nat → List UInt8 → Except Nat (List UInt8 × Nat) := bodyG (sym s A) (copy s lim B) lim
/-- so many bytes as they are -/
def take (s : ByteArray) (lim : Nat) : Nat → Nat → List UInt8 → Except Nat (List UInt8 × Nat)
  | 0, p, out => .ok (out, p)
  | n + 1, p, out =>
    match nxt s 8 p with
    | .error c => .error c
    | .ok v => if out.length < lim then take s lim n (p + 8) (out ++ [UInt8.ofNat v]) else .error 3
/-- a block that is not packed -/
def plain (s : ByteArray) (lim p : Nat) (out : List UInt8) : Except Nat (List UInt8 × Nat) :=
  match nxt s 16 (8 * ((p + 7) / 8)) with
  | .error c => .error c
  | .ok n => match nxt s 16 (8 * ((p + 7) / 8) + 16) with
    | .error c => .error c
    | .ok m => if n + m = 65535 then take s lim n (8 * ((p + 7) / 8) + 32) out else .error 1
/-- the lengths of lengths -/
def lol (s : ByteArray) : Nat → Nat → Nat → List Int → Except Nat (List Int × Nat)
  | 0, _, p, row => .ok (row, p)
  | m + 1, i, p, row =>
    match nxt s 3 p with
    | .error c => .error c
    | .ok v => lol s m (i + 1) (p + 3) (row.set (Df.lord.getD i 0) (v : Int))
/-- a length, how many times it comes, and the place behind -/
def run (s : ByteArray) (zs : List Int) (p : Nat) (l : List Int) : Except Nat ((Int × Nat) × Nat) :=
  match sym s zs p with
  | .error c => .error c
  | .ok (y, q) =>
    if y = 16 then (if l.length = 0 then .error 1 else match nxt s 2 q with
      | .error c => .error c
      | .ok v => .ok ((l.getD (l.length - 1) 0, 3 + v), q + 2))
    else if y = 17 then (match nxt s 3 q with
      | .error c => .error c
      | .ok v => .ok ((0, 3 + v), q + 3))
    else if y = 18 then (match nxt s 7 q with
      | .error c => .error c
      | .ok v => .ok ((0, 11 + v), q + 7))
    else .ok (((y : Int), 1), q)
/-- so many lengths -/
def lens (s : ByteArray) (zs : List Int) (count : Nat) : Nat → Nat → List Int → Except Nat (List Int × Nat)
  | 0, _, _ => .error 2
  | f + 1, p, l =>
    if l.length < count then
      (match run s zs p l with
      | .error c => .error c
      | .ok ((v, t), q) => if l.length + t ≤ count then lens s zs count f q (l ++ List.replicate t v) else .error 1)
    else .ok (l, p)
/-- how many lengths are not 0 -/
def come (zs : List Int) : Nat := zs.countP (fun z => z != 0)
/-- whether a block may have such a code -/
def may (zs : List Int) (none : Bool) : Bool :=
  if come zs = 0 then none else if come zs = 1 then decide (Cd.taken zs = 16384) else decide (Cd.taken zs = 32768)
/-- more rounds than a text has bits -/
def fuel : Nat := 72001
/-- a block with codes of its own -/
def own (s : ByteArray) (lim p : Nat) (out : List UInt8) : Except Nat (List UInt8 × Nat) :=
  match nxt s 5 p with
  | .error c => .error c
  | .ok a => match nxt s 5 (p + 5) with
    | .error c => .error c
    | .ok b => match nxt s 4 (p + 10) with
      | .error c => .error c
      | .ok c => match lol s (c + 4) 0 (p + 14) (List.replicate 19 0) with
        | .error c => .error c
        | .ok (by_, q) =>
          if a + 257 ≤ 286 ∧ b + 1 ≤ 30 ∧ may by_ false = true then
            (match lens s by_ (a + 257 + (b + 1)) 400 q [] with
            | .error c => .error c
            | .ok (l, q2) =>
              if may (l.take (a + 257)) true = true ∧ may (l.drop (a + 257)) true = true ∧ l.getD 256 0 ≠ 0 then body s lim (l.take (a + 257)) (l.drop (a + 257)) fuel q2 out
              else .error 1)
          else .error 1
/-- a block of a kind -/
def block (s : ByteArray) (lim k p : Nat) (out : List UInt8) : Except Nat (List UInt8 × Nat) :=
  if k = 0 then plain s lim p out else if k = 1 then body s lim Df.fixS Df.fixD fuel p out else if k = 2 then own s lim p out else .error 1
/-- all blocks -/
def all (s : ByteArray) (lim : Nat) : Nat → Nat → List UInt8 → List Int → Except Nat ((List UInt8 × Nat) × List Int)
  | 0, _, _, _ => .error 2
  | f + 1, p, out, ks =>
    match nxt s 1 p with
    | .error c => .error c
    | .ok last => match nxt s 2 (p + 1) with
      | .error c => .error c
      | .ok k => match block s lim k (p + 3) out with
        | .error c => .error c
        | .ok (out2, q) => if last = 0 then all s lim f q out2 (ks ++ [(k : Int)]) else .ok ((out2, q), ks ++ [(k : Int)])
/-- what a text makes: the bytes, the place behind, the kinds -/
def inflate (s : ByteArray) (lim : Nat) : Except Nat ((List UInt8 × Nat) × List Int) := all s lim fuel 0 [] []

-- what is known of what is read
theorem nxt_ok {s : ByteArray} {n p v : Nat} (h : nxt s n p = .ok v) : p + n ≤ 8 * s.size ∧ v = num s n p ∧ v < 2 ^ n := by
  unfold nxt at h
  split at h
  · cases h; exact ⟨by assumption, rfl, num_lt _ _ _⟩
  · cases h
theorem nxt_yes {s : ByteArray} {n p : Nat} (h : p + n ≤ 8 * s.size) : nxt s n p = .ok (num s n p) := if_pos h
theorem nxt_no {s : ByteArray} {n p : Nat} (h : ¬ p + n ≤ 8 * s.size) : nxt s n p = .error 2 := if_neg h
theorem sym_some {s : ByteArray} {zs : List Int} {p : Nat} {r : Nat × Nat} (h : Gt.get zs (bitAt s false) (8 * s.size) p = some r) : sym s zs p = .ok r := by unfold sym; rw [h]
theorem sym_short {s : ByteArray} {zs : List Int} {p : Nat} (h : Gt.get zs (bitAt s false) (8 * s.size) p = none) (hp : 8 * s.size - p < 15) : sym s zs p = .error 2 := by unfold sym; rw [h]; simp only [if_pos hp]
theorem sym_bad {s : ByteArray} {zs : List Int} {p : Nat} (h : Gt.get zs (bitAt s false) (8 * s.size) p = none) (hp : ¬ 8 * s.size - p < 15) : sym s zs p = .error 1 := by unfold sym; rw [h]; simp only [if_neg hp]
theorem sym_ok {s : ByteArray} {zs : List Int} {p y q : Nat} (hg : GoodC zs) (h : sym s zs p = .ok (y, q)) : p < q ∧ q ≤ 8 * s.size ∧ y < zs.length := by
  unfold sym at h
  split at h
  · rename_i r hr
    cases h
    obtain ⟨L, V, h1, h2, h3, _⟩ := Gt.get_some hg (fun i => bitAt_lt s false i) hr
    have := Gt.go_lt hr
    exact ⟨this.1, by omega, h1.lt⟩
  · cases h

theorem size_ok {s : ByteArray} {k p v : Nat} (h : nxt s (Df.szN k).2 p = .ok v) : size s k p = .ok ((Df.szN k).1 + v, p + (Df.szN k).2) := by unfold size; rw [h]
theorem size_no {s : ByteArray} {k p c : Nat} (h : nxt s (Df.szN k).2 p = .error c) : size s k p = .error c := by unfold size; rw [h]
theorem dist_no {s : ByteArray} {B : List Int} {p c : Nat} (h : sym s B p = .error c) : dist s B p = .error c := by unfold dist; rw [h]
theorem dist_bad {s : ByteArray} {B : List Int} {p d q : Nat} (h : sym s B p = .ok (d, q)) (hd : ¬ d < 30) : dist s B p = .error 1 := by unfold dist; rw [h]; simp only [if_neg hd]
theorem dist_short {s : ByteArray} {B : List Int} {p d q c : Nat} (h : sym s B p = .ok (d, q)) (hd : d < 30) (hn : nxt s (Df.dsN d).2 q = .error c) : dist s B p = .error c := by unfold dist; rw [h]; simp only [if_pos hd, hn]
theorem dist_ok {s : ByteArray} {B : List Int} {p d q v : Nat} (h : sym s B p = .ok (d, q)) (hd : d < 30) (hn : nxt s (Df.dsN d).2 q = .ok v) : dist s B p = .ok ((Df.dsN d).1 + v, q + (Df.dsN d).2) := by unfold dist; rw [h]; simp only [if_pos hd, hn]
theorem rep_ok {lim n d : Nat} {out : List UInt8} (h1 : d ≤ out.length) (h2 : out.length + n ≤ lim) : rep lim out n d = .ok (To.again out d n) := by unfold rep; rw [if_pos h1, if_pos h2]
theorem rep_long {lim n d : Nat} {out : List UInt8} (h1 : d ≤ out.length) (h2 : ¬ out.length + n ≤ lim) : rep lim out n d = .error 3 := by unfold rep; rw [if_pos h1, if_neg h2]
theorem rep_bad {lim n d : Nat} {out : List UInt8} (h1 : ¬ d ≤ out.length) : rep lim out n d = .error 1 := by unfold rep; rw [if_neg h1]
section
variable {s : ByteArray} {lim : Nat} {A B : List Int} {f p : Nat} {out : List UInt8}
theorem body_no {c : Nat} (h : sym s A p = .error c) : body s lim A B (f + 1) p out = .error c := by unfold body; rw [bodyG, h]
theorem body_byte {y q : Nat} (h : sym s A p = .ok (y, q)) (hy : y < 256) (hl : out.length < lim) : body s lim A B (f + 1) p out = body s lim A B f q (out ++ [UInt8.ofNat y]) := by
  unfold body; rw [bodyG, h]; simp only [if_pos (show isByte y = true from decide_eq_true hy), if_pos hl]
theorem body_full {y q : Nat} (h : sym s A p = .ok (y, q)) (hy : y < 256) (hl : ¬ out.length < lim) : body s lim A B (f + 1) p out = .error 3 := by
  unfold body; rw [bodyG, h]; simp only [if_pos (show isByte y = true from decide_eq_true hy), if_neg hl]
theorem no_byte {y : Nat} (h : ¬ y < 256) : ¬ isByte y = true := fun e => h (of_decide_eq_true e)
theorem no_end {y : Nat} (h : ¬ y = 256) : ¬ isEnd y = true := fun e => h (of_decide_eq_true e)
theorem no_none {y : Nat} (h : ¬ 286 ≤ y) : ¬ isNone y = true := fun e => h (of_decide_eq_true e)
theorem body_end {y q : Nat} (h : sym s A p = .ok (y, q)) (hy : y = 256) : body s lim A B (f + 1) p out = .ok (out, q) := by
  unfold body; rw [bodyG, h]; simp only [if_neg (no_byte (show ¬ y < 256 by omega)), if_pos (show isEnd y = true from decide_eq_true hy)]
theorem body_bad {y q : Nat} (h : sym s A p = .ok (y, q)) (hy : 286 ≤ y) : body s lim A B (f + 1) p out = .error 1 := by
  unfold body; rw [bodyG, h]; simp only [if_neg (no_byte (show ¬ y < 256 by omega)), if_neg (no_end (show ¬ y = 256 by omega)), if_pos (show isNone y = true from decide_eq_true hy)]
theorem body_stop {y q c : Nat} (h : sym s A p = .ok (y, q)) (hy : 256 < y) (hy2 : y < 286) (h1 : copy s lim B (y - 257) q out = .error c) : body s lim A B (f + 1) p out = .error c := by
  unfold body; rw [bodyG, h]; simp only [if_neg (no_byte (show ¬ y < 256 by omega)), if_neg (no_end (show ¬ y = 256 by omega)), if_neg (no_none (show ¬ 286 ≤ y by omega)), show copy s lim B (szI y) q out = .error c from h1]
theorem body_copy {y q q2 : Nat} {out2 : List UInt8} (h : sym s A p = .ok (y, q)) (hy : 256 < y) (hy2 : y < 286) (h1 : copy s lim B (y - 257) q out = .ok (out2, q2)) : body s lim A B (f + 1) p out = body s lim A B f q2 out2 := by
  unfold body; rw [bodyG, h]; simp only [if_neg (no_byte (show ¬ y < 256 by omega)), if_neg (no_end (show ¬ y = 256 by omega)), if_neg (no_none (show ¬ 286 ≤ y by omega)), show copy s lim B (szI y) q out = .ok (out2, q2) from h1]
theorem copy_size {k q c : Nat} (h1 : size s k q = .error c) : copy s lim B k q out = .error c := by unfold copy; rw [h1]
theorem copy_dist {k q n q1 c : Nat} (h1 : size s k q = .ok (n, q1)) (h2 : dist s B q1 = .error c) : copy s lim B k q out = .error c := by unfold copy; rw [h1]; simp only [h2]
theorem copy_rep {k q n q1 d q2 c : Nat} (h1 : size s k q = .ok (n, q1)) (h2 : dist s B q1 = .ok (d, q2)) (h3 : rep lim out n d = .error c) : copy s lim B k q out = .error c := by unfold copy; rw [h1]; simp only [h2, h3]
theorem copy_ok {k q n q1 d q2 : Nat} {out2 : List UInt8} (h1 : size s k q = .ok (n, q1)) (h2 : dist s B q1 = .ok (d, q2)) (h3 : rep lim out n d = .ok out2) : copy s lim B k q out = .ok (out2, q2) := by unfold copy; rw [h1]; simp only [h2, h3]
theorem take_no {n c : Nat} (h : nxt s 8 p = .error c) : take s lim (n + 1) p out = .error c := by rw [take, h]
theorem take_ok {n v : Nat} (h : nxt s 8 p = .ok v) (hl : out.length < lim) : take s lim (n + 1) p out = take s lim n (p + 8) (out ++ [UInt8.ofNat v]) := by rw [take, h]; simp only [if_pos hl]
theorem take_full {n v : Nat} (h : nxt s 8 p = .ok v) (hl : ¬ out.length < lim) : take s lim (n + 1) p out = .error 3 := by rw [take, h]; simp only [if_neg hl]
theorem plain_no1 {c : Nat} (h : nxt s 16 (8 * ((p + 7) / 8)) = .error c) : plain s lim p out = .error c := by unfold plain; rw [h]
theorem plain_no2 {n c : Nat} (h : nxt s 16 (8 * ((p + 7) / 8)) = .ok n) (h2 : nxt s 16 (8 * ((p + 7) / 8) + 16) = .error c) : plain s lim p out = .error c := by unfold plain; rw [h]; simp only [h2]
theorem plain_bad {n m : Nat} (h : nxt s 16 (8 * ((p + 7) / 8)) = .ok n) (h2 : nxt s 16 (8 * ((p + 7) / 8) + 16) = .ok m) (hn : ¬ n + m = 65535) : plain s lim p out = .error 1 := by unfold plain; rw [h]; simp only [h2, if_neg hn]
theorem plain_ok {n m : Nat} (h : nxt s 16 (8 * ((p + 7) / 8)) = .ok n) (h2 : nxt s 16 (8 * ((p + 7) / 8) + 16) = .ok m) (hn : n + m = 65535) : plain s lim p out = take s lim n (8 * ((p + 7) / 8) + 32) out := by unfold plain; rw [h]; simp only [h2, if_pos hn]
theorem lol_no {m i c : Nat} {row : List Int} (h : nxt s 3 p = .error c) : lol s (m + 1) i p row = .error c := by rw [lol, h]
theorem lol_ok {m i v : Nat} {row : List Int} (h : nxt s 3 p = .ok v) : lol s (m + 1) i p row = lol s m (i + 1) (p + 3) (row.set (Df.lord.getD i 0) (v : Int)) := by rw [lol, h]
theorem all_no1 {c : Nat} {ks : List Int} (h : nxt s 1 p = .error c) : all s lim (f + 1) p out ks = .error c := by rw [all, h]
theorem all_no2 {a c : Nat} {ks : List Int} (h : nxt s 1 p = .ok a) (h2 : nxt s 2 (p + 1) = .error c) : all s lim (f + 1) p out ks = .error c := by rw [all, h]; simp only [h2]
theorem all_no3 {a k c : Nat} {ks : List Int} (h : nxt s 1 p = .ok a) (h2 : nxt s 2 (p + 1) = .ok k) (h3 : block s lim k (p + 3) out = .error c) : all s lim (f + 1) p out ks = .error c := by rw [all, h]; simp only [h2, h3]
theorem all_more {k q : Nat} {out2 : List UInt8} {ks : List Int} (h : nxt s 1 p = .ok 0) (h2 : nxt s 2 (p + 1) = .ok k) (h3 : block s lim k (p + 3) out = .ok (out2, q)) : all s lim (f + 1) p out ks = all s lim f q out2 (ks ++ [(k : Int)]) := by rw [all, h]; simp only [h2, h3, if_pos]
theorem all_end {a k q : Nat} {out2 : List UInt8} {ks : List Int} (h : nxt s 1 p = .ok a) (ha : a ≠ 0) (h2 : nxt s 2 (p + 1) = .ok k) (h3 : block s lim k (p + 3) out = .ok (out2, q)) : all s lim (f + 1) p out ks = .ok ((out2, q), ks ++ [(k : Int)]) := by rw [all, h]; simp only [h2, h3, if_neg ha]
end
section
variable {s : ByteArray} {zs l : List Int} {p : Nat}
theorem run_no {c : Nat} (h : sym s zs p = .error c) : run s zs p l = .error c := by unfold run; rw [h]
theorem run_16 {q v : Nat} (h : sym s zs p = .ok (16, q)) (hl : l.length ≠ 0) (h2 : nxt s 2 q = .ok v) : run s zs p l = .ok ((l.getD (l.length - 1) 0, 3 + v), q + 2) := by unfold run; rw [h]; simp only [if_true, if_neg hl, h2]
theorem run_16s {q c : Nat} (h : sym s zs p = .ok (16, q)) (hl : l.length ≠ 0) (h2 : nxt s 2 q = .error c) : run s zs p l = .error c := by unfold run; rw [h]; simp only [if_true, if_neg hl, h2]
theorem run_16n {q : Nat} (h : sym s zs p = .ok (16, q)) (hl : l.length = 0) : run s zs p l = .error 1 := by unfold run; rw [h]; simp only [if_true, if_pos hl]
theorem run_17 {q v : Nat} (h : sym s zs p = .ok (17, q)) (h2 : nxt s 3 q = .ok v) : run s zs p l = .ok ((0, 3 + v), q + 3) := by unfold run; rw [h]; simp only [if_neg (show ¬ (17 : Nat) = 16 by decide), if_true, h2]
theorem run_17s {q c : Nat} (h : sym s zs p = .ok (17, q)) (h2 : nxt s 3 q = .error c) : run s zs p l = .error c := by unfold run; rw [h]; simp only [if_neg (show ¬ (17 : Nat) = 16 by decide), if_true, h2]
theorem run_18 {q v : Nat} (h : sym s zs p = .ok (18, q)) (h2 : nxt s 7 q = .ok v) : run s zs p l = .ok ((0, 11 + v), q + 7) := by unfold run; rw [h]; simp only [if_neg (show ¬ (18 : Nat) = 16 by decide), if_neg (show ¬ (18 : Nat) = 17 by decide), if_true, h2]
theorem run_18s {q c : Nat} (h : sym s zs p = .ok (18, q)) (h2 : nxt s 7 q = .error c) : run s zs p l = .error c := by unfold run; rw [h]; simp only [if_neg (show ¬ (18 : Nat) = 16 by decide), if_neg (show ¬ (18 : Nat) = 17 by decide), if_true, h2]
theorem run_one {y q : Nat} (h : sym s zs p = .ok (y, q)) (hy : y < 16 ∨ 18 < y) : run s zs p l = .ok (((y : Int), 1), q) := by unfold run; rw [h]; simp only [if_neg (show ¬ y = 16 by omega), if_neg (show ¬ y = 17 by omega), if_neg (show ¬ y = 18 by omega)]
theorem lens_done {count f : Nat} (h : ¬ l.length < count) : lens s zs count (f + 1) p l = .ok (l, p) := by rw [lens, if_neg h]
theorem lens_no {count f c : Nat} (h : l.length < count) (h2 : run s zs p l = .error c) : lens s zs count (f + 1) p l = .error c := by rw [lens, if_pos h, h2]
theorem lens_over {count f t q : Nat} {v : Int} (h : l.length < count) (h2 : run s zs p l = .ok ((v, t), q)) (h3 : ¬ l.length + t ≤ count) : lens s zs count (f + 1) p l = .error 1 := by rw [lens, if_pos h, h2]; simp only [if_neg h3]
theorem lens_more {count f t q : Nat} {v : Int} (h : l.length < count) (h2 : run s zs p l = .ok ((v, t), q)) (h3 : l.length + t ≤ count) : lens s zs count (f + 1) p l = lens s zs count f q (l ++ List.replicate t v) := by rw [lens, if_pos h, h2]; simp only [if_pos h3]
end
-- codes that a block may have
theorem come_cons (z : Int) (zs : List Int) : come (z :: zs) = come zs + (if z != 0 then 1 else 0) := by unfold come; rw [List.countP_cons]
theorem come_append (a b : List Int) : come (a ++ b) = come a + come b := by unfold come; exact List.countP_append ..
theorem may_taken {zs : List Int} {b : Bool} (h : may zs b = true) : Cd.taken zs ≤ 32768 := by
  unfold may at h
  split at h
  · rename_i h0
    have : ∀ l : List Int, come l = 0 → Cd.taken l = 0 := by
      intro l
      induction l with
      | nil => intro _; rfl
      | cons z l ih =>
        intro h
        rw [come_cons] at h
        have hz : z = 0 := by
          by_cases e : z = 0
          · exact e
          · rw [if_pos (by simp [e])] at h; omega
        subst hz
        show Cd.part 0 + Cd.taken l = 0
        rw [ih (by omega)]; rfl
    rw [this zs h0]; omega
  · split at h
    · have := of_decide_eq_true h; omega
    · have := of_decide_eq_true h; omega
theorem may_ok {zs : List Int} {b : Bool} (hl : zs.length ≤ 300) (hv : Cd.valid zs = true) (h : may zs b = true) : Cd.okB zs = true := by
  unfold Cd.okB
  rw [hv, decide_eq_true hl, decide_eq_true (may_taken h)]; rfl
end Nf
end Go.Proofs.Ythfdnloeicbgkaa

/- Work that may break off with a code: insist, faultIn. -/
namespace Go.Proofs.Ythfdnloeicbgkaa
open Go.RowKit

/-- a call that broke off with a code -/
def fault (c : Int) : Ending := .panicked [{ v := .iface 105 (.int .i64 c), recovered := false }]

set_option maxHeartbeats 400000 in
theorem insist_yes (c : Int) (w : World) : Calls Try.prog 99 #[.bool true, .int .i64 c] w fun e w' => e = .returned (.tuple #[]) ∧ w' = w := by
  go_enter Try.func99, Try.ntmps99
  go_wp2_with fail
  go_end0
  exact ⟨rfl, rfl⟩

set_option maxHeartbeats 400000 in
theorem insist_no (c : Int) (w : World) : Calls Try.prog 99 #[.bool false, .int .i64 c] w fun e w' => e = fault c ∧ w' = w := by
  go_enter Try.func99, Try.ntmps99
  go_wp2_with fail
  exact ⟨rfl, rfl, rfl⟩

theorem insist_of (b : Bool) (c : Int) (w : World) (h : b = true) : Calls Try.prog 99 #[.bool b, .int .i64 c] w fun e w' => e = .returned (.tuple #[]) ∧ w' = w := by subst h; exact insist_yes c w
theorem insist_not (b : Bool) (c : Int) (w : World) (h : b = false) : Calls Try.prog 99 #[.bool b, .int .i64 c] w fun e w' => e = fault c ∧ w' = w := by subst h; exact insist_no c w

theorem catch_met (p : Addr) (c : Int) (x : Value) (older : List PanicEntry) (w : World) (hc : w.cell? p = some x) (hz : w.frozen? p = false) :
    CallsD Try.prog 58 #[.pointer (some p)] (.panicking ({ v := .iface 105 (.int .i64 c), recovered := false } :: older)) w fun e u' w' =>
      e = .returned (.tuple #[]) ∧ u' = .panicking ({ v := .iface 105 (.int .i64 c), recovered := true } :: older) ∧ w' = w.setCell p (.int .i64 c) := by
  have hta : ∀ w : World, (Instr.typeAssert (.iface 105 (.int .i64 c)) 20 105 false).run Try.prog w = .ok (.int .i64 c) w := fun _ => by kernel_rfl
  have hne : ∀ w : World, (binOp BinOp.neq 20 (.iface 105 (.int .i64 c)) .nilIface).run Try.prog w = .ok (.bool true) w := fun _ => by kernel_rfl
  refine callsD_of_wpS Try.func58 rfl fun c₀ cs hu => ?_
  apply wpS_seq
  apply wpS_region
  simp [wpOpsS, go_sem, recoverD, hu, Try.ntmps58, Exit.thenS]
  refine wpS_of_wp ?_
  simp only [Array.replicate_succ, Array.replicate_zero, List.push_toArray, List.append_toArray, List.nil_append, List.cons_append, List.setIfInBounds_toArray, List.set_cons_zero, List.set_cons_succ]
  go_wp2_with fail
  simp [bodyPostS, results, Try.results58]

theorem catch_idle (p : Addr) (w : World) :
    CallsD Try.prog 58 #[.pointer (some p)] .returning w fun e u' w' => e = .returned (.tuple #[]) ∧ u' = .returning ∧ w' = w := by
  refine callsD_of_wpS Try.func58 rfl fun c₀ cs hu => ?_
  apply wpS_seq
  apply wpS_region
  simp [wpOpsS, go_sem, recoverD, hu, Try.ntmps58, Exit.thenS]
  refine wpS_of_wp ?_
  simp only [Array.replicate_succ, Array.replicate_zero, List.push_toArray, List.append_toArray, List.nil_append, List.cons_append, List.setIfInBounds_toArray, List.set_cons_zero, List.set_cons_succ]
  go_wp2_with fail
  cases c₀
  simp_all [bodyPostS, results, Try.results58]

/-- what faultIn makes of the world that the work left: its own variable holds the code -/
def Told (w w' w'' : World) (c : Int) : Prop := w'' = w'.setCell ⟨w.heap.size, 0, none⟩ (.int .i64 c)

/-- how faultIn ends -/
def FaultOut (w : World) (R : World → Prop) (Rc : Int → World → Prop) (e : Ending) (w'' : World) : Prop :=
  ∃ w', Boxed w' w.heap.size 3 (.int .i64 0) ∧ ((e = .returned (.int .i64 0) ∧ R w' ∧ Told w w' w'' 0) ∨ ∃ c, e = .returned (.int .i64 c) ∧ Rc c w' ∧ Told w w' w'' c)

end Go.Proofs.Ythfdnloeicbgkaa

/- A text out of bytes that lie in memory. -/
namespace Go.Proofs.Ythfdnloeicbgkaa
open Go.RowKit

theorem push_all (ns : List Nat) : ∀ a : Array UInt8, (ns.map (fun n : Nat => (n : Int))).foldl (fun (r : ByteArray) (n : Int) => r.push (UInt8.ofNat n.toNat)) ⟨a⟩ = ⟨a ++ (ns.map UInt8.ofNat).toArray⟩ := by
  induction ns with
  | nil => intro a; simp
  | cons n ns ih =>
    intro a
    simp only [List.map_cons, List.foldl_cons]
    have e : (ByteArray.mk a).push (UInt8.ofNat (n : Int).toNat) = ⟨a.push (UInt8.ofNat n)⟩ := by rw [Int.toNat_natCast]; rfl
    rw [e, ih]
    simp

/-- the text of the bytes ns, which lie at a place -/
theorem run_text (w : World) (a : Addr) (cap : Nat) (ns : List Nat) (h : ∀ j v, (ns.map (fun n : Nat => Value.int .u8 (n : Int)))[j]? = some v → w.cell? (a.add j) = some v) :
    Sem.run Try.prog (convert 22 9 (.slice (some a) ns.length cap)) w = .ok (.string ⟨(ns.map UInt8.ofNat).toArray⟩) w := by
  rw [run_convert_bytes_string w 22 9 5 _ _ _ Try.underlying22 Try.underlying5 Try.underlying9]
  have hl := run_loadCells_list (P := Try.prog) w a (ns.map (fun n : Nat => Value.int .u8 (n : Int))) h
  rw [List.length_map] at hl
  rw [run_bytesToString w a ns.length cap (ns.map (fun n : Nat => (n : Int))) (by rw [hl]; congr 2; simp)]
  congr 2
  have h2 := push_all ns #[]
  rw [Array.empty_append] at h2
  exact h2

/-- the text of one byte, just laid -/
theorem run_text1 (w : World) (c : Nat) (b : Nat) (hb : b = w.heap.size) :
    Sem.run Try.prog (convert 22 9 (.slice (some ⟨b, 0, none⟩) 1 1)) (w.alloc (.cells #[.int .u8 (c : Int)] 5)) = .ok (.string ⟨#[UInt8.ofNat c]⟩) (w.alloc (.cells #[.int .u8 (c : Int)] 5)) := by
  subst hb
  refine run_text _ ⟨w.heap.size, 0, none⟩ 1 [c] ?_
  intro j v hj
  match j, hj with
  | 0, hj => simp at hj; subst hj; simp [Addr.add]

end Go.Proofs.Ythfdnloeicbgkaa

/- A list of ints that a call gathers in a row of its own. -/
namespace Go.Proofs.Ythfdnloeicbgkaa
open Go.RowKit

/-- ints as they lie in memory -/
def intsV (l : List Int) : List Value := l.map fun x : Int => Value.int .i64 x
theorem intsV_len (l : List Int) : (intsV l).length = l.length := by simp [intsV]
theorem intsV_get (l : List Int) (j : Nat) (h : j < l.length) : (intsV l)[j]? = some (.int .i64 l[j]) := by simp [intsV, h]
theorem intsV_snoc (l : List Int) (x : Int) : intsV l ++ [.int .i64 x] = intsV (l ++ [x]) := by simp [intsV]

/-- the slice v owns the ints l, n of them -/
def OwnI (w : World) (B : Nat) (v : Value) (n : Nat) (l : List Int) : Prop := w.ownsRow B 3 1 v n (intsV l)

theorem OwnI.len {w : World} {B n : Nat} {v : Value} {l : List Int} (h : OwnI w B v n l) : l.length = n := by
  have := h.1
  rw [intsV_len] at this; omega

theorem OwnI.owns {w : World} {B n : Nat} {v : Value} {l : List Int} (h : OwnI w B v n l) : ∃ ao cap, v = .slice ao n cap ∧ Owns w B ao l := by
  have hl := h.len
  rcases h.2 with ⟨rfl, h0⟩ | ⟨g, cap, cur, rfl, hgB, hg, _, _, _, ht⟩
  · subst h0
    exact ⟨none, 0, rfl, .inl (List.eq_nil_of_length_eq_zero hl)⟩
  · refine ⟨some ⟨g, 0, none⟩, cap, rfl, .inr ⟨g, rfl, hgB, ?_, fun i hi => ⟨?_, ?_⟩⟩⟩
    · rcases Nat.lt_or_ge g w.heap.size with hlt | hge
      · exact hlt
      · rw [Array.getElem?_eq_none hge] at hg; cases hg
    · exact (World.ownsRow.cellAt h i (by omega)).trans (intsV_get l i hi)
    · exact World.ownsRow.frozenAt h i

theorem OwnI.more {w : World} {B n g cap : Nat} {l : List Int} {x : Int} (h : w.ownsRow B 3 1 (.slice (some ⟨g, 0, none⟩) (n + 1) cap) (n + 1) (intsV l ++ [.int .i64 x])) :
    OwnI w B (.slice (some ⟨g, 0, none⟩) (n + 1) cap) (n + 1) (l ++ [x]) := by
  rw [intsV_snoc] at h; exact h

theorem OwnI.drewN {w : World} {B n : Nat} {v : Value} {l : List Int} (h : OwnI w B v n l) (m : Nat) : OwnI (w.drewN m) B v n l := h

theorem ownI_none (w : World) : OwnI (w.alloc (.cells #[] 3)) w.heap.size (.slice (some ⟨w.heap.size, 0, none⟩) 0 0) 0 [] :=
  World.ownsRow_lit w #[] 0 (Nat.le_refl _) (by decide) rfl
end Go.Proofs.Ythfdnloeicbgkaa

/- One int appended to a row of the call's own. -/
namespace Go.Proofs.Ythfdnloeicbgkaa
open Go.RowKit

/-- the world behind an append: only v's own row has turned, and new blocks came -/
structure Grew (base : Nat) (w0 w' : World) (v : Value) (g : Nat) : Prop where
  os : w'.os = w0.os
  tape : w'.tape = w0.tape
  output : w'.output = w0.output
  size : w0.heap.size ≤ w'.heap.size
  own : ∀ k, v.ownBlock = some k → base ≤ k ∧ k < w0.heap.size
  block : ∀ k, k < w0.heap.size → some k ≠ v.ownBlock → w'.heap[k]? = w0.heap[k]?
  at_ : v.ownBlock = some g ∨ w0.heap.size ≤ g
  lt : g < w'.heap.size

theorem Grew.below {base g B : Nat} {w0 w' W : World} {v : Value} (h : Grew base w0 w' v g) (hb : Below B W w0) (hB : B ≤ base) (hs : B ≤ w0.heap.size) : Below B W w' :=
  hb.trans ⟨h.os, h.tape, h.output, h.size, fun k hk => h.block k (by omega) (fun e => by have := (h.own k e.symm).1; omega)⟩
theorem Grew.cell {base g : Nat} {w0 w' : World} {v : Value} (h : Grew base w0 w' v g) {a : Addr} (ha : a.block < w0.heap.size) (hf : v.ownBlock ≠ some a.block) : w'.cell? a = w0.cell? a :=
  World.cell?_of_block (w := w0) (h.block a.block ha (fun e => hf e.symm))
theorem Grew.far {base g b cap n : Nat} {w0 w' : World} {v : Value} (h : Grew base w0 w' v g) (hb : b < w0.heap.size) (hf : v.ownBlock ≠ some b) : (Value.slice (some ⟨g, 0, none⟩) n cap).ownBlock ≠ some b := by
  show some g ≠ some b
  intro e
  cases e
  rcases h.at_ with e | e
  · exact hf e
  · omega

theorem Grew.of {base g e size n : Nat} {w0 w' : World} {v : Value} {xs : List Value} {o : Obj} (hown : w0.ownsRow base e size v n xs) (hg : (w0.alloc o).grownBy w' v.ownBlock) (hat : v.ownBlock = some g ∨ g = (w0.alloc o).heap.size) (hlt : g < w'.heap.size) : Grew base w0 w' v g := by
  have hs := hg.size
  rw [World.size_alloc] at hs
  refine ⟨hg.os, hg.tape, hg.output, by omega, fun k hk => World.ownsRow.lt hown k hk, fun k hk hne => ?_, ?_, hlt⟩
  · rw [hg.block k (by rw [World.size_alloc]; omega) hne]; exact Below.heap_alloc _ _ _ hk
  · rcases hat with e | e
    · exact .inl e
    · rw [World.size_alloc] at e; exact .inr (by omega)

theorem wpList_app1 {ops : Array Oper} {rest : List Oper} {o : Oper} {a : Act} {Q : Exit → Act → World → Prop} (w0 : World) (hgd : o.guard = none) (s x : Operand)
    (ho : o.op = .call { callee := .builtin .append, args := #[s, x], argTypes := #[44, 44] })
    (base : Nat) (v : Value) (n : Nat) (l : List Int) (z : Int) (hs : a.eval s = v) (hown : OwnI w0 base v n l) (hx : a.eval x = .slice (some ⟨w0.heap.size, 0, none⟩) 1 1) (hn : n ≤ 2000000) (hb : base ≤ w0.heap.size)
    (h : ∀ g cap w', OwnI w' base (.slice (some ⟨g, 0, none⟩) (n + 1) cap) (n + 1) (l ++ [z]) → Grew base w0 w' v g → wpList Try.prog ops Q rest (a.put o.dst (.slice (some ⟨g, 0, none⟩) (n + 1) cap)) w') :
    wpList Try.prog ops Q (o :: rest) a (w0.alloc (.cells #[.int .i64 z] 3)) := by
  obtain ⟨i0, hi0, hz0, hz1, hz2⟩ := info_parts info_int
  refine wpList_append_lies _ hgd s x _ ho base 3 i0 (.int .i64 0) 1 8 Try.underlying44 hi0 hz0 hz1 hz2 rfl (by decide) v n (intsV l) hs (World.ownsRow.alloc (show World.ownsRow _ _ _ _ _ _ _ from hown) _) ⟨w0.heap.size, 0, none⟩ 1 1 [.int .i64 z] hx rfl (World.news_of_block (heap_alloc_new _ _)) (fun u hu => by simp at hu; subst hu; rfl) (by decide) (by unfold maxLen; omega) (by omega) (by rw [World.size_alloc]; omega) _ rfl ?_
  intro g cap w' hown' hg hat hlt
  exact h g cap w' (OwnI.more hown') (Grew.of hown hg hat hlt)

theorem OwnI.alloc {w : World} {B n : Nat} {v : Value} {l : List Int} (h : OwnI w B v n l) (o : Obj) : OwnI (w.alloc o) B v n l := World.ownsRow.alloc (show World.ownsRow _ _ _ _ _ _ _ from h) o
theorem OwnI.far {w : World} {B n : Nat} {v : Value} {l : List Int} (h : OwnI w B v n l) {b : Nat} (hb : w.heap.size ≤ b) : v.ownBlock ≠ some b := fun e => by have := (World.ownsRow.lt h b e).2; omega
end Go.Proofs.Ythfdnloeicbgkaa

/- Bytes of a text that a call gathers in a row of its own: one byte more, a text more, the text of all. -/
namespace Go.Proofs.Ythfdnloeicbgkaa
open Go.RowKit

theorem info_u8t : (Try.prog.info? 5).map (fun i => (i.zero, i.size, i.bytes)) = some (some (.int .u8 0), 1, 1) := by kernel_rfl

/-- bytes as they lie in memory -/
def u8V (l : List UInt8) : List Value := l.map fun c => Value.int .u8 ((c.toNat : Nat) : Int)
theorem u8V_len (l : List UInt8) : (u8V l).length = l.length := by simp [u8V]
theorem u8V_append (l k : List UInt8) : u8V l ++ u8V k = u8V (l ++ k) := by simp [u8V]
/-- the slice v owns the bytes l, n of them -/
def OwnT (w : World) (B : Nat) (v : Value) (n : Nat) (l : List UInt8) : Prop := w.ownsRow B 5 1 v n (u8V l)
theorem OwnT.len {w : World} {B n : Nat} {v : Value} {l : List UInt8} (h : OwnT w B v n l) : l.length = n := by
  have := h.1
  rw [u8V_len] at this; omega
theorem OwnT.alloc {w : World} {B n : Nat} {v : Value} {l : List UInt8} (h : OwnT w B v n l) (o : Obj) : OwnT (w.alloc o) B v n l := World.ownsRow.alloc (show World.ownsRow _ _ _ _ _ _ _ from h) o
theorem OwnT.drewN {w : World} {B n : Nat} {v : Value} {l : List UInt8} (h : OwnT w B v n l) (m : Nat) : OwnT (w.drewN m) B v n l := h

theorem text_nilT (w : World) : Sem.run Try.prog (convert 22 9 (.slice none 0 0)) w = .ok (.string ⟨#[]⟩) w := by kernel_rfl

theorem map_toNat (l : List UInt8) : (l.map UInt8.toNat).map UInt8.ofNat = l := by
  rw [List.map_map]
  conv => rhs; rw [← List.map_id l]
  apply List.map_congr_left
  intro c _
  simp

/-- the text of all -/
theorem OwnT.text {w : World} {B n : Nat} {v : Value} {l : List UInt8} (h : OwnT w B v n l) : Sem.run Try.prog (convert 22 9 v) w = .ok (.string ⟨l.toArray⟩) w := by
  have hl := h.len
  rcases h.2 with ⟨rfl, h0⟩ | ⟨g, cap, cur, rfl, _, hg, _, _, _, ht⟩
  · subst h0
    have : l = [] := List.eq_nil_of_length_eq_zero hl
    subst this
    exact text_nilT w
  · subst hl
    have := run_text w ⟨g, 0, none⟩ cap (l.map UInt8.toNat) (by
      intro j v hj
      have e : (l.map UInt8.toNat).map (fun n : Nat => Value.int .u8 (n : Int)) = u8V l := by simp [u8V]
      rw [e] at hj
      exact (World.ownsRow.cells h rfl) j v hj)
    rw [map_toNat, List.length_map] at this
    exact this

/-- one byte more, just laid -/
theorem wpList_appT1 {ops : Array Oper} {rest : List Oper} {o : Oper} {a : Act} {Q : Exit → Act → World → Prop} (w0 : World) (hgd : o.guard = none) (s x : Operand)
    (ho : o.op = .call { callee := .builtin .append, args := #[s, x], argTypes := #[22, 22] })
    (base : Nat) (v : Value) (n : Nat) (l : List UInt8) (z : Int) (c : UInt8) (hz : z = ((c.toNat : Nat) : Int)) (hs : a.eval s = v) (hown : OwnT w0 base v n l) (hx : a.eval x = .slice (some ⟨w0.heap.size, 0, none⟩) 1 1) (hn : n ≤ 2000000) (hb : base ≤ w0.heap.size)
    (h : ∀ g cap w', OwnT w' base (.slice (some ⟨g, 0, none⟩) (n + 1) cap) (n + 1) (l ++ [c]) → Grew base w0 w' v g → wpList Try.prog ops Q rest (a.put o.dst (.slice (some ⟨g, 0, none⟩) (n + 1) cap)) w') :
    wpList Try.prog ops Q (o :: rest) a (w0.alloc (.cells #[.int .u8 z] 5)) := by
  subst hz
  obtain ⟨i0, hi0, hz0, hz1, hz2⟩ := info_parts info_u8t
  refine wpList_append_lies _ hgd s x _ ho base 5 i0 (.int .u8 0) 1 1 Try.underlying22 hi0 hz0 hz1 hz2 rfl (by decide) v n (u8V l) hs (World.ownsRow.alloc (show World.ownsRow _ _ _ _ _ _ _ from hown) _) ⟨w0.heap.size, 0, none⟩ 1 1 [.int .u8 ((c.toNat : Nat) : Int)] hx rfl (World.news_of_block (heap_alloc_new _ _)) (fun u hu => by simp at hu; subst hu; rfl) (by decide) (by unfold maxLen; omega) (by omega) (by rw [World.size_alloc]; omega) _ rfl ?_
  intro g cap w' hown' hg hat hlt
  exact h g cap w' (by rw [show [Value.int .u8 ((c.toNat : Nat) : Int)] = u8V [c] from rfl, u8V_append] at hown'; exact hown') (Grew.of hown hg hat hlt)

end Go.Proofs.Ythfdnloeicbgkaa

/- Nothing but one block turns. -/
namespace Go.Proofs.Ythfdnloeicbgkaa
open Go.RowKit

/-- nothing that was there has turned but block B -/
structure Only (B : Nat) (w w' : World) : Prop where
  below : Below B w w'
  rest : ∀ k, k < w.heap.size → k ≠ B → w'.heap[k]? = w.heap[k]?

theorem Only.refl (B : Nat) (w : World) : Only B w w := ⟨Below.refl _ _, fun _ _ _ => rfl⟩
theorem Only.trans {B : Nat} {a b c : World} (h : Only B a b) (g : Only B b c) : Only B a c :=
  ⟨h.below.trans g.below, fun k hk hB => (g.rest k (Nat.lt_of_lt_of_le hk h.below.size) hB).trans (h.rest k hk hB)⟩
theorem Only.alloc {B : Nat} {a b : World} (h : Only B a b) (hB : B < b.heap.size) (o : Obj) : Only B a (b.alloc o) :=
  ⟨h.below.alloc (Nat.le_of_lt hB) o, fun k hk hkB => (Below.heap_alloc b o k (Nat.lt_of_lt_of_le hk h.below.size)).trans (h.rest k hk hkB)⟩
theorem Only.cell {B : Nat} {w w' : World} (h : Only B w w') : ∀ k o, k < w.heap.size → k ≠ B → w'.cell? ⟨k, o, none⟩ = w.cell? ⟨k, o, none⟩ :=
  fun k o hk hB => World.cell?_of_block (w := w) (a := ⟨k, o, none⟩) (h.rest k hk hB)
theorem Only.set {B : Nat} {w w' : World} (h : Only B w w') {g : Nat} (hg : w.heap.size ≤ g) (hB : B < w.heap.size) (i : Nat) (v : Value) : Only B w (w'.setCell ⟨g, i, none⟩ v) :=
  ⟨h.below.setCell (p := ⟨g, i, none⟩) (show B ≤ g by omega) _, fun k hk hkB => (Below.heap_setCell w' ⟨g, i, none⟩ v k (by show k ≠ g; omega)).trans (h.rest k hk hkB)⟩
theorem Only.own (w : World) (B i : Nat) (v : Value) : Only B w (w.setCell ⟨B, i, none⟩ v) :=
  ⟨(Below.refl B w).setCell (p := ⟨B, i, none⟩) (Nat.le_refl _) _, fun k _ hk => Below.heap_setCell w ⟨B, i, none⟩ v k hk⟩
theorem Only.of_below {B : Nat} {w w' : World} (h : Below w.heap.size w w') (hB : B < w.heap.size) : Only B w w' := ⟨h.mono (Nat.le_of_lt hB), fun k hk _ => h.block k hk⟩
theorem Only.drewN {B : Nat} {w w' : World} (h : Only B w w') (n : Nat) : Only B w (w'.drewN n) := ⟨⟨h.below.os, h.below.tape, h.below.output, h.below.size, h.below.block⟩, h.rest⟩
end Go.Proofs.Ythfdnloeicbgkaa

/- What stays but two blocks. -/
namespace Go.Proofs.Ythfdnloeicbgkaa
open Go.RowKit

/-- nothing below a height has turned but two blocks -/
structure Off (B O base : Nat) (w w' : World) : Prop where
  os : w'.os = w.os
  tape : w'.tape = w.tape
  output : w'.output = w.output
  size : w.heap.size ≤ w'.heap.size
  rest : ∀ k, k < base → k ≠ B → k ≠ O → w'.heap[k]? = w.heap[k]?
theorem Off.refl (B O base : Nat) (w : World) : Off B O base w w := ⟨rfl, rfl, rfl, Nat.le_refl _, fun _ _ _ _ => rfl⟩
theorem Off.trans {B O base : Nat} {a b c : World} (h : Off B O base a b) (g : Off B O base b c) : Off B O base a c :=
  ⟨g.os.trans h.os, g.tape.trans h.tape, g.output.trans h.output, Nat.le_trans h.size g.size, fun k hk h1 h2 => (g.rest k hk h1 h2).trans (h.rest k hk h1 h2)⟩
theorem Off.drewN {B O base : Nat} {a b : World} (h : Off B O base a b) (n : Nat) : Off B O base a (b.drewN n) := ⟨h.os, h.tape, h.output, h.size, h.rest⟩
theorem Only.off {B : Nat} {w w' : World} (h : Only B w w') (O base : Nat) (hb : base ≤ w.heap.size) : Off B O base w w' := ⟨h.below.os, h.below.tape, h.below.output, h.below.size, fun k hk h1 _ => h.rest k (by omega) h1⟩
theorem Off.below {B O base n : Nat} {w w' : World} (h : Off B O base w w') (h1 : n ≤ B) (h2 : n ≤ O) (h3 : n ≤ base) : Below n w w' := ⟨h.os, h.tape, h.output, h.size, fun k hk => h.rest k (by omega) (by omega) (by omega)⟩
end Go.Proofs.Ythfdnloeicbgkaa

/- Bytes that are put out, so many at most. -/
namespace Go.Proofs.Ythfdnloeicbgkaa
open Go.RowKit

/-- what is put out: its bytes and its limit -/
def Ot (w : World) (O : Nat) (v : Value) (lim : Nat) : Prop := w.heap[O]? = some (.cells #[v, .int .i64 (lim : Int)] 43 (0, 0))
theorem Ot.lt {w : World} {O lim : Nat} {v : Value} (h : Ot w O v lim) : O < w.heap.size := (Array.getElem?_eq_some_iff.1 h).1
theorem Ot.cells {w : World} {O lim : Nat} {v : Value} (h : Ot w O v lim) : w.cell? ⟨O, 0, none⟩ = some v ∧ w.cell? ⟨O, 1, none⟩ = some (.int .i64 (lim : Int)) ∧ w.frozen? ⟨O, 0, none⟩ = false := by
  refine ⟨?_, ?_, ?_⟩ <;> simp [World.cell?, World.frozen?, show w.heap[O]? = _ from h]
theorem Ot.other {w w' : World} {O C lim : Nat} {v : Value} (h : Ot w O v lim) (o : Only C w w') (hO : O ≠ C) : Ot w' O v lim := (o.rest _ h.lt hO).trans h
theorem Ot.set {w : World} {O lim : Nat} {v : Value} (h : Ot w O v lim) (v' : Value) : Ot (w.setCell ⟨O, 0, none⟩ v') O v' lim := by
  unfold Ot
  rw [setCell_eq_setRow w O 0 _ _ (0, 0) _ h]
  exact setRow_heap w O _ _ _ _ h
theorem OwnT.shape {w : World} {B n : Nat} {v : Value} {l : List UInt8} (h : OwnT w B v n l) : ∃ ao cap, v = .slice ao n cap := by
  rcases h.2 with ⟨rfl, h0⟩ | ⟨g, cap, cur, rfl, _⟩
  · exact ⟨none, 0, by rw [h0]⟩
  · exact ⟨_, _, rfl⟩

end Go.Proofs.Ythfdnloeicbgkaa

/- The program goes down in the tree of a code. -/
namespace Go.Proofs.Ythfdnloeicbgkaa
open Go.RowKit

theorem Gt.go_no {s : Nat → Nat → Int} {bit : Nat → Nat} {m d v p t : Nat} (hb : bit p = t) (h : ¬ 0 ≤ s (d + 1) (2 * v + t)) : Gt.go s bit (m + 1) d v p = Gt.go s bit m (d + 1) (2 * v + t) (p + 1) := by
  subst hb
  rw [Gt.go, if_neg h]
theorem Gt.go_yes {s : Nat → Nat → Int} {bit : Nat → Nat} {m d v p t : Nat} (hb : bit p = t) (h : 0 ≤ s (d + 1) (2 * v + t)) : Gt.go s bit (m + 1) d v p = some ((s (d + 1) (2 * v + t)).toNat, p + 1) := by
  subst hb
  rw [Gt.go, if_pos h]
def atOf (R : Nat) (w : World) : Nat := match w.cell? ⟨R, 2, none⟩ with | some (.int _ z) => z.toNat | _ => 0
theorem atOf_reads {w : World} {R q : Nat} {hi : Bool} {s : ByteArray} (h : Reads w R hi s q) : atOf R w = q := by
  unfold atOf
  rw [h.c2]
  simp

end Go.Proofs.Ythfdnloeicbgkaa

/- The inflater in memory. -/
namespace Go.Proofs.Ythfdnloeicbgkaa
open Go.RowKit

/-- a row of such cells -/
def isRow (T : TypeId) : Option Obj → Prop
  | some (.cells _ T' _) => T' = T
  | _ => False

/-- only the reader's own block and rows of bytes from a base on have turned -/
structure InF (R base : Nat) (w w' : World) : Prop where
  os : w'.os = w.os
  tape : w'.tape = w.tape
  output : w'.output = w.output
  size : w.heap.size ≤ w'.heap.size
  rest : ∀ k, k < w.heap.size → k ≠ R → (k < base ∨ ¬ isRow 5 (w.heap[k]?)) → w'.heap[k]? = w.heap[k]?
theorem InF.refl (R base : Nat) (w : World) : InF R base w w := ⟨rfl, rfl, rfl, Nat.le_refl _, fun _ _ _ _ => rfl⟩
theorem InF.trans {R base : Nat} {a b c : World} (h : InF R base a b) (g : InF R base b c) : InF R base a c :=
  ⟨g.os.trans h.os, g.tape.trans h.tape, g.output.trans h.output, Nat.le_trans h.size g.size, fun k hk h1 h2 => by
    have e := h.rest k hk h1 h2
    exact (g.rest k (Nat.lt_of_lt_of_le hk h.size) h1 (by rw [e]; exact h2)).trans e⟩
theorem InF.drewN {R base : Nat} {a b : World} (h : InF R base a b) (n : Nat) : InF R base a (b.drewN n) := ⟨h.os, h.tape, h.output, h.size, h.rest⟩
theorem InF.drew {R base : Nat} {a b : World} (h : InF R base a b) : InF R base a b.drew := ⟨h.os, h.tape, h.output, h.size, h.rest⟩
theorem InF.of_only {R base : Nat} {a b : World} (h : Only R a b) : InF R base a b := ⟨h.below.os, h.below.tape, h.below.output, h.below.size, fun k hk h1 _ => h.rest k hk h1⟩
theorem InF.of_below {R base : Nat} {a b : World} (h : Below a.heap.size a b) : InF R base a b := ⟨h.os, h.tape, h.output, h.size, fun k hk _ _ => h.block k hk⟩
theorem InF.below {R base n : Nat} {a b : World} (h : InF R base a b) (h1 : n ≤ R) (h2 : n ≤ base) (h3 : n ≤ a.heap.size) : Below n a b :=
  ⟨h.os, h.tape, h.output, h.size, fun k hk => h.rest k (by omega) (by omega) (.inl (by omega))⟩
theorem InF.block {R base k : Nat} {a b : World} {c : Array Value} {T : TypeId} {z : Nat × Nat} (h : InF R base a b) (hk : a.heap[k]? = some (.cells c T z)) (hR : k ≠ R) (hT : T ≠ 5) : b.heap[k]? = some (.cells c T z) := by
  rw [h.rest k (Array.getElem?_eq_some_iff.1 hk).1 hR (.inr (by rw [hk]; exact hT)), hk]
theorem InF.tri {R base lo : Nat} {N : Nat → Nat → Option Nat} {S : Nat → Nat → Int} {a b : World} (h : InF R base a b) (t : Tri a lo N S) (hR : R < lo) : Tri b lo N S :=
  ⟨fun d v b' hb => ⟨(t.node d v b' hb).1, h.block (t.node d v b' hb).2 (by have := (t.node d v b' hb).1; omega) (by decide)⟩, t.inj, t.closed, t.dead⟩
theorem InF.ownI {R base B n : Nat} {v : Value} {l : List Int} {a b : World} (h : InF R base a b) (o : OwnI a B v n l) (hR : R < B) : OwnI b B v n l := by
  refine ⟨o.1, ?_⟩
  rcases o.2 with h0 | ⟨g, cap, cur, rfl, hgB, hg, r⟩
  · exact .inl h0
  · exact .inr ⟨g, cap, cur, rfl, hgB, h.block hg (by omega) (by decide), r⟩

/-- the inflater: at bit p, l put out -/
def In (w : World) (R base : Nat) (s : ByteArray) (p : Nat) (l : List UInt8) (lim : Nat) (vk fx : Value) : Prop :=
  ∃ vo, w.heap[R]? = some (.cells #[ordV false, .string s, .int .i64 (p : Int), vo, .int .i64 (lim : Int), vk, fx] 47 (0, 0)) ∧ OwnT w base vo l.length l
section
variable {w w' : World} {R base p lim : Nat} {s : ByteArray} {l : List UInt8} {vk fx : Value}
theorem In.lt (h : In w R base s p l lim vk fx) : R < w.heap.size := by
  obtain ⟨vo, h, _⟩ := h
  exact (Array.getElem?_eq_some_iff.1 h).1
theorem In.cells (h : In w R base s p l lim vk fx) : w.cell? ⟨R, 0, none⟩ = some (ordV false) ∧ w.cell? ⟨R, 1, none⟩ = some (.string s) ∧ w.cell? ⟨R, 2, none⟩ = some (.int .i64 (p : Int)) ∧ w.cell? ⟨R, 4, none⟩ = some (.int .i64 (lim : Int)) ∧ w.cell? ⟨R, 5, none⟩ = some vk ∧ w.cell? ⟨R, 6, none⟩ = some fx := by
  obtain ⟨vo, h, _⟩ := h
  refine ⟨?_, ?_, ?_, ?_, ?_, ?_⟩ <;> simp [World.cell?, h]
theorem In.froz (h : In w R base s p l lim vk fx) (j : Nat) : w.frozen? ⟨R, j, none⟩ = false := by
  obtain ⟨vo, h, _⟩ := h
  simp [World.frozen?, h]
theorem In.reads (h : In w R base s p l lim vk fx) : Reads w R false s p := by
  obtain ⟨h0, h1, h2, _⟩ := h.cells
  exact ⟨h0, h1, h2, h.froz 2⟩
theorem In.drewN (h : In w R base s p l lim vk fx) (m : Nat) : In (w.drewN m) R base s p l lim vk fx := h
theorem In.drew (h : In w R base s p l lim vk fx) : In w.drew R base s p l lim vk fx := h
/-- the row of bytes lies elsewhere than a block of another kind -/
theorem OwnT.away {B n k : Nat} {v : Value} {l : List UInt8} {c : Array Value} {T : TypeId} {z : Nat × Nat} (h : OwnT w B v n l) (hk : w.heap[k]? = some (.cells c T z)) (hT : T ≠ 5) : v.ownBlock ≠ some k := by
  intro e
  rcases h.2 with ⟨rfl, _⟩ | ⟨g, cap, cur, rfl, _, hg, _⟩
  · cases e
  · cases e
    rw [hk] at hg
    cases hg
    exact hT rfl
/-- a row of bytes stays where its own block does -/
theorem OwnT.besides {B n : Nat} {v : Value} {l : List UInt8} (h : OwnT w B v n l) (hb : ∀ k, v.ownBlock = some k → w'.heap[k]? = w.heap[k]?) : OwnT w' B v n l := by
  refine ⟨h.1, ?_⟩
  rcases h.2 with h0 | ⟨g, cap, cur, rfl, hgB, hg, r⟩
  · exact .inl h0
  · exact .inr ⟨g, cap, cur, rfl, hgB, (hb g rfl).trans hg, r⟩
/-- a cell of the inflater but that of the bytes is set -/
theorem In.move (h : In w R base s p l lim vk fx) (q : Nat) : In (w.setCell ⟨R, 2, none⟩ (.int .i64 (q : Int))) R base s q l lim vk fx ∧ Only R w (w.setCell ⟨R, 2, none⟩ (.int .i64 (q : Int))) := by
  obtain ⟨vo, h1, h2⟩ := h
  refine ⟨⟨vo, ?_, ?_⟩, Only.own w R 2 _⟩
  · rw [setCell_eq_setRow w R 2 _ _ (0, 0) _ h1, setRow_heap w R _ _ _ _ h1]; simp
  · exact h2.besides (fun k hk => Below.heap_setCell w ⟨R, 2, none⟩ _ k (fun e => h2.away h1 (by decide) (by rw [hk, e])))
theorem In.setKinds (h : In w R base s p l lim vk fx) (v : Value) : In (w.setCell ⟨R, 5, none⟩ v) R base s p l lim v fx ∧ Only R w (w.setCell ⟨R, 5, none⟩ v) := by
  obtain ⟨vo, h1, h2⟩ := h
  refine ⟨⟨vo, ?_, ?_⟩, Only.own w R 5 _⟩
  · rw [setCell_eq_setRow w R 5 _ _ (0, 0) _ h1, setRow_heap w R _ _ _ _ h1]; simp
  · exact h2.besides (fun k hk => Below.heap_setCell w ⟨R, 5, none⟩ _ k (fun e => h2.away h1 (by decide) (by rw [hk, e])))
theorem In.setFixed (h : In w R base s p l lim vk fx) (v : Value) : In (w.setCell ⟨R, 6, none⟩ v) R base s p l lim vk v ∧ Only R w (w.setCell ⟨R, 6, none⟩ v) := by
  obtain ⟨vo, h1, h2⟩ := h
  refine ⟨⟨vo, ?_, ?_⟩, Only.own w R 6 _⟩
  · rw [setCell_eq_setRow w R 6 _ _ (0, 0) _ h1, setRow_heap w R _ _ _ _ h1]; simp
  · exact h2.besides (fun k hk => Below.heap_setCell w ⟨R, 6, none⟩ _ k (fun e => h2.away h1 (by decide) (by rw [hk, e])))
/-- nothing that was there has turned -/
theorem In.kept (h : In w R base s p l lim vk fx) (b : Below w.heap.size w w') : In w' R base s p l lim vk fx := by
  have hl := h.lt
  obtain ⟨vo, h1, h2⟩ := h
  exact ⟨vo, (b.block R hl).trans h1, h2.besides (fun k hk => b.block k (World.ownsRow.lt (show World.ownsRow _ _ _ _ _ _ _ from h2) k hk).2)⟩
/-- the inflater and its bytes apart -/
theorem In.open (h : In w R base s p l lim vk fx) : ∃ ao cap, w.cell? ⟨R, 3, none⟩ = some (.slice ao l.length cap) ∧ OwnT w base (.slice ao l.length cap) l.length l ∧ w.heap[R]? = some (.cells #[ordV false, .string s, .int .i64 (p : Int), .slice ao l.length cap, .int .i64 (lim : Int), vk, fx] 47 (0, 0)) := by
  obtain ⟨vo, h1, h2⟩ := h
  obtain ⟨ao, cap, rfl⟩ := h2.shape
  exact ⟨ao, cap, by simp [World.cell?, h1], h2, h1⟩
end
/-- a call that broke off with a code, and what it left -/
def Fails {α : Type} (r : Except Nat α) (R base : Nat) (w : World) (e : Ending) (w' : World) : Prop :=
  ∃ c, r = .error c ∧ c ≠ 0 ∧ e = fault (c : Int) ∧ InF R base w w'
theorem Fails.mk {α : Type} {r : Except Nat α} {R base c : Nat} {w w' : World} (h : r = .error c) (hc : c ≠ 0) (hf : InF R base w w') : Fails r R base w (fault (c : Int)) w' := ⟨c, h, hc, rfl, hf⟩
end Go.Proofs.Ythfdnloeicbgkaa

/- A row of numbers that fills a block. -/
namespace Go.Proofs.Ythfdnloeicbgkaa
open Go.RowKit

/-- a row of numbers fills a block -/
def DRow (W : World) (b : Nat) (l : List Int) : Prop := W.heap[b]? = some (.cells (l.map (Value.int .i64)).toArray 3 (0, 0))
theorem DRow.kept {W W' : World} {b : Nat} {l : List Int} (h : DRow W b l) (hb : W'.heap[b]? = W.heap[b]?) : DRow W' b l := hb.trans h
theorem DRow.lt {W : World} {b : Nat} {l : List Int} (h : DRow W b l) : b < W.heap.size := (Array.getElem?_eq_some_iff.1 h).1
theorem DRow.cell {W : World} {b : Nat} {l : List Int} (h : DRow W b l) (i : Nat) (hi : i < l.length) : W.cell? ⟨b, i, none⟩ = some (.int .i64 l[i]) := by
  unfold World.cell?
  rw [show W.heap[b]? = _ from h]
  simp [hi]
theorem DRow.set {W : World} {b : Nat} {l : List Int} (h : DRow W b l) (k : Nat) (v : Int) : DRow (W.setCell ⟨b, k, none⟩ (.int .i64 v)) b (l.set k v) := by
  unfold DRow at *
  rw [setCell_eq_setRow W b k _ _ _ _ h, setRow_heap W b _ _ _ _ h]
  simp [List.map_set]
theorem cp_zeroD (n : Nat) : cp (List.replicate n (0 : Int)) 0 = ((List.replicate n (0 : Int)).map (Value.int .i64)).toArray := by
  unfold cp
  congr 1
  refine List.ext_getElem (by simp) (fun i h1 h2 => by simp)
theorem DRow.free {W : World} {b : Nat} {l : List Int} (h : DRow W b l) (i : Nat) : W.frozen? ⟨b, i, none⟩ = false := by
  unfold World.frozen?
  rw [show W.heap[b]? = _ from h]
  simp
end Go.Proofs.Ythfdnloeicbgkaa

/- The inflater of the specification in memory. -/
namespace Go.Proofs.Ythfdnloeicbgkaa
open Go.RowKit

/-- the reader: at bit p, l put out, a code noted -/
def Sx (w : World) (R base : Nat) (s : ByteArray) (p : Nat) (l : List UInt8) (lim c : Nat) (vk : Value) : Prop :=
  ∃ vo, w.heap[R]? = some (.cells #[.string s, .int .i64 (p : Int), .int .i64 (lim : Int), vo, .int .i64 (c : Int), vk] 52 (0, 0)) ∧ OwnT w base vo l.length l
section
variable {w w' : World} {R base p lim c : Nat} {s : ByteArray} {l : List UInt8} {vk : Value}
theorem Sx.lt (h : Sx w R base s p l lim c vk) : R < w.heap.size := by
  obtain ⟨vo, h, _⟩ := h
  exact (Array.getElem?_eq_some_iff.1 h).1
theorem Sx.cells (h : Sx w R base s p l lim c vk) : w.cell? ⟨R, 0, none⟩ = some (.string s) ∧ w.cell? ⟨R, 1, none⟩ = some (.int .i64 (p : Int)) ∧ w.cell? ⟨R, 2, none⟩ = some (.int .i64 (lim : Int)) ∧ w.cell? ⟨R, 4, none⟩ = some (.int .i64 (c : Int)) ∧ w.cell? ⟨R, 5, none⟩ = some vk := by
  obtain ⟨vo, h, _⟩ := h
  refine ⟨?_, ?_, ?_, ?_, ?_⟩ <;> simp [World.cell?, h]
theorem Sx.froz (h : Sx w R base s p l lim c vk) (j : Nat) : w.frozen? ⟨R, j, none⟩ = false := by
  obtain ⟨vo, h, _⟩ := h
  simp [World.frozen?, h]
theorem Sx.drewN (h : Sx w R base s p l lim c vk) (m : Nat) : Sx (w.drewN m) R base s p l lim c vk := h
theorem Sx.drew (h : Sx w R base s p l lim c vk) : Sx w.drew R base s p l lim c vk := h
theorem Sx.move (h : Sx w R base s p l lim c vk) (q : Nat) : Sx (w.setCell ⟨R, 1, none⟩ (.int .i64 (q : Int))) R base s q l lim c vk ∧ Only R w (w.setCell ⟨R, 1, none⟩ (.int .i64 (q : Int))) := by
  obtain ⟨vo, h1, h2⟩ := h
  refine ⟨⟨vo, ?_, ?_⟩, Only.own w R 1 _⟩
  · rw [setCell_eq_setRow w R 1 _ _ (0, 0) _ h1, setRow_heap w R _ _ _ _ h1]; simp
  · exact h2.besides (fun k hk => Below.heap_setCell w ⟨R, 1, none⟩ _ k (fun e => h2.away h1 (by decide) (by rw [hk, e])))
theorem Sx.setCode (h : Sx w R base s p l lim c vk) (d : Nat) : Sx (w.setCell ⟨R, 4, none⟩ (.int .i64 (d : Int))) R base s p l lim d vk ∧ Only R w (w.setCell ⟨R, 4, none⟩ (.int .i64 (d : Int))) := by
  obtain ⟨vo, h1, h2⟩ := h
  refine ⟨⟨vo, ?_, ?_⟩, Only.own w R 4 _⟩
  · rw [setCell_eq_setRow w R 4 _ _ (0, 0) _ h1, setRow_heap w R _ _ _ _ h1]; simp
  · exact h2.besides (fun k hk => Below.heap_setCell w ⟨R, 4, none⟩ _ k (fun e => h2.away h1 (by decide) (by rw [hk, e])))
theorem Sx.setKinds (h : Sx w R base s p l lim c vk) (v : Value) : Sx (w.setCell ⟨R, 5, none⟩ v) R base s p l lim c v ∧ Only R w (w.setCell ⟨R, 5, none⟩ v) := by
  obtain ⟨vo, h1, h2⟩ := h
  refine ⟨⟨vo, ?_, ?_⟩, Only.own w R 5 _⟩
  · rw [setCell_eq_setRow w R 5 _ _ (0, 0) _ h1, setRow_heap w R _ _ _ _ h1]; simp
  · exact h2.besides (fun k hk => Below.heap_setCell w ⟨R, 5, none⟩ _ k (fun e => h2.away h1 (by decide) (by rw [hk, e])))
theorem Sx.setBytes {vo v' : Value} (h1 : w.heap[R]? = some (.cells #[.string s, .int .i64 (p : Int), .int .i64 (lim : Int), vo, .int .i64 (c : Int), vk] 52 (0, 0))) (h2 : OwnT w base v' l.length l) :
    Sx (w.setCell ⟨R, 3, none⟩ v') R base s p l lim c vk := by
  refine ⟨v', ?_, h2.besides (fun k hk => Below.heap_setCell w ⟨R, 3, none⟩ _ k (fun e => h2.away h1 (by decide) (by rw [hk, e])))⟩
  rw [setCell_eq_setRow w R 3 _ _ (0, 0) _ h1, setRow_heap w R _ _ _ _ h1]; simp
/-- nothing that was there has turned -/
theorem Sx.kept (h : Sx w R base s p l lim c vk) (b : Below w.heap.size w w') : Sx w' R base s p l lim c vk := by
  have hl := h.lt
  obtain ⟨vo, h1, h2⟩ := h
  exact ⟨vo, (b.block R hl).trans h1, h2.besides (fun k hk => b.block k (World.ownsRow.lt (show World.ownsRow _ _ _ _ _ _ _ from h2) k hk).2)⟩
/-- the reader and its bytes apart -/
theorem Sx.open (h : Sx w R base s p l lim c vk) : ∃ ao cap, w.cell? ⟨R, 3, none⟩ = some (.slice ao l.length cap) ∧ OwnT w base (.slice ao l.length cap) l.length l ∧ w.heap[R]? = some (.cells #[.string s, .int .i64 (p : Int), .int .i64 (lim : Int), .slice ao l.length cap, .int .i64 (c : Int), vk] 52 (0, 0)) := by
  obtain ⟨vo, h1, h2⟩ := h
  obtain ⟨ao, cap, rfl⟩ := h2.shape
  exact ⟨ao, cap, by simp [World.cell?, h1], h2, h1⟩
end
/-- a list of numbers in memory that is no reader's -/
def Lst (w : World) (R : Nat) (a : Option Addr) (zs : List Int) : Prop :=
  zs = [] ∨ ∃ b off cs z, a = some ⟨b, off, none⟩ ∧ b ≠ R ∧ w.heap[b]? = some (.cells cs 3 z) ∧ ∀ i (hi : i < zs.length), cs[off + i]? = some (.int .i64 zs[i])
theorem Lst.ints {w : World} {R : Nat} {a : Option Addr} {zs : List Int} (h : Lst w R a zs) : Ints w a zs := by
  rcases h with h | ⟨b, off, cs, z, rfl, _, hb, hc⟩
  · exact .inl h
  · refine .inr ⟨b, off, rfl, (Array.getElem?_eq_some_iff.1 hb).1, fun i hi => ?_⟩
    simp only [World.cell?, hb]
    exact hc i hi
theorem Lst.inF {w w' : World} {R base : Nat} {a : Option Addr} {zs : List Int} (h : Lst w R a zs) (g : InF R base w w') : Lst w' R a zs := by
  rcases h with h | ⟨b, off, cs, z, rfl, hR, hb, hc⟩
  · exact .inl h
  · exact .inr ⟨b, off, cs, z, rfl, hR, g.block hb hR (by decide), hc⟩
theorem Lst.kept {w w' : World} {R : Nat} {a : Option Addr} {zs : List Int} (h : Lst w R a zs) (g : Below w.heap.size w w') : Lst w' R a zs := h.inF (InF.of_below (base := 0) g)
theorem Lst.arr (w : World) {R : Nat} (zs : List Int) (hR : R ≠ w.heap.size) : Lst (w.alloc (.cells (arr zs) 3)) R (some ⟨w.heap.size, 0, none⟩) zs :=
  .inr ⟨w.heap.size, 0, _, _, rfl, Ne.symm hR, heap_alloc_new _ _, fun i hi => by rw [Nat.zero_add]; exact arr_get zs i hi⟩
end Go.Proofs.Ythfdnloeicbgkaa

/- Bytes that the inflater puts out. -/
namespace Go.Proofs.Ythfdnloeicbgkaa
open Go.RowKit

theorem OwnT.isRow {w : World} {B n k : Nat} {v : Value} {l : List UInt8} (h : OwnT w B v n l) (hk : v.ownBlock = some k) : isRow 5 (w.heap[k]?) ∧ B ≤ k := by
  rcases h.2 with ⟨rfl, _⟩ | ⟨g, cap, cur, rfl, hB, hg, _⟩
  · cases hk
  · cases hk
    rw [hg]
    exact ⟨rfl, hB⟩
/-- the bytes are others now -/
theorem In.setBytes {w : World} {R base p lim : Nat} {s : ByteArray} {l : List UInt8} {vo vk fx v' : Value} (h1 : w.heap[R]? = some (.cells #[ordV false, .string s, .int .i64 (p : Int), vo, .int .i64 (lim : Int), vk, fx] 47 (0, 0))) (h2 : OwnT w base v' l.length l) :
    In (w.setCell ⟨R, 3, none⟩ v') R base s p l lim vk fx := by
  refine ⟨v', ?_, h2.besides (fun k hk => Below.heap_setCell w ⟨R, 3, none⟩ _ k (fun e => h2.away h1 (by decide) (by rw [hk, e])))⟩
  rw [setCell_eq_setRow w R 3 _ _ (0, 0) _ h1, setRow_heap w R _ _ _ _ h1]; simp

/-- how put ends -/
def PutEnd (w : World) (R base : Nat) (s : ByteArray) (p : Nat) (l : List UInt8) (lim : Nat) (vk fx : Value) (c : UInt8) (e : Ending) (w' : World) : Prop :=
  (l.length < lim ∧ e = .returned (.tuple #[]) ∧ In w' R base s p (l ++ [c]) lim vk fx ∧ InF R base w w') ∨ (¬ l.length < lim ∧ e = fault 3 ∧ InF R base w w')

set_option maxHeartbeats 2000000 in
theorem nfPut_yes (R base p lim : Nat) (l : List UInt8) (vk fx : Value) (s : ByteArray) (c : UInt8) (w : World) (h : In w R base s p l lim vk fx) (hb : base ≤ w.heap.size) (hn : l.length < lim) (hl : lim ≤ 5000) :
    Calls Try.prog 100 #[.pointer (some ⟨R, 3, none⟩), .int .u8 ((c.toNat : Nat) : Int)] w fun e w' => e = .returned (.tuple #[]) ∧ In w' R base s p (l ++ [c]) lim vk fx ∧ InF R base w w' := by
  obtain ⟨ao, cap, c0, hv, hc⟩ := h.open
  have c1 := h.cells.2.2.2.1
  obtain ⟨n, hn0⟩ : ∃ n, n = l.length := ⟨_, rfl⟩
  rw [← hn0] at c0 hv hc hn
  have HN : Hid (n = l.length) := hn0
  have HO : Hid (OwnT w base (.slice ao n cap) n l ∧ w.heap[R]? = some (.cells #[ordV false, .string s, .int .i64 (p : Int), .slice ao n cap, .int .i64 (lim : Int), vk, fx] 47 (0, 0))) := ⟨hv, hc⟩
  have hni : (n : Int) < (lim : Int) := by omega
  have hcl := UInt8.toNat_lt c
  obtain ⟨z, hz⟩ : ∃ z : Int, z = ((c.toNat : Nat) : Int) := ⟨_, rfl⟩
  have HZ : Hid (z = ((c.toNat : Nat) : Int)) := hz
  rw [← hz]
  clear h hv hc hz hcl hn0
  go_enter Try.func100, Try.ntmps100
  go_wp2_with fail
  go_quiet ((go_at_call 99; exact Calls.quiet_of_same (insist_of _ 3 _ (by first | rfl | simp <;> omega))))
  have c0' : (w.drewN nq).cell? ⟨R, 3, none⟩ = some (.slice ao n cap) := c0
  have HO' : Hid (OwnT (w.drewN nq) base (.slice ao n cap) n l ∧ (w.drewN nq).heap[R]? = some (.cells #[ordV false, .string s, .int .i64 (p : Int), .slice ao n cap, .int .i64 (lim : Int), vk, fx] 47 (0, 0)) ∧ InF R base w (w.drewN nq) ∧ base ≤ (w.drewN nq).heap.size) := ⟨HO.out.1, HO.out.2, (InF.refl _ _ _).drewN nq, hb⟩
  clear c0 c1 HO hb hni
  generalize w.drewN nq = w1 at *
  go_wp2_with (at_builtin; refine wpList_appT1 w1 (by rfl) _ _ (by rfl) base _ n l _ c HZ.out (by rfl) HO'.out.1 (by rfl) (by omega) HO'.out.2.2.2 ?_)
  intro g cap4 w4 hown4 hgrow
  have hR1 : R < w1.heap.size := (Array.getElem?_eq_some_iff.1 HO'.out.2.1).1
  have hc4 : w4.heap[R]? = some (.cells #[ordV false, .string s, .int .i64 (p : Int), .slice ao n cap, .int .i64 (lim : Int), vk, fx] 47 (0, 0)) := (hgrow.block R hR1 (fun e => HO'.out.1.away HO'.out.2.1 (by decide) e.symm)).trans HO'.out.2.1
  have k0 : w4.cell? ⟨R, 3, none⟩ = some (.slice ao n cap) := by simp [World.cell?, hc4]
  have k1 : w4.frozen? ⟨R, 3, none⟩ = false := by simp [World.frozen?, hc4]
  have HF : Hid (In (w4.setCell ⟨R, 3, none⟩ (.slice (some ⟨g, 0, none⟩) (n + 1) cap4)) R base s p (l ++ [c]) lim vk fx ∧ InF R base w (w4.setCell ⟨R, 3, none⟩ (.slice (some ⟨g, 0, none⟩) (n + 1) cap4))) := by
    refine ⟨In.setBytes hc4 (by rw [List.length_append, ← HN.out]; exact hown4), HO'.out.2.2.1.trans ⟨hgrow.os, hgrow.tape, hgrow.output, by rw [World.size_setCell]; exact hgrow.size, fun k hk h1 h2 => ?_⟩⟩
    refine (Below.heap_setCell w4 ⟨R, 3, none⟩ _ k h1).trans (hgrow.block k hk (fun e => ?_))
    have := HO'.out.1.isRow e.symm
    rcases h2 with h2 | h2
    · omega
    · exact h2 this.1
  clear hc4 hown4 hgrow HO'
  go_wp2_with fail
  go_end0
  exact ⟨rfl, HF.out⟩

set_option linter.unusedSimpArgs false in
set_option maxHeartbeats 2000000 in
theorem nfPut_no (O lim n : Nat) (ao : Option Addr) (cap : Nat) (z : Int) (w : World) (c0 : w.cell? ⟨O, 3, none⟩ = some (.slice ao n cap)) (c1 : w.cell? ⟨O, 4, none⟩ = some (.int .i64 (lim : Int))) (hn : lim ≤ n) :
    Calls Try.prog 100 #[.pointer (some ⟨O, 3, none⟩), .int .u8 z] w fun e w' => e = fault 3 ∧ ∃ q, w' = w.drewN q := by
  have hni : ¬ (n : Int) < (lim : Int) := by omega
  go_enter Try.func100, Try.ntmps100
  go_wp2_with fail
  refine wp_region_held_drew (S := fun w' => w'.cell? ⟨O, 3, none⟩ = some (.slice ao n cap) ∧ w'.cell? ⟨O, 4, none⟩ = some (.int .i64 (lim : Int))) (by kernel_rfl) ⟨c0, c1⟩ (fun _ => ?_)
  refine wpAnyH_take (i := 0) (v := .pointer (some ⟨O, 3, none⟩)) rfl (by kernel_rfl) (by kernel_rfl) (by kernel_rfl) (fun _ _ _ h => h) (Or.inl ⟨by rfl, ?_⟩) ⟨c0, c1⟩ ?_
  · rintro w' ⟨s1, s2⟩
    go_simp
    try omega
  try simp only [Act.put, List.setIfInBounds_toArray, List.set_cons_zero, List.set_cons_succ]
  refine wpAnyH_take (i := 1) (v := .pointer (some ⟨O, 3, none⟩)) rfl (by kernel_rfl) (by kernel_rfl) (by kernel_rfl) (fun _ _ _ h => h) (Or.inl ⟨by rfl, ?_⟩) ⟨c0, c1⟩ ?_
  · rintro w' ⟨s1, s2⟩
    go_simp
    try omega
  try simp only [Act.put, List.setIfInBounds_toArray, List.set_cons_zero, List.set_cons_succ]
  refine wpAnyH_take (i := 2) (v := .pointer (some ⟨O, 3, none⟩)) rfl (by kernel_rfl) (by kernel_rfl) (by kernel_rfl) (fun _ _ _ h => h) (Or.inl ⟨by rfl, ?_⟩) ⟨c0, c1⟩ ?_
  · rintro w' ⟨s1, s2⟩
    go_simp
    try omega
  try simp only [Act.put, List.setIfInBounds_toArray, List.set_cons_zero, List.set_cons_succ]
  refine wpAnyH_take (i := 3) (v := .slice ao n cap) rfl (by kernel_rfl) (by kernel_rfl) (by kernel_rfl) (fun _ _ _ h => h) (Or.inl ⟨by rfl, ?_⟩) ⟨c0, c1⟩ ?_
  · rintro w' ⟨s1, s2⟩
    go_simp
    try omega
  try simp only [Act.put, List.setIfInBounds_toArray, List.set_cons_zero, List.set_cons_succ]
  refine wpAnyH_take (i := 4) (v := .int .i64 (n : Int)) rfl (by kernel_rfl) (by kernel_rfl) (by kernel_rfl) (fun _ _ _ h => h) (Or.inl ⟨by rfl, ?_⟩) ⟨c0, c1⟩ ?_
  · rintro w' ⟨s1, s2⟩
    go_simp
    try omega
  try simp only [Act.put, List.setIfInBounds_toArray, List.set_cons_zero, List.set_cons_succ]
  refine wpAnyH_take (i := 5) (v := .pointer (some ⟨O, 3, none⟩)) rfl (by kernel_rfl) (by kernel_rfl) (by kernel_rfl) (fun _ _ _ h => h) (Or.inl ⟨by rfl, ?_⟩) ⟨c0, c1⟩ ?_
  · rintro w' ⟨s1, s2⟩
    go_simp
    try omega
  try simp only [Act.put, List.setIfInBounds_toArray, List.set_cons_zero, List.set_cons_succ]
  refine wpAnyH_take (i := 6) (v := .pointer (some ⟨O, 3, none⟩)) rfl (by kernel_rfl) (by kernel_rfl) (by kernel_rfl) (fun _ _ _ h => h) (Or.inl ⟨by rfl, ?_⟩) ⟨c0, c1⟩ ?_
  · rintro w' ⟨s1, s2⟩
    go_simp
    try omega
  try simp only [Act.put, List.setIfInBounds_toArray, List.set_cons_zero, List.set_cons_succ]
  refine wpAnyH_take (i := 7) (v := .pointer (some ⟨O, 4, none⟩)) rfl (by kernel_rfl) (by kernel_rfl) (by kernel_rfl) (fun _ _ _ h => h) (Or.inl ⟨by rfl, ?_⟩) ⟨c0, c1⟩ ?_
  · rintro w' ⟨s1, s2⟩
    go_simp
    try omega
  try simp only [Act.put, List.setIfInBounds_toArray, List.set_cons_zero, List.set_cons_succ]
  refine wpAnyH_take (i := 8) (v := .int .i64 (lim : Int)) rfl (by kernel_rfl) (by kernel_rfl) (by kernel_rfl) (fun _ _ _ h => h) (Or.inl ⟨by rfl, ?_⟩) ⟨c0, c1⟩ ?_
  · rintro w' ⟨s1, s2⟩
    go_simp
    try omega
  try simp only [Act.put, List.setIfInBounds_toArray, List.set_cons_zero, List.set_cons_succ]
  refine wpAnyH_take (i := 9) (v := .bool false) rfl (by kernel_rfl) (by kernel_rfl) (by kernel_rfl) (fun _ _ _ h => h) (Or.inl ⟨by rfl, ?_⟩) ⟨c0, c1⟩ ?_
  · rintro w' ⟨s1, s2⟩
    go_simp
    try omega
  try simp only [Act.put, List.setIfInBounds_toArray, List.set_cons_zero, List.set_cons_succ]
  refine wpAnyH_ready (rs := [10]) (by kernel_rfl) (by simp) ?_
  refine AllReadyH.cons rfl (fun K hK => ?_) AllReadyH.nil
  go_simp
  refine (insist_no 3 _).mono ?_
  rintro e w2 ⟨rfl, rfl⟩
  unfold fault
  go_wp2_with fail
  exact ⟨rfl, rfl, 1, rfl⟩

theorem nfPut_any (R base p lim : Nat) (l : List UInt8) (vk fx : Value) (s : ByteArray) (c : UInt8) (w : World) (h : In w R base s p l lim vk fx) (hb : base ≤ w.heap.size) (hl : lim ≤ 5000) :
    Calls Try.prog 100 #[.pointer (some ⟨R, 3, none⟩), .int .u8 ((c.toNat : Nat) : Int)] w (PutEnd w R base s p l lim vk fx c) := by
  by_cases hn : l.length < lim
  · refine (nfPut_yes R base p lim l vk fx s c w h hb hn hl).mono ?_
    rintro e w' ⟨h1, h2, h3⟩
    exact .inl ⟨hn, h1, h2, h3⟩
  · obtain ⟨ao, cap, c0, _, _⟩ := h.open
    refine (nfPut_no R lim l.length ao cap _ w c0 h.cells.2.2.2.1 (by omega)).mono ?_
    rintro e w' ⟨h1, q, rfl⟩
    exact .inr ⟨hn, h1, (InF.refl _ _ _).drewN q⟩

/-- how again ends -/
def AgnEnd (w : World) (R base : Nat) (s : ByteArray) (p : Nat) (l : List UInt8) (lim : Nat) (vk fx : Value) (S D : Nat) (e : Ending) (w' : World) : Prop :=
  (∃ l2, Nf.rep lim l S D = .ok l2 ∧ e = .returned (.tuple #[]) ∧ In w' R base s p l2 lim vk fx ∧ InF R base w w' ∧ l2.length ≤ lim) ∨ Fails (Nf.rep lim l S D) R base w e w'

/-- a byte that was put out -/
theorem row_at {w : World} {base n J cap : Nat} {ao : Option Addr} {l : List UInt8} (h : OwnT w base (.slice ao n cap) n l) (hJ : J < n) : ∃ g, ao = some ⟨g, 0, none⟩ ∧ w.cell? ⟨g, J, none⟩ = some (.int .u8 (((l.getD J 0).toNat : Nat) : Int)) := by
  have hl := h.len
  have hh := h
  rcases h.2 with ⟨e, h0⟩ | ⟨g, cp, cur, e, _⟩
  · omega
  · cases e
    refine ⟨g, rfl, ?_⟩
    have := World.ownsRow.cellAt (show World.ownsRow _ _ _ _ _ _ _ from hh) J (by omega)
    rw [this]
    unfold u8V
    rw [List.getElem?_map, List.getD_eq_getElem?_getD, List.getElem?_eq_getElem (by omega)]
    rfl

set_option maxHeartbeats 4000000 in
set_option maxRecDepth 100000 in
theorem nfAgain_any (R base p lim S D : Nat) (l : List UInt8) (vk fx : Value) (s : ByteArray) (w : World) (h : In w R base s p l lim vk fx) (hb : base ≤ w.heap.size) (hl : lim ≤ 5000) (hq : l.length ≤ lim) (hD1 : 1 ≤ D) (hD2 : D ≤ 100000) (hS : S ≤ 1000) :
    Calls Try.prog 135 #[.pointer (some ⟨R, 3, none⟩), .int .i64 (S : Int), .int .i64 (D : Int)] w (AgnEnd w R base s p l lim vk fx S D) := by
  obtain ⟨ao0, cp0, c0, _, _⟩ := h.open
  have HK : Hid (In w R base s p l lim vk fx ∧ InF R base w w) := ⟨h, InF.refl _ _ _⟩
  obtain ⟨m, hm⟩ : ∃ m, m = l.length := ⟨_, rfl⟩
  have HM : Hid (m = l.length) := hm
  rw [← hm] at c0 hq
  clear h hm
  by_cases hD : D ≤ m
  · have hdi : (D : Int) ≤ (m : Int) := by omega
    go_enter Try.func135, Try.ntmps135
    go_wp2_with fail
    refine (insist_of _ 1 _ (by first | rfl | simp <;> omega)).mono ?_
    rintro e w1 ⟨rfl, hw1⟩
    replace hw1 := hw1.symm
    subst hw1
    clear c0
    go_wp2_with fail
    go_loopw [15] (fun i wr => ∃ (c : Nat) (r : List UInt8) (N : Nat), c ≤ S ∧ i = .int .i64 (c : Int) ∧ Hid (r = To.again l D c ∧ N = r.length) ∧ N ≤ m + c ∧ m + c ≤ N ∧ N ≤ lim ∧ Hid (In wr R base s p r lim vk fx ∧ InF R base w wr)) (fun i _ => S - (intOf i).toNat)
    case atStart => exact ⟨0, l, m, Nat.zero_le _, rfl, ⟨rfl, HM.out⟩, Nat.le_refl _, Nat.le_refl _, hq, HK⟩
    case round =>
      obtain ⟨c, r, N, hc, rfl, HR, hN1, hN2, hN5, HX⟩ := hrel
      clear HK
      by_cases hcS : c < S
      · have hci : (c : Int) < (S : Int) := by omega
        obtain ⟨ao, cp, k0, a2, _⟩ := HX.out.1.open
        rw [← HR.out.2] at a2 k0
        obtain ⟨J, hJ⟩ : ∃ J, J + D = N := ⟨N - D, by omega⟩
        have eJ : (N : Int) - (D : Int) = (J : Int) := by omega
        have hJw : IntKind.i64.wrap ((N : Int) - (D : Int)) = (J : Int) := by rw [eJ]; exact wrap_i64_nat J (by omega)
        have hJw2 : IntKind.i64.wrap (J : Int) = (J : Int) := wrap_i64_nat J (by omega)
        have hJN : J < N := by omega
        have hJi : (J : Int) < (N : Int) := by omega
        obtain ⟨g2, rfl, hcell⟩ := row_at a2 hJN
        obtain ⟨x, hx⟩ : ∃ x, x = r.getD J 0 := ⟨_, rfl⟩
        rw [← hx] at hcell
        have HR2 : Hid (r ++ [x] = To.again l D (c + 1) ∧ N + 1 = (r ++ [x]).length) := by
          have hJ' : J = r.length - D := by have := HR.out.2; omega
          refine ⟨?_, by rw [List.length_append, ← HR.out.2]; rfl⟩
          show r ++ [x] = To.again l D c ++ [(To.again l D c).getD ((To.again l D c).length - D) 0]
          rw [← HR.out.1, ← hJ', hx]
        have HPE : Hid (Calls Try.prog 100 #[.pointer (some ⟨R, 3, none⟩), .int .u8 ((x.toNat : Nat) : Int)] wr.drew (PutEnd wr.drew R base s p r lim vk fx x)) := nfPut_any R base p lim r vk fx s x wr.drew HX.out.1.drew (Nat.le_trans hb HX.out.2.size) hl
        obtain ⟨z, hz⟩ : ∃ z : Int, z = ((x.toNat : Nat) : Int) := ⟨_, rfl⟩
        rw [← hz] at hcell HPE
        have HXX : Hid (InF R base w wr) := HX.out.2
        clear a2 hx hz hJ HX
        go_wp2_with fail
        go_still_tail 14, (by kernel_rfl)
        repeat still_step
        go_wp2_with fail
        refine HPE.out.mono ?_
        rintro e w4 (⟨p1, rfl, p2, p3⟩ | ⟨p1, rfl, p3⟩)
        · rw [← HR.out.2] at p1
          have HK4 : Hid (In w4 R base s p (r ++ [x]) lim vk fx ∧ InF R base w w4) := ⟨p2, (HXX.out.drewN 1).trans p3⟩
          clear p2 p3 HPE k0 hcell
          go_wp2_with fail
          go_roundw
          case rel => exact ⟨c + 1, r ++ [x], N + 1, by omega, by go_num, HR2, by omega, by omega, by omega, HK4⟩
          case measure => simp [intOf]; omega
        · rw [← HR.out.2] at p1
          have HF : Hid (AgnEnd w R base s p l lim vk fx S D (fault 3) w4) := .inr (Fails.mk (c := 3) (Nf.rep_long (by rw [← HM.out]; exact hD) (by rw [← HM.out]; omega)) (by decide) ((HXX.out.drewN 1).trans p3))
          clear p3 HPE k0 hcell
          unfold fault
          go_wp2_with fail
          exact ⟨rfl, HF.out⟩
      · have hci : ¬ (c : Int) < (S : Int) := by omega
        have hcS2 : c = S := by omega
        have HF : Hid (AgnEnd w R base s p l lim vk fx S D (.returned (.tuple #[])) wr) := .inl ⟨To.again l D S, Nf.rep_ok (by rw [← HM.out]; exact hD) (by rw [← HM.out]; omega), rfl, by rw [← hcS2, ← HR.out.1]; exact HX.out.1, HX.out.2, by rw [← hcS2, ← HR.out.1, ← HR.out.2]; exact hN5⟩
        clear hcS2 HX
        go_wp2_with fail
        go_end0
        exact HF.out
  · have hdi : ¬ (D : Int) ≤ (m : Int) := by omega
    have HF : Hid (AgnEnd w R base s p l lim vk fx S D (fault 1) w) := .inr (Fails.mk (c := 1) (Nf.rep_bad (by rw [← HM.out]; exact hD)) (by decide) (InF.refl _ _ _))
    clear HK HM
    go_enter Try.func135, Try.ntmps135
    go_wp2_with fail
    refine (insist_not _ 1 _ (by first | rfl | simp <;> omega)).mono ?_
    rintro e w1 ⟨rfl, hw1⟩
    replace hw1 := hw1.symm
    subst hw1
    unfold fault
    go_wp2_with fail
    exact ⟨rfl, HF.out⟩
end Go.Proofs.Ythfdnloeicbgkaa

/- Bits, bytes and codes noted, as the specification's inflater takes them. -/
namespace Go.Proofs.Ythfdnloeicbgkaa
open Go.RowKit

set_option maxHeartbeats 1000000 in
theorem sxFail_new (R base p lim d : Nat) (l : List UInt8) (vk : Value) (s : ByteArray) (w : World) (h : Sx w R base s p l lim 0 vk) :
    Calls Try.prog 68 #[.pointer (some ⟨R, 0, none⟩), .int .i64 (d : Int)] w fun e w' => e = .returned (.tuple #[]) ∧ Sx w' R base s p l lim d vk ∧ Only R w w' := by
  have c4 : w.cell? ⟨R, 4, none⟩ = some (.int .i64 0) := h.cells.2.2.2.1
  have f4 := h.froz 4
  have HF : Hid (Sx (w.setCell ⟨R, 4, none⟩ (.int .i64 (d : Int))) R base s p l lim d vk ∧ Only R w (w.setCell ⟨R, 4, none⟩ (.int .i64 (d : Int)))) := h.setCode d
  clear h
  go_enter Try.func68, Try.ntmps68
  go_wp2_with fail
  go_end0
  exact ⟨rfl, HF.out.1, HF.out.2⟩
set_option maxHeartbeats 1000000 in
theorem sxFail_old (R base p lim c : Nat) (d : Int) (l : List UInt8) (vk : Value) (s : ByteArray) (w : World) (h : Sx w R base s p l lim c vk) (hc : c ≠ 0) :
    Calls Try.prog 68 #[.pointer (some ⟨R, 0, none⟩), .int .i64 d] w fun e w' => e = .returned (.tuple #[]) ∧ w' = w := by
  have c4 := h.cells.2.2.2.1
  have hci : ¬ (c : Int) = 0 := by omega
  clear h hc
  go_enter Try.func68, Try.ntmps68
  go_wp2_with fail
  go_end0
  exact ⟨rfl, rfl⟩

set_option maxHeartbeats 2000000 in
theorem sxBits_yes (R base p n lim : Nat) (l : List UInt8) (vk : Value) (s : ByteArray) (w : World) (h : Sx w R base s p l lim 0 vk) (hs : s.size ≤ 9000) (hn : n ≤ 24) (hin : p + n ≤ 8 * s.size) :
    Calls Try.prog 64 #[.pointer (some ⟨R, 0, none⟩), .int .i64 (n : Int)] w fun e w' => e = .returned (.int .i64 ((Nf.num s n p : Nat) : Int)) ∧ Sx w' R base s (p + n) l lim 0 vk ∧ Only R w w' := by
  obtain ⟨c0, c1, c2, c4, -⟩ := h.cells
  have f1 := h.froz 1
  obtain ⟨q, hq⟩ : ∃ q : Nat, q = p + n := ⟨_, rfl⟩
  have hqi : (p : Int) + (n : Int) = (q : Int) := by omega
  have hqw : IntKind.i64.wrap ((p : Int) + (n : Int)) = (q : Int) := by rw [hqi]; exact wrap_i64_nat q (by omega)
  have hqs : ¬ (q : Int) > 8 * (s.size : Int) := by omega
  have hq2 : q ≤ 8 * s.size := by omega
  have HG : Hid (∀ w : World, Calls Try.prog 106 #[.string s, .int .i64 (p : Int), .int .i64 (n : Int), .bool false] w fun e w' => e = .returned (.int .i64 ((Nf.num s n p : Nat) : Int)) ∧ ∃ m, w' = w.drewN m) := fun w => l1Get_low s p n w hin hs hn
  have HX : Hid (Sx w R base s p l lim 0 vk ∧ q = p + n) := ⟨h, hq⟩
  have hv := Nf.num_lt s n p
  generalize Nf.num s n p = V at *
  clear h hin hq hn hv
  replace c4 : w.cell? ⟨R, 4, none⟩ = some (.int .i64 0) := c4
  go_enter Try.func64, Try.ntmps64
  go_wp2_with fail
  go_region
  have HX1 : Hid (Sx w.drew R base s p l lim 0 vk ∧ q = p + n ∧ Only R w w.drew) := ⟨HX.out.1.drew, HX.out.2, (Only.refl R w).drewN 1⟩
  replace c0 : w.drew.cell? ⟨R, 0, none⟩ = some (.string s) := c0
  replace c1 : w.drew.cell? ⟨R, 1, none⟩ = some (.int .i64 (p : Int)) := c1
  replace f1 : w.drew.frozen? ⟨R, 1, none⟩ = false := f1
  clear c2 c4 HX
  generalize w.drew = w1 at *
  go_wp2_with fail
  go_quiet ((go_at_call 106; exact Calls.quiet_of (HG.out _)))
  go_wp2_with fail
  have HF : Hid (Sx ((w1.drewN nq).setCell ⟨R, 1, none⟩ (.int .i64 (q : Int))) R base s (p + n) l lim 0 vk ∧ Only R w ((w1.drewN nq).setCell ⟨R, 1, none⟩ (.int .i64 (q : Int)))) := by
    have h1 := (HX1.out.1.drewN nq).move q
    rw [HX1.out.2.1] at h1 ⊢
    exact ⟨h1.1, (HX1.out.2.2.drewN nq).trans h1.2⟩
  go_ret
  exact ⟨rfl, HF.out.1, HF.out.2⟩
set_option maxHeartbeats 2000000 in
theorem sxBits_no (R base p n lim : Nat) (l : List UInt8) (vk : Value) (s : ByteArray) (w : World) (h : Sx w R base s p l lim 0 vk) (hs : s.size ≤ 9000) (hp : p ≤ 8 * s.size) (hn : n ≤ 24) (hin : ¬ p + n ≤ 8 * s.size) :
    Calls Try.prog 64 #[.pointer (some ⟨R, 0, none⟩), .int .i64 (n : Int)] w fun e w' => e = .returned (.int .i64 0) ∧ Sx w' R base s p l lim 2 vk ∧ Only R w w' := by
  obtain ⟨c0, c1, c2, c4, -⟩ := h.cells
  obtain ⟨q, hq⟩ : ∃ q : Nat, q = p + n := ⟨_, rfl⟩
  have hqi : (p : Int) + (n : Int) = (q : Int) := by omega
  have hqw : IntKind.i64.wrap ((p : Int) + (n : Int)) = (q : Int) := by rw [hqi]; exact wrap_i64_nat q (by omega)
  have hqs : (q : Int) > 8 * (s.size : Int) := by omega
  have hq2 : q ≤ 8 * s.size + 24 := by omega
  have HX : Hid (Sx w R base s p l lim 0 vk) := h
  clear h hin hq hn
  replace c4 : w.cell? ⟨R, 4, none⟩ = some (.int .i64 0) := c4
  go_enter Try.func64, Try.ntmps64
  go_wp2_with fail
  go_region
  have HFL : Hid (Calls Try.prog 68 #[.pointer (some ⟨R, 0, none⟩), .int .i64 2] w.drew fun e w' => e = .returned (.tuple #[]) ∧ Sx w' R base s p l lim 2 vk ∧ Only R w.drew w') := sxFail_new R base p lim 2 l vk s w.drew HX.out.drew
  go_wp2_with fail
  refine HFL.out.mono ?_
  rintro e w1 ⟨rfl, h1, h2⟩
  have HF : Hid (Sx w1 R base s p l lim 2 vk ∧ Only R w w1) := ⟨h1, ((Only.refl R w).drewN 1).trans h2⟩
  clear h1 h2 HFL
  go_wp2_with fail
  go_ret
  exact ⟨rfl, HF.out.1, HF.out.2⟩
set_option maxHeartbeats 2000000 in
theorem sxBits_old (R base p lim c : Nat) (n : Int) (l : List UInt8) (vk : Value) (s : ByteArray) (w : World) (h : Sx w R base s p l lim c vk) (hc : c ≠ 0) :
    Calls Try.prog 64 #[.pointer (some ⟨R, 0, none⟩), .int .i64 n] w fun e w' => e = .returned (.int .i64 0) ∧ ∃ m, w' = w.drewN m := by
  obtain ⟨c0, c1, c2, c4, -⟩ := h.cells
  have hci : ¬ (c : Int) = 0 := by omega
  have hcn : ((c : Int) != 0) = true := by simp; omega
  have HFL : Hid (∀ m, Calls Try.prog 68 #[.pointer (some ⟨R, 0, none⟩), .int .i64 2] (w.drewN m) fun e w' => e = .returned (.tuple #[]) ∧ w' = w.drewN m) := fun m => sxFail_old R base p lim c 2 l vk s (w.drewN m) (h.drewN m) hc
  clear h hc
  go_enter Try.func64, Try.ntmps64
  go_wp2_with fail
  go_quiet (fail)
  go_wp2_with fail
  refine (HFL.out nq).mono ?_
  rintro e w1 ⟨rfl, rfl⟩
  go_wp2_with fail
  go_ret
  exact ⟨rfl, nq, rfl⟩
/-- how bits ends -/
def SBits (w : World) (R base : Nat) (s : ByteArray) (p n : Nat) (l : List UInt8) (lim : Nat) (vk : Value) (e : Ending) (w' : World) : Prop :=
  (∃ v, Nf.nxt s n p = .ok v ∧ e = .returned (.int .i64 (v : Int)) ∧ Sx w' R base s (p + n) l lim 0 vk ∧ Only R w w') ∨ (Nf.nxt s n p = .error 2 ∧ e = .returned (.int .i64 0) ∧ Sx w' R base s p l lim 2 vk ∧ Only R w w')
theorem sxBits_any (R base p n lim : Nat) (l : List UInt8) (vk : Value) (s : ByteArray) (w : World) (h : Sx w R base s p l lim 0 vk) (hs : s.size ≤ 9000) (hp : p ≤ 8 * s.size) (hn : n ≤ 24) :
    Calls Try.prog 64 #[.pointer (some ⟨R, 0, none⟩), .int .i64 (n : Int)] w (SBits w R base s p n l lim vk) := by
  by_cases hin : p + n ≤ 8 * s.size
  · refine (sxBits_yes R base p n lim l vk s w h hs hn hin).mono ?_
    rintro e w' ⟨h1, h2, h3⟩
    exact .inl ⟨_, Nf.nxt_yes hin, h1, h2, h3⟩
  · refine (sxBits_no R base p n lim l vk s w h hs hp hn hin).mono ?_
    rintro e w' ⟨h1, h2, h3⟩
    exact .inr ⟨Nf.nxt_no hin, h1, h2, h3⟩

/-- how put ends -/
def SPut (w : World) (R base : Nat) (s : ByteArray) (p : Nat) (l : List UInt8) (lim : Nat) (vk : Value) (c : UInt8) (e : Ending) (w' : World) : Prop :=
  e = .returned (.tuple #[]) ∧ InF R base w w' ∧ ((l.length < lim ∧ Sx w' R base s p (l ++ [c]) lim 0 vk) ∨ (¬ l.length < lim ∧ Sx w' R base s p l lim 3 vk))
set_option maxHeartbeats 2000000 in
theorem sxPut_yes (R base p lim : Nat) (l : List UInt8) (vk : Value) (s : ByteArray) (c : UInt8) (w : World) (h : Sx w R base s p l lim 0 vk) (hb : base ≤ w.heap.size) (hn : l.length < lim) (hl : lim ≤ 5000) :
    Calls Try.prog 107 #[.pointer (some ⟨R, 0, none⟩), .int .u8 ((c.toNat : Nat) : Int)] w fun e w' => e = .returned (.tuple #[]) ∧ Sx w' R base s p (l ++ [c]) lim 0 vk ∧ InF R base w w' := by
  obtain ⟨ao, cap, c0, hv, hc⟩ := h.open
  have c1 := h.cells.2.2.1
  obtain ⟨n, hn0⟩ : ∃ n, n = l.length := ⟨_, rfl⟩
  rw [← hn0] at c0 hv hc hn
  have HN : Hid (n = l.length) := hn0
  have hni : ¬ (n : Int) ≥ (lim : Int) := by omega
  have hcl := UInt8.toNat_lt c
  obtain ⟨z, hz⟩ : ∃ z : Int, z = ((c.toNat : Nat) : Int) := ⟨_, rfl⟩
  have HZ : Hid (z = ((c.toNat : Nat) : Int)) := hz
  rw [← hz]
  have HO : Hid (OwnT w base (.slice ao n cap) n l ∧ w.heap[R]? = some (.cells #[.string s, .int .i64 (p : Int), .int .i64 (lim : Int), .slice ao n cap, .int .i64 ((0 : Nat) : Int), vk] 52 (0, 0)) ∧ base ≤ w.heap.size) := ⟨hv, hc, hb⟩
  clear h hv hc hz hcl hn0 hb
  go_enter Try.func107, Try.ntmps107
  go_wp2_with fail
  go_region
  have k0 : w.drew.cell? ⟨R, 3, none⟩ = some (.slice ao n cap) := c0
  have HO' : Hid (OwnT w.drew base (.slice ao n cap) n l ∧ w.drew.heap[R]? = some (.cells #[.string s, .int .i64 (p : Int), .int .i64 (lim : Int), .slice ao n cap, .int .i64 ((0 : Nat) : Int), vk] 52 (0, 0)) ∧ InF R base w w.drew ∧ base ≤ w.drew.heap.size) := ⟨HO.out.1, HO.out.2.1, (InF.refl _ _ _).drewN 1, HO.out.2.2⟩
  clear c0 c1 HO hni
  generalize w.drew = w1 at *
  go_wp2_with (at_builtin; refine wpList_appT1 w1 (by rfl) _ _ (by rfl) base _ n l _ c HZ.out (by rfl) HO'.out.1 (by rfl) (by omega) HO'.out.2.2.2 ?_)
  intro g cap4 w4 hown4 hgrow
  have hR1 : R < w1.heap.size := (Array.getElem?_eq_some_iff.1 HO'.out.2.1).1
  have hc4 : w4.heap[R]? = some (.cells #[.string s, .int .i64 (p : Int), .int .i64 (lim : Int), .slice ao n cap, .int .i64 ((0 : Nat) : Int), vk] 52 (0, 0)) := (hgrow.block R hR1 (fun e => HO'.out.1.away HO'.out.2.1 (by decide) e.symm)).trans HO'.out.2.1
  have k1 : w4.cell? ⟨R, 3, none⟩ = some (.slice ao n cap) := by simp [World.cell?, hc4]
  have k2 : w4.frozen? ⟨R, 3, none⟩ = false := by simp [World.frozen?, hc4]
  have HF : Hid (Sx (w4.setCell ⟨R, 3, none⟩ (.slice (some ⟨g, 0, none⟩) (n + 1) cap4)) R base s p (l ++ [c]) lim 0 vk ∧ InF R base w (w4.setCell ⟨R, 3, none⟩ (.slice (some ⟨g, 0, none⟩) (n + 1) cap4))) := by
    refine ⟨Sx.setBytes hc4 (by rw [List.length_append, ← HN.out]; exact hown4), HO'.out.2.2.1.trans ⟨hgrow.os, hgrow.tape, hgrow.output, by rw [World.size_setCell]; exact hgrow.size, fun k hk h1 h2 => ?_⟩⟩
    refine (Below.heap_setCell w4 ⟨R, 3, none⟩ _ k h1).trans (hgrow.block k hk (fun e => ?_))
    have := HO'.out.1.isRow e.symm
    rcases h2 with h2 | h2
    · omega
    · exact h2 this.1
  clear hc4 hown4 hgrow HO'
  go_wp2_with fail
  go_end0
  exact ⟨rfl, HF.out⟩
set_option maxHeartbeats 2000000 in
theorem sxPut_no (R base p lim : Nat) (l : List UInt8) (vk : Value) (s : ByteArray) (z : Int) (w : World) (h : Sx w R base s p l lim 0 vk) (hn : ¬ l.length < lim) :
    Calls Try.prog 107 #[.pointer (some ⟨R, 0, none⟩), .int .u8 z] w fun e w' => e = .returned (.tuple #[]) ∧ Sx w' R base s p l lim 3 vk ∧ InF R base w w' := by
  obtain ⟨ao, cap, c0, -, -⟩ := h.open
  have c1 := h.cells.2.2.1
  have hni : (l.length : Int) ≥ (lim : Int) := by omega
  have HX : Hid (Sx w R base s p l lim 0 vk) := h
  clear h hn
  generalize l.length = n at *
  go_enter Try.func107, Try.ntmps107
  go_wp2_with fail
  go_region
  have HFL : Hid (Calls Try.prog 68 #[.pointer (some ⟨R, 0, none⟩), .int .i64 3] w.drew fun e w' => e = .returned (.tuple #[]) ∧ Sx w' R base s p l lim 3 vk ∧ Only R w.drew w') := sxFail_new R base p lim 3 l vk s w.drew HX.out.drew
  go_wp2_with fail
  refine HFL.out.mono ?_
  rintro e w1 ⟨rfl, h1, h2⟩
  have HF : Hid (Sx w1 R base s p l lim 3 vk ∧ InF R base w w1) := ⟨h1, ((InF.refl R base w).drewN 1).trans (InF.of_only h2)⟩
  clear h1 h2 HFL
  go_wp2_with fail
  refine bodyPost_ret (v := .tuple #[]) (by simp [results, Try.results107, go_sem]) rfl ?_
  exact ⟨rfl, HF.out⟩
theorem sxPut_any (R base p lim : Nat) (l : List UInt8) (vk : Value) (s : ByteArray) (c : UInt8) (w : World) (h : Sx w R base s p l lim 0 vk) (hb : base ≤ w.heap.size) (hl : lim ≤ 5000) :
    Calls Try.prog 107 #[.pointer (some ⟨R, 0, none⟩), .int .u8 ((c.toNat : Nat) : Int)] w (SPut w R base s p l lim vk c) := by
  by_cases hn : l.length < lim
  · refine (sxPut_yes R base p lim l vk s c w h hb hn hl).mono ?_
    rintro e w' ⟨h1, h2, h3⟩
    exact ⟨h1, h3, .inl ⟨hn, h2⟩⟩
  · refine (sxPut_no R base p lim l vk s _ w h hn).mono ?_
    rintro e w' ⟨h1, h2, h3⟩
    exact ⟨h1, h3, .inr ⟨hn, h2⟩⟩
end Go.Proofs.Ythfdnloeicbgkaa

/- CodeGet of the program. -/
namespace Go.Proofs.Ythfdnloeicbgkaa
open Go.RowKit

/-- there is a code, and a place in a text -/
def CgOk (s : ByteArray) (at_ : Int) (zs : List Int) : Prop := Cd.okB zs = true ∧ s.size ≤ 9000 ∧ 0 ≤ at_ ∧ at_ ≤ 8 * (s.size : Int)
instance (s : ByteArray) (at_ : Int) (zs : List Int) : Decidable (CgOk s at_ zs) := by unfold CgOk; infer_instance
end Go.Proofs.Ythfdnloeicbgkaa

/- CodeGet of the specification. -/
namespace Go.Proofs.Ythfdnloeicbgkaa
open Go.RowKit

/-- a cell of a list, wherever draws were made -/
theorem ints_at {w : World} {a : Option Addr} {zs : List Int} (h : Ints w a zs) {k : Nat} (hk : k < zs.length) : ∃ b off, a = some ⟨b, off, none⟩ ∧ ∀ m, (w.drewN m).cell? ⟨b, off + k, none⟩ = some (.int .i64 (zs.getD k 0)) := by
  rcases h with e | ⟨b, off, rfl, _, hc⟩
  · rw [e] at hk; simp at hk
  · exact ⟨b, off, rfl, fun m => by
      show w.cell? _ = _
      rw [hc k hk, List.getD_eq_getElem?_getD, List.getElem?_eq_getElem hk]; rfl⟩

end Go.Proofs.Ythfdnloeicbgkaa

/- The next symbol, and where a search ends, in the specification. -/
namespace Go.Proofs.Ythfdnloeicbgkaa
open Go.RowKit

/-- how l3Get ends, and where -/
def L3GotZ (w : World) (A M : Nat) (ans : Option (Nat × Nat)) (e : Ending) (w' : World) : Prop :=
  (∃ m, w' = w.drewN m) ∧ ((ans = none ∧ e = .returned (.tuple #[.int .i64 (-1), .int .i64 ((min (A + 15) M : Nat) : Int)])) ∨ ∃ i q : Nat, ans = some (i, q) ∧ e = .returned (.tuple #[.int .i64 (i : Int), .int .i64 (q : Int)]))
theorem l3GotZ_no {w w' : World} {A M P : Nat} {ans : Option (Nat × Nat)} (m : Nat) (hw : w' = w.drewN m) (h : ans = none) (hP : P = min (A + 15) M) : L3GotZ w A M ans (.returned (.tuple #[.int .i64 (-1), .int .i64 (P : Int)])) w' := ⟨⟨m, hw⟩, .inl ⟨h, by rw [hP]⟩⟩
theorem l3GotZ_yes {w w' : World} {A M : Nat} {ans : Option (Nat × Nat)} (i q m : Nat) (hw : w' = w.drewN m) (h : ans = some (i, q)) : L3GotZ w A M ans (.returned (.tuple #[.int .i64 (i : Int), .int .i64 (q : Int)])) w' := ⟨⟨m, hw⟩, .inr ⟨i, q, h, rfl⟩⟩

set_option maxHeartbeats 2000000 in
set_option maxRecDepth 20000 in
theorem l3GetZ_any (s : ByteArray) (A : Nat) (x : Option Addr) (cx : Nat) (a : Option Addr) (cap n : Nat) (zs : List Int) (w : World) (hx : Ints w x (Mk.mk zs)) (h : Ints w a zs) (hn : zs.length = n) (hg : GoodC zs) (hs : s.size ≤ 9000) (hA : A ≤ 8 * s.size) :
    Calls Try.prog 139 #[.string s, .int .i64 (A : Int), .slice x n cx, .slice a n cap] w (L3GotZ w A (8 * s.size) (Gt.get zs (bitAt s false) (8 * s.size) A)) := by
  have hl := hg.len
  have HG : Hid (GoodC zs) := hg
  have HN : Hid (zs.length = n) := hn
  have HI : Hid (Ints w a zs) := h
  have HX : Hid (Ints w x (Mk.mk zs)) := hx
  obtain ⟨ans, hans⟩ : ∃ ans, ans = Gt.get zs (bitAt s false) (8 * s.size) A := ⟨_, rfl⟩
  have HA0 : Hid (ans = Gt.go (Gt.S zs zs.length) (bitAt s false) (8 * s.size - (A + 0)) 0 0 (A + 0)) := hans
  rw [← hans]
  clear h hn hg hx hans
  go_enter Try.func139, Try.ntmps139
  go_wp2_with fail
  go_loopw [1, 10, 11] (fun p v d wr => ∃ D V P E m : Nat, D ≤ 15 ∧ P ≤ 8 * s.size ∧ E ≤ 16 ∧ E = D + 1 ∧ V < 2 ^ D ∧ p = .int .i64 (P : Int) ∧ v = .int .i64 (V : Int) ∧ d = .int .i64 (E : Int) ∧ Hid (P = A + D ∧ ans = Gt.go (Gt.S zs zs.length) (bitAt s false) (8 * s.size - (A + D)) D V (A + D)) ∧ Hid (wr = w.drewN m)) (fun _ _ d _ => 16 - (intOf d).toNat)
  case atStart => exact ⟨0, 0, A, 1, 0, by omega, hA, by omega, rfl, by decide, rfl, rfl, rfl, ⟨rfl, HA0.out⟩, rfl⟩
  case round =>
    obtain ⟨D, V, P, E, m, hD, hAD, hE16, hE, hV, rfl, rfl, rfl, HA, HW⟩ := hrel
    clear HA0
    by_cases hgo : D < 15 ∧ P < 8 * s.size
    · obtain ⟨hD1, hA1⟩ := hgo
      have hPe := HA.out.1
      have hVb : V < 32768 := Nat.lt_of_lt_of_le hV (Nat.le_trans (Nat.pow_le_pow_right (by omega) hD) (by decide))
      have i1 : (E : Int) ≤ 15 := by omega
      have i2 : (P : Int) < 8 * (s.size : Int) := by omega
      have HBT : Hid (Calls Try.prog 138 #[.string s, .int .i64 (P : Int), .bool false] wr fun e w' => e = .returned (.int .i64 ((bitAt s false P : Nat) : Int)) ∧ ∃ m, w' = wr.drewN m) := l1Bit_any s P false wr (by omega) hs
      obtain ⟨t, ht⟩ : ∃ t, t = bitAt s false P := ⟨_, rfl⟩
      have ht2 : t < 2 := by rw [ht]; exact bitAt_lt _ _ _
      rw [← ht] at HBT
      obtain ⟨U, hU⟩ : ∃ U : Nat, U = 2 * V + t := ⟨_, rfl⟩
      have eU : (2 : Int) * (V : Int) + (t : Int) = (U : Int) := by omega
      have hU2 : U < 2 ^ E := by rw [hE, Nat.pow_succ]; omega
      have hUb : U < 65536 := by omega
      obtain ⟨Q, hQ⟩ : ∃ Q : Nat, Q = P + 1 := ⟨_, rfl⟩
      have eQ : (P : Int) + 1 = (Q : Int) := by omega
      have hQb : Q ≤ 8 * s.size := by omega
      have HHIT : Hid (∀ i, Mk.Sym zs i E U → ans = some (i, Q)) := fun i hi => by
        rw [HA.out.2, show 8 * s.size - (A + D) = 8 * s.size - (A + (D + 1)) + 1 by omega, hQ, hPe]
        refine Gt.go_hit ?_
        rw [← hPe, ← ht, ← hU, ← hE]
        exact Gt.S_hit (Nat.le_refl _) (fun i hi => (HG.out.le i hi).2) HG.out.num hi.lt hi
      have HMISS : Hid ((∀ i, i < zs.length → ¬ Mk.Sym zs i E U) → ans = Gt.go (Gt.S zs zs.length) (bitAt s false) (8 * s.size - (A + E)) E U (A + E)) := fun hi => by
        rw [HA.out.2, show 8 * s.size - (A + D) = 8 * s.size - (A + E) + 1 by omega, Gt.go_miss (by rw [← hPe, ← ht, ← hU, ← hE]; exact Gt.S_miss (Nat.le_refl _) (fun i hi => (HG.out.le i hi).2) HG.out.num hi), ← hPe, ← ht, ← hU, ← hE, hPe, show A + D + 1 = A + E by omega]
      have HQE : Hid (Q = A + E) := by show _ = _; omega
      have HE : Hid (E = D + 1) := hE
      have hE15 : E ≤ 15 := by omega
      have hE1 : 1 ≤ E := by omega
      clear ht hU hQ HA hPe hV hE hA1 hD1 hD
      go_wp2_with fail
      refine HBT.out.mono ?_
      rintro e w1 ⟨rfl, m1, hw1⟩
      have HW1 : Hid (w1 = w.drewN (m + m1)) := by show _ = _; rw [hw1, HW.out, World.drewN_drewN]
      clear hw1 HBT HW
      generalize hgw : wr = ow at *
      clear hgw
      go_wp2_with fail
      go_loopw [12] (fun i wr => ∃ k : Nat, k ≤ n ∧ i = .int .i64 (k : Int) ∧ Hid (∀ j, j < k → ¬ Mk.Sym zs j E U) ∧ Hid (wr = w.drewN (m + m1))) (fun i _ => n - (intOf i).toNat)
      case atStart => exact ⟨0, Nat.zero_le _, rfl, fun j hj => by omega, HW1⟩
      case round =>
        obtain ⟨k, hk, rfl, HNO, HW⟩ := hrel
        clear HW1
        by_cases hlt : k < n
        · have hki : (k : Int) < (n : Int) := by omega
          have hkl : k < zs.length := by rw [HN.out]; exact hlt
          obtain ⟨b1, o1, rfl, hc1⟩ := ints_at HI.out hkl
          obtain ⟨b2, o2, rfl, hc2⟩ := ints_at HX.out (show k < (Mk.mk zs).length by rw [Mk.mk_len]; exact hkl)
          obtain ⟨C, L, hC, hL, _, hL15⟩ := Cp.parts HG.out.ok k hkl
          have e1 := hc1 (m + m1)
          have e2 := hc2 (m + m1)
          rw [hL, ← HW.out] at e1
          rw [hC, ← HW.out] at e2
          by_cases hLE : L = E
          · by_cases hCU : C = U
            · have HF : Hid (L3GotZ w A (8 * s.size) ans (.returned (.tuple #[.int .i64 (k : Int), .int .i64 (Q : Int)])) wr) := l3GotZ_yes k Q (m + m1) HW.out (HHIT.out k ⟨hkl, by rw [hL, hLE], hE1, hE15, by rw [hC, hCU]⟩)
              subst hLE
              subst hCU
              clear hc1 hc2 hC hL HHIT HMISS HNO HW
              go_wp2_with fail
              go_ret2
              exact HF.out
            · have hcui : ¬ (C : Int) = (U : Int) := by omega
              have HN2 : Hid (∀ j, j < k + 1 → ¬ Mk.Sym zs j E U) := fun j hj g => by
                by_cases e : j = k
                · subst e
                  have := g.num
                  rw [hC] at this
                  exact hCU (by omega)
                · exact HNO.out j (by omega) g
              subst hLE
              clear hc1 hc2 hC hL HHIT HMISS HNO
              go_wp2_with fail
              go_roundw
              case rel => exact ⟨k + 1, by omega, by go_num, HN2, HW⟩
              case measure => simp [intOf]; omega
          · have hlei : ¬ (L : Int) = (E : Int) := by omega
            have HN2 : Hid (∀ j, j < k + 1 → ¬ Mk.Sym zs j E U) := fun j hj g => by
              by_cases e : j = k
              · subst e
                have := g.len
                rw [hL] at this
                exact hLE (by omega)
              · exact HNO.out j (by omega) g
            clear hc1 hc2 hC hL HHIT HMISS HNO
            go_wp2_with fail
            go_roundw
            case rel => exact ⟨k + 1, by omega, by go_num, HN2, HW⟩
            case measure => simp [intOf]; omega
        · have hki : ¬ (k : Int) < (n : Int) := by omega
          have HA2 : Hid (ans = Gt.go (Gt.S zs zs.length) (bitAt s false) (8 * s.size - (A + E)) E U (A + E)) := HMISS.out (fun i hi => HNO.out i (by rw [HN.out] at hi; omega))
          clear HHIT HMISS HNO
          go_wp2_with fail
          go_roundw
          case rel => exact ⟨E, U, Q, E + 1, m + m1, hE15, hQb, by omega, rfl, hU2, rfl, rfl, by go_num, ⟨HQE.out, HA2.out⟩, HW⟩
          case measure => simp [intOf]; omega
    · have HNO : Hid (ans = none) := by
        show _ = _
        rw [HA.out.2]
        by_cases h15 : D < 15
        · rw [show 8 * s.size - (A + D) = 0 by have := HA.out.1; omega]; rfl
        · exact Gt.go_deep (fun i hi => (HG.out.le i hi).2) HG.out.num _ _ _ _ _ (by omega)
      have HF : Hid (L3GotZ w A (8 * s.size) ans (.returned (.tuple #[.int .i64 (-1), .int .i64 (P : Int)])) wr) := l3GotZ_no m HW.out HNO.out (by have := HA.out.1; omega)
      clear HNO HA HW
      by_cases h15 : D < 15
      · have i1 : (E : Int) ≤ 15 := by omega
        have i2 : ¬ (P : Int) < 8 * (s.size : Int) := by omega
        go_wp2_with fail
        go_ret2
        exact HF.out
      · have i1 : ¬ (E : Int) ≤ 15 := by omega
        go_wp2_with fail
        go_ret2
        exact HF.out
theorem l3Get_none (s : ByteArray) (A : Nat) (x : Option Addr) (cx : Nat) (a : Option Addr) (cap n : Nat) (zs : List Int) (w : World) (hx : Ints w x (Mk.mk zs)) (h : Ints w a zs) (hn : zs.length = n) (hg : GoodC zs) (hs : s.size ≤ 9000) (hA : A ≤ 8 * s.size) (hno : Gt.get zs (bitAt s false) (8 * s.size) A = none) :
    Calls Try.prog 139 #[.string s, .int .i64 (A : Int), .slice x n cx, .slice a n cap] w fun e w' => e = .returned (.tuple #[.int .i64 (-1), .int .i64 ((min (A + 15) (8 * s.size) : Nat) : Int)]) ∧ ∃ m, w' = w.drewN m := by
  refine (l3GetZ_any s A x cx a cap n zs w hx h hn hg hs hA).mono ?_
  rintro e w' ⟨h1, (⟨_, h3⟩ | ⟨i, q, h2, _⟩)⟩
  · exact ⟨h3, h1⟩
  · rw [hno] at h2; cases h2
theorem l3Get_some (s : ByteArray) (A : Nat) (x : Option Addr) (cx : Nat) (a : Option Addr) (cap n : Nat) (zs : List Int) (w : World) (hx : Ints w x (Mk.mk zs)) (h : Ints w a zs) (hn : zs.length = n) (hg : GoodC zs) (hs : s.size ≤ 9000) (hA : A ≤ 8 * s.size) (y q : Nat) (hyes : Gt.get zs (bitAt s false) (8 * s.size) A = some (y, q)) :
    Calls Try.prog 139 #[.string s, .int .i64 (A : Int), .slice x n cx, .slice a n cap] w fun e w' => e = .returned (.tuple #[.int .i64 (y : Int), .int .i64 (q : Int)]) ∧ ∃ m, w' = w.drewN m := by
  refine (l3GetZ_any s A x cx a cap n zs w hx h hn hg hs hA).mono ?_
  rintro e w' ⟨h1, (⟨h2, _⟩ | ⟨i, q', h2, h3⟩)⟩
  · rw [hyes] at h2; cases h2
  · rw [hyes] at h2; cases h2; exact ⟨h3, h1⟩
end Go.Proofs.Ythfdnloeicbgkaa

/- The next symbol of a code, as the specification's inflater takes it. -/
namespace Go.Proofs.Ythfdnloeicbgkaa
open Go.RowKit

/-- how sym ends -/
def SSym (w : World) (R base : Nat) (s : ByteArray) (p : Nat) (l : List UInt8) (lim : Nat) (vk : Value) (zs : List Int) (e : Ending) (w' : World) : Prop :=
  (∃ y q, Nf.sym s zs p = .ok (y, q) ∧ e = .returned (.int .i64 (y : Int)) ∧ Sx w' R base s q l lim 0 vk ∧ Only R w w') ∨ (∃ c, Nf.sym s zs p = .error c ∧ c ≠ 0 ∧ e = .returned (.int .i64 (-1)) ∧ Sx w' R base s p l lim c vk ∧ Only R w w')
set_option maxHeartbeats 2000000 in
theorem sxSym_yes (R base p lim n cx cap y q : Nat) (x a : Option Addr) (l : List UInt8) (vk : Value) (s : ByteArray) (w : World) (h : Sx w R base s p l lim 0 vk)
    (hG : ∀ w', (∃ m, w' = w.drewN m) → Calls Try.prog 139 #[.string s, .int .i64 (p : Int), .slice x n cx, .slice a n cap] w' fun e w'' => e = .returned (.tuple #[.int .i64 (y : Int), .int .i64 (q : Int)]) ∧ ∃ m, w'' = w'.drewN m) (hy : y ≤ 300) :
    Calls Try.prog 108 #[.pointer (some ⟨R, 0, none⟩), .slice x n cx, .slice a n cap] w fun e w' => e = .returned (.int .i64 (y : Int)) ∧ Sx w' R base s q l lim 0 vk ∧ Only R w w' := by
  obtain ⟨c0, c1, c2, c4, -⟩ := h.cells
  have f1 := h.froz 1
  have HX : Hid (Sx w R base s p l lim 0 vk) := h
  have HG : Hid (∀ w', (∃ m, w' = w.drewN m) → Calls Try.prog 139 #[.string s, .int .i64 (p : Int), .slice x n cx, .slice a n cap] w' fun e w'' => e = .returned (.tuple #[.int .i64 (y : Int), .int .i64 (q : Int)]) ∧ ∃ m, w'' = w'.drewN m) := hG
  have hy0 : ¬ (y : Int) < 0 := by omega
  have hy1 : decide ((y : Int) < 0) = false := decide_eq_false hy0
  clear h hG
  replace c4 : w.cell? ⟨R, 4, none⟩ = some (.int .i64 0) := c4
  go_enter Try.func108, Try.ntmps108
  go_wp2_with fail
  go_quiet ((go_at_call 139; exact Calls.quiet_of (HG.out _ ⟨_, rfl⟩)))
  have HF : Hid (Sx ((w.drewN nq).setCell ⟨R, 1, none⟩ (.int .i64 (q : Int))) R base s q l lim 0 vk ∧ Only R w ((w.drewN nq).setCell ⟨R, 1, none⟩ (.int .i64 (q : Int)))) := by
    have h1 := (HX.out.drewN nq).move q
    exact ⟨h1.1, ((Only.refl R w).drewN nq).trans h1.2⟩
  replace f1 : (w.drewN nq).frozen? ⟨R, 1, none⟩ = false := f1
  replace c1 : (w.drewN nq).cell? ⟨R, 1, none⟩ = some (.int .i64 (p : Int)) := c1
  clear c0 c2 c4 HX HG
  generalize w.drewN nq = w1 at *
  go_wp2_with fail
  go_ret
  exact ⟨rfl, HF.out.1, HF.out.2⟩
set_option maxHeartbeats 2000000 in
theorem sxSym_no (R base p lim n cx cap c z : Nat) (x a : Option Addr) (l : List UInt8) (vk : Value) (s : ByteArray) (w : World) (h : Sx w R base s p l lim 0 vk) (hp : p ≤ 8 * s.size)
    (hG : ∀ w', (∃ m, w' = w.drewN m) → Calls Try.prog 139 #[.string s, .int .i64 (p : Int), .slice x n cx, .slice a n cap] w' fun e w'' => e = .returned (.tuple #[.int .i64 (-1), .int .i64 (z : Int)]) ∧ ∃ m, w'' = w'.drewN m) (hz : z = min (p + 15) (8 * s.size)) (hc : c = if 8 * s.size - p < 15 then 2 else 1) :
    Calls Try.prog 108 #[.pointer (some ⟨R, 0, none⟩), .slice x n cx, .slice a n cap] w fun e w' => e = .returned (.int .i64 (-1)) ∧ Sx w' R base s p l lim c vk ∧ Only R w w' := by
  obtain ⟨c0, c1, c2, c4, -⟩ := h.cells
  have HX : Hid (Sx w R base s p l lim 0 vk) := h
  have HG : Hid (∀ w', (∃ m, w' = w.drewN m) → Calls Try.prog 139 #[.string s, .int .i64 (p : Int), .slice x n cx, .slice a n cap] w' fun e w'' => e = .returned (.tuple #[.int .i64 (-1), .int .i64 (z : Int)]) ∧ ∃ m, w'' = w'.drewN m) := hG
  obtain ⟨d, hd⟩ : ∃ d, d = z - p := ⟨_, rfl⟩
  have hdi : (z : Int) - (p : Int) = (d : Int) := by omega
  have hdw : IntKind.i64.wrap ((z : Int) - (p : Int)) = (d : Int) := by rw [hdi]; exact wrap_i64_nat d (by omega)
  have hd2 : d ≤ 15 := by omega
  have hdw2 : wrap64 (d : Int) = (d : Int) := by unfold wrap64; omega
  replace c4 : w.cell? ⟨R, 4, none⟩ = some (.int .i64 0) := c4
  by_cases hr : 8 * s.size - p < 15
  · rw [if_pos hr] at hc
    have hd15 : (d : Int) < 15 := by omega
    subst hc
    clear h hG hz hd
    go_enter Try.func108, Try.ntmps108
    go_wp2_with fail
    go_quiet ((go_at_call 139; exact Calls.quiet_of (HG.out _ ⟨_, rfl⟩)))
    have HFL : Hid (Calls Try.prog 68 #[.pointer (some ⟨R, 0, none⟩), .int .i64 2] (w.drewN nq) fun e w' => e = .returned (.tuple #[]) ∧ Sx w' R base s p l lim 2 vk ∧ Only R w w') := by
      refine (sxFail_new R base p lim 2 l vk s _ (HX.out.drewN nq)).mono ?_
      rintro e w' ⟨h1, h2, h3⟩
      exact ⟨h1, h2, ((Only.refl R w).drewN nq).trans h3⟩
    replace c1 : (w.drewN nq).cell? ⟨R, 1, none⟩ = some (.int .i64 (p : Int)) := c1
    clear c0 c2 c4 HX HG
    generalize w.drewN nq = w1 at *
    go_wp2_with fail
    refine HFL.out.mono ?_
    rintro e w2 ⟨rfl, h1, h2⟩
    go_wp2_with fail
    go_ret
    exact ⟨rfl, h1, h2⟩
  · rw [if_neg hr] at hc
    have hd15 : ¬ (d : Int) < 15 := by omega
    subst hc
    clear h hG hz hd
    go_enter Try.func108, Try.ntmps108
    go_wp2_with fail
    go_quiet ((go_at_call 139; exact Calls.quiet_of (HG.out _ ⟨_, rfl⟩)))
    have HFL : Hid (Calls Try.prog 68 #[.pointer (some ⟨R, 0, none⟩), .int .i64 1] (w.drewN nq) fun e w' => e = .returned (.tuple #[]) ∧ Sx w' R base s p l lim 1 vk ∧ Only R w w') := by
      refine (sxFail_new R base p lim 1 l vk s _ (HX.out.drewN nq)).mono ?_
      rintro e w' ⟨h1, h2, h3⟩
      exact ⟨h1, h2, ((Only.refl R w).drewN nq).trans h3⟩
    replace c1 : (w.drewN nq).cell? ⟨R, 1, none⟩ = some (.int .i64 (p : Int)) := c1
    clear c0 c2 c4 HX HG
    generalize w.drewN nq = w1 at *
    go_wp2_with fail
    refine HFL.out.mono ?_
    rintro e w2 ⟨rfl, h1, h2⟩
    go_wp2_with fail
    go_ret
    exact ⟨rfl, h1, h2⟩
theorem Ints.drewN {w : World} {a : Option Addr} {zs : List Int} (h : Ints w a zs) (m : Nat) : Ints (w.drewN m) a zs := h
set_option maxRecDepth 20000 in
theorem sxSym_any (R base p lim n cx cap : Nat) (x a : Option Addr) (l : List UInt8) (vk : Value) (s : ByteArray) (zs : List Int) (w : World) (h : Sx w R base s p l lim 0 vk) (hs : s.size ≤ 9000) (hp : p ≤ 8 * s.size) (hx : Ints w x (Mk.mk zs)) (ha : Ints w a zs) (hn : zs.length = n) (hg : GoodC zs) (hl : n ≤ 300) :
    Calls Try.prog 108 #[.pointer (some ⟨R, 0, none⟩), .slice x n cx, .slice a n cap] w (SSym w R base s p l lim vk zs) := by
  cases hget : Gt.get zs (bitAt s false) (8 * s.size) p with
  | none =>
    obtain ⟨c, hc⟩ : ∃ c, c = if 8 * s.size - p < 15 then 2 else 1 := ⟨_, rfl⟩
    obtain ⟨z, hz⟩ : ∃ z, z = min (p + 15) (8 * s.size) := ⟨_, rfl⟩
    refine (sxSym_no R base p lim n cx cap c z x a l vk s w h hp (fun w' hw => ?_) hz hc).mono ?_
    · obtain ⟨m, rfl⟩ := hw
      rw [hz]
      exact l3Get_none s p x cx a cap n zs _ (hx.drewN m) (ha.drewN m) hn hg hs hp hget
    · rintro e w' ⟨h1, h2, h3⟩
      have hcc : Nf.sym s zs p = .error c ∧ c ≠ 0 := by
        by_cases hr : 8 * s.size - p < 15
        · rw [if_pos hr] at hc; rw [hc]; exact ⟨Nf.sym_short hget hr, by decide⟩
        · rw [if_neg hr] at hc; rw [hc]; exact ⟨Nf.sym_bad hget hr, by decide⟩
      exact .inr ⟨c, hcc.1, hcc.2, h1, h2, h3⟩
  | some r =>
    obtain ⟨y, q⟩ := r
    have hok := Nf.sym_ok hg (Nf.sym_some hget)
    refine (sxSym_yes R base p lim n cx cap y q x a l vk s w h (fun w' hw => ?_) (by omega)).mono ?_
    · obtain ⟨m, rfl⟩ := hw
      exact l3Get_some s p x cx a cap n zs _ (hx.drewN m) (ha.drewN m) hn hg hs hp y q hget
    · rintro e w' ⟨h1, h2, h3⟩
      exact .inl ⟨y, q, Nf.sym_some hget, h1, h2, h3⟩
set_option maxHeartbeats 1000000 in
theorem sxSym_old (R base p lim c : Nat) (va vb : Value) (l : List UInt8) (vk : Value) (s : ByteArray) (w : World) (h : Sx w R base s p l lim c vk) (hc : c ≠ 0) :
    Calls Try.prog 108 #[.pointer (some ⟨R, 0, none⟩), va, vb] w fun e w' => e = .returned (.int .i64 (-1)) ∧ w' = w := by
  have c4 := h.cells.2.2.2.1
  have hci : ¬ (c : Int) = 0 := by omega
  clear h hc
  go_enter Try.func108, Try.ntmps108
  go_wp2_with fail
  go_ret
  exact ⟨rfl, rfl⟩
end Go.Proofs.Ythfdnloeicbgkaa

/- The program goes down in the tree of a code with an inflater. -/
namespace Go.Proofs.Ythfdnloeicbgkaa
open Go.RowKit

theorem nf_room (a : Addr) (w : World) : (method 308 35 (.pointer (some a)) "loop.example/intarsia/impl.room").run Try.prog w = .ok (145, .pointer (some a)) w := by kernel_rfl
theorem nf_next (a : Addr) (w : World) : (method 308 35 (.pointer (some a)) "loop.example/intarsia/impl.next").run Try.prog w = .ok (165, .pointer (some a)) w := by kernel_rfl
theorem nf_ahead (a : Addr) (w : World) : (nilAhead 308 35 (.pointer (some a)) "loop.example/intarsia/impl.next").run Try.prog w = .ok (some false) w := by kernel_rfl
/-- how find ends -/
def NFound (w : World) (R base : Nat) (s : ByteArray) (l : List UInt8) (lim : Nat) (vk fx : Value) (ans : Option (Nat × Nat)) (e : Ending) (w' : World) : Prop :=
  Only R w w' ∧ ((ans = none ∧ e = .returned (.int .i64 (-1))) ∨ ∃ i q : Nat, ans = some (i, q) ∧ e = .returned (.int .i64 (i : Int)) ∧ In w' R base s q l lim vk fx)
theorem atOf_in {w : World} {R base q lim : Nat} {s : ByteArray} {l : List UInt8} {vk fx : Value} (h : In w R base s q l lim vk fx) : atOf R w = q := atOf_reads h.reads

set_option maxHeartbeats 4000000 in
set_option maxRecDepth 20000 in
theorem nfFind_any (R B lo base p lim : Nat) (l : List UInt8) (vk fx : Value) (s : ByteArray) (N : Nat → Nat → Option Nat) (S : Nat → Nat → Int) (w : World) (hT : Tri w lo N S) (h0 : N 0 0 = some B) (h00 : S 0 0 = -1) (hR : In w R base s p l lim vk fx) (hRlo : R < lo) (hs : s.size ≤ 9000) (hp : p ≤ 8 * s.size) :
    Calls Try.prog 146 #[.pointer (some ⟨B, 0, none⟩), .iface 35 (.pointer (some ⟨R, 0, none⟩))] w (NFound w R base s l lim vk fx (Gt.go S (bitAt s false) (8 * s.size - p) 0 0 p)) := by
  have m1 := fun w => nf_room ⟨R, 0, none⟩ w
  have m2 := fun w => nf_next ⟨R, 0, none⟩ w
  have m3 := fun w => nf_ahead ⟨R, 0, none⟩ w
  have HT : Hid (Tri w lo N S) := hT
  have HR0 : Hid (In w R base s p l lim vk fx) := hR
  obtain ⟨ans, hans⟩ : ∃ ans, ans = Gt.go S (bitAt s false) (8 * s.size - p) 0 0 p := ⟨_, rfl⟩
  have HA0 : Hid (ans = if 0 ≤ S 0 0 then some ((S 0 0).toNat, p + 0) else Gt.go S (bitAt s false) (8 * s.size - (p + 0)) 0 0 (p + 0)) := by
    show _ = _
    rw [h00, if_neg (by omega)]; exact hans
  rw [← hans]
  have HN0 : Hid (N 0 0 = some B) := h0
  clear hT hR h0 h00 hans
  go_enter Try.func146, Try.ntmps146
  go_wp2_with fail
  go_loopw [0] (fun x wr => ∃ d v b : Nat, p + d ≤ 8 * s.size ∧ x = .pointer (some ⟨b, 0, none⟩) ∧ Hid (N d v = some b) ∧ Hid (Only R w wr) ∧ Hid (In wr R base s (p + d) l lim vk fx) ∧ Hid (ans = if 0 ≤ S d v then some ((S d v).toNat, p + d) else Gt.go S (bitAt s false) (8 * s.size - (p + d)) d v (p + d))) (fun _ wr => 8 * s.size - atOf R wr)
  case atStart => exact ⟨0, 0, B, hp, rfl, HN0, Only.refl _ _, HR0, HA0⟩
  case round =>
    obtain ⟨d, v, b, hd, rfl, HB, HO, HRD, HA⟩ := hrel
    clear HR0 HA0 HN0
    have hTw : Tri wr lo N S := HT.out.same (fun k hk hl => HO.out.rest k hk (by omega))
    obtain ⟨c0, c1, c2, -⟩ := hTw.cells HB.out
    have hlo := (hTw.node d v b HB.out).1
    have hbR : b ≠ R := by omega
    have hblt := hTw.lt HB.out
    by_cases hpos : 0 ≤ S d v
    · obtain ⟨i, hi⟩ : ∃ i : Nat, S d v = (i : Int) := ⟨(S d v).toNat, by omega⟩
      have HF : Hid (NFound w R base s l lim vk fx ans (.returned (.int .i64 (i : Int))) wr) := by
        refine ⟨HO.out, .inr ⟨i, p + d, ?_, rfl, HRD.out⟩⟩
        rw [HA.out, if_pos hpos, hi, Int.toNat_natCast]
      rw [hi] at c0
      clear hi hpos HA HB hTw HRD
      go_wp2_with fail
      go_ret
      exact HF.out
    · have hneg : S d v < 0 := by omega
      obtain ⟨y, hy⟩ : ∃ y, y = S d v := ⟨_, rfl⟩
      rw [← hy] at c0 hneg
      have HA2 : Hid (ans = Gt.go S (bitAt s false) (8 * s.size - (p + d)) d v (p + d)) := by
        show _ = _
        rw [HA.out, if_neg hpos]
      clear HA hpos hy
      by_cases hroom : p + d < 8 * s.size
      · obtain ⟨t, ht⟩ : ∃ t, t = bitAt s false (p + d) := ⟨_, rfl⟩
        have ht2 : t < 2 := by rw [ht]; exact bitAt_lt _ _ _
        have hbit : Hid (bitAt s false (p + d) = t) := ht.symm
        have HNX : Hid (∀ (z : Int) (X : World), In X R base s (p + d) l lim vk fx → Calls Try.prog 165 #[.pointer (some ⟨R, 0, none⟩), .int .i64 z] X fun e w' => e = .returned (.int .i64 (t : Int)) ∧ In w' R base s (p + (d + 1)) l lim vk fx ∧ Only R X w') := fun z X hX => by
          refine (next_low R (p + d) s z X hX.reads hs (by omega)).mono ?_
          rintro e w' ⟨rfl, m, rfl⟩
          have hh : ((p + d : Nat) : Int) + 1 = ((p + (d + 1) : Nat) : Int) := by omega
          rw [hh]
          exact ⟨by rw [ht], (hX.move (p + (d + 1))).1.drewN m, (hX.move (p + (d + 1))).2.drewN m⟩
        have hkid : wr.cell? ⟨b, 1 + t, none⟩ = some (ptr (N (d + 1) (2 * v + t))) := by
          have : t = 0 ∨ t = 1 := by omega
          rcases this with e | e
          · rw [e]; exact c1
          · rw [e]; exact c2
        have HK : Hid (∀ (X : World) (q : Nat), Only R (wr.drewN q) X → X.cell? ⟨b, 1 + t, none⟩ = some (ptr (N (d + 1) (2 * v + t)))) := fun X q hX => (hX.cell b (1 + t) hblt hbR).trans hkid
        have HRM : Hid (Calls Try.prog 145 #[.pointer (some ⟨R, 0, none⟩)] wr fun e w' => e = .returned (.int .i64 (8 * (s.size : Int) - ((p + d : Nat) : Int))) ∧ ∃ m, w' = wr.drewN m) := room_any R (p + d) false s wr HRD.out.reads hs (by omega)
        obtain ⟨M, hM⟩ : ∃ M : Int, M = 8 * (s.size : Int) - ((p + d : Nat) : Int) := ⟨_, rfl⟩
        have hM1 : ¬ M < 1 := by omega
        rw [← hM] at HRM
        have HSZ : Hid (8 * s.size - (p + d) = 8 * s.size - (p + (d + 1)) + 1) := by show _ = _; omega
        have HAT : Hid (atOf R wr = p + d) := atOf_in HRD.out
        have ht01 : t = 0 ∨ t = 1 := by omega
        have hd1 : p + (d + 1) ≤ 8 * s.size := by omega
        clear hkid c1 c2 hTw ht hM hlo
        go_wp2_with fail
        refine HRM.out.mono ?_
        rintro e w3 ⟨rfl, m, hw3⟩
        have HW3 : Hid (w3 = wr.drewN m) := hw3
        have HR3 : Hid (In w3 R base s (p + d) l lim vk fx) := by rw [hw3]; exact HRD.out.drewN m
        clear hw3 HRM c0
        have HK3 : Hid (∀ (X : World) (q : Nat), Only R (w3.drewN q) X → X.cell? ⟨b, 1 + t, none⟩ = some (ptr (N (d + 1) (2 * v + t)))) := fun X q hX => HK.out X (m + q) (by rw [HW3.out, World.drewN_drewN] at hX; exact hX)
        have HO3 : Hid (Only R w w3) := by rw [HW3.out]; exact HO.out.drewN m
        clear HK HRD HO HW3
        have hfin : ∀ w4 : World, In w4 R base s (p + (d + 1)) l lim vk fx → Only R w3 w4 → (N (d + 1) (2 * v + t) = none → NFound w R base s l lim vk fx ans (.returned (.int .i64 (-1))) w4) := fun w4 _ hO4 hno => by
          refine ⟨HO3.out.trans hO4, .inl ⟨?_, rfl⟩⟩
          rw [HA2.out, HSZ.out, Gt.go_no hbit.out (by rw [HT.out.dead _ _ hno]; omega)]
          refine Gt.go_none (fun d v => N d v = none) (fun d v q hq => ?_) _ _ _ _ hno
          have h1 : N (d + 1) (2 * v + bitAt s false q) = none := by
            rcases hx : N (d + 1) (2 * v + bitAt s false q) with _ | y
            · rfl
            · obtain ⟨b', hb'⟩ := HT.out.closed d _ y hx
              have := bitAt_lt s false q
              rw [show (2 * v + bitAt s false q) / 2 = v by omega, hq] at hb'
              cases hb'
          exact ⟨HT.out.dead _ _ h1, h1⟩
        have HFIN : Hid (∀ w4 : World, In w4 R base s (p + (d + 1)) l lim vk fx → Only R w3 w4 → (N (d + 1) (2 * v + t) = none → NFound w R base s l lim vk fx ans (.returned (.int .i64 (-1))) w4)) := hfin
        have HGO : Hid (ans = if 0 ≤ S (d + 1) (2 * v + t) then some ((S (d + 1) (2 * v + t)).toNat, p + (d + 1)) else Gt.go S (bitAt s false) (8 * s.size - (p + (d + 1))) (d + 1) (2 * v + t) (p + (d + 1))) := by
          show _ = _
          rw [HA2.out, HSZ.out]
          by_cases hq : 0 ≤ S (d + 1) (2 * v + t)
          · rw [Gt.go_yes hbit.out hq, if_pos hq]; rfl
          · rw [Gt.go_no hbit.out hq, if_neg hq]; rfl
        clear hfin HA2 HSZ hbit
        go_wp2_with fail
        rcases hx : N (d + 1) (2 * v + t) with _ | b2
        · have HX : Hid (N (d + 1) (2 * v + t) = none) := hx
          rw [hx] at HK3
          have HK4 : Hid (∀ (X : World) (q : Nat), Only R (w3.drewN q) X → X.cell? ⟨b, 1 + t, none⟩ = some (.pointer none)) := HK3.out
          clear hx HK3
          rcases ht01 with rfl | rfl
          all_goals
            go_region_with (go_at_call 165; refine (HNX.out _ _ ?_).mono ?_; (repeat (first | exact HR3.out | refine In.drew ?_)); rintro e w4 ⟨rfl, hR4, hO4⟩; have k4 := HK4.out w4 1 hO4; have hO4' : Only R w3 w4 := ⟨⟨hO4.below.os, hO4.below.tape, hO4.below.output, hO4.below.size, hO4.below.block⟩, hO4.rest⟩; have HF4 : Hid (NFound w R base s l lim vk fx ans (.returned (.int .i64 (-1))) w4) := HFIN.out w4 hR4 hO4' HX.out)
            all_goals go_wp2_with fail
            all_goals go_ret
            all_goals exact HF4.out
        · have HX : Hid (N (d + 1) (2 * v + t) = some b2) := hx
          rw [hx] at HK3
          have HK4 : Hid (∀ (X : World) (q : Nat), Only R (w3.drewN q) X → X.cell? ⟨b, 1 + t, none⟩ = some (.pointer (some ⟨b2, 0, none⟩))) := HK3.out
          clear hx HFIN HK3
          rcases ht01 with rfl | rfl
          all_goals
            go_region_with (go_at_call 165; refine (HNX.out _ _ ?_).mono ?_; (repeat (first | exact HR3.out | refine In.drew ?_)); rintro e w4 ⟨rfl, hR4, hO4⟩; have k4 := HK4.out w4 1 hO4; have hO4' : Only R w3 w4 := ⟨⟨hO4.below.os, hO4.below.tape, hO4.below.output, hO4.below.size, hO4.below.block⟩, hO4.rest⟩; have H4 : Hid (Only R w w4 ∧ In w4 R base s (p + (d + 1)) l lim vk fx) := ⟨HO3.out.trans hO4', hR4⟩; clear hR4 hO4 hO4')
            all_goals go_wp2_with fail
            all_goals
              go_roundw
              case rel => exact ⟨d + 1, _, b2, hd1, rfl, HX, H4.out.1, H4.out.2, HGO⟩
              case measure => rw [HAT.out, atOf_in H4.out.2]; omega
      · have hM1 : (8 * (s.size : Int) - ((p + d : Nat) : Int)) < 1 := by omega
        have HRM : Hid (Calls Try.prog 145 #[.pointer (some ⟨R, 0, none⟩)] wr fun e w' => e = .returned (.int .i64 (8 * (s.size : Int) - ((p + d : Nat) : Int))) ∧ ∃ m, w' = wr.drewN m) := room_any R (p + d) false s wr HRD.out.reads hs (by omega)
        obtain ⟨M, hM⟩ : ∃ M : Int, M = 8 * (s.size : Int) - ((p + d : Nat) : Int) := ⟨_, rfl⟩
        rw [← hM] at HRM hM1
        have HNO : Hid (ans = none) := by
          show _ = _
          rw [HA2.out, show 8 * s.size - (p + d) = 0 by omega]; rfl
        clear hM HA2 hTw c1 c2 HB
        go_wp2_with fail
        refine HRM.out.mono ?_
        rintro e w3 ⟨rfl, m, hw3⟩
        have HF : Hid (NFound w R base s l lim vk fx ans (.returned (.int .i64 (-1))) w3) := ⟨by rw [hw3]; exact HO.out.drewN m, .inl ⟨HNO.out, rfl⟩⟩
        clear hw3 HRM c0
        go_wp2_with fail
        go_ret
        exact HF.out
end Go.Proofs.Ythfdnloeicbgkaa

/- A number that the inflater's reader reads. -/
namespace Go.Proofs.Ythfdnloeicbgkaa
open Go.RowKit

theorem nfNext_any (B p base lim : Nat) (l : List UInt8) (vk fx : Value) (s : ByteArray) (n : Int) (w : World) (h : In w B base s p l lim vk fx) (hs : s.size ≤ 9000) (hp : p / 8 < s.size) :
    Calls Try.prog 165 #[.pointer (some ⟨B, 0, none⟩), .int .i64 n] w fun e w' => e = .returned (.int .i64 (bitAt s false p : Nat)) ∧ In w' B base s (p + 1) l lim vk fx ∧ Only B w w' := by
  refine (next_low B p s n w h.reads hs hp).mono ?_
  rintro e w' ⟨rfl, m, rfl⟩
  rw [show (p : Int) + 1 = ((p + 1 : Nat) : Int) by omega]
  exact ⟨rfl, (h.move (p + 1)).1.drewN m, (h.move (p + 1)).2.drewN m⟩

set_option maxHeartbeats 1000000 in
theorem nfMove_low (B A S base lim : Nat) (l : List UInt8) (vk fx : Value) (s : ByteArray) (w : World) (h : In w B base s A l lim vk fx) (hs : s.size ≤ 9000) (hAS : A + S ≤ 8 * s.size) (h24 : S ≤ 32) :
    Calls Try.prog 55 #[.iface 148 (.pointer (some ⟨B, 0, none⟩)), .func (.func 98) #[] #[], .int .i64 0, .int .i64 S] w fun e w' => e = .returned (.tuple #[.int .i64 (Bg.low (fun i => bitAt s false (A + i)) S : Nat), .bool true]) ∧ In w' B base s (A + S) l lim vk fx ∧ Only B w w' := by
  have m1 := fun w => method_room ⟨B, 0, none⟩ w
  have m2 := fun w => method_next ⟨B, 0, none⟩ w
  have m3 := fun w => ahead_next ⟨B, 0, none⟩ w
  have HR : Hid (In w B base s A l lim vk fx) := h
  clear h
  go_enter Try.func55, Try.ntmps55
  go_wp2_with fail
  refine (room_any B A false s w HR.out.reads hs (by omega)).mono ?_
  rintro e w1 ⟨rfl, m, rfl⟩
  have hd : decide (8 * (s.size : Int) - (A : Int) < (S : Int)) = false := by simp; omega
  go_wp2_with fail
  go_loopw [10, 18] (fun n i wr => ∃ k x : Nat, k ≤ S ∧ i = .int .i64 k ∧ x = Bg.low (fun i => bitAt s false (A + i)) k ∧ n = .int .i64 x ∧ In wr B base s (A + k) l lim vk fx ∧ Only B w wr) (fun _ i _ => S - (intOf i).toNat)
  case atStart => exact ⟨0, 0, Nat.zero_le _, rfl, rfl, rfl, HR.out.drewN m, (Only.refl _ _).drewN _⟩
  case round =>
    obtain ⟨k, x, hk, rfl, hx, rfl, hRd, hbel⟩ := hrel
    clear HR
    have hb := Bg.low_lt (fun i => bitAt s false (A + i)) (fun i => bitAt_lt _ _ _) k
    rw [← hx] at hb
    by_cases hlt : k < S
    · have hbl := bitAt_lt s false (A + k)
      have HN : Hid (x + bitAt s false (A + k) * 2 ^ k = Bg.low (fun i => bitAt s false (A + i)) (k + 1)) := by rw [hx]; rfl
      have HXX : Hid (∀ (n : Int) (w : World), In w B base s (A + k) l lim vk fx → Calls Try.prog 165 #[.pointer (some ⟨B, 0, none⟩), .int .i64 n] w fun e w' => e = .returned (.int .i64 (bitAt s false (A + k) : Nat)) ∧ In w' B base s (A + k + 1) l lim vk fx ∧ Only B w w') := fun n w hr => nfNext_any B (A + k) base lim l vk fx s n w hr hs (by omega)
      have HRD : Hid (In _ B base s (A + k) l lim vk fx) := hRd
      clear hx hRd
      generalize bitAt s false (A + k) = b at *
      obtain ⟨y, hy⟩ : ∃ y, y = x + b * 2 ^ k := ⟨_, rfl⟩
      have hor := or_lowbit x b k y hb hbl (by omega) hy
      rw [← hy] at HN
      clear hy hb
      go_wp2_with fail
      refine (order_low _ _ _).mono ?_
      rintro e w3 ⟨rfl, hw3⟩
      subst hw3
      go_wp2_with fail
      go_region_with (go_at_call 165; refine (HXX.out _ _ ?_).mono ?_; (repeat (first | exact HRD.out | refine In.drew ?_)); rintro e w4 ⟨rfl, hR4, b4⟩)
      all_goals have hb4 := hbel.trans (((Only.refl B w3).drewN 1).trans b4)
      all_goals clear b4 hbel HRD HXX
      all_goals go_wp2_with fail
      all_goals
        go_roundw
        case rel => exact ⟨k + 1, y, by omega, by go_num, HN.out, rfl, hR4, hb4⟩
        case measure => simp [intOf]; omega
    · have hk' : k = S := by omega
      subst hk'
      have HX : Hid (x = _) := hx
      have HRD : Hid (In _ B base s (A + k) l lim vk fx) := hRd
      clear hx hb hRd
      go_wp2_with fail
      go_ret2
      exact ⟨ret_pair (by rw [HX.out]) rfl, HRD.out, hbel⟩


set_option maxHeartbeats 1000000 in
theorem nfMove_no (B A S base lim : Nat) (l : List UInt8) (vk fx : Value) (s : ByteArray) (w : World) (h : In w B base s A l lim vk fx) (hs : s.size ≤ 9000) (hA : A ≤ 8 * s.size) (hAS : ¬ A + S ≤ 8 * s.size) :
    Calls Try.prog 55 #[.iface 148 (.pointer (some ⟨B, 0, none⟩)), .func (.func 98) #[] #[], .int .i64 0, .int .i64 S] w fun e w' => e = .returned (.tuple #[.int .i64 0, .bool false]) ∧ ∃ m, w' = w.drewN m := by
  have m1 := fun w => method_room ⟨B, 0, none⟩ w
  have HR : Hid (In w B base s A l lim vk fx) := h
  clear h
  go_enter Try.func55, Try.ntmps55
  go_wp2_with fail
  refine (room_any B A false s w HR.out.reads hs (by omega)).mono ?_
  rintro e w1 ⟨rfl, m, rfl⟩
  have hd : decide (8 * (s.size : Int) - (A : Int) < (S : Int)) = true := by simp; omega
  go_wp2_with fail
  go_ret2
  exact ⟨rfl, m, rfl⟩

/-- how number ends -/
def NumEnd (w : World) (R base : Nat) (s : ByteArray) (p S : Nat) (l : List UInt8) (lim : Nat) (vk fx : Value) (e : Ending) (w' : World) : Prop :=
  (∃ v, Nf.nxt s S p = .ok v ∧ e = .returned (.int .i64 (v : Int)) ∧ In w' R base s (p + S) l lim vk fx ∧ Only R w w') ∨ (Nf.nxt s S p = .error 2 ∧ e = fault 2 ∧ InF R base w w')

set_option maxHeartbeats 1000000 in
theorem nfNumber_any (R p S base lim : Nat) (l : List UInt8) (vk fx : Value) (s : ByteArray) (w : World) (h : In w R base s p l lim vk fx) (hs : s.size ≤ 9000) (hp : p ≤ 8 * s.size) (hS : S ≤ 16) :
    Calls Try.prog 63 #[.pointer (some ⟨R, 0, none⟩), .int .i64 (S : Int)] w (NumEnd w R base s p S l lim vk fx) := by
  obtain ⟨c0, c1, c2, _⟩ := h.cells
  have c0' : w.cell? ⟨R, 0, none⟩ = some (.func (.func 98) #[] #[]) := c0
  by_cases hf : p + S ≤ 8 * s.size
  · have HM : Hid (Calls Try.prog 55 #[.iface 148 (.pointer (some ⟨R, 0, none⟩)), .func (.func 98) #[] #[], .int .i64 0, .int .i64 S] w fun e w' => e = .returned (.tuple #[.int .i64 ((Nf.num s S p : Nat) : Int), .bool true]) ∧ In w' R base s (p + S) l lim vk fx ∧ Only R w w') := nfMove_low R p S base lim l vk fx s w h hs hf (by omega)
    have HN : Hid (Nf.nxt s S p = .ok (Nf.num s S p)) := Nf.nxt_yes hf
    generalize Nf.num s S p = v at *
    clear h c0 c1 c2 hf
    go_enter Try.func63, Try.ntmps63
    go_wp2_with fail
    refine HM.out.mono ?_
    rintro e w1 ⟨rfl, h1, h2⟩
    have HF : Hid (NumEnd w R base s p S l lim vk fx (.returned (.int .i64 (v : Int))) w1) := .inl ⟨v, HN.out, rfl, h1, h2⟩
    clear h1 h2 HM
    go_wp2_with fail
    refine (insist_of _ 2 _ rfl).mono ?_
    rintro e w2 ⟨rfl, hw2⟩
    subst hw2
    go_wp2_with fail
    go_ret
    exact HF.out
  · have HM : Hid (Calls Try.prog 55 #[.iface 148 (.pointer (some ⟨R, 0, none⟩)), .func (.func 98) #[] #[], .int .i64 0, .int .i64 S] w fun e w' => e = .returned (.tuple #[.int .i64 0, .bool false]) ∧ ∃ m, w' = w.drewN m) := nfMove_no R p S base lim l vk fx s w h hs hp hf
    have HN : Hid (Nf.nxt s S p = .error 2) := Nf.nxt_no hf
    clear h c0 c1 c2 hf
    go_enter Try.func63, Try.ntmps63
    go_wp2_with fail
    refine HM.out.mono ?_
    rintro e w1 ⟨rfl, m, hw1⟩
    have HF : Hid (NumEnd w R base s p S l lim vk fx (fault 2) w1) := .inr ⟨HN.out, rfl, by rw [hw1]; exact (InF.refl _ _ _).drewN m⟩
    clear hw1 HM
    go_wp2_with fail
    refine (insist_not _ 2 _ rfl).mono ?_
    rintro e w2 ⟨rfl, hw2⟩
    subst hw2
    unfold fault
    go_wp2_with fail
    exact ⟨rfl, HF.out⟩
end Go.Proofs.Ythfdnloeicbgkaa

/- What a packed text makes: bounds (mathematics). -/
namespace Go.Proofs.Ythfdnloeicbgkaa
namespace Nf

theorem nxt_err {s : ByteArray} {n p c : Nat} (h : nxt s n p = .error c) : c = 2 := by
  unfold nxt at h
  split at h
  · cases h
  · cases h; rfl
theorem valid_app {a b : List Int} (ha : Cd.valid a = true) (hb : Cd.valid b = true) : Cd.valid (a ++ b) = true := by rw [Cd.valid_append, ha, hb]; rfl
theorem valid_rep {v : Int} (h0 : 0 ≤ v) (h1 : v ≤ 15) (t : Nat) : Cd.valid (List.replicate t v) = true := by
  unfold Cd.valid
  rw [List.all_eq_true]
  intro x hx
  rw [List.eq_of_mem_replicate hx]
  unfold Cd.okLen
  simp [h0, h1]
theorem valid_get {l : List Int} (h : Cd.valid l = true) (i : Nat) : 0 ≤ l.getD i 0 ∧ l.getD i 0 ≤ 15 := by
  rw [List.getD_eq_getElem?_getD]
  by_cases hi : i < l.length
  · rw [List.getElem?_eq_getElem hi]
    unfold Cd.valid at h
    rw [List.all_eq_true] at h
    have := h l[i] (List.getElem_mem hi)
    unfold Cd.okLen at this
    simp only [Bool.and_eq_true, decide_eq_true_eq] at this
    exact this
  · rw [List.getElem?_eq_none (by omega)]
    exact ⟨Int.le_refl _, by decide⟩
theorem valid_mem {l : List Int} (h : Cd.valid l = true) : ∀ z ∈ l, 0 ≤ z ∧ z ≤ 15 := by
  intro z hz
  unfold Cd.valid at h
  rw [List.all_eq_true] at h
  have := h z hz
  unfold Cd.okLen at this
  simp only [Bool.and_eq_true, decide_eq_true_eq] at this
  exact this
theorem valid_of {l : List Int} (h : ∀ z ∈ l, 0 ≤ z ∧ z ≤ 15) : Cd.valid l = true := by
  unfold Cd.valid
  rw [List.all_eq_true]
  intro z hz
  have := h z hz
  unfold Cd.okLen
  simp [this.1, this.2]
theorem valid_sub {l m : List Int} (h : Cd.valid l = true) (hs : ∀ z ∈ m, z ∈ l) : Cd.valid m = true := valid_of (fun z hz => valid_mem h z (hs z hz))
/-- what is told of a run that was read -/
theorem run_ok {s : ByteArray} {zs l : List Int} {p t q : Nat} {v : Int} (hg : GoodC zs) (h : run s zs p l = .ok ((v, t), q)) : 1 ≤ t ∧ t ≤ 138 ∧ p < q ∧ q ≤ 8 * s.size ∧ (zs.length ≤ 19 → Cd.valid l = true → 0 ≤ v ∧ v ≤ 15) := by
  cases hy : sym s zs p with
  | error c => rw [run_no hy] at h; cases h
  | ok r =>
    obtain ⟨y, q1⟩ := r
    obtain ⟨b1, b2, b3⟩ := sym_ok hg hy
    by_cases h16 : y = 16
    · subst h16
      by_cases hl : l.length = 0
      · rw [run_16n hy hl] at h; cases h
      · cases hn : nxt s 2 q1 with
        | error c => rw [run_16s hy hl hn] at h; cases h
        | ok u =>
          rw [run_16 hy hl hn] at h
          have := nxt_ok hn
          cases h
          exact ⟨by omega, by omega, by omega, by omega, fun _ hv => valid_get hv _⟩
    · by_cases h17 : y = 17
      · subst h17
        cases hn : nxt s 3 q1 with
        | error c => rw [run_17s hy hn] at h; cases h
        | ok u =>
          rw [run_17 hy hn] at h
          have := nxt_ok hn
          cases h
          exact ⟨by omega, by omega, by omega, by omega, fun _ _ => ⟨by decide, by decide⟩⟩
      · by_cases h18 : y = 18
        · subst h18
          cases hn : nxt s 7 q1 with
          | error c => rw [run_18s hy hn] at h; cases h
          | ok u =>
            rw [run_18 hy hn] at h
            have := nxt_ok hn
            cases h
            exact ⟨by omega, by omega, by omega, by omega, fun _ _ => ⟨by decide, by decide⟩⟩
        · rw [run_one hy (by omega)] at h
          cases h
          exact ⟨by omega, by omega, by omega, by omega, fun hz _ => ⟨by omega, by omega⟩⟩
/-- what is told of lengths that were read -/
theorem lens_ok {s : ByteArray} {zs : List Int} {count : Nat} (hg : GoodC zs) (hz : zs.length ≤ 19) : ∀ {f p q : Nat} {l L : List Int}, lens s zs count f p l = .ok (L, q) → p ≤ 8 * s.size → Cd.valid l = true → l.length ≤ count → Cd.valid L = true ∧ L.length = count ∧ q ≤ 8 * s.size
  | 0, _, _, _, _, h, _, _, _ => by cases h
  | f + 1, p, q, l, L, h, hp, hv, hl => by
    by_cases hlt : l.length < count
    · cases hr : run s zs p l with
      | error c => rw [lens_no hlt hr] at h; cases h
      | ok r =>
        obtain ⟨⟨v, t⟩, q1⟩ := r
        obtain ⟨b1, b2, b3, b4, b5⟩ := run_ok hg hr
        by_cases ho : l.length + t ≤ count
        · rw [lens_more hlt hr ho] at h
          exact lens_ok hg hz h b4 (valid_app hv (valid_rep (b5 hz hv).1 (b5 hz hv).2 t)) (by rw [List.length_append, List.length_replicate]; exact ho)
        · rw [lens_over hlt hr ho] at h; cases h
    · rw [lens_done hlt] at h
      cases h
      exact ⟨hv, by omega, hp⟩
theorem lol_ok' {s : ByteArray} : ∀ {m i p q : Nat} {row L : List Int}, lol s m i p row = .ok (L, q) → p ≤ 8 * s.size → Cd.valid row = true → Cd.valid L = true ∧ L.length = row.length ∧ q ≤ 8 * s.size
  | 0, _, p, q, row, L, h, hp, hv => by
    unfold lol at h
    cases h
    exact ⟨hv, rfl, hp⟩
  | m + 1, i, p, q, row, L, h, hp, hv => by
    cases hn : nxt s 3 p with
    | error c => rw [lol_no hn] at h; cases h
    | ok v =>
      rw [lol_ok hn] at h
      have hb := nxt_ok hn
      obtain ⟨h1, h2, h3⟩ := lol_ok' h hb.1 (valid_of (fun z hz => by
        rcases List.mem_or_eq_of_mem_set hz with h | h
        · exact valid_mem hv z h
        · subst h; have := hb.2.2; omega))
      exact ⟨h1, by rw [h2, List.length_set], h3⟩
theorem body_ok {s : ByteArray} {lim : Nat} {A B : List Int} (hA : GoodC A) (hB : GoodC B) : ∀ {f p q : Nat} {l L : List UInt8}, body s lim A B f p l = .ok (L, q) → l.length ≤ lim → p < q ∧ q ≤ 8 * s.size ∧ L.length ≤ lim
  | 0, _, _, _, _, h, _ => by cases h
  | f + 1, p, q, l, L, h, hl => by
    cases hy : sym s A p with
    | error c => rw [body_no hy] at h; cases h
    | ok r =>
      obtain ⟨y, q1⟩ := r
      obtain ⟨b1, b2, b3⟩ := sym_ok hA hy
      by_cases h1 : y < 256
      · by_cases h2 : l.length < lim
        · rw [body_byte hy h1 h2] at h
          have := body_ok hA hB h (by rw [List.length_append]; exact h2)
          exact ⟨by omega, this.2⟩
        · rw [body_full hy h1 h2] at h; cases h
      · by_cases h2 : y = 256
        · rw [body_end hy h2] at h
          cases h
          exact ⟨b1, b2, hl⟩
        · by_cases h3 : 286 ≤ y
          · rw [body_bad hy h3] at h; cases h
          · cases hc : copy s lim B (y - 257) q1 l with
            | error c => rw [body_stop hy (by omega) (by omega) hc] at h; cases h
            | ok r =>
              obtain ⟨l2, q2⟩ := r
              rw [body_copy hy (by omega) (by omega) hc] at h
              have hcc : q1 ≤ q2 ∧ l2.length ≤ lim := by
                cases h5 : size s (y - 257) q1 with
                | error c => rw [copy_size h5] at hc; cases hc
                | ok r =>
                  obtain ⟨n, q3⟩ := r
                  cases h6 : dist s B q3 with
                  | error c => rw [copy_dist h5 h6] at hc; cases hc
                  | ok r =>
                    obtain ⟨d, q4⟩ := r
                    cases h7 : rep lim l n d with
                    | error c => rw [copy_rep h5 h6 h7] at hc; cases hc
                    | ok l3 =>
                      rw [copy_ok h5 h6 h7] at hc
                      cases hc
                      have e1 : q1 ≤ q3 := by
                        unfold size at h5
                        split at h5
                        · cases h5
                        · cases h5; omega
                      have e2 : q3 ≤ q2 := by
                        unfold dist at h6
                        split at h6
                        · cases h6
                        · rename_i d0 q0 hd0
                          have := (sym_ok hB hd0).1
                          split at h6
                          · split at h6
                            · cases h6
                            · cases h6; omega
                          · cases h6
                      have e3 : l2.length ≤ lim := by
                        unfold rep at h7
                        split at h7
                        · split at h7
                          · cases h7; rw [To.again_len]; assumption
                          · cases h7
                        · cases h7
                      exact ⟨by omega, e3⟩
              have := body_ok hA hB h hcc.2
              exact ⟨by omega, this.2⟩
theorem take_ok' {s : ByteArray} {lim : Nat} : ∀ {n p q : Nat} {l L : List UInt8}, take s lim n p l = .ok (L, q) → p ≤ 8 * s.size → l.length ≤ lim → p ≤ q ∧ q ≤ 8 * s.size ∧ L.length ≤ lim
  | 0, p, q, l, L, h, hp, hl => by
    unfold take at h
    cases h
    exact ⟨Nat.le_refl _, hp, hl⟩
  | n + 1, p, q, l, L, h, hp, hl => by
    cases hn : nxt s 8 p with
    | error c => rw [take_no hn] at h; cases h
    | ok v =>
      by_cases h2 : l.length < lim
      · rw [take_ok hn h2] at h
        have := take_ok' h (nxt_ok hn).1 (by rw [List.length_append]; exact h2)
        exact ⟨by omega, this.2⟩
      · rw [take_full hn h2] at h; cases h
end Nf
end Go.Proofs.Ythfdnloeicbgkaa

/- The fixed codes of the program, and the order of the lengths of lengths. -/
namespace Go.Proofs.Ythfdnloeicbgkaa
open Go.RowKit

theorem make_rowN (n : Nat) (hn : n ≤ 1000000) (w : World) : (Instr.makeSlice 44 (.int .i64 (n : Int)) (.int .i64 (n : Int))).run Try.prog w = .ok (.slice (some ⟨w.heap.size, 0, none⟩) n n) (w.alloc (.cells ((List.replicate n (0 : Int)).map (Value.int .i64)).toArray 3)) := by
  have h := make_ints (List.replicate n 0) n (by simp) (by omega) w
  rw [cp_zeroD] at h
  exact h
def lord0 : Array Value := Array.replicate 19 (.int .i64 0)
def lordV : Array Value := (Df.lord.map (fun n : Nat => Value.int .i64 (n : Int))).toArray
set_option maxRecDepth 100000 in
theorem zeroLord (w : World) : (zeroValue 166).run Try.prog w = .ok (.agg lord0) w := by kernel_rfl
theorem lordV_size : lordV.size = 19 := rfl
theorem lord0_size : lord0.size = 19 := rfl
set_option maxRecDepth 100000 in
set_option maxHeartbeats 1000000 in
theorem lengthOrder_any (w : World) : Calls Try.prog 130 #[] w fun e w' => e = .returned (.agg lordV) ∧ Below w.heap.size w w' := by
  have hz := fun w => zeroLord w
  have hg : (w.alloc (.cells lord0 166)).heap[w.heap.size]? = some (.cells lord0 166 (0, 0)) := heap_alloc_new _ _
  go_enter Try.func130, Try.ntmps130
  have hsz0 : lord0.size = 19 := rfl
  have hne : ¬ lord0 = #[] := by decide
  go_wp2_with (refine wpList_store_row rfl 166 (.tmp 0) (.tmp 1) rfl w.heap.size lordV rfl rfl 166 lord0 hg (by kernel_rfl) (by rw [lordV_size, lord0_size]) (by kernel_rfl) ?_)
  have hs2 := setRow_heap _ _ _ lordV _ _ hg
  refine bodyPost_ret_by (results_cell_row (p := 0) (ty := 166) (by kernel_rfl) _ _ w.heap.size 166 lordV (0, 0) _ rfl hs2 Try.underlying166 rfl (by kernel_rfl)) rfl ⟨rfl, ?_⟩
  exact ((Below.refl _ _).alloc (Nat.le_refl _) _).trans ⟨rfl, rfl, rfl, by simp, fun k hk => setRow_other _ _ k _ (by omega)⟩
theorem lord_i0 (w : World) : Sem.run Try.prog (Instr.index 166 (.agg lordV) (.int .i64 0)) w = .ok (.int .i64 16) w := by kernel_rfl
theorem lord_i1 (w : World) : Sem.run Try.prog (Instr.index 166 (.agg lordV) (.int .i64 1)) w = .ok (.int .i64 17) w := by kernel_rfl
theorem lord_i2 (w : World) : Sem.run Try.prog (Instr.index 166 (.agg lordV) (.int .i64 2)) w = .ok (.int .i64 18) w := by kernel_rfl
theorem lord_i3 (w : World) : Sem.run Try.prog (Instr.index 166 (.agg lordV) (.int .i64 3)) w = .ok (.int .i64 0) w := by kernel_rfl
theorem lord_i4 (w : World) : Sem.run Try.prog (Instr.index 166 (.agg lordV) (.int .i64 4)) w = .ok (.int .i64 8) w := by kernel_rfl
theorem lord_i5 (w : World) : Sem.run Try.prog (Instr.index 166 (.agg lordV) (.int .i64 5)) w = .ok (.int .i64 7) w := by kernel_rfl
theorem lord_i6 (w : World) : Sem.run Try.prog (Instr.index 166 (.agg lordV) (.int .i64 6)) w = .ok (.int .i64 9) w := by kernel_rfl
theorem lord_i7 (w : World) : Sem.run Try.prog (Instr.index 166 (.agg lordV) (.int .i64 7)) w = .ok (.int .i64 6) w := by kernel_rfl
theorem lord_i8 (w : World) : Sem.run Try.prog (Instr.index 166 (.agg lordV) (.int .i64 8)) w = .ok (.int .i64 10) w := by kernel_rfl
theorem lord_i9 (w : World) : Sem.run Try.prog (Instr.index 166 (.agg lordV) (.int .i64 9)) w = .ok (.int .i64 5) w := by kernel_rfl
theorem lord_i10 (w : World) : Sem.run Try.prog (Instr.index 166 (.agg lordV) (.int .i64 10)) w = .ok (.int .i64 11) w := by kernel_rfl
theorem lord_i11 (w : World) : Sem.run Try.prog (Instr.index 166 (.agg lordV) (.int .i64 11)) w = .ok (.int .i64 4) w := by kernel_rfl
theorem lord_i12 (w : World) : Sem.run Try.prog (Instr.index 166 (.agg lordV) (.int .i64 12)) w = .ok (.int .i64 12) w := by kernel_rfl
theorem lord_i13 (w : World) : Sem.run Try.prog (Instr.index 166 (.agg lordV) (.int .i64 13)) w = .ok (.int .i64 3) w := by kernel_rfl
theorem lord_i14 (w : World) : Sem.run Try.prog (Instr.index 166 (.agg lordV) (.int .i64 14)) w = .ok (.int .i64 13) w := by kernel_rfl
theorem lord_i15 (w : World) : Sem.run Try.prog (Instr.index 166 (.agg lordV) (.int .i64 15)) w = .ok (.int .i64 2) w := by kernel_rfl
theorem lord_i16 (w : World) : Sem.run Try.prog (Instr.index 166 (.agg lordV) (.int .i64 16)) w = .ok (.int .i64 14) w := by kernel_rfl
theorem lord_i17 (w : World) : Sem.run Try.prog (Instr.index 166 (.agg lordV) (.int .i64 17)) w = .ok (.int .i64 1) w := by kernel_rfl
theorem lord_i18 (w : World) : Sem.run Try.prog (Instr.index 166 (.agg lordV) (.int .i64 18)) w = .ok (.int .i64 15) w := by kernel_rfl
set_option maxRecDepth 20000 in
theorem lord_index (k : Nat) (hk : k < 19) (w : World) : Sem.run Try.prog (Instr.index 166 (.agg lordV) (.int .i64 (k : Int))) w = .ok (.int .i64 ((Df.lord.getD k 0 : Nat) : Int)) w := by
  have h : k = 0 ∨ k = 1 ∨ k = 2 ∨ k = 3 ∨ k = 4 ∨ k = 5 ∨ k = 6 ∨ k = 7 ∨ k = 8 ∨ k = 9 ∨ k = 10 ∨ k = 11 ∨ k = 12 ∨ k = 13 ∨ k = 14 ∨ k = 15 ∨ k = 16 ∨ k = 17 ∨ k = 18 := by omega
  rcases h with rfl | rfl | rfl | rfl | rfl | rfl | rfl | rfl | rfl | rfl | rfl | rfl | rfl | rfl | rfl | rfl | rfl | rfl | rfl
  · exact lord_i0 w
  · exact lord_i1 w
  · exact lord_i2 w
  · exact lord_i3 w
  · exact lord_i4 w
  · exact lord_i5 w
  · exact lord_i6 w
  · exact lord_i7 w
  · exact lord_i8 w
  · exact lord_i9 w
  · exact lord_i10 w
  · exact lord_i11 w
  · exact lord_i12 w
  · exact lord_i13 w
  · exact lord_i14 w
  · exact lord_i15 w
  · exact lord_i16 w
  · exact lord_i17 w
  · exact lord_i18 w
theorem row_step (f : List Int) (n k : Nat) (hf : f.length = n) (hk : k < n) : (f.take k ++ List.replicate (n - k) 0).set k (f.getD k 0) = f.take (k + 1) ++ List.replicate (n - (k + 1)) 0 := by
  have hl : (f.take k).length = k := by rw [List.length_take]; omega
  rw [List.set_append_right _ _ (by omega), hl, Nat.sub_self, List.take_succ_eq_append_getElem (by omega), List.append_assoc]
  congr 1
  obtain ⟨m, hm⟩ : ∃ m, n - k = m + 1 := ⟨n - k - 1, by omega⟩
  rw [hm, show n - (k + 1) = m by omega, List.replicate_succ, List.set_cons_zero, List.getD_eq_getElem?_getD, List.getElem?_eq_getElem (by omega)]
  rfl
theorem row_len (f : List Int) (n k : Nat) (hf : f.length = n) (hk : k ≤ n) : (f.take k ++ List.replicate (n - k) 0).length = n := by
  rw [List.length_append, List.length_take, List.length_replicate]; omega
set_option maxHeartbeats 4000000 in
set_option maxRecDepth 20000 in
theorem fixedLengths_any (w : World) :
    Calls Try.prog 21 #[] w fun e w' => (∃ b1 b2, e = .returned (.tuple #[.slice (some ⟨b1, 0, none⟩) 288 288, .slice (some ⟨b2, 0, none⟩) 32 32]) ∧ w.heap.size ≤ b1 ∧ w.heap.size ≤ b2 ∧ DRow w' b1 Df.fixS ∧ DRow w' b2 Df.fixD) ∧ Below w.heap.size w w' := by
  have hmk : (Instr.makeSlice 44 (.int .i64 288) (.int .i64 288)).run Try.prog w = .ok (.slice (some ⟨w.heap.size, 0, none⟩) 288 288) (w.alloc (.cells ((List.replicate 288 (0 : Int)).map (Value.int .i64)).toArray 3)) := make_rowN 288 (by omega) w
  obtain ⟨W0, hW0⟩ : ∃ W0, W0 = w.alloc (.cells ((List.replicate 288 (0 : Int)).map (Value.int .i64)).toArray 3) := ⟨_, rfl⟩
  obtain ⟨B1, hB1⟩ : ∃ B1, B1 = w.heap.size := ⟨_, rfl⟩
  rw [← hW0, ← hB1] at hmk
  have hr0 : DRow W0 B1 (List.replicate 288 0) := by rw [hW0, hB1]; exact heap_alloc_new _ _
  have HR0 : Hid (DRow W0 B1 (Df.fixS.take 0 ++ List.replicate (288 - 0) 0) ∧ Below w.heap.size w W0) := ⟨hr0, by rw [hW0]; exact (Below.refl _ _).alloc (Nat.le_refl _) _⟩
  have HB : Hid (B1 = w.heap.size) := hB1
  clear hW0 hB1 hr0
  go_enter Try.func21, Try.ntmps21
  go_wp2_with fail
  go_loopw [9] (fun i wr => ∃ k : Nat, k ≤ 288 ∧ i = .int .i64 (k : Int) ∧ Hid (DRow wr B1 (Df.fixS.take k ++ List.replicate (288 - k) 0) ∧ Below w.heap.size w wr)) (fun i _ => 288 - (intOf i).toNat)
  case atStart => exact ⟨0, Nat.zero_le _, rfl, HR0⟩
  case round =>
    obtain ⟨k, hk, rfl, HR⟩ := hrel
    clear HR0 hmk
    by_cases hlt : k < 288
    · have hki : (k : Int) < 288 := by omega
      have hrl := row_len Df.fixS 288 k Df.fixS_len hk
      have cK := HR.out.1.cell k (by rw [hrl]; exact hlt)
      have fK := HR.out.1.free k
      have hfx : Df.fixS.getD k 0 = if k < 144 then 8 else if k < 256 then 9 else if k < 280 then 7 else 8 := by
        unfold Df.fixS
        rw [List.getD_eq_getElem?_getD, List.getElem?_map, List.getElem?_range hlt]
        rfl
      have HSET : Hid (DRow (wr.setCell ⟨B1, k, none⟩ (.int .i64 (if k < 144 then 8 else if k < 256 then 9 else if k < 280 then 7 else 8))) B1 (Df.fixS.take (k + 1) ++ List.replicate (288 - (k + 1)) 0)) := by
        have h := HR.out.1.set k (Df.fixS.getD k 0)
        rw [row_step Df.fixS 288 k Df.fixS_len hlt, hfx] at h
        exact h
      obtain ⟨u, hu⟩ : ∃ u, u = (Df.fixS.take k ++ List.replicate (288 - k) 0)[k] := ⟨_, rfl⟩
      rw [← hu] at cK
      clear hrl hfx hu
      by_cases h1 : k < 144
      · have h1i : (k : Int) < 144 := by omega
        have HF : Hid (DRow (wr.setCell ⟨B1, k, none⟩ (.int .i64 8)) B1 (Df.fixS.take (k + 1) ++ List.replicate (288 - (k + 1)) 0) ∧ Below w.heap.size w (wr.setCell ⟨B1, k, none⟩ (.int .i64 8))) := by
          have h := HSET.out
          rw [if_pos h1] at h
          exact ⟨h, HR.out.2.setCell (p := ⟨B1, k, none⟩) (by show w.heap.size ≤ B1; rw [HB.out]; exact Nat.le_refl _) _⟩
        clear HSET HR
        go_wp2_with fail
        go_roundw
        case rel => exact ⟨k + 1, by omega, by go_num, HF⟩
        case measure => simp [intOf]; omega
      · have h1i : ¬ (k : Int) < 144 := by omega
        by_cases h2 : k < 256
        · have h2i : (k : Int) < 256 := by omega
          have HF : Hid (DRow (wr.setCell ⟨B1, k, none⟩ (.int .i64 9)) B1 (Df.fixS.take (k + 1) ++ List.replicate (288 - (k + 1)) 0) ∧ Below w.heap.size w (wr.setCell ⟨B1, k, none⟩ (.int .i64 9))) := by
            have h := HSET.out
            rw [if_neg h1, if_pos h2] at h
            exact ⟨h, HR.out.2.setCell (p := ⟨B1, k, none⟩) (by show w.heap.size ≤ B1; rw [HB.out]; exact Nat.le_refl _) _⟩
          clear HSET HR
          go_wp2_with fail
          go_roundw
          case rel => exact ⟨k + 1, by omega, by go_num, HF⟩
          case measure => simp [intOf]; omega
        · have h2i : ¬ (k : Int) < 256 := by omega
          by_cases h3 : k < 280
          · have h3i : (k : Int) < 280 := by omega
            have HF : Hid (DRow (wr.setCell ⟨B1, k, none⟩ (.int .i64 7)) B1 (Df.fixS.take (k + 1) ++ List.replicate (288 - (k + 1)) 0) ∧ Below w.heap.size w (wr.setCell ⟨B1, k, none⟩ (.int .i64 7))) := by
              have h := HSET.out
              rw [if_neg h1, if_neg h2, if_pos h3] at h
              exact ⟨h, HR.out.2.setCell (p := ⟨B1, k, none⟩) (by show w.heap.size ≤ B1; rw [HB.out]; exact Nat.le_refl _) _⟩
            clear HSET HR
            go_wp2_with fail
            go_roundw
            case rel => exact ⟨k + 1, by omega, by go_num, HF⟩
            case measure => simp [intOf]; omega
          · have h3i : ¬ (k : Int) < 280 := by omega
            have HF : Hid (DRow (wr.setCell ⟨B1, k, none⟩ (.int .i64 8)) B1 (Df.fixS.take (k + 1) ++ List.replicate (288 - (k + 1)) 0) ∧ Below w.heap.size w (wr.setCell ⟨B1, k, none⟩ (.int .i64 8))) := by
              have h := HSET.out
              rw [if_neg h1, if_neg h2, if_neg h3] at h
              exact ⟨h, HR.out.2.setCell (p := ⟨B1, k, none⟩) (by show w.heap.size ≤ B1; rw [HB.out]; exact Nat.le_refl _) _⟩
            clear HSET HR
            go_wp2_with fail
            go_roundw
            case rel => exact ⟨k + 1, by omega, by go_num, HF⟩
            case measure => simp [intOf]; omega
    · have hki : ¬ (k : Int) < 288 := by omega
      have hkN : k = 288 := by omega
      subst hkN
      have HE : Hid (DRow wr B1 Df.fixS ∧ Below w.heap.size w wr) := by
        have h := HR.out
        rw [List.take_of_length_le (by rw [Df.fixS_len]; exact Nat.le_refl _), Nat.sub_self, List.replicate_zero, List.append_nil] at h
        exact h
      clear HR
      have hmk2 : (Instr.makeSlice 44 (.int .i64 32) (.int .i64 32)).run Try.prog wr = .ok (.slice (some ⟨wr.heap.size, 0, none⟩) 32 32) (wr.alloc (.cells ((List.replicate 32 (0 : Int)).map (Value.int .i64)).toArray 3)) := make_rowN 32 (by omega) wr
      obtain ⟨W2, hW2⟩ : ∃ W2, W2 = wr.alloc (.cells ((List.replicate 32 (0 : Int)).map (Value.int .i64)).toArray 3) := ⟨_, rfl⟩
      obtain ⟨B2, hB2⟩ : ∃ B2, B2 = wr.heap.size := ⟨_, rfl⟩
      rw [← hW2, ← hB2] at hmk2
      have b2 : Below wr.heap.size wr W2 := by rw [hW2]; exact (Below.refl _ _).alloc (Nat.le_refl _) _
      have HR2 : Hid (DRow W2 B2 (Df.fixD.take 0 ++ List.replicate (32 - 0) 0) ∧ DRow W2 B1 Df.fixS ∧ Below w.heap.size w W2) := ⟨by rw [hW2, hB2]; exact heap_alloc_new _ _, HE.out.1.kept (b2.block B1 HE.out.1.lt), HE.out.2.trans (b2.mono HE.out.2.size)⟩
      have HB2 : Hid (w.heap.size ≤ B2 ∧ B1 ≠ B2) := ⟨by rw [hB2]; exact HE.out.2.size, by have := HE.out.1.lt; omega⟩
      clear hW2 hB2 b2 HE
      go_wp2_with fail
      go_loopw [37] (fun i wq => ∃ k : Nat, k ≤ 32 ∧ i = .int .i64 (k : Int) ∧ Hid (DRow wq B2 (Df.fixD.take k ++ List.replicate (32 - k) 0) ∧ DRow wq B1 Df.fixS ∧ Below w.heap.size w wq)) (fun i _ => 32 - (intOf i).toNat)
      case atStart => exact ⟨0, Nat.zero_le _, rfl, HR2⟩
      case round =>
        obtain ⟨k, hk, rfl, HR⟩ := hrel
        clear HR2 hmk2
        by_cases hlt : k < 32
        · have hki : (k : Int) < 32 := by omega
          have hrl := row_len Df.fixD 32 k Df.fixD_len hk
          have cK := HR.out.1.cell k (by rw [hrl]; exact hlt)
          have fK := HR.out.1.free k
          have hfx : Df.fixD.getD k 0 = 5 := by
            unfold Df.fixD
            rw [List.getD_eq_getElem?_getD, List.getElem?_replicate, if_pos hlt]
            rfl
          have hset := HR.out.1.set k (Df.fixD.getD k 0)
          rw [row_step Df.fixD 32 k Df.fixD_len hlt, hfx] at hset
          have hoth := HR.out.2.1.kept (Below.heap_setCell _ ⟨B2, k, none⟩ (.int .i64 5) B1 HB2.out.2)
          have hbl := HR.out.2.2.setCell (p := ⟨B2, k, none⟩) HB2.out.1 (.int .i64 5)
          have HF : Hid (_ ∧ _ ∧ _) := ⟨hset, hoth, hbl⟩
          obtain ⟨u, hu⟩ : ∃ u, u = (Df.fixD.take k ++ List.replicate (32 - k) 0)[k] := ⟨_, rfl⟩
          rw [← hu] at cK
          clear hrl hfx hu hset hoth hbl HR
          go_wp2_with fail
          go_roundw
          case rel => exact ⟨k + 1, by omega, by go_num, HF⟩
          case measure => simp [intOf]; omega
        · have hki : ¬ (k : Int) < 32 := by omega
          have hkN : k = 32 := by omega
          subst hkN
          have h := HR.out
          rw [List.take_of_length_le (by rw [Df.fixD_len]; exact Nat.le_refl _), Nat.sub_self, List.replicate_zero, List.append_nil] at h
          have HE2 : Hid (DRow _ B2 Df.fixD ∧ DRow _ B1 Df.fixS ∧ Below w.heap.size w _) := h
          clear HR h
          go_wp2_with fail
          refine bodyPost_ret (v := .tuple #[.slice (some ⟨B1, 0, none⟩) 288 288, .slice (some ⟨B2, 0, none⟩) 32 32]) (by simp [results, Try.results21, go_sem]) rfl ⟨⟨B1, B2, rfl, by rw [HB.out]; exact Nat.le_refl _, HB2.out.1, HE2.out.2.1, HE2.out.1⟩, HE2.out.2.2⟩
end Go.Proofs.Ythfdnloeicbgkaa
