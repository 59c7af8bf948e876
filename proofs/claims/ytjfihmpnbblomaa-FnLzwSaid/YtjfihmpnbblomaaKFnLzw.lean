/- Texts laid together: LpMath, LqMath, LqMap, LqWr, LqFor, LpSmall, LqLong, LqLearn, LqLearn2, LpPut, LqTop, LqMain, LzOk, LqEx. -/
import Derived.Test.YtjfihmpnbblomaaLzMath
import Derived.Test.YtjfihmpnbblomaaBpMath
import Derived.Test.YtjfihmpnbblomaaProg
import Derived.Test.YtjfihmpnbblomaaBase
import Derived.Maps.OwnSet
import Derived.DeepKeys4
import Derived.Test.YtjfihmpnbblomaaLzSmall
import Derived.Test.YtjfihmpnbblomaaEachReg
import Derived.Test.YtjfihmpnbblomaaBitOwn
import Derived.Test.YtjfihmpnbblomaaLzKeep
import Derived.Deep.Quiet
import Derived.Test.YtjfihmpnbblomaaLzStart
import Derived.BigQuiet
import Derived.Deep.QuietTactic
import Derived.Test.YtjfihmpnbblomaaBpSpecTop
import Derived.Test.YtjfihmpnbblomaaBpTop
/- Packing a text by LZW: its mathematics. -/
namespace Go.Proofs.Ytjfihmpnbblomaa

/-- where a text stands in a list from here on -/
def Lp.from (s : ByteArray) : List ByteArray → Nat → Int
  | [], _ => -1
  | x :: xs, i => if x = s then (i : Int) else Lp.from s xs (i + 1)
def Lp.find (l : List ByteArray) (s : ByteArray) : Int := Lp.from s l 0
def Lp.byte (s : ByteArray) : Nat := (s.data.toList.headD 0).toNat
def Lp.num (l : List ByteArray) (s : ByteArray) : Int := if s.size = 1 then (Lp.byte s : Int) else Lp.find l s
def Lp.known (b : Nat) (n : Nat) : Nat := if n = 2 ^ b + 2 then n else n - 1
def Lp.code (b : Nat) (wide : Bool) (v : Int) (n : Nat) : Int × Int := (v, (Lz.width b wide (Lp.known b n) : Int))
def Lp.full (wide : Bool) : Nat := if wide then 4094 else 4095

/-- what is known, what was put, the last text -/
structure Lp.St where
  l : List ByteArray
  out : List (Int × Int)
  last : ByteArray
/-- a byte more -/
def Lp.one (b : Nat) (wide : Bool) (t : Lp.St) (x : ByteArray) : Lp.St :=
  if 0 ≤ Lp.num t.l (t.last ++ x) then ⟨t.l, t.out, t.last ++ x⟩
  else if Lp.full wide ≤ t.l.length + 1 then ⟨Lz.start b, (t.out ++ [Lp.code b wide (Lp.num t.l t.last) t.l.length]) ++ [Lp.code b wide ((2 ^ b : Nat) : Int) (t.l.length + 1)], x⟩
  else ⟨t.l ++ [t.last ++ x], t.out ++ [Lp.code b wide (Lp.num t.l t.last) t.l.length], x⟩
def Lp.init (b : Nat) : Lp.St := ⟨Lz.start b, [(((2 ^ b : Nat) : Int), ((b + 1 : Nat) : Int))], ⟨#[]⟩⟩
def Lp.at (b : Nat) (wide : Bool) (s : ByteArray) : Nat → Lp.St
  | 0 => Lp.init b
  | k + 1 => Lp.one b wide (Lp.at b wide s k) (s.extract k (k + 1))
/-- what ends it -/
def Lp.close (b : Nat) (wide : Bool) (t : Lp.St) : List (Int × Int) :=
  if t.last.size = 0 then t.out ++ [Lp.code b wide (((2 ^ b : Nat) : Int) + 1) t.l.length]
  else (t.out ++ [Lp.code b wide (Lp.num t.l t.last) t.l.length]) ++ [Lp.code b wide (((2 ^ b : Nat) : Int) + 1) (t.l.length + 1)]
def Lp.all (b : Nat) (wide : Bool) (s : ByteArray) : List (Int × Int) := Lp.close b wide (Lp.at b wide s s.size)

theorem Lp.from_bd (s : ByteArray) : ∀ (l : List ByteArray) (i : Nat), -1 ≤ Lp.from s l i ∧ Lp.from s l i < (i + l.length : Nat)
  | [], i => by unfold Lp.from; simp; omega
  | x :: xs, i => by
    unfold Lp.from
    split
    · simp; omega
    · have := Lp.from_bd s xs (i + 1)
      simp only [List.length_cons]
      omega
theorem Lp.find_bd (l : List ByteArray) (s : ByteArray) : -1 ≤ Lp.find l s ∧ Lp.find l s < (l.length : Int) := by
  have := Lp.from_bd s l 0
  unfold Lp.find
  omega
theorem Lp.byte_lt (s : ByteArray) : Lp.byte s < 256 := UInt8.toNat_lt _
theorem Lp.full_bd (wide : Bool) : 4094 ≤ Lp.full wide ∧ Lp.full wide ≤ 4095 := by unfold Lp.full; split <;> omega

/-- the width serves -/
theorem Lz.grow_fits (k : Nat) : ∀ f n, n ≤ 12 → 12 ≤ n + f → Lz.grow k f n = 12 ∨ k < 2 ^ Lz.grow k f n
  | 0, n, h, h2 => by unfold Lz.grow; left; omega
  | f + 1, n, h, h2 => by
    unfold Lz.grow
    split
    · rename_i hc
      exact Lz.grow_fits k f (n + 1) (by omega) (by omega)
    · rename_i hc
      rcases Nat.lt_or_ge n 12 with h3 | h3
      · right
        rcases Nat.lt_or_ge k (2 ^ n) with h4 | h4
        · exact h4
        · exact absurd ⟨h3, h4⟩ hc
      · left; omega
theorem Lp.fits {b : Nat} (hb : b ≤ 8) (wide : Bool) {v n : Nat} (_hn : 2 ^ b + 2 ≤ n) (hv : v < n) (h4 : v < 4096) : v < 2 ^ Lz.width b wide (Lp.known b n) := by
  have hw := Lz.width_bd hb wide (Lp.known b n)
  have hg := Lz.grow_fits (Lz.known wide (Lp.known b n)) 12 (b + 1) (by omega) (by omega)
  have hk : v ≤ Lz.known wide (Lp.known b n) := by
    unfold Lz.known Lp.known
    split <;> split <;> omega
  unfold Lz.width at hw ⊢
  rcases hg with e | e
  · rw [e]; exact h4
  · omega
theorem Lp.fits_small {b : Nat} (hb : b ≤ 8) (wide : Bool) {v m : Nat} (hv : v < 2 ^ (b + 1)) : v < 2 ^ Lz.width b wide m := by
  have hw := Lz.width_bd hb wide m
  exact Nat.lt_of_lt_of_le hv (Nat.pow_le_pow_right (by omega) hw.1)

/-- what holds between two bytes -/
structure Lp.Good (b : Nat) (wide : Bool) (k : Nat) (t : Lp.St) : Prop where
  lo : 2 ^ b + 2 ≤ t.l.length
  hi : t.l.length < Lp.full wide
  last : t.last.size ≤ k
  num : t.last.size ≠ 0 → ∃ v : Nat, Lp.num t.l t.last = (v : Int) ∧ v < t.l.length
  ok : ∀ p ∈ t.out, Bp.Ok p ∧ p.2.toNat ≤ 12
  cnt : ∃ a c : Nat, t.out.length = 1 + a + c ∧ a + (if t.last.size = 0 then 0 else 1) ≤ k ∧ t.l.length + c * (Lp.full wide - (2 ^ b + 2)) = 2 ^ b + 2 + a
  pos : 0 < k → t.last.size ≠ 0

theorem Lp.code_ok {b : Nat} (hb : b ≤ 8) (wide : Bool) {v n : Nat} (hn : 2 ^ b + 2 ≤ n) (hv : v < n) (h4 : v < 4096) : Bp.Ok (Lp.code b wide (v : Int) n) ∧ (Lp.code b wide (v : Int) n).2.toNat ≤ 12 := by
  have hw := Lz.width_bd hb wide (Lp.known b n)
  have := Lp.fits hb wide hn hv h4
  unfold Lp.code Bp.Ok
  simp only [Int.toNat_natCast]
  omega
theorem Lp.code_ok2 {b : Nat} (hb : b ≤ 8) (wide : Bool) {v n : Nat} (hv : v < 2 ^ (b + 1)) : Bp.Ok (Lp.code b wide (v : Int) n) ∧ (Lp.code b wide (v : Int) n).2.toNat ≤ 12 := by
  have hw := Lz.width_bd hb wide (Lp.known b n)
  have := Lp.fits_small hb wide (m := Lp.known b n) hv
  unfold Lp.code Bp.Ok
  simp only [Int.toNat_natCast]
  omega

theorem Lp.num_bd {b : Nat} {l : List ByteArray} {s : ByteArray} (hl : 2 ^ b + 2 ≤ l.length) (h : 0 ≤ Lp.num l s) (h1 : s.size = 1 → Lp.byte s < 2 ^ b) : ∃ v : Nat, Lp.num l s = (v : Int) ∧ v < l.length := by
  refine ⟨(Lp.num l s).toNat, by omega, ?_⟩
  unfold Lp.num at h ⊢
  split
  · rename_i e
    have := h1 e
    simp only [Int.toNat_natCast]
    omega
  · rename_i e
    rw [if_neg e] at h
    have := Lp.find_bd l s
    omega

theorem Lp.num_one {l : List ByteArray} {x : ByteArray} (h : x.size = 1) : Lp.num l x = (Lp.byte x : Int) := by unfold Lp.num; rw [if_pos h]

theorem Lp.nil_app (x : ByteArray) : (⟨#[]⟩ : ByteArray) ++ x = x := by
  apply ByteArray.ext
  rw [ByteArray.data_append]
  simp

theorem Lp.good_init {b : Nat} (hb : b ≤ 8) (wide : Bool) : Lp.Good b wide 0 (Lp.init b) := by
  have hp := Lz.pow_le hb
  have hf := Lp.full_bd wide
  have hs := Lz.start_len b
  have h2 : (2 : Nat) ^ (b + 1) = 2 * 2 ^ b := by rw [Nat.pow_succ]; omega
  have h1 : 1 ≤ 2 ^ b := Nat.one_le_two_pow
  refine ⟨by show _ ≤ (Lz.start b).length; omega, by show (Lz.start b).length < _; omega, Nat.le_refl _, fun h => absurd rfl h, ?_, ⟨0, 0, rfl, Nat.le_refl _, by show (Lz.start b).length + _ = _; rw [hs]; omega⟩, fun h => absurd h (by omega)⟩
  intro p hp'
  have e : p = (((2 ^ b : Nat) : Int), ((b + 1 : Nat) : Int)) := by simpa [Lp.init] using hp'
  subst e
  unfold Bp.Ok
  simp only [Int.toNat_natCast]
  omega

theorem Lp.good_one {b k : Nat} {wide : Bool} {t : Lp.St} (hb : b ≤ 8) (g : Lp.Good b wide k t) {x : ByteArray} (hx : x.size = 1) (hxb : Lp.byte x < 2 ^ b) : Lp.Good b wide (k + 1) (Lp.one b wide t x) := by
  have hp := Lz.pow_le hb
  have hf := Lp.full_bd wide
  have hs := Lz.start_len b
  have h1 : 1 ≤ 2 ^ b := Nat.one_le_two_pow
  have h2 : (2 : Nat) ^ (b + 1) = 2 * 2 ^ b := by rw [Nat.pow_succ]; omega
  have hlo := g.lo
  have hhi := g.hi
  have hla := g.last
  have hsz : (t.last ++ x).size = t.last.size + 1 := by rw [ByteArray.size_append, hx]
  obtain ⟨a, c, c1, c2, c3⟩ := g.cnt
  unfold Lp.one
  split
  · rename_i h0
    refine ⟨hlo, hhi, by show (t.last ++ x).size ≤ _; omega, fun _ => ?_, g.ok, ⟨a, c, c1, ?_, c3⟩, fun _ => by show (t.last ++ x).size ≠ 0; omega⟩
    · refine Lp.num_bd hlo h0 (fun e => ?_)
      replace e : (t.last ++ x).size = 1 := e
      have e0 : t.last = ⟨#[]⟩ := ByteArray.ext (Array.eq_empty_of_size_eq_zero (show t.last.size = 0 by omega))
      rw [e0, Lp.nil_app]
      exact hxb
    · show a + (if (t.last ++ x).size = 0 then 0 else 1) ≤ k + 1
      rw [if_neg (by omega)]
      split at c2 <;> omega
  · rename_i h0
    have hne : t.last.size ≠ 0 := fun e => by
      have e0 : t.last = ⟨#[]⟩ := ByteArray.ext (Array.eq_empty_of_size_eq_zero e)
      rw [e0, Lp.nil_app, Lp.num_one hx] at h0
      omega
    obtain ⟨v, hv, hvl⟩ := g.num hne
    rw [if_neg hne] at c2
    have hok1 := Lp.code_ok hb wide hlo hvl (by omega)
    have hxn : ∃ v : Nat, Lp.num (Lz.start b) x = (v : Int) ∧ v < (Lz.start b).length := ⟨Lp.byte x, Lp.num_one hx, by omega⟩
    split
    · rename_i h3
      refine ⟨by show _ ≤ (Lz.start b).length; omega, by show (Lz.start b).length < _; omega, by show x.size ≤ _; omega, fun _ => hxn, ?_, ⟨a + 1, c + 1, by simp [c1]; omega, ?_, ?_⟩, fun _ => by show x.size ≠ 0; omega⟩
      · intro p hp'
        simp only [List.mem_append, List.mem_singleton] at hp'
        rcases hp' with (hp' | rfl) | rfl
        · exact g.ok p hp'
        · rw [hv]; exact hok1
        · exact Lp.code_ok2 hb wide (by omega)
      · show a + 1 + (if x.size = 0 then 0 else 1) ≤ k + 1
        rw [if_neg (by omega)]
        omega
      · show (Lz.start b).length + _ = _
        rw [hs, Nat.succ_mul]
        omega
    · rename_i h3
      refine ⟨by simp; omega, by simp; omega, by show x.size ≤ _; omega, fun _ => ⟨Lp.byte x, Lp.num_one hx, by simp; omega⟩, ?_, ⟨a + 1, c, by simp [c1]; omega, ?_, ?_⟩, fun _ => by show x.size ≠ 0; omega⟩
      · intro p hp'
        simp only [List.mem_append, List.mem_singleton] at hp'
        rcases hp' with hp' | rfl
        · exact g.ok p hp'
        · rw [hv]; exact hok1
      · show a + 1 + (if x.size = 0 then 0 else 1) ≤ k + 1
        rw [if_neg (by omega)]
        omega
      · show (t.l ++ [t.last ++ x]).length + _ = _
        rw [List.length_append]
        simp
        omega

theorem Lp.len_bd {b k : Nat} {wide : Bool} {t : Lp.St} (hb : b ≤ 8) (g : Lp.Good b wide k t) (hk : k ≤ 5000) : t.out.length ≤ 5002 := by
  obtain ⟨a, c, c1, c2, c3⟩ := g.cnt
  have hp := Lz.pow_le hb
  have hf := Lp.full_bd wide
  have hlo := g.lo
  have h1 : c * 3836 ≤ c * (Lp.full wide - (2 ^ b + 2)) := Nat.mul_le_mul_left _ (by omega)
  omega

/-- every byte is small enough -/
def Lp.small (b : Nat) (s : ByteArray) : Prop := ∀ k, k < s.size → Lp.byte (s.extract k (k + 1)) < 2 ^ b
theorem Lp.good_at {b : Nat} (hb : b ≤ 8) (wide : Bool) {s : ByteArray} (hs : Lp.small b s) : ∀ k, k ≤ s.size → Lp.Good b wide k (Lp.at b wide s k)
  | 0, _ => Lp.good_init hb wide
  | k + 1, h => Lp.good_one hb (Lp.good_at hb wide hs k (by omega)) (by rw [ByteArray.size_extract]; omega) (hs k (by omega))

theorem tot_le {l : List (Int × Int)} (h : ∀ p ∈ l, p.2.toNat ≤ 12) : ∀ i, i ≤ l.length → Bp.tot l i ≤ 12 * i
  | 0, _ => by simp [Bp.tot]
  | i + 1, hi => by
    rw [Bp.tot_succ l i (by omega)]
    have := tot_le h i (by omega)
    have := h l[i] (List.getElem_mem _)
    omega
theorem Lp.all_ok {b : Nat} (hb : b ≤ 8) (hb2 : 2 ≤ b) (wide : Bool) {s : ByteArray} (hs : Lp.small b s) (hz : s.size ≤ 5000) : Bp.Fits (Lp.all b wide s) (Lp.all b wide s).length ∧ (Lp.all b wide s).length ≤ 5004 := by
  have g := Lp.good_at hb wide hs s.size (Nat.le_refl _)
  have hlen := Lp.len_bd hb g hz
  have hlo := g.lo
  have hhi := g.hi
  have hf := Lp.full_bd wide
  have h1 : 2 ^ 2 ≤ 2 ^ b := Nat.pow_le_pow_right (by omega) hb2
  have h2 : (2 : Nat) ^ (b + 1) = 2 * 2 ^ b := by rw [Nat.pow_succ]; omega
  have hall : ∀ p ∈ Lp.all b wide s, Bp.Ok p ∧ p.2.toNat ≤ 12 := by
    intro p hp'
    have hend : ∀ n, Bp.Ok (Lp.code b wide (((2 ^ b : Nat) : Int) + 1) n) ∧ (Lp.code b wide (((2 ^ b : Nat) : Int) + 1) n).2.toNat ≤ 12 := fun n => by
      have := Lp.code_ok2 hb wide (v := 2 ^ b + 1) (n := n) (by omega)
      exact this
    unfold Lp.all Lp.close at hp'
    split at hp'
    · simp only [List.mem_append, List.mem_singleton] at hp'
      rcases hp' with hp' | rfl
      · exact g.ok p hp'
      · exact hend _
    · rename_i hne
      obtain ⟨v, hv, hvl⟩ := g.num hne
      simp only [List.mem_append, List.mem_singleton] at hp'
      rcases hp' with (hp' | rfl) | rfl
      · exact g.ok p hp'
      · rw [hv]; exact Lp.code_ok hb wide hlo hvl (by omega)
      · exact hend _
  have hl2 : (Lp.all b wide s).length ≤ 5004 := by
    unfold Lp.all Lp.close
    split <;> simp <;> omega
  refine ⟨fun j hj _ => ⟨(hall _ (List.getElem_mem hj)).1, ?_⟩, hl2⟩
  have := tot_le (fun p hp' => (hall p hp').2) (j + 1) (by omega)
  omega
end Go.Proofs.Ytjfihmpnbblomaa

/- Packing by LZW with a table of pairs: its mathematics. -/
namespace Go.Proofs.Ytjfihmpnbblomaa

theorem Lp.from_app (s : ByteArray) : ∀ (l m : List ByteArray) (i : Nat), Lp.from s (l ++ m) i = if 0 ≤ Lp.from s l i then Lp.from s l i else Lp.from s m (i + l.length)
  | [], m, i => by simp [Lp.from]
  | x :: xs, m, i => by
    rw [List.cons_append, show Lp.from s (x :: (xs ++ m)) i = if x = s then (i : Int) else Lp.from s (xs ++ m) (i + 1) from rfl, show Lp.from s (x :: xs) i = if x = s then (i : Int) else Lp.from s xs (i + 1) from rfl]
    by_cases h : x = s
    · rw [if_pos h, if_pos h, if_pos (by omega)]
    · rw [if_neg h, if_neg h, Lp.from_app s xs m (i + 1)]
      rw [List.length_cons, show i + 1 + xs.length = i + (xs.length + 1) by omega]
theorem Lp.from_some (s : ByteArray) : ∀ (l : List ByteArray) (i v : Nat), Lp.from s l i = (v : Int) → ∃ h : v - i < l.length, i ≤ v ∧ l[v - i] = s
  | [], i, v, h => by unfold Lp.from at h; omega
  | x :: xs, i, v, h => by
    unfold Lp.from at h
    split at h
    · rename_i e
      have : v = i := by omega
      subst this
      exact ⟨by simp, Nat.le_refl _, by simpa using e⟩
    · obtain ⟨h1, h2, h3⟩ := Lp.from_some s xs (i + 1) v h
      refine ⟨by simp only [List.length_cons]; omega, by omega, ?_⟩
      have e : v - i = (v - (i + 1)) + 1 := by omega
      simp only [e, List.getElem_cons_succ]
      exact h3
theorem Lp.find_some {l : List ByteArray} {s : ByteArray} {v : Nat} (h : Lp.find l s = (v : Int)) : ∃ hv : v < l.length, l[v] = s := by
  obtain ⟨h1, _, h3⟩ := Lp.from_some s l 0 v h
  exact ⟨by simpa using h1, by simpa using h3⟩
theorem Lp.from_mem (s : ByteArray) : ∀ (l : List ByteArray) (i : Nat), s ∈ l → 0 ≤ Lp.from s l i
  | x :: xs, i, h => by
    unfold Lp.from
    split
    · omega
    · rename_i hx
      rcases List.mem_cons.1 h with e | e
      · exact absurd e.symm hx
      · exact Lp.from_mem s xs (i + 1) e
theorem Lp.find_mem {l : List ByteArray} {s : ByteArray} (h : s ∈ l) : 0 ≤ Lp.find l s := Lp.from_mem s l 0 h
theorem Lp.find_app (l : List ByteArray) (z s : ByteArray) : Lp.find (l ++ [z]) s = if 0 ≤ Lp.find l s then Lp.find l s else if z = s then (l.length : Int) else -1 := by
  unfold Lp.find
  rw [Lp.from_app]
  split
  · rfl
  · unfold Lp.from
    split
    · rw [Nat.zero_add]
    · rfl

/-- what holds of the texts that are known -/
structure Lq.Inv (b : Nat) (l : List ByteArray) : Prop where
  lo : 2 ^ b + 2 ≤ l.length
  pre : l.take (2 ^ b + 2) = Lz.start b
  big : ∀ i (h : i < l.length), 2 ^ b + 2 ≤ i → 2 ≤ (l[i]).size
  inj : ∀ i j (h : i < l.length) (h' : j < l.length), l[i] = l[j] → (l[i]).size ≠ 0 → i = j
  pc : ∀ y c : ByteArray, c.size = 1 → 1 ≤ y.size → 0 ≤ Lp.find l (y ++ c) → 0 ≤ Lp.num l y

theorem Lz.start_at {b i : Nat} (h : i < 2 ^ b) : ∃ h' : i < (Lz.start b).length, (Lz.start b)[i] = Lz.one i := by
  refine ⟨by rw [Lz.start_len]; omega, ?_⟩
  simp only [Lz.start]
  rw [List.getElem_append_left (by simpa using h), List.getElem_map, List.getElem_range]
theorem Lz.start_big {b i : Nat} (h : i < (Lz.start b).length) (hi : 2 ^ b ≤ i) : (Lz.start b)[i] = ⟨#[]⟩ := by
  have hl := Lz.start_len b
  simp only [Lz.start]
  rw [List.getElem_append_right (by simpa using hi)]
  rcases (show i - 2 ^ b = 0 ∨ i - 2 ^ b = 1 by omega) with e | e <;> simp [e]
theorem Lp.one_of {x : ByteArray} (h : x.size = 1) : x = Lz.one (Lp.byte x) := by
  obtain ⟨⟨l⟩⟩ := x
  match l, h with
  | [a], _ => simp [Lz.one, Lp.byte]

theorem Lq.inv_start {b : Nat} (hb : b ≤ 8) : Lq.Inv b (Lz.start b) := by
  have hl := Lz.start_len b
  have hp := Lz.pow_le hb
  refine ⟨by omega, List.take_of_length_le (by omega), fun i h hi => by omega, fun i j h h' e hs => ?_, fun y c hc hy hf => ?_⟩
  · have hi : i < 2 ^ b := by
      rcases Nat.lt_or_ge i (2 ^ b) with h1 | h1
      · exact h1
      · rw [Lz.start_big h h1] at hs; exact absurd rfl hs
    have hj : j < 2 ^ b := by
      rcases Nat.lt_or_ge j (2 ^ b) with h1 | h1
      · exact h1
      · rw [e, Lz.start_big h' h1] at hs; exact absurd rfl hs
    obtain ⟨_, e1⟩ := Lz.start_at hi
    obtain ⟨_, e2⟩ := Lz.start_at hj
    rw [e1, e2] at e
    have e3 : UInt8.ofNat i = UInt8.ofNat j := by
      have := congrArg ByteArray.data e
      simpa [Lz.one] using this
    have e4 := congrArg UInt8.toNat e3
    rw [UInt8.toNat_ofNat', UInt8.toNat_ofNat'] at e4
    omega
  · have hn : 0 ≤ (Lp.find (Lz.start b) (y ++ c)) := hf
    obtain ⟨v, hv⟩ := Int.eq_ofNat_of_zero_le hn
    obtain ⟨hvl, e⟩ := Lp.find_some hv
    exfalso
    have hs : (y ++ c).size = y.size + 1 := by rw [ByteArray.size_append, hc]
    rcases Nat.lt_or_ge v (2 ^ b) with h1 | h1
    · obtain ⟨_, e1⟩ := Lz.start_at h1
      rw [e1] at e
      have := congrArg ByteArray.size e
      rw [Lz.one_size, hs] at this
      omega
    · rw [Lz.start_big hvl h1] at e
      have h0 : (ByteArray.mk #[]).size = 0 := rfl
      have := congrArg ByteArray.size e
      rw [hs, h0] at this
      omega

/-- a number stands for its text -/
theorem Lq.at_num {b v : Nat} {l : List ByteArray} {z : ByteArray} (g : Lq.Inv b l) (h : Lp.num l z = (v : Int)) (hz : z.size = 1 → Lp.byte z < 2 ^ b) : ∃ hv : v < l.length, l[v] = z := by
  unfold Lp.num at h
  split at h
  · rename_i h1
    have hb := hz h1
    have hlo := g.lo
    have e : v = Lp.byte z := by omega
    subst e
    refine ⟨by omega, ?_⟩
    obtain ⟨h2, e2⟩ := Lz.start_at hb
    have e3 : (l.take (2 ^ b + 2))[Lp.byte z]'(by rw [g.pre]; exact h2) = l[Lp.byte z] := List.getElem_take
    rw [← e3]
    simp only [g.pre]
    rw [e2]
    exact (Lp.one_of h1).symm
  · exact Lp.find_some h

theorem Lp.num_two {l : List ByteArray} {y c : ByteArray} (hc : c.size = 1) (hy : 1 ≤ y.size) : Lp.num l (y ++ c) = Lp.find l (y ++ c) := by
  unfold Lp.num
  rw [if_neg (by rw [ByteArray.size_append, hc]; omega)]
theorem Lp.num_more {l : List ByteArray} {z y : ByteArray} (h : 0 ≤ Lp.num l y) : Lp.num (l ++ [z]) y = Lp.num l y := by
  unfold Lp.num at h ⊢
  split
  · rfl
  · rename_i h1
    rw [if_neg h1] at h
    rw [Lp.find_app, if_pos h]
theorem app_inj {x y c d : ByteArray} (hc : c.size = 1) (hd : d.size = 1) (h : x ++ c = y ++ d) : x = y ∧ c = d := by
  have hl : (x.data.toList ++ c.data.toList) = (y.data.toList ++ d.data.toList) := by
    have := congrArg (fun z => z.data.toList) h
    simpa using this
  have hc' : c.data.toList.length = 1 := hc
  have hd' : d.data.toList.length = 1 := hd
  obtain ⟨h1, h2⟩ := List.append_inj' hl (by omega)
  exact ⟨ByteArray.ext (Array.toList_inj.1 h1), ByteArray.ext (Array.toList_inj.1 h2)⟩

/-- a text more -/
theorem Lq.inv_more {b : Nat} {l : List ByteArray} {z c : ByteArray} (g : Lq.Inv b l) (hc : c.size = 1) (hz : 1 ≤ z.size) (hk : 0 ≤ Lp.num l z) (hn : Lp.find l (z ++ c) < 0) : Lq.Inv b (l ++ [z ++ c]) := by
  have hlo := g.lo
  have hsz : (z ++ c).size = z.size + 1 := by rw [ByteArray.size_append, hc]
  have hnm : z ++ c ∉ l := fun h => by have := Lp.find_mem h; omega
  refine ⟨by simp; omega, by rw [List.take_append_of_le_length hlo]; exact g.pre, fun i h hi => ?_, fun i j h h' e hs => ?_, fun y d hd hy hf => ?_⟩
  · by_cases hil : i < l.length
    · rw [List.getElem_append_left hil]; exact g.big i hil hi
    · rw [List.getElem_append_right (by omega)]
      simp only [List.getElem_singleton]
      omega
  · simp only [List.length_append, List.length_singleton] at h h'
    by_cases hi : i < l.length <;> by_cases hj : j < l.length
    · rw [List.getElem_append_left hi, List.getElem_append_left hj] at e
      rw [List.getElem_append_left hi] at hs
      exact g.inj i j hi hj e hs
    · rw [List.getElem_append_left hi, List.getElem_append_right (by omega)] at e
      simp only [List.getElem_singleton] at e
      exact absurd (e ▸ List.getElem_mem hi) hnm
    · rw [List.getElem_append_right (by omega), List.getElem_append_left hj] at e
      simp only [List.getElem_singleton] at e
      exact absurd (e ▸ List.getElem_mem hj) hnm
    · omega
  · by_cases hf1 : 0 ≤ Lp.find l (y ++ d)
    · have := g.pc y d hd hy hf1
      rw [Lp.num_more this]; exact this
    · rw [Lp.find_app, if_neg hf1] at hf
      split at hf
      · rename_i e
        obtain ⟨rfl, rfl⟩ := app_inj hc hd e
        rw [Lp.num_more hk]; exact hk
      · omega

/-- what the table says at a number and a byte -/
def Lq.look (l : List ByteArray) (h c : Nat) : Int := if hh : h < l.length then (if (l[h]).size = 0 then -1 else Lp.find l (l[h] ++ Lz.one c)) else -1
theorem Lq.look_num {b v : Nat} (c : Nat) {l : List ByteArray} {z : ByteArray} (g : Lq.Inv b l) (h : Lp.num l z = (v : Int)) (hz : z.size = 1 → Lp.byte z < 2 ^ b) (hz1 : 1 ≤ z.size) : Lq.look l v c = Lp.num l (z ++ Lz.one c) := by
  obtain ⟨hv, e⟩ := Lq.at_num g h hz
  unfold Lq.look
  rw [dif_pos hv, e, if_neg (by omega), Lp.num_two rfl hz1]
theorem Lq.look_start {b : Nat} (h c : Nat) : Lq.look (Lz.start b) h c = -1 := by
  unfold Lq.look
  split
  · rename_i hh
    split
    · rfl
    · rename_i hs
      rcases Int.lt_or_le (Lp.find (Lz.start b) ((Lz.start b)[h] ++ Lz.one c)) 0 with h1 | h1
      · have := (Lp.find_bd (Lz.start b) ((Lz.start b)[h] ++ Lz.one c)).1
        omega
      · exfalso
        obtain ⟨v, hv⟩ := Int.eq_ofNat_of_zero_le h1
        obtain ⟨hvl, e⟩ := Lp.find_some hv
        have hsz : ((Lz.start b)[h] ++ Lz.one c).size = (Lz.start b)[h].size + 1 := by rw [ByteArray.size_append, Lz.one_size]
        have h2 : ((Lz.start b)[v]).size ≤ 1 := by
          rcases Nat.lt_or_ge v (2 ^ b) with h3 | h3
          · obtain ⟨_, e1⟩ := Lz.start_at h3
            rw [e1, Lz.one_size]; exact Nat.le_refl _
          · rw [Lz.start_big hvl h3]; exact Nat.zero_le _
        rw [e, hsz] at h2
        omega
  · rfl
/-- the table behind a text more -/
theorem Lq.look_more {b v c : Nat} {l : List ByteArray} {z : ByteArray} (g : Lq.Inv b l) (h : Lp.num l z = (v : Int)) (hz : z.size = 1 → Lp.byte z < 2 ^ b) (hz1 : 1 ≤ z.size) (hn : Lp.find l (z ++ Lz.one c) < 0) (hc : c < 256) (h' c' : Nat) (hc' : c' < 256) :
    Lq.look (l ++ [z ++ Lz.one c]) h' c' = if h' = v ∧ c' = c then (l.length : Int) else Lq.look l h' c' := by
  obtain ⟨hv, ev⟩ := Lq.at_num g h hz
  have hlen : (l ++ [z ++ Lz.one c]).length = l.length + 1 := by simp
  have hoi : ∀ i j : Nat, i < 256 → j < 256 → Lz.one i = Lz.one j → i = j := fun i j hi hj e => by
    have e3 := congrArg ByteArray.data e
    have e4 : UInt8.ofNat i = UInt8.ofNat j := by simpa [Lz.one] using e3
    have e5 := congrArg UInt8.toNat e4
    rw [UInt8.toNat_ofNat', UInt8.toNat_ofNat'] at e5
    omega
  by_cases hh : h' < l.length
  · have e1 : (l ++ [z ++ Lz.one c])[h']'(by omega) = l[h'] := List.getElem_append_left hh
    unfold Lq.look
    rw [dif_pos (by omega : h' < (l ++ [z ++ Lz.one c]).length), dif_pos hh, e1]
    by_cases hs : (l[h']).size = 0
    · rw [if_pos hs, if_pos hs, if_neg]
      rintro ⟨rfl, -⟩
      rw [ev] at hs
      omega
    · rw [if_neg hs, if_neg hs, Lp.find_app]
      by_cases hf : 0 ≤ Lp.find l (l[h'] ++ Lz.one c')
      · rw [if_pos hf, if_neg]
        rintro ⟨rfl, rfl⟩
        rw [ev] at hf
        omega
      · rw [if_neg hf]
        by_cases e : z ++ Lz.one c = l[h'] ++ Lz.one c'
        · obtain ⟨e2, e3⟩ := app_inj rfl rfl e
          have : h' = v := g.inj h' v hh hv (by rw [ev, e2]) hs
          rw [if_pos e, if_pos ⟨this, (hoi _ _ hc hc' e3).symm⟩]
        · rw [if_neg e, if_neg]
          · have := (Lp.find_bd l (l[h'] ++ Lz.one c')).1
            omega
          · rintro ⟨rfl, rfl⟩
            rw [ev] at e
            exact e rfl
  · have hne : ¬ (h' = v ∧ c' = c) := fun e => by omega
    rw [if_neg hne]
    unfold Lq.look
    rw [dif_neg hh]
    by_cases hx : h' = l.length
    · subst hx
      rw [dif_pos (by omega : l.length < (l ++ [z ++ Lz.one c]).length)]
      have e1 : (l ++ [z ++ Lz.one c])[l.length]'(by omega) = z ++ Lz.one c := by simp
      rw [e1]
      split
      · rfl
      · rw [Lp.find_app]
        have hs1 : (z ++ Lz.one c).size = z.size + 1 := by rw [ByteArray.size_append, Lz.one_size]
        have hs2 : (z ++ Lz.one c ++ Lz.one c').size = z.size + 2 := by rw [ByteArray.size_append, Lz.one_size, hs1]
        rw [if_neg, if_neg]
        · intro e
          have := congrArg ByteArray.size e
          omega
        · intro hf
          have := g.pc (z ++ Lz.one c) (Lz.one c') rfl (by omega) hf
          rw [Lp.num_two rfl hz1] at this
          omega
    · rw [dif_neg (by omega)]

/-- as far as it is known, the state stays -/
theorem Lq.run {b : Nat} {wide : Bool} {s : ByteArray} {p k : Nat} {l : List ByteArray} {out : List (Int × Int)} (h1 : Lp.at b wide s (p + 1) = ⟨l, out, s.extract p (p + 1)⟩)
    (hk : ∀ j, 1 ≤ j → j ≤ k → 0 ≤ Lp.num l (s.extract p (p + j))) : ∀ j, 1 ≤ j → j ≤ k → Lp.at b wide s (p + j) = ⟨l, out, s.extract p (p + j)⟩
  | 0, h, _ => absurd h (by omega)
  | 1, _, _ => h1
  | j + 2, _, h => by
    have ih := Lq.run h1 hk (j + 1) (by omega) (by omega)
    have e : p + (j + 2) = (p + (j + 1)) + 1 := by omega
    have es : s.extract p (p + (j + 1)) ++ s.extract (p + (j + 1)) (p + (j + 1) + 1) = s.extract p (p + (j + 2)) := by
      rw [ByteArray.extract_append_extract, Nat.min_eq_left (by omega), Nat.max_eq_right (by omega)]
      rfl
    rw [e]
    show Lp.one b wide (Lp.at b wide s (p + (j + 1))) (s.extract (p + (j + 1)) (p + (j + 1) + 1)) = _
    rw [ih]
    unfold Lp.one
    simp only [es]
    rw [if_pos (hk (j + 2) (by omega) h)]
    rfl
end Go.Proofs.Ytjfihmpnbblomaa

/- The table of pairs in memory. -/
namespace Go.Proofs.Ytjfihmpnbblomaa
open Go.RowKit Go.Maps

theorem laidOut_ : laidOutB Try.prog = true := by kernel_rfl
theorem row_pair : (69 : TypeId) < Try.prog.types.size := of_decide_eq_true (by kernel_rfl)
set_option maxRecDepth 100000 in
theorem ktype_pair : Try.prog.keyTypeAt 2 69 = true := by kernel_rfl
theorem key_pair : Keyed Try.prog 69 := Keyed.of_law (deep_law_laid laidOut_ (m := 2) (Nat.le_of_ble_eq_true rfl) row_pair ktype_pair (by rw [Try.underlying69]))
def pairV (h c : Nat) : Value := .agg #[.int .i64 (h : Int), .int .u8 (c : Int)]
theorem cells_pair : Try.prog.cellsOf 69 = 2 := by kernel_rfl
theorem cells_i : Try.prog.cellsOf 3 = 1 := by kernel_rfl
theorem cells_b : Try.prog.cellsOf 5 = 1 := by kernel_rfl
set_option maxRecDepth 100000 in
theorem kt_pair : Try.prog.keyType 69 = true := by kernel_rfl
theorem size_pos {n k : Nat} (h : k < n) : ∃ d, n = d + 1 := ⟨n - 1, by omega⟩
def pairKey (h c : Nat) : Lit := .string (keyBytes [.int .i64 (h : Int), .int .u8 (c : Int)])
theorem pairKey_of (h c : Nat) (hh : h ≤ 100000) (hc : c < 256) : keyOf Try.prog 69 (pairV h c) = some (pairKey h c) := by
  have w1 : (Lit.int .i64 (h : Int)).wf = true := WalkArith.wf_i64 (by omega)
  have w2 : (Lit.int .u8 (c : Int)).wf = true := WalkArith.wf_u8 (by omega)
  have hl : Try.prog.keyLits (Try.prog.types.size + 1) 69 (pairV h c).cells.toList = some [.int .i64 (h : Int), .int .u8 (c : Int)] := by
    show Try.prog.keyLits (Try.prog.types.size + 1) 69 [.int .i64 (h : Int), .int .u8 (c : Int)] = _
    obtain ⟨d, hd⟩ := size_pos row_pair
    rw [hd]
    unfold Program.keyLits
    simp only [Try.underlying69]
    have k1 : Try.prog.keyLits (d + 1) 3 [.int .i64 (h : Int)] = some [.int .i64 (h : Int)] := by
      unfold Program.keyLits
      simp only [Try.underlying3]
      rw [if_pos ⟨trivial, w1⟩]
    have k2 : Try.prog.keyLits (d + 1) 5 [.int .u8 (c : Int)] = some [.int .u8 (c : Int)] := by
      unfold Program.keyLits
      simp only [Try.underlying5]
      rw [if_pos ⟨trivial, w2⟩]
    rw [if_pos ⟨by rw [cells_pair]; rfl, by simp⟩]
    simp [cells_i, cells_b, k1, k2]
  have hf : (pairV h c).formed Try.prog 69 = true := by simp [pairV, Value.formed, Try.underlying69, cells_pair]
  unfold keyOf
  simp only [Try.underlying69, kt_pair, hf, hl, Bool.and_self, if_true, Option.map_some]
  rfl

theorem pairKey_inj {h c h' c' : Nat} (hh : h ≤ 100000) (hc : c < 256) (hh' : h' ≤ 100000) (hc' : c' < 256) (e : pairKey h c = pairKey h' c') : h = h' ∧ c = c' := by
  have h1 := pairKey_of h c hh hc
  have h2 := pairKey_of h' c' hh' hc'
  rw [← e] at h2
  have h3 := key_pair.inj h1 h2
  unfold pairV at h3
  injection h3 with h4
  simp at h4
  omega
theorem pairKey_lit (h c : Nat) : WideAt.IsKeyLit (pairKey h c) := trivial

/-- the table tells what is known -/
structure TabIs (D : DataW Unit) (b : Nat) (l : List ByteArray) : Prop where
  isMap : IsMap D
  has_ : ∀ h c : Nat, h ≤ 100000 → c < 256 → has D (pairKey h c) = decide (0 ≤ Lq.look l h c)
  at_ : ∀ h c : Nat, h ≤ 100000 → c < 256 → 0 ≤ Lq.look l h c → ∀ z, D.atKey (pairKey h c) z = .lit (.int .i64 (Lq.look l h c))
  size_ : size D + (2 ^ b + 2) = l.length
theorem tab_start (b : Nat) : TabIs (.map []) b (Lz.start b) :=
  ⟨isMap_empty, fun h c _ _ => by rw [Lq.look_start]; rfl, fun h c _ _ hl => by rw [Lq.look_start] at hl; omega, by rw [Lz.start_len]; show 0 + _ = _; omega⟩
theorem TabIs.more {D : DataW Unit} {b v c : Nat} {l : List ByteArray} {z : ByteArray} (t : TabIs D b l) (ti : Tidy D) (g : Lq.Inv b l) (h : Lp.num l z = (v : Int)) (hz : z.size = 1 → Lp.byte z < 2 ^ b) (hz1 : 1 ≤ z.size) (hn : Lp.find l (z ++ Lz.one c) < 0) (hc : c < 256) (hv : v ≤ 100000) :
    TabIs (D.put (pairKey v c) (.lit (.int .i64 (l.length : Int)))) b (l ++ [z ++ Lz.one c]) := by
  have hlk : Lq.look l v c < 0 := by rw [Lq.look_num c g h hz hz1, Lp.num_two rfl hz1]; exact hn
  have hh0 : has D (pairKey v c) = false := by rw [t.has_ v c hv hc]; exact decide_eq_false (by omega)
  refine ⟨t.isMap.put _ _, fun h' c' hh' hc' => ?_, fun h' c' hh' hc' hl y => ?_, ?_⟩
  · rw [Lq.look_more g h hz hz1 hn hc h' c' hc']
    by_cases e : h' = v ∧ c' = c
    · obtain ⟨rfl, rfl⟩ := e
      rw [if_pos ⟨rfl, rfl⟩, has_put_same t.isMap (pairKey_lit _ _)]
      exact (decide_eq_true (by omega)).symm
    · rw [if_neg e, has_put_other (fun q => e (pairKey_inj hh' hc' hv hc q)), t.has_ h' c' hh' hc']
  · rw [Lq.look_more g h hz hz1 hn hc h' c' hc'] at hl ⊢
    by_cases e : h' = v ∧ c' = c
    · obtain ⟨rfl, rfl⟩ := e
      rw [if_pos ⟨rfl, rfl⟩, atKey_put_same t.isMap (pairKey_lit _ _)]
    · rw [if_neg e] at hl ⊢
      rw [atKey_put_other (fun q => e (pairKey_inj hh' hc' hv hc q)), t.at_ h' c' hh' hc' hl]
  · rw [size_put ti, hh0, List.length_append]
    have := t.size_
    simp
    omega
end Go.Proofs.Ytjfihmpnbblomaa

/- The writer of LZW in memory: put. -/
namespace Go.Proofs.Ytjfihmpnbblomaa
open Go.RowKit Go.Maps

/-- the writer in block B -/
def Wr (w : World) (B b : Nat) (wide : Bool) (mv : Value) (since : Nat) (ov : Value) : Prop :=
  w.heap[B]? = some (.cells #[.int .i64 (b : Int), .bool wide, mv, .int .i64 (since : Int), ov] 63 (0, 0))
theorem Wr.lt {w : World} {B b since : Nat} {wide : Bool} {mv ov : Value} (h : Wr w B b wide mv since ov) : B < w.heap.size := (Array.getElem?_eq_some_iff.1 h).1
theorem Wr.cell {w : World} {B b since : Nat} {wide : Bool} {mv ov : Value} (h : Wr w B b wide mv since ov) (i : Nat) : w.cell? ⟨B, i, none⟩ = (#[Value.int .i64 (b : Int), .bool wide, mv, .int .i64 (since : Int), ov])[i]? := by
  simp [World.cell?, show w.heap[B]? = _ from h]
theorem Wr.free {w : World} {B b since : Nat} {wide : Bool} {mv ov : Value} (h : Wr w B b wide mv since ov) (i : Nat) : w.frozen? ⟨B, i, none⟩ = false := by
  simp [World.frozen?, show w.heap[B]? = _ from h]
theorem Wr.same {w w' : World} {B b since : Nat} {wide : Bool} {mv ov : Value} (h : Wr w B b wide mv since ov) (hb : w'.heap[B]? = w.heap[B]?) : Wr w' B b wide mv since ov := hb.trans h
theorem Wr.set {w : World} {B b since since' : Nat} {wide : Bool} {mv ov mv' ov' u : Value} {i : Nat} (h : Wr w B b wide mv since ov)
    (hi : (#[Value.int .i64 (b : Int), .bool wide, mv, .int .i64 (since : Int), ov]).setIfInBounds i u = #[Value.int .i64 (b : Int), .bool wide, mv', .int .i64 (since' : Int), ov']) : Wr (w.setCell ⟨B, i, none⟩ u) B b wide mv' since' ov' := by
  unfold Wr
  rw [setCell_eq_setRow w B i _ _ (0, 0) _ h, hi]
  exact setRow_heap w B _ _ _ _ h
theorem Wr.apart {w : World} {B b since lo n z e : Nat} {wide : Bool} {mv ov v : Value} {l : List Value} (h : Wr w B b wide mv since ov) (ho : w.ownsRow lo e z v n l) (hne : e ≠ 63) : v.ownBlock ≠ some B := fun hk => by
  rcases ho.2 with ⟨rfl, _⟩ | ⟨g, cap, cur, rfl, _, hg, _⟩
  · cases hk
  · have e : g = B := by cases hk; rfl
    subst e
    rw [show w.heap[g]? = _ from h] at hg
    cases hg
    exact hne rfl
/-- the state told while a region runs -/
def WrT (w : World) (B b : Nat) (wide : Bool) (mv : Value) (since : Nat) (ov : Value) (wy : World) : Prop := Wr wy B b wide mv since ov ∧ Below w.heap.size w wy
theorem WrT.kept {w wy wz : World} {B b since : Nat} {wide : Bool} {mv ov : Value} (h : WrT w B b wide mv since ov wy) (hb : Below wy.heap.size wy wz) : WrT w B b wide mv since ov wz := ⟨h.1.same (hb.block _ h.1.lt), h.2.trans (hb.mono h.2.size)⟩
theorem WrT.new {w : World} {B b since : Nat} {wide : Bool} {mv ov : Value} (h : Wr w B b wide mv since ov) : WrT w B b wide mv since ov w.drew := ⟨h, (Below.refl _ _).drew⟩

/-- what a put turns: the writer, the row of bits, new blocks -/
structure WrG (B : Nat) (ov : Value) (w w' : World) : Prop where
  os : w'.os = w.os
  tape : w'.tape = w.tape
  output : w'.output = w.output
  size : w.heap.size ≤ w'.heap.size
  block : ∀ k, k < w.heap.size → k ≠ B → some k ≠ ov.ownBlock → w'.heap[k]? = w.heap[k]?
theorem WrG.set {B : Nat} {ov : Value} {w w' : World} (h : WrG B ov w w') (i : Nat) (v : Value) : WrG B ov w (w'.setCell ⟨B, i, none⟩ v) :=
  ⟨h.os, h.tape, h.output, by rw [World.size_setCell]; exact h.size, fun k hk hB ho => (Below.heap_setCell w' ⟨B, i, none⟩ v k hB).trans (h.block k hk hB ho)⟩
theorem WrG.below {B base : Nat} {ov : Value} {w w' W : World} (h : WrG B ov w w') (hb : Below base W w) (hB : base ≤ B) (hs : base ≤ w.heap.size) (ho : ∀ k, ov.ownBlock = some k → base ≤ k) : Below base W w' :=
  hb.trans ⟨h.os, h.tape, h.output, h.size, fun k hk => h.block k (by omega) (by omega) (fun e => by have := ho k e.symm; omega)⟩

/-- one pair in a block of its own -/
def LayP (v : Value) (w : World) (x : Int × Int) : Prop := ∃ b : Nat, v = .slice (some ⟨b, 0, none⟩) 1 1 ∧ w.cell? ⟨b, 0, none⟩ = some (.int .i64 x.1) ∧ w.cell? ⟨b, 1, none⟩ = some (.int .i64 x.2)
theorem LayP.kept {v : Value} {w w' : World} {x : Int × Int} (h : LayP v w x) (hb : Below w.heap.size w w') : LayP v w' x := by
  obtain ⟨b, h1, h2, h3⟩ := h
  have hlt := World.block_lt_of_cell? w _ h2
  exact ⟨b, h1, (hb.cell (p := ⟨b, 0, none⟩) hlt).trans h2, (hb.cell (p := ⟨b, 1, none⟩) hlt).trans h3⟩
theorem layP_new (w : World) (x : Int × Int) : LayP (.slice (some ⟨w.heap.size, 0, none⟩) 1 1) (w.alloc (.cells #[.int .i64 x.1, .int .i64 x.2] 94)) x := ⟨w.heap.size, rfl, by simp, by simp⟩
theorem step_appP {ops : Array Oper} {o : Oper} {a : Act} {K : Act → World → Prop} {Q : Exit → Act → World → Prop} {E : Prop} (w : World) (hgd : o.guard = none) (s x : Operand)
    (ho : o.op = .call { callee := .builtin .append, args := #[s, x], argTypes := #[61, 61] })
    (base : Nat) (v : Value) (n : Nat) (l : List (Int × Int)) (z : Int × Int) (b : Nat) (hs : a.eval s = v) (hown : OwnP w base v n l) (hx : a.eval x = .slice (some ⟨b, 0, none⟩) 1 1) (hc : w.cell? ⟨b, 0, none⟩ = some (.int .i64 z.1)) (hc1 : w.cell? ⟨b, 1, none⟩ = some (.int .i64 z.2)) (hn : n ≤ 2000000) (hb : base ≤ w.heap.size)
    (h : ∀ g cap w', OwnP w' base (.slice (some ⟨g, 0, none⟩) (n + 1) cap) (n + 1) (l ++ [z]) → Grew base w w' v g → K (a.put o.dst (.slice (some ⟨g, 0, none⟩) (n + 1) cap)) w') :
    if Region.wanted o (yielded ops a.tmps) = true then Oper.wp Try.prog o a w K Q else E := by
  obtain ⟨i0, hi0, hz0, hz1, hz2⟩ := info_parts info_bit
  refine step_append_lies _ hgd s x _ ho base 94 i0 (.agg #[.int .i64 0, .int .i64 0]) 2 16 Try.underlying61 hi0 hz0 hz1 hz2 rfl (by decide) v n (cellsOf l) hs hown ⟨b, 0, none⟩ 1 1 [.int .i64 z.1, .int .i64 z.2] hx rfl ?_ (fun u hu => by simp at hu; rcases hu with rfl | rfl <;> rfl) (by decide) (by unfold maxLen; omega) (by omega) hb _ rfl ?_
  · intro j u hj
    match j, hj with
    | 0, hj => simp at hj; subst hj; simpa [Addr.add] using hc
    | 1, hj => simp at hj; subst hj; simpa [Addr.add] using hc1
  · intro g cap w' hown' hg hat hlt
    exact h g cap w' (OwnP.more hown') (Grew.of2 hown hg hat hlt)

set_option linter.unusedSimpArgs false in
set_option linter.unusedVariables false in
set_option maxHeartbeats 2000000 in
set_option maxRecDepth 20000 in
theorem wrPut (B b since n lo : Nat) (wide : Bool) (mv ov : Value) (v : Int) (out : List (Int × Int)) (C : Int × Int) (w : World) (hb : b ≤ 8) (h : Wr w B b wide mv since ov) (ho : OwnP w lo ov n out) (hlo : lo ≤ w.heap.size) (hn : n ≤ 100000) (hs : since ≤ 4200) (hC : C = (v, (Lz.width b wide (2 ^ b + 2 + (since - 1)) : Int))) :
    Calls Try.prog 40 #[.pointer (some ⟨B, 0, none⟩), .int .i64 v] w fun e w' => e = .returned (.tuple #[]) ∧ ∃ g cap, Wr w' B b wide mv (since + 1) (.slice (some ⟨g, 0, none⟩) (n + 1) cap) ∧ OwnP w' lo (.slice (some ⟨g, 0, none⟩) (n + 1) cap) (n + 1) (out ++ [C]) ∧ WrG B ov w w' := by
  have hpw := Lz.pow_le hb
  have HFI : Hid (∀ w', Calls Try.prog 58 #[.agg #[.int .i64 (b : Int), .bool wide]] w' fun e w'' => e = .returned (.int .i64 ((2 ^ b + 2 : Nat) : Int)) ∧ Below w'.heap.size w' w'') := fun w' => lzFirst_any b hb wide w'
  obtain ⟨K0, hK0⟩ : ∃ K0 : Nat, K0 = 2 ^ b + 2 + (since - 1) := ⟨_, rfl⟩
  have HWI : Hid (∀ w', Calls Try.prog 59 #[.agg #[.int .i64 (b : Int), .bool wide], .int .i64 (K0 : Int)] w' fun e w'' => e = .returned (.int .i64 (Lz.width b wide K0 : Int)) ∧ Below w'.heap.size w' w'') := fun w' => lzWidth_any b K0 hb (by omega) wide w'
  obtain ⟨W0, hW0⟩ : ∃ W0, W0 = Lz.width b wide K0 := ⟨_, rfl⟩
  rw [← hW0] at HWI
  have hC2 : C = (v, (W0 : Int)) := by rw [hC, hW0, hK0]
  obtain ⟨F, hF⟩ : ∃ F : Nat, F = 2 ^ b + 2 := ⟨_, rfl⟩
  rw [← hF] at HFI
  obtain ⟨M, hM⟩ : ∃ M : Nat, M = since - 1 := ⟨_, rfl⟩
  have eK : (F : Int) + (M : Int) = (K0 : Int) := by omega
  have eM : (if (since : Int) - 1 < 0 then 0 else (since : Int) - 1) = (M : Int) := by split <;> omega
  have wS : IntKind.i64.wrap ((since : Int) - 1) = (since : Int) - 1 := by
    by_cases h0 : since = 0
    · subst h0; rfl
    · have e := wrap_i64_nat (since - 1) (by omega)
      rw [show (((since - 1 : Nat)) : Int) = (since : Int) - 1 by omega] at e
      exact e
  have wK : IntKind.i64.wrap (K0 : Int) = (K0 : Int) := wrap_i64_nat K0 (by omega)
  have hsb : (since : Int) ≤ 4200 := by omega
  have HOP : Hid (OwnP w lo ov n out) := ho
  have HL : Hid (Wr w B b wide mv since ov) := h
  have HCC : Hid (C = (v, (W0 : Int))) := hC2
  obtain ⟨ao, ocap, rfl⟩ : ∃ ao ocap, ov = .slice ao n ocap := by
    rcases ho.2 with ⟨rfl, h0⟩ | ⟨g', cap', cur, rfl, _⟩
    · exact ⟨none, 0, by rw [h0]⟩
    · exact ⟨_, _, rfl⟩
  clear hC hC2 hW0 hF hK0 hM h ho
  go_enter Try.func40, Try.ntmps40
  go_wp2_with fail
  refine wp_region_told (S := (fun wy => WrT w B b wide mv since (.slice ao n ocap) wy)) 12 41 [.is (.pointer (some ⟨B, 0, none⟩)), .is (.pointer (some ⟨B, 0, none⟩)), .is (.pointer (some ⟨B, 0, none⟩)), .is (.agg #[.int .i64 (b : Int), .bool wide]), .is (.int .i64 (F : Int)), .is (.pointer (some ⟨B, 0, none⟩)), .is (.pointer (some ⟨B, 0, none⟩)), .is (.pointer (some ⟨B, 3, none⟩)), .is (.int .i64 (since : Int)), .is (.int .i64 ((since : Int) - 1)), .is (.int .i64 (M : Int)), .is (.int .i64 (K0 : Int))] (by kernel_rfl) (by kernel_rfl) (by rfl) (fun _ _ _ _ hd h => ⟨hd.trans h.1, h.2⟩) (fun vs => by simp only [puts, List.getElem?_toArray, List.getElem?_cons_succ, List.getElem?_cons_zero, Option.bind_some, Act.put, List.setIfInBounds_toArray, List.set_cons_zero, List.set_cons_succ]; exact rfl) (WrT.new HL.out) ?_ ?_
  · refine TellsFrom.cons rfl (fun vs wz hS hd K hK => ?_) ?_
    · try dsimp only at hK ⊢
      try simp only [List.getElem_toArray, List.getElem_cons_succ, List.getElem_cons_zero, Act.put, List.setIfInBounds_toArray, List.set_cons_zero, List.set_cons_succ]
      have s0 := hS.1.cell 0
      have s1 := hS.1.cell 1
      have s3 := hS.1.cell 3
      have s4 := hS.1.cell 4
      simp at s0 s1 s3 s4
      go_simp
      exact hK.out _ _ hS (Below.refl _ _) rfl
    refine TellsFrom.cons rfl (fun vs wz hS hd K hK => ?_) ?_
    · try dsimp only at hK ⊢
      have h0 : vs 0 = (.pointer (some ⟨B, 0, none⟩)) := hd 0 (by kernel_rfl)
      generalize vs 0 = x0 at *
      subst h0
      try simp only [List.getElem_toArray, List.getElem_cons_succ, List.getElem_cons_zero, Act.put, List.setIfInBounds_toArray, List.set_cons_zero, List.set_cons_succ]
      have s0 := hS.1.cell 0
      have s1 := hS.1.cell 1
      have s3 := hS.1.cell 3
      have s4 := hS.1.cell 4
      simp at s0 s1 s3 s4
      go_simp
      exact hK.out _ _ hS (Below.refl _ _) rfl
    refine TellsFrom.cons rfl (fun vs wz hS hd K hK => ?_) ?_
    · try dsimp only at hK ⊢
      have h1 : vs 1 = (.pointer (some ⟨B, 0, none⟩)) := hd 1 (by kernel_rfl)
      generalize vs 1 = x1 at *
      subst h1
      try simp only [List.getElem_toArray, List.getElem_cons_succ, List.getElem_cons_zero, Act.put, List.setIfInBounds_toArray, List.set_cons_zero, List.set_cons_succ]
      have s0 := hS.1.cell 0
      have s1 := hS.1.cell 1
      have s3 := hS.1.cell 3
      have s4 := hS.1.cell 4
      simp at s0 s1 s3 s4
      go_simp
      exact hK.out _ _ hS (Below.refl _ _) rfl
    refine TellsFrom.cons rfl (fun vs wz hS hd K hK => ?_) ?_
    · try dsimp only at hK ⊢
      have h2 : vs 2 = (.pointer (some ⟨B, 0, none⟩)) := hd 2 (by kernel_rfl)
      generalize vs 2 = x2 at *
      subst h2
      try simp only [List.getElem_toArray, List.getElem_cons_succ, List.getElem_cons_zero, Act.put, List.setIfInBounds_toArray, List.set_cons_zero, List.set_cons_succ]
      have s0 := hS.1.cell 0
      have s1 := hS.1.cell 1
      have s3 := hS.1.cell 3
      have s4 := hS.1.cell 4
      simp at s0 s1 s3 s4
      go_simp
      exact hK.out _ _ hS (Below.refl _ _) rfl
    refine TellsFrom.cons rfl (fun vs wz hS hd K hK => ?_) ?_
    · try dsimp only at hK ⊢
      have h3 : vs 3 = (.agg #[.int .i64 (b : Int), .bool wide]) := hd 3 (by kernel_rfl)
      generalize vs 3 = x3 at *
      subst h3
      try simp only [List.getElem_toArray, List.getElem_cons_succ, List.getElem_cons_zero, Act.put, List.setIfInBounds_toArray, List.set_cons_zero, List.set_cons_succ]
      go_simp
      refine (HFI.out _).mono ?_
      rintro e v1 ⟨rfl, b1⟩
      exact hK.out _ _ (hS.kept b1) b1 rfl
    refine TellsFrom.cons rfl (fun vs wz hS hd K hK => ?_) ?_
    · try dsimp only at hK ⊢
      try simp only [List.getElem_toArray, List.getElem_cons_succ, List.getElem_cons_zero, Act.put, List.setIfInBounds_toArray, List.set_cons_zero, List.set_cons_succ]
      have s0 := hS.1.cell 0
      have s1 := hS.1.cell 1
      have s3 := hS.1.cell 3
      have s4 := hS.1.cell 4
      simp at s0 s1 s3 s4
      go_simp
      exact hK.out _ _ hS (Below.refl _ _) rfl
    refine TellsFrom.cons rfl (fun vs wz hS hd K hK => ?_) ?_
    · try dsimp only at hK ⊢
      have h5 : vs 5 = (.pointer (some ⟨B, 0, none⟩)) := hd 5 (by kernel_rfl)
      generalize vs 5 = x5 at *
      subst h5
      try simp only [List.getElem_toArray, List.getElem_cons_succ, List.getElem_cons_zero, Act.put, List.setIfInBounds_toArray, List.set_cons_zero, List.set_cons_succ]
      have s0 := hS.1.cell 0
      have s1 := hS.1.cell 1
      have s3 := hS.1.cell 3
      have s4 := hS.1.cell 4
      simp at s0 s1 s3 s4
      go_simp
      exact hK.out _ _ hS (Below.refl _ _) rfl
    refine TellsFrom.cons rfl (fun vs wz hS hd K hK => ?_) ?_
    · try dsimp only at hK ⊢
      have h6 : vs 6 = (.pointer (some ⟨B, 0, none⟩)) := hd 6 (by kernel_rfl)
      generalize vs 6 = x6 at *
      subst h6
      try simp only [List.getElem_toArray, List.getElem_cons_succ, List.getElem_cons_zero, Act.put, List.setIfInBounds_toArray, List.set_cons_zero, List.set_cons_succ]
      have s0 := hS.1.cell 0
      have s1 := hS.1.cell 1
      have s3 := hS.1.cell 3
      have s4 := hS.1.cell 4
      simp at s0 s1 s3 s4
      go_simp
      exact hK.out _ _ hS (Below.refl _ _) rfl
    refine TellsFrom.cons rfl (fun vs wz hS hd K hK => ?_) ?_
    · try dsimp only at hK ⊢
      have h7 : vs 7 = (.pointer (some ⟨B, 3, none⟩)) := hd 7 (by kernel_rfl)
      generalize vs 7 = x7 at *
      subst h7
      try simp only [List.getElem_toArray, List.getElem_cons_succ, List.getElem_cons_zero, Act.put, List.setIfInBounds_toArray, List.set_cons_zero, List.set_cons_succ]
      have s0 := hS.1.cell 0
      have s1 := hS.1.cell 1
      have s3 := hS.1.cell 3
      have s4 := hS.1.cell 4
      simp at s0 s1 s3 s4
      go_simp
      exact hK.out _ _ hS (Below.refl _ _) rfl
    refine TellsFrom.cons rfl (fun vs wz hS hd K hK => ?_) ?_
    · try dsimp only at hK ⊢
      have h8 : vs 8 = (.int .i64 (since : Int)) := hd 8 (by kernel_rfl)
      generalize vs 8 = x8 at *
      subst h8
      try simp only [List.getElem_toArray, List.getElem_cons_succ, List.getElem_cons_zero, Act.put, List.setIfInBounds_toArray, List.set_cons_zero, List.set_cons_succ]
      have s0 := hS.1.cell 0
      have s1 := hS.1.cell 1
      have s3 := hS.1.cell 3
      have s4 := hS.1.cell 4
      simp at s0 s1 s3 s4
      go_simp
      exact hK.out _ _ hS (Below.refl _ _) rfl
    refine TellsFrom.cons rfl (fun vs wz hS hd K hK => ?_) ?_
    · try dsimp only at hK ⊢
      have h9 : vs 9 = (.int .i64 ((since : Int) - 1)) := hd 9 (by kernel_rfl)
      generalize vs 9 = x9 at *
      subst h9
      try simp only [List.getElem_toArray, List.getElem_cons_succ, List.getElem_cons_zero, Act.put, List.setIfInBounds_toArray, List.set_cons_zero, List.set_cons_succ]
      have s0 := hS.1.cell 0
      have s1 := hS.1.cell 1
      have s3 := hS.1.cell 3
      have s4 := hS.1.cell 4
      simp at s0 s1 s3 s4
      go_simp
      first | exact hK.out _ _ hS (Below.refl _ _) rfl | (rw [eM]; exact hK.out _ _ hS (Below.refl _ _) rfl)
    refine TellsFrom.cons rfl (fun vs wz hS hd K hK => ?_) ?_
    · try dsimp only at hK ⊢
      have h4 : vs 4 = (.int .i64 (F : Int)) := hd 4 (by kernel_rfl)
      generalize vs 4 = x4 at *
      subst h4
      have h10 : vs 10 = (.int .i64 (M : Int)) := hd 10 (by kernel_rfl)
      generalize vs 10 = x10 at *
      subst h10
      try simp only [List.getElem_toArray, List.getElem_cons_succ, List.getElem_cons_zero, Act.put, List.setIfInBounds_toArray, List.set_cons_zero, List.set_cons_succ]
      have s0 := hS.1.cell 0
      have s1 := hS.1.cell 1
      have s3 := hS.1.cell 3
      have s4 := hS.1.cell 4
      simp at s0 s1 s3 s4
      go_simp
      exact hK.out _ _ hS (Below.refl _ _) rfl
    exact TellsFrom.nil
  · intro vs wz hS hd
    try dsimp only
    have h11 : vs 11 = .int .i64 (K0 : Int) := hd 11 (by omega)
    clear hd
    generalize vs 0 = y0 at *
    generalize vs 1 = y1 at *
    generalize vs 2 = y2 at *
    generalize vs 3 = y3 at *
    generalize vs 4 = y4 at *
    generalize vs 5 = y5 at *
    generalize vs 6 = y6 at *
    generalize vs 7 = y7 at *
    generalize vs 8 = y8 at *
    generalize vs 9 = y9 at *
    generalize vs 10 = y10 at *
    generalize vs 11 = y11 at *
    subst h11
    have HW1 : Hid (WrT w B b wide mv since (.slice ao n ocap) wz) := hS
    clear hS
    refine wpAnyH_take (i := 12) (v := .int .i64 (K0 : Int)) rfl (by kernel_rfl) (by kernel_rfl) (by kernel_rfl) (fun _ _ _ h => h) (Or.inl ⟨by rfl, ?_⟩) trivial ?_
    · intro wy _
      go_simp
    try simp only [List.getElem_toArray, List.getElem_cons_succ, List.getElem_cons_zero, Act.put, List.setIfInBounds_toArray, List.set_cons_zero, List.set_cons_succ]
    refine wpAnyH_done (by kernel_rfl) ?_ _
    try simp only [List.getElem_toArray, List.getElem_cons_succ, List.getElem_cons_zero, Act.put, List.setIfInBounds_toArray, List.set_cons_zero, List.set_cons_succ]
    obtain ⟨w1, hw1⟩ : ∃ w1, w1 = wz := ⟨_, rfl⟩
    rw [← hw1] at HW1 ⊢
    clear hw1
    have HG1 : Hid (Below w.heap.size w w1) := HW1.out.2
    have HOP1 : Hid (OwnP w1 lo (.slice ao n ocap) n out) := ownsRow_besides HOP.out (fun k hk => HG1.out.block k (World.ownsRow.lt HOP.out k hk).2)
    have hlo1 : lo ≤ w1.heap.size := Nat.le_trans hlo HG1.out.size
    go_wp2_with fail
    refine wp_region_any (by kernel_rfl) ?_
    refine wpAny_take (i := 0) (v := (.pointer (some ⟨B, 0, none⟩))) rfl (by kernel_rfl) (by kernel_rfl) (by kernel_rfl) (fun _ _ _ h => h) (Or.inl ⟨by rfl, ?_⟩) ?_
    · intro wy
      go_simp
    try simp only [List.getElem_toArray, List.getElem_cons_succ, List.getElem_cons_zero, Act.put, List.setIfInBounds_toArray, List.set_cons_zero, List.set_cons_succ]
    refine wpAny_told (S := (fun wy => WrT w1 B b wide mv since (.slice ao n ocap) wy)) [0] 14 41 [.is (.pointer (some ⟨B, 0, none⟩)), .is (.pointer (some ⟨B, 0, none⟩)), .is (.pointer (some ⟨B, 0, none⟩)), .is (.pointer (some ⟨B, 4, none⟩)), .is (.slice ao n ocap), .is (.int .i64 v), .is (.pointer (some ⟨B, 0, none⟩)), .is (.pointer (some ⟨B, 0, none⟩)), .is (.pointer (some ⟨B, 0, none⟩)), .is (.agg #[.int .i64 (b : Int), .bool wide]), .is (.int .i64 (K0 : Int)), .is (.int .i64 (W0 : Int)), .is (.agg #[.int .i64 v, .int .i64 (W0 : Int)]), .own (fun v w => LayP v w C) (fun _ _ _ b h => h.kept b)] (fun j => if j = 0 then (.pointer (some ⟨B, 0, none⟩)) else undef) (by kernel_rfl) (by kernel_rfl) (by kernel_rfl) (by kernel_rfl) (by kernel_rfl) (by rfl) (fun _ _ _ _ hd h => ⟨hd.trans h.1, h.2⟩) (by kernel_rfl) (fun j hj => by simp only [List.mem_cons, List.not_mem_nil, or_false] at hj; rcases hj with rfl <;> rfl) (fun vs => by simp only [puts, List.getElem?_toArray, List.getElem?_cons_succ, List.getElem?_cons_zero, Option.bind_some, Act.put, List.setIfInBounds_toArray, List.set_cons_zero, List.set_cons_succ]; exact rfl) (WrT.new HW1.out.1) ?_ ?_
    · refine TellsFrom.cons rfl (fun vs wz hS hd K hK => ?_) ?_
      · try dsimp only at hK ⊢
        try simp only [List.getElem_toArray, List.getElem_cons_succ, List.getElem_cons_zero, Act.put, List.setIfInBounds_toArray, List.set_cons_zero, List.set_cons_succ]
        have s0 := hS.1.cell 0
        have s1 := hS.1.cell 1
        have s3 := hS.1.cell 3
        have s4 := hS.1.cell 4
        simp at s0 s1 s3 s4
        go_simp
        exact hK.out _ _ hS (Below.refl _ _) rfl
      refine TellsFrom.cons rfl (fun vs wz hS hd K hK => ?_) ?_
      · try dsimp only at hK ⊢
        try simp only [List.getElem_toArray, List.getElem_cons_succ, List.getElem_cons_zero, Act.put, List.setIfInBounds_toArray, List.set_cons_zero, List.set_cons_succ]
        have s0 := hS.1.cell 0
        have s1 := hS.1.cell 1
        have s3 := hS.1.cell 3
        have s4 := hS.1.cell 4
        simp at s0 s1 s3 s4
        go_simp
        exact hK.out _ _ hS (Below.refl _ _) rfl
      refine TellsFrom.cons rfl (fun vs wz hS hd K hK => ?_) ?_
      · try dsimp only at hK ⊢
        have h1 : vs 1 = (.pointer (some ⟨B, 0, none⟩)) := hd 1 (by kernel_rfl)
        generalize vs 1 = x1 at *
        subst h1
        try simp only [List.getElem_toArray, List.getElem_cons_succ, List.getElem_cons_zero, Act.put, List.setIfInBounds_toArray, List.set_cons_zero, List.set_cons_succ]
        have s0 := hS.1.cell 0
        have s1 := hS.1.cell 1
        have s3 := hS.1.cell 3
        have s4 := hS.1.cell 4
        simp at s0 s1 s3 s4
        go_simp
        exact hK.out _ _ hS (Below.refl _ _) rfl
      refine TellsFrom.cons rfl (fun vs wz hS hd K hK => ?_) ?_
      · try dsimp only at hK ⊢
        have h2 : vs 2 = (.pointer (some ⟨B, 0, none⟩)) := hd 2 (by kernel_rfl)
        generalize vs 2 = x2 at *
        subst h2
        try simp only [List.getElem_toArray, List.getElem_cons_succ, List.getElem_cons_zero, Act.put, List.setIfInBounds_toArray, List.set_cons_zero, List.set_cons_succ]
        have s0 := hS.1.cell 0
        have s1 := hS.1.cell 1
        have s3 := hS.1.cell 3
        have s4 := hS.1.cell 4
        simp at s0 s1 s3 s4
        go_simp
        exact hK.out _ _ hS (Below.refl _ _) rfl
      refine TellsFrom.cons rfl (fun vs wz hS hd K hK => ?_) ?_
      · try dsimp only at hK ⊢
        have h3 : vs 3 = (.pointer (some ⟨B, 4, none⟩)) := hd 3 (by kernel_rfl)
        generalize vs 3 = x3 at *
        subst h3
        try simp only [List.getElem_toArray, List.getElem_cons_succ, List.getElem_cons_zero, Act.put, List.setIfInBounds_toArray, List.set_cons_zero, List.set_cons_succ]
        have s0 := hS.1.cell 0
        have s1 := hS.1.cell 1
        have s3 := hS.1.cell 3
        have s4 := hS.1.cell 4
        simp at s0 s1 s3 s4
        go_simp
        exact hK.out _ _ hS (Below.refl _ _) rfl
      refine TellsFrom.cons rfl (fun vs wz hS hd K hK => ?_) ?_
      · try dsimp only at hK ⊢
        try simp only [List.getElem_toArray, List.getElem_cons_succ, List.getElem_cons_zero, Act.put, List.setIfInBounds_toArray, List.set_cons_zero, List.set_cons_succ]
        have s0 := hS.1.cell 0
        have s1 := hS.1.cell 1
        have s3 := hS.1.cell 3
        have s4 := hS.1.cell 4
        simp at s0 s1 s3 s4
        go_simp
        exact hK.out _ _ hS (Below.refl _ _) rfl
      refine TellsFrom.cons rfl (fun vs wz hS hd K hK => ?_) ?_
      · try dsimp only at hK ⊢
        try simp only [List.getElem_toArray, List.getElem_cons_succ, List.getElem_cons_zero, Act.put, List.setIfInBounds_toArray, List.set_cons_zero, List.set_cons_succ]
        have s0 := hS.1.cell 0
        have s1 := hS.1.cell 1
        have s3 := hS.1.cell 3
        have s4 := hS.1.cell 4
        simp at s0 s1 s3 s4
        go_simp
        exact hK.out _ _ hS (Below.refl _ _) rfl
      refine TellsFrom.cons rfl (fun vs wz hS hd K hK => ?_) ?_
      · try dsimp only at hK ⊢
        have h6 : vs 6 = (.pointer (some ⟨B, 0, none⟩)) := hd 6 (by kernel_rfl)
        generalize vs 6 = x6 at *
        subst h6
        try simp only [List.getElem_toArray, List.getElem_cons_succ, List.getElem_cons_zero, Act.put, List.setIfInBounds_toArray, List.set_cons_zero, List.set_cons_succ]
        have s0 := hS.1.cell 0
        have s1 := hS.1.cell 1
        have s3 := hS.1.cell 3
        have s4 := hS.1.cell 4
        simp at s0 s1 s3 s4
        go_simp
        exact hK.out _ _ hS (Below.refl _ _) rfl
      refine TellsFrom.cons rfl (fun vs wz hS hd K hK => ?_) ?_
      · try dsimp only at hK ⊢
        have h7 : vs 7 = (.pointer (some ⟨B, 0, none⟩)) := hd 7 (by kernel_rfl)
        generalize vs 7 = x7 at *
        subst h7
        try simp only [List.getElem_toArray, List.getElem_cons_succ, List.getElem_cons_zero, Act.put, List.setIfInBounds_toArray, List.set_cons_zero, List.set_cons_succ]
        have s0 := hS.1.cell 0
        have s1 := hS.1.cell 1
        have s3 := hS.1.cell 3
        have s4 := hS.1.cell 4
        simp at s0 s1 s3 s4
        go_simp
        exact hK.out _ _ hS (Below.refl _ _) rfl
      refine TellsFrom.cons rfl (fun vs wz hS hd K hK => ?_) ?_
      · try dsimp only at hK ⊢
        have h8 : vs 8 = (.pointer (some ⟨B, 0, none⟩)) := hd 8 (by kernel_rfl)
        generalize vs 8 = x8 at *
        subst h8
        try simp only [List.getElem_toArray, List.getElem_cons_succ, List.getElem_cons_zero, Act.put, List.setIfInBounds_toArray, List.set_cons_zero, List.set_cons_succ]
        have s0 := hS.1.cell 0
        have s1 := hS.1.cell 1
        have s3 := hS.1.cell 3
        have s4 := hS.1.cell 4
        simp at s0 s1 s3 s4
        go_simp
        exact hK.out _ _ hS (Below.refl _ _) rfl
      refine TellsFrom.cons rfl (fun vs wz hS hd K hK => ?_) ?_
      · try dsimp only at hK ⊢
        try simp only [List.getElem_toArray, List.getElem_cons_succ, List.getElem_cons_zero, Act.put, List.setIfInBounds_toArray, List.set_cons_zero, List.set_cons_succ]
        have s0 := hS.1.cell 0
        have s1 := hS.1.cell 1
        have s3 := hS.1.cell 3
        have s4 := hS.1.cell 4
        simp at s0 s1 s3 s4
        go_simp
        exact hK.out _ _ hS (Below.refl _ _) rfl
      refine TellsFrom.cons rfl (fun vs wz hS hd K hK => ?_) ?_
      · try dsimp only at hK ⊢
        have h9 : vs 9 = (.agg #[.int .i64 (b : Int), .bool wide]) := hd 9 (by kernel_rfl)
        generalize vs 9 = x9 at *
        subst h9
        have h10 : vs 10 = (.int .i64 (K0 : Int)) := hd 10 (by kernel_rfl)
        generalize vs 10 = x10 at *
        subst h10
        try simp only [List.getElem_toArray, List.getElem_cons_succ, List.getElem_cons_zero, Act.put, List.setIfInBounds_toArray, List.set_cons_zero, List.set_cons_succ]
        go_simp
        refine (HWI.out _).mono ?_
        rintro e v1 ⟨rfl, b1⟩
        exact hK.out _ _ (hS.kept b1) b1 rfl
      refine TellsFrom.cons rfl (fun vs wz hS hd K hK => ?_) ?_
      · try dsimp only at hK ⊢
        have h5 : vs 5 = (.int .i64 v) := hd 5 (by kernel_rfl)
        generalize vs 5 = x5 at *
        subst h5
        have h11 : vs 11 = (.int .i64 (W0 : Int)) := hd 11 (by kernel_rfl)
        generalize vs 11 = x11 at *
        subst h11
        try simp only [List.getElem_toArray, List.getElem_cons_succ, List.getElem_cons_zero, Act.put, List.setIfInBounds_toArray, List.set_cons_zero, List.set_cons_succ]
        have s0 := hS.1.cell 0
        have s1 := hS.1.cell 1
        have s3 := hS.1.cell 3
        have s4 := hS.1.cell 4
        simp at s0 s1 s3 s4
        go_simp
        exact hK.out _ _ hS (Below.refl _ _) rfl
      refine TellsFrom.cons rfl (fun vs wz hS hd K hK => ?_) ?_
      · try dsimp only at hK ⊢
        have h12 : vs 12 = (.agg #[.int .i64 v, .int .i64 (W0 : Int)]) := hd 12 (by kernel_rfl)
        generalize vs 12 = x12 at *
        subst h12
        try simp only [List.getElem_toArray, List.getElem_cons_succ, List.getElem_cons_zero, Act.put, List.setIfInBounds_toArray, List.set_cons_zero, List.set_cons_succ]
        go_simp
        exact hK.out _ _ (hS.kept ((Below.refl _ _).alloc (Nat.le_refl _) _)) ((Below.refl _ _).alloc (Nat.le_refl _) _) (by rw [HCC.out]; exact layP_new wz (v, (W0 : Int)))
      exact TellsFrom.nil
    · intro vs wz hS hd
      try dsimp only
      have h12 : LayP (vs 13) wz C := hd 13 (by omega)
      have h0 : vs 0 = .pointer (some ⟨B, 0, none⟩) := hd 0 (by omega)
      have h4 : vs 4 = .slice ao n ocap := hd 4 (by omega)
      clear hd
      generalize vs 0 = y0 at *
      generalize vs 1 = y1 at *
      generalize vs 2 = y2 at *
      generalize vs 3 = y3 at *
      generalize vs 4 = y4 at *
      generalize vs 5 = y5 at *
      generalize vs 6 = y6 at *
      generalize vs 7 = y7 at *
      generalize vs 8 = y8 at *
      generalize vs 9 = y9 at *
      generalize vs 10 = y10 at *
      generalize vs 11 = y11 at *
      generalize vs 12 = y12 at *
      generalize vs 13 = y13 at *
      subst h0
      subst h4
      obtain ⟨Bn, rfl, hCn, hCn1⟩ := h12
      have HL1 : Hid (Wr wz B b wide mv since (.slice ao n ocap)) := hS.1
      have HB1 : Hid (Below w1.heap.size w1 wz) := hS.2
      clear hS
      refine wpAnyH_ready (rs := [14]) (by kernel_rfl) (by simp) ?_
      refine AllReadyH.cons rfl (fun K hK => ?_) AllReadyH.nil
      refine step_appP wz rfl (.tmp 21) (.tmp 30) rfl lo (.slice ao n ocap) n out C Bn rfl (ownsRow_besides HOP1.out (fun k hk => HB1.out.block k (World.ownsRow.lt HOP1.out k hk).2)) rfl hCn hCn1 (by omega) (Nat.le_trans hlo1 HB1.out.size) ?_
      intro g2 cap2 w2 ho2 hg2
      have hoB : (Value.slice ao n ocap).ownBlock ≠ some B := HL.out.apart HOP.out (by decide)
      have hr2 : Wr w2 B b wide mv since (.slice ao n ocap) := HL1.out.same (hg2.block B HL1.out.lt (fun e => hoB e.symm))
      have hs12 := HB1.out.size
      have hG2 : WrG B (.slice ao n ocap) w w2 := ⟨hg2.os.trans (HB1.out.os.trans HG1.out.os), hg2.tape.trans (HB1.out.tape.trans HG1.out.tape), hg2.output.trans (HB1.out.output.trans HG1.out.output), by have := hg2.size; have := HG1.out.size; omega, fun k hk hkB hko => by
        have := HG1.out.size
        exact (hg2.block k (by omega) hko).trans ((HB1.out.block k (by omega)).trans (HG1.out.block k hk))⟩
      have HO2 : Hid (OwnP w2 lo (.slice (some ⟨g2, 0, none⟩) (n + 1) cap2) (n + 1) (out ++ [C])) := ho2
      have HG2 : Hid (WrG B (.slice ao n ocap) w w2) := hG2
      have HR3 : Hid (Wr (w2.setCell ⟨B, 4, none⟩ (.slice (some ⟨g2, 0, none⟩) (n + 1) cap2)) B b wide mv since (.slice (some ⟨g2, 0, none⟩) (n + 1) cap2)) := hr2.set rfl
      have HO3 : Hid (OwnP (w2.setCell ⟨B, 4, none⟩ (.slice (some ⟨g2, 0, none⟩) (n + 1) cap2)) lo (.slice (some ⟨g2, 0, none⟩) (n + 1) cap2) (n + 1) (out ++ [C])) := ownsRow_besides ho2 (fun k hk => Below.heap_setCell w2 ⟨B, 4, none⟩ _ k (fun e => hr2.apart ho2 (by decide) (by rw [hk]; exact congrArg some e)))
      have d4 := hr2.cell 4
      have df4 := hr2.free 4
      have k3 := HR3.out.cell 3
      have kf3 := HR3.out.free 3
      simp at d4 k3
      clear ho2 hg2 hr2 hG2 hoB hs12 HL HOP HL1 HB1 HOP1
      refine hK.out _ _ trivial (fun _ => ?_)
      clear hK K
      try simp only [List.getElem_toArray, List.getElem_cons_succ, List.getElem_cons_zero, Act.put, List.setIfInBounds_toArray, List.set_cons_zero, List.set_cons_succ]
      refine wpAnyH_take (i := 15) (v := .pointer (some ⟨B, 0, none⟩)) rfl (by kernel_rfl) (by kernel_rfl) (by kernel_rfl) (fun _ _ _ h => h) (Or.inl ⟨by rfl, ?_⟩) trivial ?_
      · intro wy _
        go_simp
      try simp only [List.getElem_toArray, List.getElem_cons_succ, List.getElem_cons_zero, Act.put, List.setIfInBounds_toArray, List.set_cons_zero, List.set_cons_succ]
      refine wpAnyH_take (i := 16) (v := .pointer (some ⟨B, 4, none⟩)) rfl (by kernel_rfl) (by kernel_rfl) (by kernel_rfl) (fun _ _ _ h => h) (Or.inl ⟨by rfl, ?_⟩) trivial ?_
      · intro wy _
        go_simp
      try simp only [List.getElem_toArray, List.getElem_cons_succ, List.getElem_cons_zero, Act.put, List.setIfInBounds_toArray, List.set_cons_zero, List.set_cons_succ]
      refine wpAnyH_ready (rs := [17]) (by kernel_rfl) (by simp) ?_
      refine AllReadyH.cons rfl (fun K hK => ?_) AllReadyH.nil
      go_simp
      refine hK.out _ _ trivial (fun _ => ?_)
      clear hK K
      refine wpAnyH_done (by kernel_rfl) ?_ _
      try simp only [List.getElem_toArray, List.getElem_cons_succ, List.getElem_cons_zero, Act.put, List.setIfInBounds_toArray, List.set_cons_zero, List.set_cons_succ]
      have wP : IntKind.i64.wrap ((since : Int) + 1) = ((since + 1 : Nat) : Int) := by
        have := wrap_i64_nat (since + 1) (by omega)
        simpa using this
      go_wp2_with fail
      go_end0
      refine ⟨rfl, g2, cap2, HR3.out.set (by first | rfl | simp), ?_, (HG2.out.set 4 _).set 3 _⟩
      exact ownsRow_besides HO3.out (fun k hk => Below.heap_setCell _ ⟨B, 3, none⟩ _ k (fun e => HR3.out.apart HO3.out (by decide) (by rw [hk]; exact congrArg some e)))
end Go.Proofs.Ytjfihmpnbblomaa

/- The writer of LZW: forget; the longest text that is known. -/
namespace Go.Proofs.Ytjfihmpnbblomaa
open Go.RowKit Go.Maps

/-- what forget leaves -/
def WrNew (B b n lo : Nat) (wide : Bool) (ov : Value) (out : List (Int × Int)) (w w' : World) : Prop :=
  ∃ g cap mb, Wr w' B b wide (.map (some mb)) 0 (.slice (some ⟨g, 0, none⟩) (n + 1) cap) ∧ OwnP w' lo (.slice (some ⟨g, 0, none⟩) (n + 1) cap) (n + 1) out ∧ w'.ownsMap Try.prog 69 (plainElem (H := Unit) Try.prog 3) mb 0 (.map []) ∧ w.heap.size ≤ mb ∧ WrG B ov w w'

set_option maxHeartbeats 2000000 in
theorem wrForget (B b since n lo : Nat) (wide : Bool) (mv ov : Value) (out : List (Int × Int)) (C : Int × Int) (w : World) (hb : b ≤ 8) (h : Wr w B b wide mv since ov) (ho : OwnP w lo ov n out) (hlo : lo ≤ w.heap.size) (hn : n ≤ 100000) (hs : since ≤ 4200) (hC : C = (((2 ^ b : Nat) : Int), (Lz.width b wide (2 ^ b + 2 + (since - 1)) : Int))) :
    Calls Try.prog 38 #[.pointer (some ⟨B, 0, none⟩)] w fun e w' => e = .returned (.tuple #[]) ∧ WrNew B b n lo wide ov (out ++ [C]) w w' := by
  have HCL : Hid (∀ w', Calls Try.prog 57 #[.agg #[.int .i64 (b : Int), .bool wide]] w' fun e w'' => e = .returned (.int .i64 ((2 ^ b : Nat) : Int)) ∧ Below w'.heap.size w' w'') := fun w' => lzClear_any b hb wide w'
  have HPU : Hid (∀ (w' : World), Wr w' B b wide mv since ov → OwnP w' lo ov n out → lo ≤ w'.heap.size → Calls Try.prog 40 #[.pointer (some ⟨B, 0, none⟩), .int .i64 ((2 ^ b : Nat) : Int)] w' fun e w'' => e = .returned (.tuple #[]) ∧ ∃ g cap, Wr w'' B b wide mv (since + 1) (.slice (some ⟨g, 0, none⟩) (n + 1) cap) ∧ OwnP w'' lo (.slice (some ⟨g, 0, none⟩) (n + 1) cap) (n + 1) (out ++ [C]) ∧ WrG B ov w' w'') := fun w' h1 h2 h3 => wrPut B b since n lo wide mv ov _ out C w' hb h1 h2 h3 hn hs hC
  have HW : Hid (Wr w B b wide mv since ov ∧ OwnP w lo ov n out) := ⟨h, ho⟩
  have c0 := h.cell 0
  have c1 := h.cell 1
  simp at c0 c1
  generalize 2 ^ b = P at *
  clear h ho hC
  go_enter Try.func38, Try.ntmps38
  go_wp2_with fail
  refine (HCL.out _).mono ?_
  rintro e w1 ⟨rfl, b1⟩
  have HW1 : Hid (Wr w1 B b wide mv since ov ∧ OwnP w1 lo ov n out ∧ lo ≤ w1.heap.size ∧ Below w.heap.size w w1) := ⟨HW.out.1.same (b1.block _ HW.out.1.lt), ownsRow_besides HW.out.2 (fun k hk => b1.block k (World.ownsRow.lt HW.out.2 k hk).2), Nat.le_trans hlo b1.size, b1⟩
  clear b1 HCL c0 c1
  go_wp2_with fail
  refine (HPU.out w1 HW1.out.1 HW1.out.2.1 HW1.out.2.2.1).mono ?_
  rintro e w2 ⟨rfl, g, cap, hr2, ho2, hg2⟩
  obtain ⟨W3, hW3⟩ : ∃ W3, W3 = w2.alloc (.map #[] 0) := ⟨_, rfl⟩
  have hB3 : Below w2.heap.size w2 W3 := by rw [hW3]; exact (Below.refl _ _).alloc (Nat.le_refl _) _
  have hr3 : Wr W3 B b wide mv (since + 1) (.slice (some ⟨g, 0, none⟩) (n + 1) cap) := hr2.same (hB3.block _ hr2.lt)
  have ho3 : OwnP W3 lo (.slice (some ⟨g, 0, none⟩) (n + 1) cap) (n + 1) (out ++ [C]) := ownsRow_besides ho2 (fun k hk => hB3.block k (World.ownsRow.lt ho2 k hk).2)
  have hm3 : W3.ownsMap Try.prog 69 (plainElem (H := Unit) Try.prog 3) w2.heap.size 0 (.map []) := by rw [hW3]; exact World.ownsMap_made w2 Try.prog _ _
  have hr4 : Wr (W3.setCell ⟨B, 2, none⟩ (.map (some w2.heap.size))) B b wide (.map (some w2.heap.size)) (since + 1) (.slice (some ⟨g, 0, none⟩) (n + 1) cap) := hr3.set rfl
  have hBm : w2.heap.size ≠ B := by have := hr2.lt; omega
  have HFIN : Hid (WrNew B b n lo wide ov (out ++ [C]) w ((W3.setCell ⟨B, 2, none⟩ (.map (some w2.heap.size))).setCell ⟨B, 3, none⟩ (.int .i64 0))) := by
    have hoB := hr3.apart ho3 (by decide)
    have hsz : w.heap.size ≤ w2.heap.size := Nat.le_trans HW1.out.2.2.2.size hg2.size
    refine ⟨g, cap, w2.heap.size, hr4.set (since' := 0) rfl, ?_, (hm3.setCell hBm _).setCell hBm _, hsz, ?_⟩
    · refine ownsRow_besides ho3 (fun k hk => (Below.heap_setCell _ ⟨B, 3, none⟩ _ k ?_).trans (Below.heap_setCell _ ⟨B, 2, none⟩ _ k ?_))
      · exact fun e => hoB (by rw [hk]; exact congrArg some e)
      · exact fun e => hoB (by rw [hk]; exact congrArg some e)
    · have hG3 : WrG B ov w W3 := ⟨hB3.os.trans (hg2.os.trans HW1.out.2.2.2.os), hB3.tape.trans (hg2.tape.trans HW1.out.2.2.2.tape), hB3.output.trans (hg2.output.trans HW1.out.2.2.2.output), Nat.le_trans hsz hB3.size, fun k hk hkB hko => (hB3.block k (by omega)).trans ((hg2.block k (by have := HW1.out.2.2.2.size; omega) hkB hko).trans (HW1.out.2.2.2.block k hk))⟩
      exact (hG3.set 2 _).set 3 _
  have k2 := hr3.cell 2
  have kf2 := hr3.free 2
  have k3 := hr4.cell 3
  have kf3 := hr4.free 3
  simp at k2 k3
  rw [hW3] at k2 kf2 k3 kf3
  have HW3 : Hid (w2.alloc (.map #[] 0) = W3) := hW3.symm
  have hmm : Sem.run Try.prog (Instr.makeMap 60 none) w2 = .ok (.map (some w2.heap.size)) (w2.alloc (.map #[] 0)) := rfl
  clear hW3 hB3 hr2 ho2 hg2 hr3 ho3 hm3 hr4 HW HW1 HPU
  go_wp2_with fail
  go_end0
  refine ⟨rfl, ?_⟩
  first | (rw [HW3.out]; exact HFIN.out) | (rw [← World.setCell_alloc_past, ← World.setCell_alloc_past, HW3.out]; exact HFIN.out)
end Go.Proofs.Ytjfihmpnbblomaa

/- The small functions of packing by LZW, of the specification. -/
namespace Go.Proofs.Ytjfihmpnbblomaa
open Go.RowKit

set_option maxHeartbeats 1000000 in
theorem l6Find_any (base n g cap : Nat) (l : List ByteArray) (s : ByteArray) (w : World) (ho : OwnL w base (.slice (some ⟨g, 0, none⟩) n cap) n l) (hn : n ≤ 5000) :
    Calls Try.prog 78 #[.slice (some ⟨g, 0, none⟩) n cap, .string s] w fun e w' => e = .returned (.int .i64 (Lp.find l s)) ∧ w' = w := by
  have hln := ho.len
  have HC : Hid (∀ i (h : i < l.length), w.cell? ⟨g, i, none⟩ = some (.string l[i])) := fun i h => ho.cell i h
  obtain ⟨R, hR⟩ : ∃ R, R = Lp.find l s := ⟨_, rfl⟩
  rw [← hR]
  have HR0 : Hid (Lp.from s (l.drop 0) 0 = R) := by rw [hR]; rfl
  clear hR ho
  go_enter Try.func78, Try.ntmps78
  go_wp2_with fail
  go_loop [5] (fun i => ∃ k : Nat, k ≤ n ∧ i = .int .i64 (k : Int) ∧ Hid (Lp.from s (l.drop k) k = R)) (fun i => n - (intOf i).toNat)
  case atStart => exact ⟨0, Nat.zero_le _, rfl, HR0⟩
  case round =>
    obtain ⟨k, hk, rfl, HR⟩ := hrel
    clear HR0
    by_cases hlt : k < n
    · have hkl : k < l.length := by omega
      have hck := HC.out k hkl
      have hd : l.drop k = l[k] :: l.drop (k + 1) := List.drop_eq_getElem_cons hkl
      have hi : (k : Int) < (n : Int) := by omega
      have HE : Hid ((if l[k] = s then (k : Int) else Lp.from s (l.drop (k + 1)) (k + 1)) = R) := by
        have := HR.out
        rw [hd] at this
        exact this
      generalize l[k] = x at *
      clear hd HR hln hkl
      by_cases hx : x = s
      · subst hx
        have hRk : R = (k : Int) := by have := HE.out; rw [if_pos rfl] at this; exact this.symm
        subst hRk
        have hbx : (x.toList == x.toList) = true := by simp
        clear HE
        go_wp2_with fail
        go_ret
        exact ⟨rfl, rfl⟩
      · have HE2 : Hid (Lp.from s (l.drop (k + 1)) (k + 1) = R) := by have := HE.out; rw [if_neg hx] at this; exact this
        have hbx : (x.toList == s.toList) = false := by
          rw [beq_eq_false_iff_ne]
          intro e
          rw [ByteArray.toList_eq, ByteArray.toList_eq] at e
          exact hx (ByteArray.ext (Array.toList_inj.1 e))
        clear HE
        go_wp2_with fail
        go_round
        case rel => exact ⟨k + 1, by omega, by go_num, HE2⟩
        case measure => simp [intOf]; omega
    · have hRk : R = -1 := by
        have := HR.out
        rw [List.drop_eq_nil_of_le (by omega)] at this
        exact this.symm
      subst hRk
      clear HR
      go_wp2_with fail
      go_ret
      exact ⟨rfl, rfl⟩

theorem first_byte (s : ByteArray) (h : 0 < s.size) : (s[0]).toNat = Lp.byte s := by
  unfold Lp.byte
  obtain ⟨⟨l⟩⟩ := s
  cases l with
  | nil => exact absurd h (by decide)
  | cons a t => rfl

set_option maxHeartbeats 1000000 in
theorem l6Num_any (base n g cap : Nat) (l : List ByteArray) (s : ByteArray) (w : World) (ho : OwnL w base (.slice (some ⟨g, 0, none⟩) n cap) n l) (hn : n ≤ 5000) (_hs : s.size ≤ 6000) :
    Calls Try.prog 64 #[.slice (some ⟨g, 0, none⟩) n cap, .string s] w fun e w' => e = .returned (.int .i64 (Lp.num l s)) ∧ w' = w := by
  have HF : Hid (∀ w', w' = w → Calls Try.prog 78 #[.slice (some ⟨g, 0, none⟩) n cap, .string s] w' fun e w'' => e = .returned (.int .i64 (Lp.find l s)) ∧ w'' = w') := fun w' e => by subst e; exact l6Find_any base n g cap l s w' ho hn
  clear ho
  unfold Lp.num
  by_cases h1 : s.size = 1
  · rw [if_pos h1]
    have hb := first_byte s (by omega)
    have hbl := Lp.byte_lt s
    have hi1 : (s.size : Int) = 1 := by omega
    have h0 : 0 < s.size := by omega
    generalize Lp.byte s = B at *
    clear HF
    go_enter Try.func64, Try.ntmps64
    go_wp2_with fail
    go_ret
    exact ⟨rfl, rfl⟩
  · rw [if_neg h1]
    have hi1 : ¬ (s.size : Int) = 1 := by omega
    generalize Lp.find l s = R at *
    go_enter Try.func64, Try.ntmps64
    go_wp2_with fail
    refine (HF.out _ rfl).mono ?_
    rintro e w1 ⟨rfl, hw1⟩
    subst hw1
    go_wp2_with fail
    go_ret
    exact ⟨rfl, rfl⟩

set_option maxHeartbeats 1000000 in
theorem l6Known_any (b n cap : Nat) (ao : Option Addr) (w : World) (hb : b ≤ 8) (hn : n ≤ 5000) (hn1 : 1 ≤ n) :
    Calls Try.prog 79 #[.slice ao n cap, .int .i64 (b : Int)] w fun e w' => e = .returned (.int .i64 (Lp.known b n : Int)) ∧ w' = w := by
  have HPW : Hid (∀ w', Calls Try.prog 35 #[.int .i64 (b : Int)] w' fun e w'' => e = .returned (.int .i64 ((2 ^ b : Nat) : Int)) ∧ w'' = w') := fun w' => l1Pow_any b w' (by omega)
  have hp := Lz.pow_le hb
  unfold Lp.known
  generalize 2 ^ b = P at *
  by_cases h1 : n = P + 2
  · rw [if_pos h1]
    have hi : (n : Int) = (P : Int) + 2 := by omega
    have HI : Hid (n = P + 2) := h1
    have hbe : ((n : Int) == (P : Int) + 2) = true := by simp [hi]
    clear h1 hi
    go_enter Try.func79, Try.ntmps79
    go_wp2_with fail
    refine (HPW.out _).mono ?_
    rintro e w1 ⟨rfl, hw1⟩
    subst hw1
    go_wp2_with fail
    all_goals first | (go_ret; exact ⟨rfl, rfl⟩) | (exfalso; have := HI.out; omega)
  · rw [if_neg h1]
    have hi : ¬ (n : Int) = (P : Int) + 2 := by omega
    have hbe : ((n : Int) == (P : Int) + 2) = false := by simpa using hi
    go_enter Try.func79, Try.ntmps79
    go_wp2_with fail
    refine (HPW.out _).mono ?_
    rintro e w1 ⟨rfl, hw1⟩
    subst hw1
    go_wp2_with fail
    go_ret
    exact ⟨by first | go_num | (congr 2; omega), rfl⟩

set_option maxHeartbeats 1000000 in
theorem l6Code_any (b n cap : Nat) (ao : Option Addr) (v : Int) (wide : Bool) (w : World) (hb : b ≤ 8) (hn : n ≤ 5000) (hn1 : 1 ≤ n) :
    Calls Try.prog 65 #[.int .i64 v, .slice ao n cap, .int .i64 (b : Int), .bool wide] w fun e w' => e = .returned (.agg #[.int .i64 (Lp.code b wide v n).1, .int .i64 (Lp.code b wide v n).2]) ∧ Below w.heap.size w w' := by
  have HK : Hid (∀ w', Calls Try.prog 79 #[.slice ao n cap, .int .i64 (b : Int)] w' fun e w'' => e = .returned (.int .i64 (Lp.known b n : Int)) ∧ w'' = w') := fun w' => l6Known_any b n cap ao w' hb hn hn1
  have hkb : Lp.known b n ≤ 5000 := by unfold Lp.known; split <;> omega
  have HW : Hid (∀ w', Calls Try.prog 74 #[.int .i64 (Lp.known b n : Int), .int .i64 (b : Int), .bool wide] w' fun e w'' => e = .returned (.int .i64 (Lz.width b wide (Lp.known b n) : Int)) ∧ w'' = w') := fun w' => l6Width_any b (Lp.known b n) hb hkb wide w'
  unfold Lp.code
  generalize Lz.width b wide (Lp.known b n) = W at *
  generalize Lp.known b n = K at *
  go_enter Try.func65, Try.ntmps65
  go_wp2_with fail
  refine (HK.out _).mono ?_
  rintro e w1 ⟨rfl, hw1⟩
  replace hw1 := hw1.symm
  subst hw1
  go_wp2_with fail
  refine (HW.out _).mono ?_
  rintro e w1 ⟨rfl, hw1⟩
  replace hw1 := hw1.symm
  subst hw1
  go_wp2_with fail
  exact bodyPost_ret (v := .agg #[.int .i64 v, .int .i64 (W : Int)]) (by simp [results, Try.results65, go_sem]) rfl ⟨rfl, (Below.refl _ _).alloc (Nat.le_refl _) _⟩

set_option maxHeartbeats 400000 in
theorem l6Full_any (wide : Bool) (w : World) : Calls Try.prog 66 #[.bool wide] w fun e w' => e = .returned (.int .i64 (Lp.full wide : Int)) ∧ w' = w := by
  cases wide
  all_goals
    go_enter Try.func66, Try.ntmps66
    go_wp2_with fail
    go_ret
    exact ⟨rfl, rfl⟩

def Lp.smallB (b : Nat) (s : ByteArray) : Bool := (List.range s.size).all fun k => decide (Lp.byte (s.extract k (k + 1)) < 2 ^ b)
theorem Lp.small_of {b : Nat} {s : ByteArray} (h : Lp.smallB b s = true) : Lp.small b s := fun k hk => by
  have := List.all_eq_true.1 h k (List.mem_range.2 hk)
  simpa using this
theorem extract_byte (s : ByteArray) (k : Nat) (h : k < s.size) : Lp.byte (s.extract k (k + 1)) = (s[k]).toNat := by
  have hz : 0 < (s.extract k (k + 1)).size := by rw [ByteArray.size_extract]; omega
  rw [← first_byte _ hz, ByteArray.getElem_extract]
  rfl

set_option maxHeartbeats 1000000 in
theorem l6Fits_any (b : Nat) (s : ByteArray) (w : World) (hb : b ≤ 8) (hs : s.size ≤ 9000) :
    Calls Try.prog 44 #[.string s, .int .i64 (b : Int)] w fun e w' => e = .returned (.bool (Lp.smallB b s)) ∧ ∃ m, w' = w.drewN m := by
  have HPW : Hid (∀ w', Calls Try.prog 35 #[.int .i64 (b : Int)] w' fun e w'' => e = .returned (.int .i64 ((2 ^ b : Nat) : Int)) ∧ w'' = w') := fun w' => l1Pow_any b w' (by omega)
  have hp := Lz.pow_le hb
  have HNO : Hid (∀ k (h : k < s.size), 2 ^ b ≤ (s[k]).toNat → Lp.smallB b s = false) := fun k h hk => by
    rw [← Bool.not_eq_true]
    intro hc
    have := Lp.small_of hc k h
    rw [extract_byte s k h] at this
    omega
  have HYES : Hid ((∀ k (h : k < s.size), (s[k]).toNat < 2 ^ b) → Lp.smallB b s = true) := fun h => by
    unfold Lp.smallB
    rw [List.all_eq_true]
    intro k hk
    have hk' := List.mem_range.1 hk
    rw [extract_byte s k hk']
    simpa using h k hk'
  generalize hB : Lp.smallB b s = B at *
  clear hB
  generalize 2 ^ b = P at *
  go_enter Try.func44, Try.ntmps44
  go_wp2_with fail
  go_loopw [5] (fun i wr => ∃ k : Nat, k ≤ s.size ∧ i = .int .i64 (k : Int) ∧ Hid (∀ j (h : j < s.size), j < k → (s[j]).toNat < P) ∧ Hid (∃ m, wr = w.drewN m)) (fun i _ => s.size - (intOf i).toNat)
  case atStart => exact ⟨0, Nat.zero_le _, rfl, fun j _ h => absurd h (Nat.not_lt_zero _), 0, rfl⟩
  case round =>
    obtain ⟨k, hk, rfl, HA, HM⟩ := hrel
    by_cases hlt : k < s.size
    · obtain ⟨y, hy⟩ : ∃ y, y = (s[k]).toNat := ⟨_, rfl⟩
      have hyb : y < 256 := by rw [hy]; exact UInt8.toNat_lt _
      have hsy : (s[k]).toNat = y := hy.symm
      have hi : (k : Int) < (s.size : Int) := by omega
      by_cases hsm : y < P
      · have HA2 : Hid (∀ j (h : j < s.size), j < k + 1 → (s[j]).toNat < P) := fun j h hj => by
          rcases Nat.lt_or_ge j k with h1 | h1
          · exact HA.out j h h1
          · have e : j = k := by omega
            subst e
            omega
        have hd : decide ((y : Int) ≥ (P : Int)) = false := decide_eq_false (by omega)
        clear hy HA
        go_wp2_with fail
        go_quiet ((go_at_call 35; exact Calls.quiet_of_same (HPW.out _)))
        go_wp2_with fail
        go_roundw
        case rel => exact ⟨k + 1, by omega, by go_num, HA2, by obtain ⟨m, rfl⟩ := HM.out; exact ⟨_, World.drewN_drewN _ _ _⟩⟩
        case measure => simp [intOf]; omega
      · have hBf : B = false := HNO.out k hlt (by omega)
        subst hBf
        have hd : decide ((y : Int) ≥ (P : Int)) = true := decide_eq_true (by omega)
        clear hy HA
        go_wp2_with fail
        go_quiet ((go_at_call 35; exact Calls.quiet_of_same (HPW.out _)))
        go_wp2_with fail
        go_ret
        obtain ⟨m, rfl⟩ := HM.out
        exact ⟨rfl, _, World.drewN_drewN _ _ _⟩
    · have hBt : B = true := HYES.out (fun j h => HA.out j h (by omega))
      subst hBt
      go_wp2_with fail
      go_ret
      exact ⟨rfl, HM.out⟩
end Go.Proofs.Ytjfihmpnbblomaa

/- The writer of LZW: the longest text that is known and stands next. -/
namespace Go.Proofs.Ytjfihmpnbblomaa
open Go.RowKit Go.Maps

theorem lit_inj {a b : Int} (h : (DataW.lit (.int .i64 a) : DataW Unit) = .lit (.int .i64 b)) : a = b := by
  injection h with h
  injection h
theorem zero_int_ (w : World) : (zeroValue 3).run Try.prog w = .ok (.int .i64 0) w := by kernel_rfl
/-- what the table answers -/
theorem tab_look {w : World} {mb N b : Nat} {D : DataW Unit} {l : List ByteArray} (hm : w.ownsMap Try.prog 69 (plainElem Try.prog 3) mb N D) (t : TabIs D b l) (h c : Nat) (hh : h ≤ 100000) (hc : c < 256) :
    ∃ x : Int, (Instr.lookup 60 (.map (some mb)) (pairV h c) true).run Try.prog w = .ok (.tuple #[.int .i64 x, .bool (decide (0 ≤ Lq.look l h c))]) w ∧ (0 ≤ Lq.look l h c → x = Lq.look l h c) ∧ D.atKey (pairKey h c) (.lit (.int .i64 0)) = .lit (.int .i64 x) := by
  obtain ⟨v, ps, hrun, hv⟩ := hm.look_ok key_pair Try.underlying60 (zero_int_ w) (zd := .lit (.int .i64 0)) (zp := []) (plainElem_int Try.underlying3 (by decide)) (pairKey_of h c hh hc)
  obtain ⟨x, rfl, hx, -⟩ := plainElem_int_inv Try.underlying3 hv
  rw [t.has_ h c hh hc] at hrun
  have h2 := congrArg Prod.fst hx
  refine ⟨x, hrun, fun hl => ?_, h2⟩
  exact (lit_inj ((t.at_ h c hh hc hl _).symm.trans h2)).symm

/-- what longest answers -/
def LongOut (l : List ByteArray) (u : ByteArray) (w : World) (e : Ending) (w' : World) : Prop :=
  ∃ v k : Nat, e = .returned (.tuple #[.int .i64 (v : Int), .int .i64 (k : Int)]) ∧ 1 ≤ k ∧ k ≤ u.size ∧ (∀ j, 1 ≤ j → j ≤ k → 0 ≤ Lp.num l (u.extract 0 j)) ∧ Lp.num l (u.extract 0 k) = (v : Int) ∧ (k = u.size ∨ (k < u.size ∧ Lp.num l (u.extract 0 (k + 1)) < 0)) ∧ ∃ m, w' = w.drewN m
/-- how far it is -/
def LongAt (l : List ByteArray) (u : ByteArray) (k v : Nat) : Prop := 1 ≤ k ∧ k ≤ u.size ∧ (∀ j, 1 ≤ j → j ≤ k → 0 ≤ Lp.num l (u.extract 0 j)) ∧ Lp.num l (u.extract 0 k) = (v : Int)

theorem extract_next (u : ByteArray) (k : Nat) (h : k < u.size) : u.extract 0 (k + 1) = u.extract 0 k ++ Lz.one (u[k]).toNat := by
  have h1 : u.extract 0 (k + 1) = u.extract 0 k ++ u.extract k (k + 1) := by
    rw [ByteArray.extract_append_extract, Nat.min_eq_left (by omega), Nat.max_eq_right (by omega)]
  rw [h1]
  congr 1
  have hs : (u.extract k (k + 1)).size = 1 := by rw [ByteArray.size_extract]; omega
  rw [Lp.one_of hs, extract_byte u k h]

set_option linter.unusedSimpArgs false in
set_option maxHeartbeats 2000000 in
set_option maxRecDepth 20000 in
theorem wrLongest (B b since mb N : Nat) (wide : Bool) (ov : Value) (D : DataW Unit) (l : List ByteArray) (u : ByteArray) (w : World) (hb : b ≤ 8) (h : Wr w B b wide (.map (some mb)) since ov) (hm : w.ownsMap Try.prog 69 (plainElem Try.prog 3) mb N D) (tb : TabIs D b l) (g : Lq.Inv b l) (hl4 : l.length ≤ 4096) (hu : 1 ≤ u.size) (hu5 : u.size ≤ 5000) (hsm : ∀ k (h : k < u.size), (u[k]).toNat < 2 ^ b) :
    Calls Try.prog 39 #[.pointer (some ⟨B, 0, none⟩), .string u] w (LongOut l u w) := by
  have hpw := Lz.pow_le hb
  have hb0 := first_byte u (by omega)
  have HSM : Hid (∀ k (h : k < u.size), (u[k]).toNat < 2 ^ b) := hsm
  have e1 : u.extract 0 1 = Lz.one (Lp.byte u) := by
    have hs : (u.extract 0 1).size = 1 := by rw [ByteArray.size_extract]; omega
    rw [Lp.one_of hs, show (1 : Nat) = 0 + 1 from rfl, extract_byte u 0 (by omega), hb0]
  have hbb : Lp.byte u < 2 ^ b := by rw [← hb0]; exact hsm 0 (by omega)
  have hone : Lp.byte (Lz.one (Lp.byte u)) = Lp.byte u := by
    have := Lp.byte_lt u
    have e : Lp.byte (Lz.one (Lp.byte u)) = (UInt8.ofNat (Lp.byte u)).toNat := rfl
    rw [e, UInt8.toNat_ofNat']
    omega
  have H0 : Hid (LongAt l u 1 (Lp.byte u)) := by
    have hn : Lp.num l (u.extract 0 1) = (Lp.byte u : Int) := by rw [e1, Lp.num_one rfl, hone]
    refine ⟨Nat.le_refl _, hu, fun j h1 h2 => ?_, hn⟩
    have : j = 1 := by omega
    subst this
    rw [hn]; omega
  have HM : Hid (Wr w B b wide (.map (some mb)) since ov ∧ w.ownsMap Try.prog 69 (plainElem Try.prog 3) mb N D ∧ TabIs D b l ∧ Lq.Inv b l) := ⟨h, hm, tb, g⟩
  have hb8 : Lp.byte u < 256 := Lp.byte_lt u
  generalize Lp.byte u = y0 at *
  have h0s : 0 < u.size := by omega
  have hui : (0 : Int) < (u.size : Int) := by omega
  clear h hm tb g hsm e1 hone
  go_enter Try.func39, Try.ntmps39
  go_wp2_with fail
  go_loopw [6, 7] (fun nv kv wr => ∃ k v : Nat, nv = .int .i64 (v : Int) ∧ kv = .int .i64 (k : Int) ∧ Hid (LongAt l u k v) ∧ Hid (∃ m, wr = w.drewN m)) (fun _ kv _ => u.size - (intOf kv).toNat)
  case atStart => exact ⟨1, y0, rfl, rfl, H0, 0, rfl⟩
  case round =>
    obtain ⟨k, v, rfl, rfl, HA, HW⟩ := hrel
    clear H0
    have hk1 := HA.out.1
    have hk2 := HA.out.2.1
    have HF : Hid (k = u.size → LongOut l u w (.returned (.tuple #[.int .i64 (v : Int), .int .i64 (k : Int)])) wr) := fun e => ⟨v, k, rfl, hk1, hk2, HA.out.2.2.1, HA.out.2.2.2, .inl e, HW.out⟩
    have hvl : v < l.length := by
      obtain ⟨hv, -⟩ := Lq.at_num HM.out.2.2.2 HA.out.2.2.2 (fun hs => by
        have hk : k = 1 := by rw [ByteArray.size_extract] at hs; omega
        subst hk
        rw [show (1 : Nat) = 0 + 1 from rfl, extract_byte u 0 h0s]
        exact HSM.out 0 h0s)
      exact hv
    by_cases hlt : k < u.size
    · obtain ⟨y, hy⟩ : ∃ y, y = (u[k]).toNat := ⟨_, rfl⟩
      have hsy : (u[k]).toNat = y := hy.symm
      have hyb : y < 256 := by rw [hy]; exact UInt8.toNat_lt _
      have hki : (k : Int) < (u.size : Int) := by omega
      have hlook : Lq.look l v y = Lp.num l (u.extract 0 (k + 1)) := by
        rw [extract_next u k hlt, ← hy]
        refine Lq.look_num y HM.out.2.2.2 HA.out.2.2.2 (fun hs => ?_) (by rw [ByteArray.size_extract]; omega)
        have hk : k = 1 := by rw [ByteArray.size_extract] at hs; omega
        subst hk
        rw [show (1 : Nat) = 0 + 1 from rfl, extract_byte u 0 h0s]
        exact HSM.out 0 h0s
      have HLK : Hid (Lq.look l v y = Lp.num l (u.extract 0 (k + 1))) := hlook
      have HMR : Hid (Wr wr B b wide (.map (some mb)) since ov ∧ wr.ownsMap Try.prog 69 (plainElem Try.prog 3) mb N D) := by
        obtain ⟨m, rfl⟩ := HW.out
        exact ⟨HM.out.1, HM.out.2.1⟩
      obtain ⟨x, hx, hxe, hxa⟩ := tab_look HMR.out.2 HM.out.2.2.1 v y (by omega) hyb
      have HX : Hid (∀ m, (Instr.lookup 60 (.map (some mb)) (pairV v y) true).run Try.prog (wr.drewN m) = .ok (.tuple #[.int .i64 x, .bool (decide (0 ≤ Lq.look l v y))]) (wr.drewN m)) := fun m => by
        obtain ⟨x', hx', -, hxa'⟩ := tab_look (w := wr.drewN m) (show (wr.drewN m).ownsMap _ _ _ _ _ _ from HMR.out.2) HM.out.2.2.1 v y (by omega) hyb
        have e : x' = x := by
          exact lit_inj (hxa'.symm.trans hxa)
        rw [← e]
        exact hx'
      obtain ⟨r, hr⟩ : ∃ r : Bool, r = decide (0 ≤ Lq.look l v y) := ⟨_, rfl⟩
      have HRR : Hid (r = decide (0 ≤ Lq.look l v y)) := hr
      have HXE : Hid (0 ≤ Lq.look l v y → x = Lq.look l v y) := hxe
      rw [← hr] at HX
      clear hx hxe hxa hr hy hlook HF
      go_wp2_with fail
      refine wp_region_told (S := (fun wy => ∃ m, wy = wr.drewN m)) 15 40 [.is (.pointer (some ⟨B, 0, none⟩)), .is (.pointer (some ⟨B, 0, none⟩)), .is (.pointer (some ⟨B, 2, none⟩)), .is (.map (some mb)), .is (.int .i64 (v : Int)), .is (.string u), .is (.int .i64 (k : Int)), .is (.int .u8 (y : Int)), .is (pairV v y), .is (.tuple #[.int .i64 x, .bool r]), .is (.tuple #[.int .i64 x, .bool r]), .is (.int .i64 x), .is (.bool r), .is (.int .i64 x), .is (.bool r)] (by kernel_rfl) (by kernel_rfl) (by rfl) (fun _ _ _ _ hd h => ⟨hd.trans h.1, h.2⟩) (fun vs => by simp only [puts, List.getElem?_toArray, List.getElem?_cons_succ, List.getElem?_cons_zero, Option.bind_some, Act.put, List.setIfInBounds_toArray, List.set_cons_zero, List.set_cons_succ]; exact rfl) ⟨1, rfl⟩ ?_ ?_
      · refine TellsFrom.cons rfl (fun vs wz hS hd K hK => ?_) ?_
        · try dsimp only at hK ⊢
          try simp only [List.getElem_toArray, List.getElem_cons_succ, List.getElem_cons_zero, Act.put, List.setIfInBounds_toArray, List.set_cons_zero, List.set_cons_succ]
          obtain ⟨mz, hmz⟩ := hS
          subst hmz
          have s2 := HMR.out.1.cell 2
          simp at s2
          go_simp
          exact hK.out _ _ ⟨mz, rfl⟩ (Below.refl _ _) rfl
        refine TellsFrom.cons rfl (fun vs wz hS hd K hK => ?_) ?_
        · try dsimp only at hK ⊢
          have h0 : vs 0 = (.pointer (some ⟨B, 0, none⟩)) := hd 0 (by kernel_rfl)
          generalize vs 0 = x0 at *
          subst h0
          try simp only [List.getElem_toArray, List.getElem_cons_succ, List.getElem_cons_zero, Act.put, List.setIfInBounds_toArray, List.set_cons_zero, List.set_cons_succ]
          obtain ⟨mz, hmz⟩ := hS
          subst hmz
          have s2 := HMR.out.1.cell 2
          simp at s2
          go_simp
          exact hK.out _ _ ⟨mz, rfl⟩ (Below.refl _ _) rfl
        refine TellsFrom.cons rfl (fun vs wz hS hd K hK => ?_) ?_
        · try dsimp only at hK ⊢
          have h1 : vs 1 = (.pointer (some ⟨B, 0, none⟩)) := hd 1 (by kernel_rfl)
          generalize vs 1 = x1 at *
          subst h1
          try simp only [List.getElem_toArray, List.getElem_cons_succ, List.getElem_cons_zero, Act.put, List.setIfInBounds_toArray, List.set_cons_zero, List.set_cons_succ]
          obtain ⟨mz, hmz⟩ := hS
          subst hmz
          have s2 := HMR.out.1.cell 2
          simp at s2
          go_simp
          exact hK.out _ _ ⟨mz, rfl⟩ (Below.refl _ _) rfl
        refine TellsFrom.cons rfl (fun vs wz hS hd K hK => ?_) ?_
        · try dsimp only at hK ⊢
          have h2 : vs 2 = (.pointer (some ⟨B, 2, none⟩)) := hd 2 (by kernel_rfl)
          generalize vs 2 = x2 at *
          subst h2
          try simp only [List.getElem_toArray, List.getElem_cons_succ, List.getElem_cons_zero, Act.put, List.setIfInBounds_toArray, List.set_cons_zero, List.set_cons_succ]
          obtain ⟨mz, hmz⟩ := hS
          subst hmz
          have s2 := HMR.out.1.cell 2
          simp at s2
          go_simp
          exact hK.out _ _ ⟨mz, rfl⟩ (Below.refl _ _) rfl
        refine TellsFrom.cons rfl (fun vs wz hS hd K hK => ?_) ?_
        · try dsimp only at hK ⊢
          try simp only [List.getElem_toArray, List.getElem_cons_succ, List.getElem_cons_zero, Act.put, List.setIfInBounds_toArray, List.set_cons_zero, List.set_cons_succ]
          obtain ⟨mz, hmz⟩ := hS
          subst hmz
          have s2 := HMR.out.1.cell 2
          simp at s2
          go_simp
          exact hK.out _ _ ⟨mz, rfl⟩ (Below.refl _ _) rfl
        refine TellsFrom.cons rfl (fun vs wz hS hd K hK => ?_) ?_
        · try dsimp only at hK ⊢
          try simp only [List.getElem_toArray, List.getElem_cons_succ, List.getElem_cons_zero, Act.put, List.setIfInBounds_toArray, List.set_cons_zero, List.set_cons_succ]
          obtain ⟨mz, hmz⟩ := hS
          subst hmz
          have s2 := HMR.out.1.cell 2
          simp at s2
          go_simp
          exact hK.out _ _ ⟨mz, rfl⟩ (Below.refl _ _) rfl
        refine TellsFrom.cons rfl (fun vs wz hS hd K hK => ?_) ?_
        · try dsimp only at hK ⊢
          try simp only [List.getElem_toArray, List.getElem_cons_succ, List.getElem_cons_zero, Act.put, List.setIfInBounds_toArray, List.set_cons_zero, List.set_cons_succ]
          obtain ⟨mz, hmz⟩ := hS
          subst hmz
          have s2 := HMR.out.1.cell 2
          simp at s2
          go_simp
          exact hK.out _ _ ⟨mz, rfl⟩ (Below.refl _ _) rfl
        refine TellsFrom.cons rfl (fun vs wz hS hd K hK => ?_) ?_
        · try dsimp only at hK ⊢
          have h5 : vs 5 = (.string u) := hd 5 (by kernel_rfl)
          generalize vs 5 = x5 at *
          subst h5
          have h6 : vs 6 = (.int .i64 (k : Int)) := hd 6 (by kernel_rfl)
          generalize vs 6 = x6 at *
          subst h6
          try simp only [List.getElem_toArray, List.getElem_cons_succ, List.getElem_cons_zero, Act.put, List.setIfInBounds_toArray, List.set_cons_zero, List.set_cons_succ]
          obtain ⟨mz, hmz⟩ := hS
          subst hmz
          have s2 := HMR.out.1.cell 2
          simp at s2
          go_simp
          exact hK.out _ _ ⟨mz, rfl⟩ (Below.refl _ _) rfl
        refine TellsFrom.cons rfl (fun vs wz hS hd K hK => ?_) ?_
        · try dsimp only at hK ⊢
          have h4 : vs 4 = (.int .i64 (v : Int)) := hd 4 (by kernel_rfl)
          generalize vs 4 = x4 at *
          subst h4
          have h7 : vs 7 = (.int .u8 (y : Int)) := hd 7 (by kernel_rfl)
          generalize vs 7 = x7 at *
          subst h7
          try simp only [List.getElem_toArray, List.getElem_cons_succ, List.getElem_cons_zero, Act.put, List.setIfInBounds_toArray, List.set_cons_zero, List.set_cons_succ]
          obtain ⟨mz, hmz⟩ := hS
          subst hmz
          have s2 := HMR.out.1.cell 2
          simp at s2
          go_simp
          exact hK.out _ _ ⟨mz, rfl⟩ (Below.refl _ _) rfl
        refine TellsFrom.cons rfl (fun vs wz hS hd K hK => ?_) ?_
        · try dsimp only at hK ⊢
          have h3 : vs 3 = (.map (some mb)) := hd 3 (by kernel_rfl)
          generalize vs 3 = x3 at *
          subst h3
          have h8 : vs 8 = (pairV v y) := hd 8 (by kernel_rfl)
          generalize vs 8 = x8 at *
          subst h8
          try simp only [List.getElem_toArray, List.getElem_cons_succ, List.getElem_cons_zero, Act.put, List.setIfInBounds_toArray, List.set_cons_zero, List.set_cons_succ]
          obtain ⟨mz, hmz⟩ := hS
          subst hmz
          have s2 := HMR.out.1.cell 2
          simp at s2
          have hx := HX.out mz
          go_simp
          exact hK.out _ _ ⟨mz, rfl⟩ (Below.refl _ _) rfl
        refine TellsFrom.cons rfl (fun vs wz hS hd K hK => ?_) ?_
        · try dsimp only at hK ⊢
          have h9 : vs 9 = (.tuple #[.int .i64 x, .bool r]) := hd 9 (by kernel_rfl)
          generalize vs 9 = x9 at *
          subst h9
          try simp only [List.getElem_toArray, List.getElem_cons_succ, List.getElem_cons_zero, Act.put, List.setIfInBounds_toArray, List.set_cons_zero, List.set_cons_succ]
          obtain ⟨mz, hmz⟩ := hS
          subst hmz
          have s2 := HMR.out.1.cell 2
          simp at s2
          go_simp
          exact hK.out _ _ ⟨mz, rfl⟩ (Below.refl _ _) rfl
        refine TellsFrom.cons rfl (fun vs wz hS hd K hK => ?_) ?_
        · try dsimp only at hK ⊢
          have h10 : vs 10 = (.tuple #[.int .i64 x, .bool r]) := hd 10 (by kernel_rfl)
          generalize vs 10 = x10 at *
          subst h10
          try simp only [List.getElem_toArray, List.getElem_cons_succ, List.getElem_cons_zero, Act.put, List.setIfInBounds_toArray, List.set_cons_zero, List.set_cons_succ]
          obtain ⟨mz, hmz⟩ := hS
          subst hmz
          have s2 := HMR.out.1.cell 2
          simp at s2
          go_simp
          exact hK.out _ _ ⟨mz, rfl⟩ (Below.refl _ _) rfl
        refine TellsFrom.cons rfl (fun vs wz hS hd K hK => ?_) ?_
        · try dsimp only at hK ⊢
          have h10 : vs 10 = (.tuple #[.int .i64 x, .bool r]) := hd 10 (by kernel_rfl)
          generalize vs 10 = x10 at *
          subst h10
          try simp only [List.getElem_toArray, List.getElem_cons_succ, List.getElem_cons_zero, Act.put, List.setIfInBounds_toArray, List.set_cons_zero, List.set_cons_succ]
          obtain ⟨mz, hmz⟩ := hS
          subst hmz
          have s2 := HMR.out.1.cell 2
          simp at s2
          go_simp
          exact hK.out _ _ ⟨mz, rfl⟩ (Below.refl _ _) rfl
        refine TellsFrom.cons rfl (fun vs wz hS hd K hK => ?_) ?_
        · try dsimp only at hK ⊢
          have h11 : vs 11 = (.int .i64 x) := hd 11 (by kernel_rfl)
          generalize vs 11 = x11 at *
          subst h11
          try simp only [List.getElem_toArray, List.getElem_cons_succ, List.getElem_cons_zero, Act.put, List.setIfInBounds_toArray, List.set_cons_zero, List.set_cons_succ]
          obtain ⟨mz, hmz⟩ := hS
          subst hmz
          have s2 := HMR.out.1.cell 2
          simp at s2
          go_simp
          exact hK.out _ _ ⟨mz, rfl⟩ (Below.refl _ _) rfl
        refine TellsFrom.cons rfl (fun vs wz hS hd K hK => ?_) ?_
        · try dsimp only at hK ⊢
          have h12 : vs 12 = (.bool r) := hd 12 (by kernel_rfl)
          generalize vs 12 = x12 at *
          subst h12
          try simp only [List.getElem_toArray, List.getElem_cons_succ, List.getElem_cons_zero, Act.put, List.setIfInBounds_toArray, List.set_cons_zero, List.set_cons_succ]
          obtain ⟨mz, hmz⟩ := hS
          subst hmz
          have s2 := HMR.out.1.cell 2
          simp at s2
          go_simp
          exact hK.out _ _ ⟨mz, rfl⟩ (Below.refl _ _) rfl
        exact TellsFrom.nil
      · intro vs wz hS hd
        try dsimp only
        have h13 : vs 13 = .int .i64 x := hd 13 (by omega)
        have h14 : vs 14 = .bool r := hd 14 (by omega)
        clear hd
        generalize vs 0 = y0 at *
        generalize vs 1 = y1 at *
        generalize vs 2 = y2 at *
        generalize vs 3 = y3 at *
        generalize vs 4 = y4 at *
        generalize vs 5 = y5 at *
        generalize vs 6 = y6 at *
        generalize vs 7 = y7 at *
        generalize vs 8 = y8 at *
        generalize vs 9 = y9 at *
        generalize vs 10 = y10 at *
        generalize vs 11 = y11 at *
        generalize vs 12 = y12 at *
        generalize vs 13 = y13 at *
        generalize vs 14 = y14 at *
        subst h13
        subst h14
        obtain ⟨mz, hmz⟩ := hS
        subst hmz
        refine wpAnyH_done (by kernel_rfl) ?_ _
        try simp only [List.getElem_toArray, List.getElem_cons_succ, List.getElem_cons_zero, Act.put, List.setIfInBounds_toArray, List.set_cons_zero, List.set_cons_succ]
        have HW2 : Hid (∃ m, wr.drewN mz = w.drewN m) := by
          obtain ⟨m, rfl⟩ := HW.out
          exact ⟨_, World.drewN_drewN _ _ _⟩
        cases hrc : r with
        | true =>
          have hl0 : 0 ≤ Lq.look l v y := by have := HRR.out; rw [hrc] at this; exact of_decide_eq_true this.symm
          obtain ⟨v2, hv2⟩ := Int.eq_ofNat_of_zero_le hl0
          have hxv : x = (v2 : Int) := (HXE.out hl0).trans hv2
          subst hxv
          have HA2 : Hid (LongAt l u (k + 1) v2) := by
            have hn : Lp.num l (u.extract 0 (k + 1)) = (v2 : Int) := HLK.out.symm.trans hv2
            refine ⟨by omega, by omega, fun j h1 h2 => ?_, hn⟩
            by_cases hj : j ≤ k
            · exact HA.out.2.2.1 j h1 hj
            · have : j = k + 1 := by omega
              subst this
              rw [hn]; omega
          subst hrc
          clear HRR HXE HLK hv2 hl0 HX HMR
          go_wp2_with fail
          go_roundw
          case rel => exact ⟨k + 1, v2, rfl, by go_num, HA2, HW2⟩
          case measure => simp [intOf]; omega
        | false =>
          have hl0 : Lp.num l (u.extract 0 (k + 1)) < 0 := by
            have := HRR.out
            rw [hrc] at this
            have h2 := of_decide_eq_false this.symm
            rw [HLK.out] at h2
            omega
          have HF2 : Hid (LongOut l u w (.returned (.tuple #[.int .i64 (v : Int), .int .i64 (k : Int)])) (wr.drewN mz)) := ⟨v, k, rfl, hk1, hk2, HA.out.2.2.1, HA.out.2.2.2, .inr ⟨hlt, hl0⟩, HW2.out⟩
          subst hrc
          clear HRR HXE HLK hl0 HX HMR
          go_wp2_with fail
          go_ret2
          exact HF2.out
    · have HF2 : Hid (LongOut l u w (.returned (.tuple #[.int .i64 (v : Int), .int .i64 (u.size : Int)])) wr) := by
        have e : k = u.size := by omega
        have := HF.out e
        rw [← e]
        exact this
      have hki : ¬ (k : Int) < (u.size : Int) := by omega
      clear HF HM
      go_wp2_with fail
      go_ret2
      exact HF2.out
end Go.Proofs.Ytjfihmpnbblomaa

/- The writer of LZW: learn. -/
namespace Go.Proofs.Ytjfihmpnbblomaa
open Go.RowKit Go.Maps

set_option maxHeartbeats 400000 in
theorem lzFull_any (b : Int) (wide : Bool) (w : World) : Calls Try.prog 60 #[.agg #[.int .i64 b, .bool wide]] w fun e w' => e = .returned (.int .i64 (Lp.full wide : Int)) ∧ Below w.heap.size w w' := by
  have hB0 : Below w.heap.size w (w.alloc (.cells #[.int .i64 b, .bool wide] 50)) := (Below.refl _ _).alloc (Nat.le_refl _) _
  cases wide
  all_goals
    go_enter Try.func60, Try.ntmps60
    go_wp2_with fail
    go_ret
    exact ⟨rfl, hB0⟩

/-- the map's block is no row's -/
theorem map_apart {w : World} {k e : TypeId} {R : Value → Option (DataW Unit × List MemPlace)} {mb N lo n z : Nat} {D : DataW Unit} {v : Value} {l : List Value} (hm : w.ownsMap Try.prog k R mb N D) (ho : w.ownsRow lo e z v n l) : v.ownBlock ≠ some mb := fun hk => by
  obtain ⟨es, cl, hb, -⟩ := hm
  rcases ho.2 with ⟨rfl, _⟩ | ⟨g, cap, cur, rfl, _, hg, _⟩
  · cases hk
  · have e : g = mb := by cases hk; rfl
    subst e
    rw [hb] at hg
    cases hg
theorem map_writer {w : World} {k : TypeId} {R : Value → Option (DataW Unit × List MemPlace)} {mb N B b since : Nat} {D : DataW Unit} {wide : Bool} {mv ov : Value} (hm : w.ownsMap Try.prog k R mb N D) (h : Wr w B b wide mv since ov) : mb ≠ B := fun e => by
  obtain ⟨es, cl, hb, -⟩ := hm
  subst e
  rw [show w.heap[mb]? = _ from h] at hb
  cases hb
theorem map_same {w w' : World} {k : TypeId} {R : Value → Option (DataW Unit × List MemPlace)} {mb N : Nat} {D : DataW Unit} (hm : w.ownsMap Try.prog k R mb N D) (hb : w'.heap[mb]? = w.heap[mb]?) : w'.ownsMap Try.prog k R mb N D := by
  obtain ⟨es, cl, h1, h2⟩ := hm
  exact ⟨es, cl, hb.trans h1, h2⟩
abbrev MapAt (w : World) (mb N : Nat) (D : DataW Unit) : Prop := w.ownsMap Try.prog 69 (plainElem Try.prog 3) mb N D

/-- what learn leaves: a text more is known -/
def LrAdd (B b since n lo mb N : Nat) (wide : Bool) (ov : Value) (l2 : List ByteArray) (out : List (Int × Int)) (w w' : World) : Prop :=
  ∃ D2, Wr w' B b wide (.map (some mb)) since ov ∧ OwnP w' lo ov n out ∧ MapAt w' mb (N + 1) D2 ∧ TabIs D2 b l2 ∧ Below lo w w'
/-- what learn leaves: all is forgotten -/
def LrFull (B b n lo : Nat) (wide : Bool) (out : List (Int × Int)) (w w' : World) : Prop :=
  ∃ g cap mb', Wr w' B b wide (.map (some mb')) 0 (.slice (some ⟨g, 0, none⟩) (n + 1) cap) ∧ OwnP w' lo (.slice (some ⟨g, 0, none⟩) (n + 1) cap) (n + 1) out ∧ MapAt w' mb' 0 (.map []) ∧ lo ≤ mb' ∧ Below lo w w'
/-- the state told while a region runs -/
def WrM (w : World) (B b : Nat) (wide : Bool) (since : Nat) (ov : Value) (pb v c mb N : Nat) (D : DataW Unit) (wy : World) : Prop :=
  Wr wy B b wide (.map (some mb)) since ov ∧ MapAt wy mb N D ∧ Below w.heap.size w wy ∧ wy.cell? ⟨pb, 0, none⟩ = some (.int .i64 (v : Int)) ∧ wy.cell? ⟨pb, 1, none⟩ = some (.int .u8 (c : Int))
theorem WrM.kept {w wy wz : World} {B b since pb v c mb N : Nat} {wide : Bool} {ov : Value} {D : DataW Unit} (h : WrM w B b wide since ov pb v c mb N D wy) (hb : Below wy.heap.size wy wz) : WrM w B b wide since ov pb v c mb N D wz :=
  ⟨h.1.same (hb.block _ h.1.lt), map_same h.2.1 (hb.block _ h.2.1.lt), h.2.2.1.trans (hb.mono h.2.2.1.size), (hb.cell (p := ⟨pb, 0, none⟩) (World.block_lt_of_cell? wy _ h.2.2.2.1)).trans h.2.2.2.1, (hb.cell (p := ⟨pb, 1, none⟩) (World.block_lt_of_cell? wy _ h.2.2.2.2)).trans h.2.2.2.2⟩

set_option linter.unusedSimpArgs false in
set_option linter.unusedVariables false in
set_option maxHeartbeats 4000000 in
set_option maxRecDepth 20000 in
theorem wrLearn_add (B b since n lo mb N v c : Nat) (wide : Bool) (ov : Value) (D : DataW Unit) (l : List ByteArray) (z : ByteArray) (out : List (Int × Int)) (w : World) (hb : b ≤ 8) (h : Wr w B b wide (.map (some mb)) since ov) (ho : OwnP w lo ov n out) (hm : MapAt w mb N D) (tb : TabIs D b l) (g : Lq.Inv b l) (hlB : lo ≤ B) (hlm : lo ≤ mb) (hn : n ≤ 100000) (hN : N ≤ 5000)
    (hv : Lp.num l z = (v : Int)) (hz : z.size = 1 → Lp.byte z < 2 ^ b) (hz1 : 1 ≤ z.size) (hf : Lp.find l (z ++ Lz.one c) < 0) (hc : c < 256) (hfull : l.length + 1 < Lp.full wide) :
    Calls Try.prog 41 #[.pointer (some ⟨B, 0, none⟩), .agg #[.int .i64 (v : Int), .int .u8 (c : Int)]] w fun e w' => e = .returned (.tuple #[]) ∧ LrAdd B b since n lo mb N wide ov (l ++ [z ++ Lz.one c]) out w w' := by
  have hpw := Lz.pow_le hb
  have hfb := Lp.full_bd wide
  have HFI : Hid (∀ w', Calls Try.prog 58 #[.agg #[.int .i64 (b : Int), .bool wide]] w' fun e w'' => e = .returned (.int .i64 ((2 ^ b + 2 : Nat) : Int)) ∧ Below w'.heap.size w' w'') := fun w' => lzFirst_any b hb wide w'
  have HFU : Hid (∀ w', Calls Try.prog 60 #[.agg #[.int .i64 (b : Int), .bool wide]] w' fun e w'' => e = .returned (.int .i64 (Lp.full wide : Int)) ∧ Below w'.heap.size w' w'') := fun w' => lzFull_any b wide w'
  obtain ⟨hvl, -⟩ := Lq.at_num g hv hz
  have htsz := tb.size_
  obtain ⟨F, hF⟩ : ∃ F : Nat, F = 2 ^ b + 2 := ⟨_, rfl⟩
  rw [← hF] at HFI htsz
  obtain ⟨U, hU⟩ : ∃ U : Nat, U = Lp.full wide := ⟨_, rfl⟩
  rw [← hU] at HFU hfb
  obtain ⟨S0, hS0⟩ : ∃ S0 : Nat, S0 = size D := ⟨_, rfl⟩
  rw [← hS0] at htsz
  obtain ⟨L, hL⟩ : ∃ L : Nat, L = l.length := ⟨_, rfl⟩
  have eA : (F : Int) + (S0 : Int) = (L : Int) := by omega
  have hLb : L ≤ 4095 := by omega
  have wA : IntKind.i64.wrap (L : Int) = (L : Int) := wrap_i64_nat L (by omega)
  have hLF : L + 1 < U := by omega
  have HLEN : Hid (∀ wy : World, MapAt wy mb N D → (Builtin.len_ #[60] 3 #[.map (some mb)]).run Try.prog wy = .ok (.int .i64 (S0 : Int)) wy) := fun wy hm => by rw [hS0]; exact hm.len Try.underlying60 _
  have hlk : Lq.look l v c < 0 := by rw [Lq.look_num c g hv hz hz1, Lp.num_two rfl hz1]; exact hf
  have HUP : Hid (∀ wy : World, MapAt wy mb N D → ∃ w', (Instr.mapUpdate 60 (.map (some mb)) (pairV v c) (.int .i64 (L : Int))).run Try.prog wy = .ok () w' ∧ (∃ D', MapAt w' mb (N + 1) D' ∧ TabIs D' b (l ++ [z ++ Lz.one c]) ∧ size D' = S0 + 1) ∧ wy.grownBy w' (some mb)) := fun wy hmy => by
    obtain ⟨w', h1, h2, h3⟩ := hmy.update key_pair Try.underlying60 (by unfold maxLen; omega) (pairKey_of v c (by omega) hc) (plainElem_int (H := Unit) Try.underlying3 (WalkArith.wf_i64 (n := (L : Int)) (by omega)))
    have ht := tb.more (hmy.tidy key_pair) g hv hz hz1 hf hc (by omega)
    rw [← hL] at ht
    refine ⟨w', h1, ⟨_, h2, ht, ?_⟩, h3⟩
    have := ht.size_
    rw [List.length_append, ← hL, ← hF] at this
    simp at this
    omega
  have hBm := map_writer hm h
  have hoB := h.apart ho (by decide)
  have hom := map_apart hm ho
  have hBlt := h.lt
  have HO : Hid (OwnP w lo ov n out) := ho
  have hlw : lo ≤ w.heap.size := by omega
  have HST : Hid (WrM w B b wide since ov w.heap.size v c mb N D (w.alloc (.cells #[.int .i64 (v : Int), .int .u8 (c : Int)] 69)) ∧ OwnP (w.alloc (.cells #[.int .i64 (v : Int), .int .u8 (c : Int)] 69)) lo ov n out) := by
    have hba : Below w.heap.size w (w.alloc (.cells #[.int .i64 (v : Int), .int .u8 (c : Int)] 69)) := (Below.refl _ _).alloc (Nat.le_refl _) _
    exact ⟨⟨h.same (hba.block _ h.lt), hm.alloc _, hba, by simp, by simp⟩, World.ownsRow.alloc (show World.ownsRow _ _ _ _ _ _ _ from ho) _⟩
  clear h ho hm tb hv hz hf hlk hvl hS0 hU g hF hL htsz
  go_enter Try.func41, Try.ntmps41
  go_wp2_with fail
  obtain ⟨w1, hw1⟩ : ∃ w1, w1 = w.alloc (.cells #[.int .i64 (v : Int), .int .u8 (c : Int)] 69) := ⟨_, rfl⟩
  rw [← hw1] at HST ⊢
  clear hw1
  have hpb : w.heap.size ≠ B := by omega
  refine wp_region_told (S := (fun wy => WrM w B b wide since ov w.heap.size v c mb N D wy)) 16 39 [.is (.pointer (some ⟨B, 0, none⟩)), .is (.pointer (some ⟨B, 0, none⟩)), .is (.pointer (some ⟨B, 2, none⟩)), .is (.map (some mb)), .is (pairV v c), .is (.pointer (some ⟨B, 0, none⟩)), .is (.pointer (some ⟨B, 0, none⟩)), .is (.pointer (some ⟨B, 0, none⟩)), .is (.agg #[.int .i64 (b : Int), .bool wide]), .is (.int .i64 (F : Int)), .is (.pointer (some ⟨B, 0, none⟩)), .is (.pointer (some ⟨B, 0, none⟩)), .is (.pointer (some ⟨B, 2, none⟩)), .is (.map (some mb)), .is (.int .i64 (S0 : Int)), .is (.int .i64 (L : Int))] (by kernel_rfl) (by kernel_rfl) (by rfl) (fun _ _ _ _ hd h => ⟨hd.trans h.1, h.2⟩) (fun vs => by simp only [puts, List.getElem?_toArray, List.getElem?_cons_succ, List.getElem?_cons_zero, Option.bind_some, Act.put, List.setIfInBounds_toArray, List.set_cons_zero, List.set_cons_succ]; exact rfl) (HST.out.1.kept (Below.refl _ _).drew) ?_ ?_
  · refine TellsFrom.cons rfl (fun vs wz hS hd K hK => ?_) ?_
    · try dsimp only at hK ⊢
      try simp only [List.getElem_toArray, List.getElem_cons_succ, List.getElem_cons_zero, Act.put, List.setIfInBounds_toArray, List.set_cons_zero, List.set_cons_succ]
      have s0 := hS.1.cell 0
      have s1 := hS.1.cell 1
      have s2 := hS.1.cell 2
      have p0 := hS.2.2.2.1
      have p1 := hS.2.2.2.2
      have hlenm := HLEN.out _ hS.2.1
      simp at s0 s1 s2
      go_simp
      exact hK.out _ _ hS (Below.refl _ _) rfl
    refine TellsFrom.cons rfl (fun vs wz hS hd K hK => ?_) ?_
    · try dsimp only at hK ⊢
      have h0 : vs 0 = (.pointer (some ⟨B, 0, none⟩)) := hd 0 (by kernel_rfl)
      generalize vs 0 = x0 at *
      subst h0
      try simp only [List.getElem_toArray, List.getElem_cons_succ, List.getElem_cons_zero, Act.put, List.setIfInBounds_toArray, List.set_cons_zero, List.set_cons_succ]
      have s0 := hS.1.cell 0
      have s1 := hS.1.cell 1
      have s2 := hS.1.cell 2
      have p0 := hS.2.2.2.1
      have p1 := hS.2.2.2.2
      have hlenm := HLEN.out _ hS.2.1
      simp at s0 s1 s2
      go_simp
      exact hK.out _ _ hS (Below.refl _ _) rfl
    refine TellsFrom.cons rfl (fun vs wz hS hd K hK => ?_) ?_
    · try dsimp only at hK ⊢
      have h1 : vs 1 = (.pointer (some ⟨B, 0, none⟩)) := hd 1 (by kernel_rfl)
      generalize vs 1 = x1 at *
      subst h1
      try simp only [List.getElem_toArray, List.getElem_cons_succ, List.getElem_cons_zero, Act.put, List.setIfInBounds_toArray, List.set_cons_zero, List.set_cons_succ]
      have s0 := hS.1.cell 0
      have s1 := hS.1.cell 1
      have s2 := hS.1.cell 2
      have p0 := hS.2.2.2.1
      have p1 := hS.2.2.2.2
      have hlenm := HLEN.out _ hS.2.1
      simp at s0 s1 s2
      go_simp
      exact hK.out _ _ hS (Below.refl _ _) rfl
    refine TellsFrom.cons rfl (fun vs wz hS hd K hK => ?_) ?_
    · try dsimp only at hK ⊢
      have h2 : vs 2 = (.pointer (some ⟨B, 2, none⟩)) := hd 2 (by kernel_rfl)
      generalize vs 2 = x2 at *
      subst h2
      try simp only [List.getElem_toArray, List.getElem_cons_succ, List.getElem_cons_zero, Act.put, List.setIfInBounds_toArray, List.set_cons_zero, List.set_cons_succ]
      have s0 := hS.1.cell 0
      have s1 := hS.1.cell 1
      have s2 := hS.1.cell 2
      have p0 := hS.2.2.2.1
      have p1 := hS.2.2.2.2
      have hlenm := HLEN.out _ hS.2.1
      simp at s0 s1 s2
      go_simp
      exact hK.out _ _ hS (Below.refl _ _) rfl
    refine TellsFrom.cons rfl (fun vs wz hS hd K hK => ?_) ?_
    · try dsimp only at hK ⊢
      try simp only [List.getElem_toArray, List.getElem_cons_succ, List.getElem_cons_zero, Act.put, List.setIfInBounds_toArray, List.set_cons_zero, List.set_cons_succ]
      have s0 := hS.1.cell 0
      have s1 := hS.1.cell 1
      have s2 := hS.1.cell 2
      have p0 := hS.2.2.2.1
      have p1 := hS.2.2.2.2
      have hlenm := HLEN.out _ hS.2.1
      simp at s0 s1 s2
      go_simp
      exact hK.out _ _ hS (Below.refl _ _) rfl
    refine TellsFrom.cons rfl (fun vs wz hS hd K hK => ?_) ?_
    · try dsimp only at hK ⊢
      try simp only [List.getElem_toArray, List.getElem_cons_succ, List.getElem_cons_zero, Act.put, List.setIfInBounds_toArray, List.set_cons_zero, List.set_cons_succ]
      have s0 := hS.1.cell 0
      have s1 := hS.1.cell 1
      have s2 := hS.1.cell 2
      have p0 := hS.2.2.2.1
      have p1 := hS.2.2.2.2
      have hlenm := HLEN.out _ hS.2.1
      simp at s0 s1 s2
      go_simp
      exact hK.out _ _ hS (Below.refl _ _) rfl
    refine TellsFrom.cons rfl (fun vs wz hS hd K hK => ?_) ?_
    · try dsimp only at hK ⊢
      have h5 : vs 5 = (.pointer (some ⟨B, 0, none⟩)) := hd 5 (by kernel_rfl)
      generalize vs 5 = x5 at *
      subst h5
      try simp only [List.getElem_toArray, List.getElem_cons_succ, List.getElem_cons_zero, Act.put, List.setIfInBounds_toArray, List.set_cons_zero, List.set_cons_succ]
      have s0 := hS.1.cell 0
      have s1 := hS.1.cell 1
      have s2 := hS.1.cell 2
      have p0 := hS.2.2.2.1
      have p1 := hS.2.2.2.2
      have hlenm := HLEN.out _ hS.2.1
      simp at s0 s1 s2
      go_simp
      exact hK.out _ _ hS (Below.refl _ _) rfl
    refine TellsFrom.cons rfl (fun vs wz hS hd K hK => ?_) ?_
    · try dsimp only at hK ⊢
      have h6 : vs 6 = (.pointer (some ⟨B, 0, none⟩)) := hd 6 (by kernel_rfl)
      generalize vs 6 = x6 at *
      subst h6
      try simp only [List.getElem_toArray, List.getElem_cons_succ, List.getElem_cons_zero, Act.put, List.setIfInBounds_toArray, List.set_cons_zero, List.set_cons_succ]
      have s0 := hS.1.cell 0
      have s1 := hS.1.cell 1
      have s2 := hS.1.cell 2
      have p0 := hS.2.2.2.1
      have p1 := hS.2.2.2.2
      have hlenm := HLEN.out _ hS.2.1
      simp at s0 s1 s2
      go_simp
      exact hK.out _ _ hS (Below.refl _ _) rfl
    refine TellsFrom.cons rfl (fun vs wz hS hd K hK => ?_) ?_
    · try dsimp only at hK ⊢
      have h7 : vs 7 = (.pointer (some ⟨B, 0, none⟩)) := hd 7 (by kernel_rfl)
      generalize vs 7 = x7 at *
      subst h7
      try simp only [List.getElem_toArray, List.getElem_cons_succ, List.getElem_cons_zero, Act.put, List.setIfInBounds_toArray, List.set_cons_zero, List.set_cons_succ]
      have s0 := hS.1.cell 0
      have s1 := hS.1.cell 1
      have s2 := hS.1.cell 2
      have p0 := hS.2.2.2.1
      have p1 := hS.2.2.2.2
      have hlenm := HLEN.out _ hS.2.1
      simp at s0 s1 s2
      go_simp
      exact hK.out _ _ hS (Below.refl _ _) rfl
    refine TellsFrom.cons rfl (fun vs wz hS hd K hK => ?_) ?_
    · try dsimp only at hK ⊢
      have h8 : vs 8 = (.agg #[.int .i64 (b : Int), .bool wide]) := hd 8 (by kernel_rfl)
      generalize vs 8 = x8 at *
      subst h8
      try simp only [List.getElem_toArray, List.getElem_cons_succ, List.getElem_cons_zero, Act.put, List.setIfInBounds_toArray, List.set_cons_zero, List.set_cons_succ]
      go_simp
      refine (HFI.out _).mono ?_
      rintro e v1 ⟨rfl, b1⟩
      exact hK.out _ _ (hS.kept b1) b1 rfl
    refine TellsFrom.cons rfl (fun vs wz hS hd K hK => ?_) ?_
    · try dsimp only at hK ⊢
      try simp only [List.getElem_toArray, List.getElem_cons_succ, List.getElem_cons_zero, Act.put, List.setIfInBounds_toArray, List.set_cons_zero, List.set_cons_succ]
      have s0 := hS.1.cell 0
      have s1 := hS.1.cell 1
      have s2 := hS.1.cell 2
      have p0 := hS.2.2.2.1
      have p1 := hS.2.2.2.2
      have hlenm := HLEN.out _ hS.2.1
      simp at s0 s1 s2
      go_simp
      exact hK.out _ _ hS (Below.refl _ _) rfl
    refine TellsFrom.cons rfl (fun vs wz hS hd K hK => ?_) ?_
    · try dsimp only at hK ⊢
      have h10 : vs 10 = (.pointer (some ⟨B, 0, none⟩)) := hd 10 (by kernel_rfl)
      generalize vs 10 = x10 at *
      subst h10
      try simp only [List.getElem_toArray, List.getElem_cons_succ, List.getElem_cons_zero, Act.put, List.setIfInBounds_toArray, List.set_cons_zero, List.set_cons_succ]
      have s0 := hS.1.cell 0
      have s1 := hS.1.cell 1
      have s2 := hS.1.cell 2
      have p0 := hS.2.2.2.1
      have p1 := hS.2.2.2.2
      have hlenm := HLEN.out _ hS.2.1
      simp at s0 s1 s2
      go_simp
      exact hK.out _ _ hS (Below.refl _ _) rfl
    refine TellsFrom.cons rfl (fun vs wz hS hd K hK => ?_) ?_
    · try dsimp only at hK ⊢
      have h11 : vs 11 = (.pointer (some ⟨B, 0, none⟩)) := hd 11 (by kernel_rfl)
      generalize vs 11 = x11 at *
      subst h11
      try simp only [List.getElem_toArray, List.getElem_cons_succ, List.getElem_cons_zero, Act.put, List.setIfInBounds_toArray, List.set_cons_zero, List.set_cons_succ]
      have s0 := hS.1.cell 0
      have s1 := hS.1.cell 1
      have s2 := hS.1.cell 2
      have p0 := hS.2.2.2.1
      have p1 := hS.2.2.2.2
      have hlenm := HLEN.out _ hS.2.1
      simp at s0 s1 s2
      go_simp
      exact hK.out _ _ hS (Below.refl _ _) rfl
    refine TellsFrom.cons rfl (fun vs wz hS hd K hK => ?_) ?_
    · try dsimp only at hK ⊢
      have h12 : vs 12 = (.pointer (some ⟨B, 2, none⟩)) := hd 12 (by kernel_rfl)
      generalize vs 12 = x12 at *
      subst h12
      try simp only [List.getElem_toArray, List.getElem_cons_succ, List.getElem_cons_zero, Act.put, List.setIfInBounds_toArray, List.set_cons_zero, List.set_cons_succ]
      have s0 := hS.1.cell 0
      have s1 := hS.1.cell 1
      have s2 := hS.1.cell 2
      have p0 := hS.2.2.2.1
      have p1 := hS.2.2.2.2
      have hlenm := HLEN.out _ hS.2.1
      simp at s0 s1 s2
      go_simp
      exact hK.out _ _ hS (Below.refl _ _) rfl
    refine TellsFrom.cons rfl (fun vs wz hS hd K hK => ?_) ?_
    · try dsimp only at hK ⊢
      have h13 : vs 13 = (.map (some mb)) := hd 13 (by kernel_rfl)
      generalize vs 13 = x13 at *
      subst h13
      try simp only [List.getElem_toArray, List.getElem_cons_succ, List.getElem_cons_zero, Act.put, List.setIfInBounds_toArray, List.set_cons_zero, List.set_cons_succ]
      have s0 := hS.1.cell 0
      have s1 := hS.1.cell 1
      have s2 := hS.1.cell 2
      have p0 := hS.2.2.2.1
      have p1 := hS.2.2.2.2
      have hlenm := HLEN.out _ hS.2.1
      simp at s0 s1 s2
      go_simp
      exact hK.out _ _ hS (Below.refl _ _) rfl
    refine TellsFrom.cons rfl (fun vs wz hS hd K hK => ?_) ?_
    · try dsimp only at hK ⊢
      have h9 : vs 9 = (.int .i64 (F : Int)) := hd 9 (by kernel_rfl)
      generalize vs 9 = x9 at *
      subst h9
      have h14 : vs 14 = (.int .i64 (S0 : Int)) := hd 14 (by kernel_rfl)
      generalize vs 14 = x14 at *
      subst h14
      try simp only [List.getElem_toArray, List.getElem_cons_succ, List.getElem_cons_zero, Act.put, List.setIfInBounds_toArray, List.set_cons_zero, List.set_cons_succ]
      have s0 := hS.1.cell 0
      have s1 := hS.1.cell 1
      have s2 := hS.1.cell 2
      have p0 := hS.2.2.2.1
      have p1 := hS.2.2.2.2
      have hlenm := HLEN.out _ hS.2.1
      simp at s0 s1 s2
      go_simp
      exact hK.out _ _ hS (Below.refl _ _) rfl
    exact TellsFrom.nil
  · intro vs wz hS hd
    try dsimp only
    have h3 : vs 3 = .map (some mb) := hd 3 (by omega)
    have h4 : vs 4 = pairV v c := hd 4 (by omega)
    have h15 : vs 15 = .int .i64 (L : Int) := hd 15 (by omega)
    clear hd
    generalize vs 0 = y0 at *
    generalize vs 1 = y1 at *
    generalize vs 2 = y2 at *
    generalize vs 3 = y3 at *
    generalize vs 4 = y4 at *
    generalize vs 5 = y5 at *
    generalize vs 6 = y6 at *
    generalize vs 7 = y7 at *
    generalize vs 8 = y8 at *
    generalize vs 9 = y9 at *
    generalize vs 10 = y10 at *
    generalize vs 11 = y11 at *
    generalize vs 12 = y12 at *
    generalize vs 13 = y13 at *
    generalize vs 14 = y14 at *
    generalize vs 15 = y15 at *
    subst h3
    subst h4
    subst h15
    have HS2 : Hid (WrM w B b wide since ov w.heap.size v c mb N D wz) := hS
    clear hS
    obtain ⟨w3, hup, ⟨D2, hm3, ht3, hs3⟩, hg3⟩ := HUP.out wz HS2.out.2.1
    have HR3 : Hid (Wr w3 B b wide (.map (some mb)) since ov) := HS2.out.1.same (hg3.block B HS2.out.1.lt (fun e => hBm (by cases e; rfl)))
    have HM3 : Hid (MapAt w3 mb (N + 1) D2) := hm3
    have HT3 : Hid (TabIs D2 b (l ++ [z ++ Lz.one c])) := ht3
    have HG3 : Hid (wz.grownBy w3 (some mb)) := hg3
    obtain ⟨S1, hS1⟩ : ∃ S1 : Nat, S1 = S0 + 1 := ⟨_, rfl⟩
    obtain ⟨L1, hL1⟩ : ∃ L1 : Nat, L1 = L + 1 := ⟨_, rfl⟩
    have HLEN2 : Hid (∀ wy : World, MapAt wy mb (N + 1) D2 → (Builtin.len_ #[60] 3 #[.map (some mb)]).run Try.prog wy = .ok (.int .i64 (S1 : Int)) wy) := fun wy hm => by rw [hS1, ← hs3]; exact hm.len Try.underlying60 _
    clear hm3 ht3 hs3 hg3 HUP HLEN
    refine wpAnyH_ready (rs := [16]) (by kernel_rfl) (by simp) ?_
    refine AllReadyH.cons rfl (fun K hK => ?_) AllReadyH.nil
    have hup2 : Sem.run Try.prog (Instr.mapUpdate 60 (.map (some mb)) (.agg #[.int .i64 (v : Int), .int .u8 (c : Int)]) (.int .i64 (L : Int))) wz = .ok () w3 := hup
    unfold pairV
    go_simp
    refine hK.out _ _ trivial (fun _ => ?_)
    clear hK K hup hup2
    refine wpAnyH_done (by kernel_rfl) ?_ _
    try simp only [List.getElem_toArray, List.getElem_cons_succ, List.getElem_cons_zero, Act.put, List.setIfInBounds_toArray, List.set_cons_zero, List.set_cons_succ]
    have eA2 : (F : Int) + (S1 : Int) = (L1 : Int) := by omega
    have wA2 : IntKind.i64.wrap (L1 : Int) = (L1 : Int) := wrap_i64_nat L1 (by omega)
    obtain ⟨r, hr⟩ : ∃ r : Bool, r = ((L1 : Int) == (U : Int)) := ⟨_, rfl⟩
    have hrv : r = false := by rw [hr]; rw [beq_eq_false_iff_ne]; omega
    have HRV : Hid (r = false) := hrv
    have hr2 : ((L1 : Int) == (U : Int)) = r := hr.symm
    clear hS1 hL1 hr hrv hLF eA wA
    go_wp2_with fail
    refine wp_region_told (S := (fun wy => WrT w3 B b wide (.map (some mb)) since ov wy ∧ MapAt wy mb (N + 1) D2)) 17 39 [.is (.pointer (some ⟨B, 0, none⟩)), .is (.pointer (some ⟨B, 0, none⟩)), .is (.pointer (some ⟨B, 0, none⟩)), .is (.agg #[.int .i64 (b : Int), .bool wide]), .is (.int .i64 (F : Int)), .is (.pointer (some ⟨B, 0, none⟩)), .is (.pointer (some ⟨B, 0, none⟩)), .is (.pointer (some ⟨B, 2, none⟩)), .is (.map (some mb)), .is (.int .i64 (S1 : Int)), .is (.int .i64 (L1 : Int)), .is (.pointer (some ⟨B, 0, none⟩)), .is (.pointer (some ⟨B, 0, none⟩)), .is (.pointer (some ⟨B, 0, none⟩)), .is (.agg #[.int .i64 (b : Int), .bool wide]), .is (.int .i64 (U : Int)), .is (.bool r)] (by kernel_rfl) (by kernel_rfl) (by rfl) (fun _ _ _ _ hd h => ⟨hd.trans h.1, h.2⟩) (fun vs => by simp only [puts, List.getElem?_toArray, List.getElem?_cons_succ, List.getElem?_cons_zero, Option.bind_some, Act.put, List.setIfInBounds_toArray, List.set_cons_zero, List.set_cons_succ]; exact rfl) ⟨WrT.new HR3.out, HM3.out⟩ ?_ ?_
    · refine TellsFrom.cons rfl (fun vs wz hS hd K hK => ?_) ?_
      · try dsimp only at hK ⊢
        try simp only [List.getElem_toArray, List.getElem_cons_succ, List.getElem_cons_zero, Act.put, List.setIfInBounds_toArray, List.set_cons_zero, List.set_cons_succ]
        have s0 := hS.1.1.cell 0
        have s1 := hS.1.1.cell 1
        have s2 := hS.1.1.cell 2
        have hlenm := HLEN2.out _ hS.2
        simp at s0 s1 s2
        go_simp
        exact hK.out _ _ hS (Below.refl _ _) rfl
      refine TellsFrom.cons rfl (fun vs wz hS hd K hK => ?_) ?_
      · try dsimp only at hK ⊢
        have h0 : vs 0 = (.pointer (some ⟨B, 0, none⟩)) := hd 0 (by kernel_rfl)
        generalize vs 0 = x0 at *
        subst h0
        try simp only [List.getElem_toArray, List.getElem_cons_succ, List.getElem_cons_zero, Act.put, List.setIfInBounds_toArray, List.set_cons_zero, List.set_cons_succ]
        have s0 := hS.1.1.cell 0
        have s1 := hS.1.1.cell 1
        have s2 := hS.1.1.cell 2
        have hlenm := HLEN2.out _ hS.2
        simp at s0 s1 s2
        go_simp
        exact hK.out _ _ hS (Below.refl _ _) rfl
      refine TellsFrom.cons rfl (fun vs wz hS hd K hK => ?_) ?_
      · try dsimp only at hK ⊢
        have h1 : vs 1 = (.pointer (some ⟨B, 0, none⟩)) := hd 1 (by kernel_rfl)
        generalize vs 1 = x1 at *
        subst h1
        try simp only [List.getElem_toArray, List.getElem_cons_succ, List.getElem_cons_zero, Act.put, List.setIfInBounds_toArray, List.set_cons_zero, List.set_cons_succ]
        have s0 := hS.1.1.cell 0
        have s1 := hS.1.1.cell 1
        have s2 := hS.1.1.cell 2
        have hlenm := HLEN2.out _ hS.2
        simp at s0 s1 s2
        go_simp
        exact hK.out _ _ hS (Below.refl _ _) rfl
      refine TellsFrom.cons rfl (fun vs wz hS hd K hK => ?_) ?_
      · try dsimp only at hK ⊢
        have h2 : vs 2 = (.pointer (some ⟨B, 0, none⟩)) := hd 2 (by kernel_rfl)
        generalize vs 2 = x2 at *
        subst h2
        try simp only [List.getElem_toArray, List.getElem_cons_succ, List.getElem_cons_zero, Act.put, List.setIfInBounds_toArray, List.set_cons_zero, List.set_cons_succ]
        have s0 := hS.1.1.cell 0
        have s1 := hS.1.1.cell 1
        have s2 := hS.1.1.cell 2
        have hlenm := HLEN2.out _ hS.2
        simp at s0 s1 s2
        go_simp
        exact hK.out _ _ hS (Below.refl _ _) rfl
      refine TellsFrom.cons rfl (fun vs wz hS hd K hK => ?_) ?_
      · try dsimp only at hK ⊢
        have h3 : vs 3 = (.agg #[.int .i64 (b : Int), .bool wide]) := hd 3 (by kernel_rfl)
        generalize vs 3 = x3 at *
        subst h3
        try simp only [List.getElem_toArray, List.getElem_cons_succ, List.getElem_cons_zero, Act.put, List.setIfInBounds_toArray, List.set_cons_zero, List.set_cons_succ]
        go_simp
        refine (HFI.out _).mono ?_
        rintro e v1 ⟨rfl, b1⟩
        exact hK.out _ _ ⟨hS.1.kept b1, map_same hS.2 (b1.block _ hS.2.lt)⟩ b1 rfl
      refine TellsFrom.cons rfl (fun vs wz hS hd K hK => ?_) ?_
      · try dsimp only at hK ⊢
        try simp only [List.getElem_toArray, List.getElem_cons_succ, List.getElem_cons_zero, Act.put, List.setIfInBounds_toArray, List.set_cons_zero, List.set_cons_succ]
        have s0 := hS.1.1.cell 0
        have s1 := hS.1.1.cell 1
        have s2 := hS.1.1.cell 2
        have hlenm := HLEN2.out _ hS.2
        simp at s0 s1 s2
        go_simp
        exact hK.out _ _ hS (Below.refl _ _) rfl
      refine TellsFrom.cons rfl (fun vs wz hS hd K hK => ?_) ?_
      · try dsimp only at hK ⊢
        have h5 : vs 5 = (.pointer (some ⟨B, 0, none⟩)) := hd 5 (by kernel_rfl)
        generalize vs 5 = x5 at *
        subst h5
        try simp only [List.getElem_toArray, List.getElem_cons_succ, List.getElem_cons_zero, Act.put, List.setIfInBounds_toArray, List.set_cons_zero, List.set_cons_succ]
        have s0 := hS.1.1.cell 0
        have s1 := hS.1.1.cell 1
        have s2 := hS.1.1.cell 2
        have hlenm := HLEN2.out _ hS.2
        simp at s0 s1 s2
        go_simp
        exact hK.out _ _ hS (Below.refl _ _) rfl
      refine TellsFrom.cons rfl (fun vs wz hS hd K hK => ?_) ?_
      · try dsimp only at hK ⊢
        have h6 : vs 6 = (.pointer (some ⟨B, 0, none⟩)) := hd 6 (by kernel_rfl)
        generalize vs 6 = x6 at *
        subst h6
        try simp only [List.getElem_toArray, List.getElem_cons_succ, List.getElem_cons_zero, Act.put, List.setIfInBounds_toArray, List.set_cons_zero, List.set_cons_succ]
        have s0 := hS.1.1.cell 0
        have s1 := hS.1.1.cell 1
        have s2 := hS.1.1.cell 2
        have hlenm := HLEN2.out _ hS.2
        simp at s0 s1 s2
        go_simp
        exact hK.out _ _ hS (Below.refl _ _) rfl
      refine TellsFrom.cons rfl (fun vs wz hS hd K hK => ?_) ?_
      · try dsimp only at hK ⊢
        have h7 : vs 7 = (.pointer (some ⟨B, 2, none⟩)) := hd 7 (by kernel_rfl)
        generalize vs 7 = x7 at *
        subst h7
        try simp only [List.getElem_toArray, List.getElem_cons_succ, List.getElem_cons_zero, Act.put, List.setIfInBounds_toArray, List.set_cons_zero, List.set_cons_succ]
        have s0 := hS.1.1.cell 0
        have s1 := hS.1.1.cell 1
        have s2 := hS.1.1.cell 2
        have hlenm := HLEN2.out _ hS.2
        simp at s0 s1 s2
        go_simp
        exact hK.out _ _ hS (Below.refl _ _) rfl
      refine TellsFrom.cons rfl (fun vs wz hS hd K hK => ?_) ?_
      · try dsimp only at hK ⊢
        have h8 : vs 8 = (.map (some mb)) := hd 8 (by kernel_rfl)
        generalize vs 8 = x8 at *
        subst h8
        try simp only [List.getElem_toArray, List.getElem_cons_succ, List.getElem_cons_zero, Act.put, List.setIfInBounds_toArray, List.set_cons_zero, List.set_cons_succ]
        have s0 := hS.1.1.cell 0
        have s1 := hS.1.1.cell 1
        have s2 := hS.1.1.cell 2
        have hlenm := HLEN2.out _ hS.2
        simp at s0 s1 s2
        go_simp
        exact hK.out _ _ hS (Below.refl _ _) rfl
      refine TellsFrom.cons rfl (fun vs wz hS hd K hK => ?_) ?_
      · try dsimp only at hK ⊢
        have h4 : vs 4 = (.int .i64 (F : Int)) := hd 4 (by kernel_rfl)
        generalize vs 4 = x4 at *
        subst h4
        have h9 : vs 9 = (.int .i64 (S1 : Int)) := hd 9 (by kernel_rfl)
        generalize vs 9 = x9 at *
        subst h9
        try simp only [List.getElem_toArray, List.getElem_cons_succ, List.getElem_cons_zero, Act.put, List.setIfInBounds_toArray, List.set_cons_zero, List.set_cons_succ]
        have s0 := hS.1.1.cell 0
        have s1 := hS.1.1.cell 1
        have s2 := hS.1.1.cell 2
        have hlenm := HLEN2.out _ hS.2
        simp at s0 s1 s2
        go_simp
        exact hK.out _ _ hS (Below.refl _ _) rfl
      refine TellsFrom.cons rfl (fun vs wz hS hd K hK => ?_) ?_
      · try dsimp only at hK ⊢
        try simp only [List.getElem_toArray, List.getElem_cons_succ, List.getElem_cons_zero, Act.put, List.setIfInBounds_toArray, List.set_cons_zero, List.set_cons_succ]
        have s0 := hS.1.1.cell 0
        have s1 := hS.1.1.cell 1
        have s2 := hS.1.1.cell 2
        have hlenm := HLEN2.out _ hS.2
        simp at s0 s1 s2
        go_simp
        exact hK.out _ _ hS (Below.refl _ _) rfl
      refine TellsFrom.cons rfl (fun vs wz hS hd K hK => ?_) ?_
      · try dsimp only at hK ⊢
        have h11 : vs 11 = (.pointer (some ⟨B, 0, none⟩)) := hd 11 (by kernel_rfl)
        generalize vs 11 = x11 at *
        subst h11
        try simp only [List.getElem_toArray, List.getElem_cons_succ, List.getElem_cons_zero, Act.put, List.setIfInBounds_toArray, List.set_cons_zero, List.set_cons_succ]
        have s0 := hS.1.1.cell 0
        have s1 := hS.1.1.cell 1
        have s2 := hS.1.1.cell 2
        have hlenm := HLEN2.out _ hS.2
        simp at s0 s1 s2
        go_simp
        exact hK.out _ _ hS (Below.refl _ _) rfl
      refine TellsFrom.cons rfl (fun vs wz hS hd K hK => ?_) ?_
      · try dsimp only at hK ⊢
        have h12 : vs 12 = (.pointer (some ⟨B, 0, none⟩)) := hd 12 (by kernel_rfl)
        generalize vs 12 = x12 at *
        subst h12
        try simp only [List.getElem_toArray, List.getElem_cons_succ, List.getElem_cons_zero, Act.put, List.setIfInBounds_toArray, List.set_cons_zero, List.set_cons_succ]
        have s0 := hS.1.1.cell 0
        have s1 := hS.1.1.cell 1
        have s2 := hS.1.1.cell 2
        have hlenm := HLEN2.out _ hS.2
        simp at s0 s1 s2
        go_simp
        exact hK.out _ _ hS (Below.refl _ _) rfl
      refine TellsFrom.cons rfl (fun vs wz hS hd K hK => ?_) ?_
      · try dsimp only at hK ⊢
        have h13 : vs 13 = (.pointer (some ⟨B, 0, none⟩)) := hd 13 (by kernel_rfl)
        generalize vs 13 = x13 at *
        subst h13
        try simp only [List.getElem_toArray, List.getElem_cons_succ, List.getElem_cons_zero, Act.put, List.setIfInBounds_toArray, List.set_cons_zero, List.set_cons_succ]
        have s0 := hS.1.1.cell 0
        have s1 := hS.1.1.cell 1
        have s2 := hS.1.1.cell 2
        have hlenm := HLEN2.out _ hS.2
        simp at s0 s1 s2
        go_simp
        exact hK.out _ _ hS (Below.refl _ _) rfl
      refine TellsFrom.cons rfl (fun vs wz hS hd K hK => ?_) ?_
      · try dsimp only at hK ⊢
        have h14 : vs 14 = (.agg #[.int .i64 (b : Int), .bool wide]) := hd 14 (by kernel_rfl)
        generalize vs 14 = x14 at *
        subst h14
        try simp only [List.getElem_toArray, List.getElem_cons_succ, List.getElem_cons_zero, Act.put, List.setIfInBounds_toArray, List.set_cons_zero, List.set_cons_succ]
        go_simp
        refine (HFU.out _).mono ?_
        rintro e v1 ⟨rfl, b1⟩
        exact hK.out _ _ ⟨hS.1.kept b1, map_same hS.2 (b1.block _ hS.2.lt)⟩ b1 rfl
      refine TellsFrom.cons rfl (fun vs wz hS hd K hK => ?_) ?_
      · try dsimp only at hK ⊢
        have h10 : vs 10 = (.int .i64 (L1 : Int)) := hd 10 (by kernel_rfl)
        generalize vs 10 = x10 at *
        subst h10
        have h15 : vs 15 = (.int .i64 (U : Int)) := hd 15 (by kernel_rfl)
        generalize vs 15 = x15 at *
        subst h15
        try simp only [List.getElem_toArray, List.getElem_cons_succ, List.getElem_cons_zero, Act.put, List.setIfInBounds_toArray, List.set_cons_zero, List.set_cons_succ]
        have s0 := hS.1.1.cell 0
        have s1 := hS.1.1.cell 1
        have s2 := hS.1.1.cell 2
        have hlenm := HLEN2.out _ hS.2
        simp at s0 s1 s2
        go_simp
        exact hK.out _ _ hS (Below.refl _ _) rfl
      exact TellsFrom.nil
    · intro vs wz hS hd
      try dsimp only
      have h16 : vs 16 = .bool r := hd 16 (by omega)
      clear hd
      generalize vs 0 = y0 at *
      generalize vs 1 = y1 at *
      generalize vs 2 = y2 at *
      generalize vs 3 = y3 at *
      generalize vs 4 = y4 at *
      generalize vs 5 = y5 at *
      generalize vs 6 = y6 at *
      generalize vs 7 = y7 at *
      generalize vs 8 = y8 at *
      generalize vs 9 = y9 at *
      generalize vs 10 = y10 at *
      generalize vs 11 = y11 at *
      generalize vs 12 = y12 at *
      generalize vs 13 = y13 at *
      generalize vs 14 = y14 at *
      generalize vs 15 = y15 at *
      generalize vs 16 = y16 at *
      subst h16
      have HS5 : Hid (WrT w3 B b wide (.map (some mb)) since ov wz ∧ MapAt wz mb (N + 1) D2) := hS
      clear hS
      refine wpAnyH_done (by kernel_rfl) ?_ _
      try simp only [List.getElem_toArray, List.getElem_cons_succ, List.getElem_cons_zero, Act.put, List.setIfInBounds_toArray, List.set_cons_zero, List.set_cons_succ]
      have hrv := HRV.out
      subst hrv
      have hb5 := HS5.out.1.2
      have hz2 := HS2.out.2.2.1
      have hs2 := hz2.size
      have hs3 := HG3.out.size
      have hown5 : OwnP wz lo ov n out := ownsRow_besides HO.out (fun k hk => by
        have hkl := (World.ownsRow.lt HO.out k hk).2
        exact (hb5.block k (by omega)).trans ((HG3.out.block k (by omega) (fun e => hom (by rw [hk]; exact e))).trans (hz2.block k hkl)))
      have hbel5 : Below lo w wz := ((hz2.mono hlw).grown HG3.out (by omega) (fun k hk => by cases hk; exact hlm)).trans (hb5.mono (by omega))
      have HFIN : Hid (LrAdd B b since n lo mb N wide ov (l ++ [z ++ Lz.one c]) out w wz) := ⟨D2, HS5.out.1.1, hown5, HS5.out.2, HT3.out, hbel5⟩
      clear hb5 hz2 hs2 hs3 hown5 hbel5
      go_wp2_with fail
      go_end0
      exact ⟨rfl, HFIN.out⟩
end Go.Proofs.Ytjfihmpnbblomaa

/- The writer of LZW: learn, where all is forgotten. -/
namespace Go.Proofs.Ytjfihmpnbblomaa
open Go.RowKit Go.Maps

set_option linter.unusedSimpArgs false in
set_option linter.unusedVariables false in
set_option maxHeartbeats 4000000 in
set_option maxRecDepth 20000 in
theorem wrLearn_full (B b since n lo mb N v c : Nat) (wide : Bool) (ov : Value) (D : DataW Unit) (l : List ByteArray) (z : ByteArray) (out : List (Int × Int)) (C : Int × Int) (w : World) (hb : b ≤ 8) (h : Wr w B b wide (.map (some mb)) since ov) (ho : OwnP w lo ov n out) (hm : MapAt w mb N D) (tb : TabIs D b l) (g : Lq.Inv b l) (hlB : lo ≤ B) (hlm : lo ≤ mb) (hn : n ≤ 100000) (hN : N ≤ 5000)
    (hv : Lp.num l z = (v : Int)) (hz : z.size = 1 → Lp.byte z < 2 ^ b) (hz1 : 1 ≤ z.size) (hf : Lp.find l (z ++ Lz.one c) < 0) (hc : c < 256) (hfull : l.length + 1 = Lp.full wide) (hsn : since = l.length - (2 ^ b + 2) + 1) (hC : C = Lp.code b wide ((2 ^ b : Nat) : Int) (l.length + 1)) :
    Calls Try.prog 41 #[.pointer (some ⟨B, 0, none⟩), .agg #[.int .i64 (v : Int), .int .u8 (c : Int)]] w fun e w' => e = .returned (.tuple #[]) ∧ LrFull B b n lo wide (out ++ [C]) w w' := by
  have hpw := Lz.pow_le hb
  have hfb := Lp.full_bd wide
  have HFI : Hid (∀ w', Calls Try.prog 58 #[.agg #[.int .i64 (b : Int), .bool wide]] w' fun e w'' => e = .returned (.int .i64 ((2 ^ b + 2 : Nat) : Int)) ∧ Below w'.heap.size w' w'') := fun w' => lzFirst_any b hb wide w'
  have HFU : Hid (∀ w', Calls Try.prog 60 #[.agg #[.int .i64 (b : Int), .bool wide]] w' fun e w'' => e = .returned (.int .i64 (Lp.full wide : Int)) ∧ Below w'.heap.size w' w'') := fun w' => lzFull_any b wide w'
  obtain ⟨hvl, -⟩ := Lq.at_num g hv hz
  have htsz := tb.size_
  obtain ⟨F, hF⟩ : ∃ F : Nat, F = 2 ^ b + 2 := ⟨_, rfl⟩
  rw [← hF] at HFI htsz
  obtain ⟨U, hU⟩ : ∃ U : Nat, U = Lp.full wide := ⟨_, rfl⟩
  rw [← hU] at HFU hfb
  obtain ⟨S0, hS0⟩ : ∃ S0 : Nat, S0 = size D := ⟨_, rfl⟩
  rw [← hS0] at htsz
  obtain ⟨L, hL⟩ : ∃ L : Nat, L = l.length := ⟨_, rfl⟩
  have eA : (F : Int) + (S0 : Int) = (L : Int) := by omega
  have hLb : L ≤ 4095 := by omega
  have wA : IntKind.i64.wrap (L : Int) = (L : Int) := wrap_i64_nat L (by omega)
  have hLF : L + 1 = U := by omega
  have HLEN : Hid (∀ wy : World, MapAt wy mb N D → (Builtin.len_ #[60] 3 #[.map (some mb)]).run Try.prog wy = .ok (.int .i64 (S0 : Int)) wy) := fun wy hm => by rw [hS0]; exact hm.len Try.underlying60 _
  have hlk : Lq.look l v c < 0 := by rw [Lq.look_num c g hv hz hz1, Lp.num_two rfl hz1]; exact hf
  have HUP : Hid (∀ wy : World, MapAt wy mb N D → ∃ w', (Instr.mapUpdate 60 (.map (some mb)) (pairV v c) (.int .i64 (L : Int))).run Try.prog wy = .ok () w' ∧ (∃ D', MapAt w' mb (N + 1) D' ∧ TabIs D' b (l ++ [z ++ Lz.one c]) ∧ size D' = S0 + 1) ∧ wy.grownBy w' (some mb)) := fun wy hmy => by
    obtain ⟨w', h1, h2, h3⟩ := hmy.update key_pair Try.underlying60 (by unfold maxLen; omega) (pairKey_of v c (by omega) hc) (plainElem_int (H := Unit) Try.underlying3 (WalkArith.wf_i64 (n := (L : Int)) (by omega)))
    have ht := tb.more (hmy.tidy key_pair) g hv hz hz1 hf hc (by omega)
    rw [← hL] at ht
    refine ⟨w', h1, ⟨_, h2, ht, ?_⟩, h3⟩
    have := ht.size_
    rw [List.length_append, ← hL, ← hF] at this
    simp at this
    omega
  have hBm := map_writer hm h
  have hoB := h.apart ho (by decide)
  have hom := map_apart hm ho
  have hBlt := h.lt
  have HO : Hid (OwnP w lo ov n out) := ho
  have hlw : lo ≤ w.heap.size := by omega
  have HST : Hid (WrM w B b wide since ov w.heap.size v c mb N D (w.alloc (.cells #[.int .i64 (v : Int), .int .u8 (c : Int)] 69)) ∧ OwnP (w.alloc (.cells #[.int .i64 (v : Int), .int .u8 (c : Int)] 69)) lo ov n out) := by
    have hba : Below w.heap.size w (w.alloc (.cells #[.int .i64 (v : Int), .int .u8 (c : Int)] 69)) := (Below.refl _ _).alloc (Nat.le_refl _) _
    exact ⟨⟨h.same (hba.block _ h.lt), hm.alloc _, hba, by simp, by simp⟩, World.ownsRow.alloc (show World.ownsRow _ _ _ _ _ _ _ from ho) _⟩
  have hglo := g.lo
  have HFO : Hid (∀ w' : World, Wr w' B b wide (.map (some mb)) since ov → OwnP w' lo ov n out → lo ≤ w'.heap.size → Calls Try.prog 38 #[.pointer (some ⟨B, 0, none⟩)] w' fun e w'' => e = .returned (.tuple #[]) ∧ WrNew B b n lo wide ov (out ++ [C]) w' w'') := fun w' h1 h2 h3 => wrForget B b since n lo wide _ ov out C w' hb h1 h2 h3 hn (by omega) (by
    rw [hC]
    unfold Lp.code Lp.known
    rw [if_neg (by omega), show l.length + 1 - 1 = 2 ^ b + 2 + (since - 1) by omega])
  clear hC hsn hfull
  clear h ho hm tb hv hz hf hlk hvl hS0 hU g hF hL htsz
  go_enter Try.func41, Try.ntmps41
  go_wp2_with fail
  obtain ⟨w1, hw1⟩ : ∃ w1, w1 = w.alloc (.cells #[.int .i64 (v : Int), .int .u8 (c : Int)] 69) := ⟨_, rfl⟩
  rw [← hw1] at HST ⊢
  clear hw1
  have hpb : w.heap.size ≠ B := by omega
  refine wp_region_told (S := (fun wy => WrM w B b wide since ov w.heap.size v c mb N D wy)) 16 39 [.is (.pointer (some ⟨B, 0, none⟩)), .is (.pointer (some ⟨B, 0, none⟩)), .is (.pointer (some ⟨B, 2, none⟩)), .is (.map (some mb)), .is (pairV v c), .is (.pointer (some ⟨B, 0, none⟩)), .is (.pointer (some ⟨B, 0, none⟩)), .is (.pointer (some ⟨B, 0, none⟩)), .is (.agg #[.int .i64 (b : Int), .bool wide]), .is (.int .i64 (F : Int)), .is (.pointer (some ⟨B, 0, none⟩)), .is (.pointer (some ⟨B, 0, none⟩)), .is (.pointer (some ⟨B, 2, none⟩)), .is (.map (some mb)), .is (.int .i64 (S0 : Int)), .is (.int .i64 (L : Int))] (by kernel_rfl) (by kernel_rfl) (by rfl) (fun _ _ _ _ hd h => ⟨hd.trans h.1, h.2⟩) (fun vs => by simp only [puts, List.getElem?_toArray, List.getElem?_cons_succ, List.getElem?_cons_zero, Option.bind_some, Act.put, List.setIfInBounds_toArray, List.set_cons_zero, List.set_cons_succ]; exact rfl) (HST.out.1.kept (Below.refl _ _).drew) ?_ ?_
  · refine TellsFrom.cons rfl (fun vs wz hS hd K hK => ?_) ?_
    · try dsimp only at hK ⊢
      try simp only [List.getElem_toArray, List.getElem_cons_succ, List.getElem_cons_zero, Act.put, List.setIfInBounds_toArray, List.set_cons_zero, List.set_cons_succ]
      have s0 := hS.1.cell 0
      have s1 := hS.1.cell 1
      have s2 := hS.1.cell 2
      have p0 := hS.2.2.2.1
      have p1 := hS.2.2.2.2
      have hlenm := HLEN.out _ hS.2.1
      simp at s0 s1 s2
      go_simp
      exact hK.out _ _ hS (Below.refl _ _) rfl
    refine TellsFrom.cons rfl (fun vs wz hS hd K hK => ?_) ?_
    · try dsimp only at hK ⊢
      have h0 : vs 0 = (.pointer (some ⟨B, 0, none⟩)) := hd 0 (by kernel_rfl)
      generalize vs 0 = x0 at *
      subst h0
      try simp only [List.getElem_toArray, List.getElem_cons_succ, List.getElem_cons_zero, Act.put, List.setIfInBounds_toArray, List.set_cons_zero, List.set_cons_succ]
      have s0 := hS.1.cell 0
      have s1 := hS.1.cell 1
      have s2 := hS.1.cell 2
      have p0 := hS.2.2.2.1
      have p1 := hS.2.2.2.2
      have hlenm := HLEN.out _ hS.2.1
      simp at s0 s1 s2
      go_simp
      exact hK.out _ _ hS (Below.refl _ _) rfl
    refine TellsFrom.cons rfl (fun vs wz hS hd K hK => ?_) ?_
    · try dsimp only at hK ⊢
      have h1 : vs 1 = (.pointer (some ⟨B, 0, none⟩)) := hd 1 (by kernel_rfl)
      generalize vs 1 = x1 at *
      subst h1
      try simp only [List.getElem_toArray, List.getElem_cons_succ, List.getElem_cons_zero, Act.put, List.setIfInBounds_toArray, List.set_cons_zero, List.set_cons_succ]
      have s0 := hS.1.cell 0
      have s1 := hS.1.cell 1
      have s2 := hS.1.cell 2
      have p0 := hS.2.2.2.1
      have p1 := hS.2.2.2.2
      have hlenm := HLEN.out _ hS.2.1
      simp at s0 s1 s2
      go_simp
      exact hK.out _ _ hS (Below.refl _ _) rfl
    refine TellsFrom.cons rfl (fun vs wz hS hd K hK => ?_) ?_
    · try dsimp only at hK ⊢
      have h2 : vs 2 = (.pointer (some ⟨B, 2, none⟩)) := hd 2 (by kernel_rfl)
      generalize vs 2 = x2 at *
      subst h2
      try simp only [List.getElem_toArray, List.getElem_cons_succ, List.getElem_cons_zero, Act.put, List.setIfInBounds_toArray, List.set_cons_zero, List.set_cons_succ]
      have s0 := hS.1.cell 0
      have s1 := hS.1.cell 1
      have s2 := hS.1.cell 2
      have p0 := hS.2.2.2.1
      have p1 := hS.2.2.2.2
      have hlenm := HLEN.out _ hS.2.1
      simp at s0 s1 s2
      go_simp
      exact hK.out _ _ hS (Below.refl _ _) rfl
    refine TellsFrom.cons rfl (fun vs wz hS hd K hK => ?_) ?_
    · try dsimp only at hK ⊢
      try simp only [List.getElem_toArray, List.getElem_cons_succ, List.getElem_cons_zero, Act.put, List.setIfInBounds_toArray, List.set_cons_zero, List.set_cons_succ]
      have s0 := hS.1.cell 0
      have s1 := hS.1.cell 1
      have s2 := hS.1.cell 2
      have p0 := hS.2.2.2.1
      have p1 := hS.2.2.2.2
      have hlenm := HLEN.out _ hS.2.1
      simp at s0 s1 s2
      go_simp
      exact hK.out _ _ hS (Below.refl _ _) rfl
    refine TellsFrom.cons rfl (fun vs wz hS hd K hK => ?_) ?_
    · try dsimp only at hK ⊢
      try simp only [List.getElem_toArray, List.getElem_cons_succ, List.getElem_cons_zero, Act.put, List.setIfInBounds_toArray, List.set_cons_zero, List.set_cons_succ]
      have s0 := hS.1.cell 0
      have s1 := hS.1.cell 1
      have s2 := hS.1.cell 2
      have p0 := hS.2.2.2.1
      have p1 := hS.2.2.2.2
      have hlenm := HLEN.out _ hS.2.1
      simp at s0 s1 s2
      go_simp
      exact hK.out _ _ hS (Below.refl _ _) rfl
    refine TellsFrom.cons rfl (fun vs wz hS hd K hK => ?_) ?_
    · try dsimp only at hK ⊢
      have h5 : vs 5 = (.pointer (some ⟨B, 0, none⟩)) := hd 5 (by kernel_rfl)
      generalize vs 5 = x5 at *
      subst h5
      try simp only [List.getElem_toArray, List.getElem_cons_succ, List.getElem_cons_zero, Act.put, List.setIfInBounds_toArray, List.set_cons_zero, List.set_cons_succ]
      have s0 := hS.1.cell 0
      have s1 := hS.1.cell 1
      have s2 := hS.1.cell 2
      have p0 := hS.2.2.2.1
      have p1 := hS.2.2.2.2
      have hlenm := HLEN.out _ hS.2.1
      simp at s0 s1 s2
      go_simp
      exact hK.out _ _ hS (Below.refl _ _) rfl
    refine TellsFrom.cons rfl (fun vs wz hS hd K hK => ?_) ?_
    · try dsimp only at hK ⊢
      have h6 : vs 6 = (.pointer (some ⟨B, 0, none⟩)) := hd 6 (by kernel_rfl)
      generalize vs 6 = x6 at *
      subst h6
      try simp only [List.getElem_toArray, List.getElem_cons_succ, List.getElem_cons_zero, Act.put, List.setIfInBounds_toArray, List.set_cons_zero, List.set_cons_succ]
      have s0 := hS.1.cell 0
      have s1 := hS.1.cell 1
      have s2 := hS.1.cell 2
      have p0 := hS.2.2.2.1
      have p1 := hS.2.2.2.2
      have hlenm := HLEN.out _ hS.2.1
      simp at s0 s1 s2
      go_simp
      exact hK.out _ _ hS (Below.refl _ _) rfl
    refine TellsFrom.cons rfl (fun vs wz hS hd K hK => ?_) ?_
    · try dsimp only at hK ⊢
      have h7 : vs 7 = (.pointer (some ⟨B, 0, none⟩)) := hd 7 (by kernel_rfl)
      generalize vs 7 = x7 at *
      subst h7
      try simp only [List.getElem_toArray, List.getElem_cons_succ, List.getElem_cons_zero, Act.put, List.setIfInBounds_toArray, List.set_cons_zero, List.set_cons_succ]
      have s0 := hS.1.cell 0
      have s1 := hS.1.cell 1
      have s2 := hS.1.cell 2
      have p0 := hS.2.2.2.1
      have p1 := hS.2.2.2.2
      have hlenm := HLEN.out _ hS.2.1
      simp at s0 s1 s2
      go_simp
      exact hK.out _ _ hS (Below.refl _ _) rfl
    refine TellsFrom.cons rfl (fun vs wz hS hd K hK => ?_) ?_
    · try dsimp only at hK ⊢
      have h8 : vs 8 = (.agg #[.int .i64 (b : Int), .bool wide]) := hd 8 (by kernel_rfl)
      generalize vs 8 = x8 at *
      subst h8
      try simp only [List.getElem_toArray, List.getElem_cons_succ, List.getElem_cons_zero, Act.put, List.setIfInBounds_toArray, List.set_cons_zero, List.set_cons_succ]
      go_simp
      refine (HFI.out _).mono ?_
      rintro e v1 ⟨rfl, b1⟩
      exact hK.out _ _ (hS.kept b1) b1 rfl
    refine TellsFrom.cons rfl (fun vs wz hS hd K hK => ?_) ?_
    · try dsimp only at hK ⊢
      try simp only [List.getElem_toArray, List.getElem_cons_succ, List.getElem_cons_zero, Act.put, List.setIfInBounds_toArray, List.set_cons_zero, List.set_cons_succ]
      have s0 := hS.1.cell 0
      have s1 := hS.1.cell 1
      have s2 := hS.1.cell 2
      have p0 := hS.2.2.2.1
      have p1 := hS.2.2.2.2
      have hlenm := HLEN.out _ hS.2.1
      simp at s0 s1 s2
      go_simp
      exact hK.out _ _ hS (Below.refl _ _) rfl
    refine TellsFrom.cons rfl (fun vs wz hS hd K hK => ?_) ?_
    · try dsimp only at hK ⊢
      have h10 : vs 10 = (.pointer (some ⟨B, 0, none⟩)) := hd 10 (by kernel_rfl)
      generalize vs 10 = x10 at *
      subst h10
      try simp only [List.getElem_toArray, List.getElem_cons_succ, List.getElem_cons_zero, Act.put, List.setIfInBounds_toArray, List.set_cons_zero, List.set_cons_succ]
      have s0 := hS.1.cell 0
      have s1 := hS.1.cell 1
      have s2 := hS.1.cell 2
      have p0 := hS.2.2.2.1
      have p1 := hS.2.2.2.2
      have hlenm := HLEN.out _ hS.2.1
      simp at s0 s1 s2
      go_simp
      exact hK.out _ _ hS (Below.refl _ _) rfl
    refine TellsFrom.cons rfl (fun vs wz hS hd K hK => ?_) ?_
    · try dsimp only at hK ⊢
      have h11 : vs 11 = (.pointer (some ⟨B, 0, none⟩)) := hd 11 (by kernel_rfl)
      generalize vs 11 = x11 at *
      subst h11
      try simp only [List.getElem_toArray, List.getElem_cons_succ, List.getElem_cons_zero, Act.put, List.setIfInBounds_toArray, List.set_cons_zero, List.set_cons_succ]
      have s0 := hS.1.cell 0
      have s1 := hS.1.cell 1
      have s2 := hS.1.cell 2
      have p0 := hS.2.2.2.1
      have p1 := hS.2.2.2.2
      have hlenm := HLEN.out _ hS.2.1
      simp at s0 s1 s2
      go_simp
      exact hK.out _ _ hS (Below.refl _ _) rfl
    refine TellsFrom.cons rfl (fun vs wz hS hd K hK => ?_) ?_
    · try dsimp only at hK ⊢
      have h12 : vs 12 = (.pointer (some ⟨B, 2, none⟩)) := hd 12 (by kernel_rfl)
      generalize vs 12 = x12 at *
      subst h12
      try simp only [List.getElem_toArray, List.getElem_cons_succ, List.getElem_cons_zero, Act.put, List.setIfInBounds_toArray, List.set_cons_zero, List.set_cons_succ]
      have s0 := hS.1.cell 0
      have s1 := hS.1.cell 1
      have s2 := hS.1.cell 2
      have p0 := hS.2.2.2.1
      have p1 := hS.2.2.2.2
      have hlenm := HLEN.out _ hS.2.1
      simp at s0 s1 s2
      go_simp
      exact hK.out _ _ hS (Below.refl _ _) rfl
    refine TellsFrom.cons rfl (fun vs wz hS hd K hK => ?_) ?_
    · try dsimp only at hK ⊢
      have h13 : vs 13 = (.map (some mb)) := hd 13 (by kernel_rfl)
      generalize vs 13 = x13 at *
      subst h13
      try simp only [List.getElem_toArray, List.getElem_cons_succ, List.getElem_cons_zero, Act.put, List.setIfInBounds_toArray, List.set_cons_zero, List.set_cons_succ]
      have s0 := hS.1.cell 0
      have s1 := hS.1.cell 1
      have s2 := hS.1.cell 2
      have p0 := hS.2.2.2.1
      have p1 := hS.2.2.2.2
      have hlenm := HLEN.out _ hS.2.1
      simp at s0 s1 s2
      go_simp
      exact hK.out _ _ hS (Below.refl _ _) rfl
    refine TellsFrom.cons rfl (fun vs wz hS hd K hK => ?_) ?_
    · try dsimp only at hK ⊢
      have h9 : vs 9 = (.int .i64 (F : Int)) := hd 9 (by kernel_rfl)
      generalize vs 9 = x9 at *
      subst h9
      have h14 : vs 14 = (.int .i64 (S0 : Int)) := hd 14 (by kernel_rfl)
      generalize vs 14 = x14 at *
      subst h14
      try simp only [List.getElem_toArray, List.getElem_cons_succ, List.getElem_cons_zero, Act.put, List.setIfInBounds_toArray, List.set_cons_zero, List.set_cons_succ]
      have s0 := hS.1.cell 0
      have s1 := hS.1.cell 1
      have s2 := hS.1.cell 2
      have p0 := hS.2.2.2.1
      have p1 := hS.2.2.2.2
      have hlenm := HLEN.out _ hS.2.1
      simp at s0 s1 s2
      go_simp
      exact hK.out _ _ hS (Below.refl _ _) rfl
    exact TellsFrom.nil
  · intro vs wz hS hd
    try dsimp only
    have h3 : vs 3 = .map (some mb) := hd 3 (by omega)
    have h4 : vs 4 = pairV v c := hd 4 (by omega)
    have h15 : vs 15 = .int .i64 (L : Int) := hd 15 (by omega)
    clear hd
    generalize vs 0 = y0 at *
    generalize vs 1 = y1 at *
    generalize vs 2 = y2 at *
    generalize vs 3 = y3 at *
    generalize vs 4 = y4 at *
    generalize vs 5 = y5 at *
    generalize vs 6 = y6 at *
    generalize vs 7 = y7 at *
    generalize vs 8 = y8 at *
    generalize vs 9 = y9 at *
    generalize vs 10 = y10 at *
    generalize vs 11 = y11 at *
    generalize vs 12 = y12 at *
    generalize vs 13 = y13 at *
    generalize vs 14 = y14 at *
    generalize vs 15 = y15 at *
    subst h3
    subst h4
    subst h15
    have HS2 : Hid (WrM w B b wide since ov w.heap.size v c mb N D wz) := hS
    clear hS
    obtain ⟨w3, hup, ⟨D2, hm3, ht3, hs3⟩, hg3⟩ := HUP.out wz HS2.out.2.1
    have HR3 : Hid (Wr w3 B b wide (.map (some mb)) since ov) := HS2.out.1.same (hg3.block B HS2.out.1.lt (fun e => hBm (by cases e; rfl)))
    have HM3 : Hid (MapAt w3 mb (N + 1) D2) := hm3
    have HT3 : Hid (TabIs D2 b (l ++ [z ++ Lz.one c])) := ht3
    have HG3 : Hid (wz.grownBy w3 (some mb)) := hg3
    obtain ⟨S1, hS1⟩ : ∃ S1 : Nat, S1 = S0 + 1 := ⟨_, rfl⟩
    obtain ⟨L1, hL1⟩ : ∃ L1 : Nat, L1 = L + 1 := ⟨_, rfl⟩
    have HLEN2 : Hid (∀ wy : World, MapAt wy mb (N + 1) D2 → (Builtin.len_ #[60] 3 #[.map (some mb)]).run Try.prog wy = .ok (.int .i64 (S1 : Int)) wy) := fun wy hm => by rw [hS1, ← hs3]; exact hm.len Try.underlying60 _
    clear hm3 ht3 hs3 hg3 HUP HLEN
    refine wpAnyH_ready (rs := [16]) (by kernel_rfl) (by simp) ?_
    refine AllReadyH.cons rfl (fun K hK => ?_) AllReadyH.nil
    have hup2 : Sem.run Try.prog (Instr.mapUpdate 60 (.map (some mb)) (.agg #[.int .i64 (v : Int), .int .u8 (c : Int)]) (.int .i64 (L : Int))) wz = .ok () w3 := hup
    unfold pairV
    go_simp
    refine hK.out _ _ trivial (fun _ => ?_)
    clear hK K hup hup2
    refine wpAnyH_done (by kernel_rfl) ?_ _
    try simp only [List.getElem_toArray, List.getElem_cons_succ, List.getElem_cons_zero, Act.put, List.setIfInBounds_toArray, List.set_cons_zero, List.set_cons_succ]
    have eA2 : (F : Int) + (S1 : Int) = (L1 : Int) := by omega
    have wA2 : IntKind.i64.wrap (L1 : Int) = (L1 : Int) := wrap_i64_nat L1 (by omega)
    obtain ⟨r, hr⟩ : ∃ r : Bool, r = ((L1 : Int) == (U : Int)) := ⟨_, rfl⟩
    have hrv : r = true := by rw [hr]; rw [beq_iff_eq]; omega
    have HRV : Hid (r = true) := hrv
    have hr2 : ((L1 : Int) == (U : Int)) = r := hr.symm
    clear hS1 hL1 hr hrv hLF eA wA
    go_wp2_with fail
    refine wp_region_told (S := (fun wy => WrT w3 B b wide (.map (some mb)) since ov wy ∧ MapAt wy mb (N + 1) D2)) 17 39 [.is (.pointer (some ⟨B, 0, none⟩)), .is (.pointer (some ⟨B, 0, none⟩)), .is (.pointer (some ⟨B, 0, none⟩)), .is (.agg #[.int .i64 (b : Int), .bool wide]), .is (.int .i64 (F : Int)), .is (.pointer (some ⟨B, 0, none⟩)), .is (.pointer (some ⟨B, 0, none⟩)), .is (.pointer (some ⟨B, 2, none⟩)), .is (.map (some mb)), .is (.int .i64 (S1 : Int)), .is (.int .i64 (L1 : Int)), .is (.pointer (some ⟨B, 0, none⟩)), .is (.pointer (some ⟨B, 0, none⟩)), .is (.pointer (some ⟨B, 0, none⟩)), .is (.agg #[.int .i64 (b : Int), .bool wide]), .is (.int .i64 (U : Int)), .is (.bool r)] (by kernel_rfl) (by kernel_rfl) (by rfl) (fun _ _ _ _ hd h => ⟨hd.trans h.1, h.2⟩) (fun vs => by simp only [puts, List.getElem?_toArray, List.getElem?_cons_succ, List.getElem?_cons_zero, Option.bind_some, Act.put, List.setIfInBounds_toArray, List.set_cons_zero, List.set_cons_succ]; exact rfl) ⟨WrT.new HR3.out, HM3.out⟩ ?_ ?_
    · refine TellsFrom.cons rfl (fun vs wz hS hd K hK => ?_) ?_
      · try dsimp only at hK ⊢
        try simp only [List.getElem_toArray, List.getElem_cons_succ, List.getElem_cons_zero, Act.put, List.setIfInBounds_toArray, List.set_cons_zero, List.set_cons_succ]
        have s0 := hS.1.1.cell 0
        have s1 := hS.1.1.cell 1
        have s2 := hS.1.1.cell 2
        have hlenm := HLEN2.out _ hS.2
        simp at s0 s1 s2
        go_simp
        exact hK.out _ _ hS (Below.refl _ _) rfl
      refine TellsFrom.cons rfl (fun vs wz hS hd K hK => ?_) ?_
      · try dsimp only at hK ⊢
        have h0 : vs 0 = (.pointer (some ⟨B, 0, none⟩)) := hd 0 (by kernel_rfl)
        generalize vs 0 = x0 at *
        subst h0
        try simp only [List.getElem_toArray, List.getElem_cons_succ, List.getElem_cons_zero, Act.put, List.setIfInBounds_toArray, List.set_cons_zero, List.set_cons_succ]
        have s0 := hS.1.1.cell 0
        have s1 := hS.1.1.cell 1
        have s2 := hS.1.1.cell 2
        have hlenm := HLEN2.out _ hS.2
        simp at s0 s1 s2
        go_simp
        exact hK.out _ _ hS (Below.refl _ _) rfl
      refine TellsFrom.cons rfl (fun vs wz hS hd K hK => ?_) ?_
      · try dsimp only at hK ⊢
        have h1 : vs 1 = (.pointer (some ⟨B, 0, none⟩)) := hd 1 (by kernel_rfl)
        generalize vs 1 = x1 at *
        subst h1
        try simp only [List.getElem_toArray, List.getElem_cons_succ, List.getElem_cons_zero, Act.put, List.setIfInBounds_toArray, List.set_cons_zero, List.set_cons_succ]
        have s0 := hS.1.1.cell 0
        have s1 := hS.1.1.cell 1
        have s2 := hS.1.1.cell 2
        have hlenm := HLEN2.out _ hS.2
        simp at s0 s1 s2
        go_simp
        exact hK.out _ _ hS (Below.refl _ _) rfl
      refine TellsFrom.cons rfl (fun vs wz hS hd K hK => ?_) ?_
      · try dsimp only at hK ⊢
        have h2 : vs 2 = (.pointer (some ⟨B, 0, none⟩)) := hd 2 (by kernel_rfl)
        generalize vs 2 = x2 at *
        subst h2
        try simp only [List.getElem_toArray, List.getElem_cons_succ, List.getElem_cons_zero, Act.put, List.setIfInBounds_toArray, List.set_cons_zero, List.set_cons_succ]
        have s0 := hS.1.1.cell 0
        have s1 := hS.1.1.cell 1
        have s2 := hS.1.1.cell 2
        have hlenm := HLEN2.out _ hS.2
        simp at s0 s1 s2
        go_simp
        exact hK.out _ _ hS (Below.refl _ _) rfl
      refine TellsFrom.cons rfl (fun vs wz hS hd K hK => ?_) ?_
      · try dsimp only at hK ⊢
        have h3 : vs 3 = (.agg #[.int .i64 (b : Int), .bool wide]) := hd 3 (by kernel_rfl)
        generalize vs 3 = x3 at *
        subst h3
        try simp only [List.getElem_toArray, List.getElem_cons_succ, List.getElem_cons_zero, Act.put, List.setIfInBounds_toArray, List.set_cons_zero, List.set_cons_succ]
        go_simp
        refine (HFI.out _).mono ?_
        rintro e v1 ⟨rfl, b1⟩
        exact hK.out _ _ ⟨hS.1.kept b1, map_same hS.2 (b1.block _ hS.2.lt)⟩ b1 rfl
      refine TellsFrom.cons rfl (fun vs wz hS hd K hK => ?_) ?_
      · try dsimp only at hK ⊢
        try simp only [List.getElem_toArray, List.getElem_cons_succ, List.getElem_cons_zero, Act.put, List.setIfInBounds_toArray, List.set_cons_zero, List.set_cons_succ]
        have s0 := hS.1.1.cell 0
        have s1 := hS.1.1.cell 1
        have s2 := hS.1.1.cell 2
        have hlenm := HLEN2.out _ hS.2
        simp at s0 s1 s2
        go_simp
        exact hK.out _ _ hS (Below.refl _ _) rfl
      refine TellsFrom.cons rfl (fun vs wz hS hd K hK => ?_) ?_
      · try dsimp only at hK ⊢
        have h5 : vs 5 = (.pointer (some ⟨B, 0, none⟩)) := hd 5 (by kernel_rfl)
        generalize vs 5 = x5 at *
        subst h5
        try simp only [List.getElem_toArray, List.getElem_cons_succ, List.getElem_cons_zero, Act.put, List.setIfInBounds_toArray, List.set_cons_zero, List.set_cons_succ]
        have s0 := hS.1.1.cell 0
        have s1 := hS.1.1.cell 1
        have s2 := hS.1.1.cell 2
        have hlenm := HLEN2.out _ hS.2
        simp at s0 s1 s2
        go_simp
        exact hK.out _ _ hS (Below.refl _ _) rfl
      refine TellsFrom.cons rfl (fun vs wz hS hd K hK => ?_) ?_
      · try dsimp only at hK ⊢
        have h6 : vs 6 = (.pointer (some ⟨B, 0, none⟩)) := hd 6 (by kernel_rfl)
        generalize vs 6 = x6 at *
        subst h6
        try simp only [List.getElem_toArray, List.getElem_cons_succ, List.getElem_cons_zero, Act.put, List.setIfInBounds_toArray, List.set_cons_zero, List.set_cons_succ]
        have s0 := hS.1.1.cell 0
        have s1 := hS.1.1.cell 1
        have s2 := hS.1.1.cell 2
        have hlenm := HLEN2.out _ hS.2
        simp at s0 s1 s2
        go_simp
        exact hK.out _ _ hS (Below.refl _ _) rfl
      refine TellsFrom.cons rfl (fun vs wz hS hd K hK => ?_) ?_
      · try dsimp only at hK ⊢
        have h7 : vs 7 = (.pointer (some ⟨B, 2, none⟩)) := hd 7 (by kernel_rfl)
        generalize vs 7 = x7 at *
        subst h7
        try simp only [List.getElem_toArray, List.getElem_cons_succ, List.getElem_cons_zero, Act.put, List.setIfInBounds_toArray, List.set_cons_zero, List.set_cons_succ]
        have s0 := hS.1.1.cell 0
        have s1 := hS.1.1.cell 1
        have s2 := hS.1.1.cell 2
        have hlenm := HLEN2.out _ hS.2
        simp at s0 s1 s2
        go_simp
        exact hK.out _ _ hS (Below.refl _ _) rfl
      refine TellsFrom.cons rfl (fun vs wz hS hd K hK => ?_) ?_
      · try dsimp only at hK ⊢
        have h8 : vs 8 = (.map (some mb)) := hd 8 (by kernel_rfl)
        generalize vs 8 = x8 at *
        subst h8
        try simp only [List.getElem_toArray, List.getElem_cons_succ, List.getElem_cons_zero, Act.put, List.setIfInBounds_toArray, List.set_cons_zero, List.set_cons_succ]
        have s0 := hS.1.1.cell 0
        have s1 := hS.1.1.cell 1
        have s2 := hS.1.1.cell 2
        have hlenm := HLEN2.out _ hS.2
        simp at s0 s1 s2
        go_simp
        exact hK.out _ _ hS (Below.refl _ _) rfl
      refine TellsFrom.cons rfl (fun vs wz hS hd K hK => ?_) ?_
      · try dsimp only at hK ⊢
        have h4 : vs 4 = (.int .i64 (F : Int)) := hd 4 (by kernel_rfl)
        generalize vs 4 = x4 at *
        subst h4
        have h9 : vs 9 = (.int .i64 (S1 : Int)) := hd 9 (by kernel_rfl)
        generalize vs 9 = x9 at *
        subst h9
        try simp only [List.getElem_toArray, List.getElem_cons_succ, List.getElem_cons_zero, Act.put, List.setIfInBounds_toArray, List.set_cons_zero, List.set_cons_succ]
        have s0 := hS.1.1.cell 0
        have s1 := hS.1.1.cell 1
        have s2 := hS.1.1.cell 2
        have hlenm := HLEN2.out _ hS.2
        simp at s0 s1 s2
        go_simp
        exact hK.out _ _ hS (Below.refl _ _) rfl
      refine TellsFrom.cons rfl (fun vs wz hS hd K hK => ?_) ?_
      · try dsimp only at hK ⊢
        try simp only [List.getElem_toArray, List.getElem_cons_succ, List.getElem_cons_zero, Act.put, List.setIfInBounds_toArray, List.set_cons_zero, List.set_cons_succ]
        have s0 := hS.1.1.cell 0
        have s1 := hS.1.1.cell 1
        have s2 := hS.1.1.cell 2
        have hlenm := HLEN2.out _ hS.2
        simp at s0 s1 s2
        go_simp
        exact hK.out _ _ hS (Below.refl _ _) rfl
      refine TellsFrom.cons rfl (fun vs wz hS hd K hK => ?_) ?_
      · try dsimp only at hK ⊢
        have h11 : vs 11 = (.pointer (some ⟨B, 0, none⟩)) := hd 11 (by kernel_rfl)
        generalize vs 11 = x11 at *
        subst h11
        try simp only [List.getElem_toArray, List.getElem_cons_succ, List.getElem_cons_zero, Act.put, List.setIfInBounds_toArray, List.set_cons_zero, List.set_cons_succ]
        have s0 := hS.1.1.cell 0
        have s1 := hS.1.1.cell 1
        have s2 := hS.1.1.cell 2
        have hlenm := HLEN2.out _ hS.2
        simp at s0 s1 s2
        go_simp
        exact hK.out _ _ hS (Below.refl _ _) rfl
      refine TellsFrom.cons rfl (fun vs wz hS hd K hK => ?_) ?_
      · try dsimp only at hK ⊢
        have h12 : vs 12 = (.pointer (some ⟨B, 0, none⟩)) := hd 12 (by kernel_rfl)
        generalize vs 12 = x12 at *
        subst h12
        try simp only [List.getElem_toArray, List.getElem_cons_succ, List.getElem_cons_zero, Act.put, List.setIfInBounds_toArray, List.set_cons_zero, List.set_cons_succ]
        have s0 := hS.1.1.cell 0
        have s1 := hS.1.1.cell 1
        have s2 := hS.1.1.cell 2
        have hlenm := HLEN2.out _ hS.2
        simp at s0 s1 s2
        go_simp
        exact hK.out _ _ hS (Below.refl _ _) rfl
      refine TellsFrom.cons rfl (fun vs wz hS hd K hK => ?_) ?_
      · try dsimp only at hK ⊢
        have h13 : vs 13 = (.pointer (some ⟨B, 0, none⟩)) := hd 13 (by kernel_rfl)
        generalize vs 13 = x13 at *
        subst h13
        try simp only [List.getElem_toArray, List.getElem_cons_succ, List.getElem_cons_zero, Act.put, List.setIfInBounds_toArray, List.set_cons_zero, List.set_cons_succ]
        have s0 := hS.1.1.cell 0
        have s1 := hS.1.1.cell 1
        have s2 := hS.1.1.cell 2
        have hlenm := HLEN2.out _ hS.2
        simp at s0 s1 s2
        go_simp
        exact hK.out _ _ hS (Below.refl _ _) rfl
      refine TellsFrom.cons rfl (fun vs wz hS hd K hK => ?_) ?_
      · try dsimp only at hK ⊢
        have h14 : vs 14 = (.agg #[.int .i64 (b : Int), .bool wide]) := hd 14 (by kernel_rfl)
        generalize vs 14 = x14 at *
        subst h14
        try simp only [List.getElem_toArray, List.getElem_cons_succ, List.getElem_cons_zero, Act.put, List.setIfInBounds_toArray, List.set_cons_zero, List.set_cons_succ]
        go_simp
        refine (HFU.out _).mono ?_
        rintro e v1 ⟨rfl, b1⟩
        exact hK.out _ _ ⟨hS.1.kept b1, map_same hS.2 (b1.block _ hS.2.lt)⟩ b1 rfl
      refine TellsFrom.cons rfl (fun vs wz hS hd K hK => ?_) ?_
      · try dsimp only at hK ⊢
        have h10 : vs 10 = (.int .i64 (L1 : Int)) := hd 10 (by kernel_rfl)
        generalize vs 10 = x10 at *
        subst h10
        have h15 : vs 15 = (.int .i64 (U : Int)) := hd 15 (by kernel_rfl)
        generalize vs 15 = x15 at *
        subst h15
        try simp only [List.getElem_toArray, List.getElem_cons_succ, List.getElem_cons_zero, Act.put, List.setIfInBounds_toArray, List.set_cons_zero, List.set_cons_succ]
        have s0 := hS.1.1.cell 0
        have s1 := hS.1.1.cell 1
        have s2 := hS.1.1.cell 2
        have hlenm := HLEN2.out _ hS.2
        simp at s0 s1 s2
        go_simp
        exact hK.out _ _ hS (Below.refl _ _) rfl
      exact TellsFrom.nil
    · intro vs wz hS hd
      try dsimp only
      have h16 : vs 16 = .bool r := hd 16 (by omega)
      clear hd
      generalize vs 0 = y0 at *
      generalize vs 1 = y1 at *
      generalize vs 2 = y2 at *
      generalize vs 3 = y3 at *
      generalize vs 4 = y4 at *
      generalize vs 5 = y5 at *
      generalize vs 6 = y6 at *
      generalize vs 7 = y7 at *
      generalize vs 8 = y8 at *
      generalize vs 9 = y9 at *
      generalize vs 10 = y10 at *
      generalize vs 11 = y11 at *
      generalize vs 12 = y12 at *
      generalize vs 13 = y13 at *
      generalize vs 14 = y14 at *
      generalize vs 15 = y15 at *
      generalize vs 16 = y16 at *
      subst h16
      have HS5 : Hid (WrT w3 B b wide (.map (some mb)) since ov wz ∧ MapAt wz mb (N + 1) D2) := hS
      clear hS
      refine wpAnyH_done (by kernel_rfl) ?_ _
      try simp only [List.getElem_toArray, List.getElem_cons_succ, List.getElem_cons_zero, Act.put, List.setIfInBounds_toArray, List.set_cons_zero, List.set_cons_succ]
      have hrv := HRV.out
      subst hrv
      have hb5 := HS5.out.1.2
      have hz2 := HS2.out.2.2.1
      have hs2 := hz2.size
      have hs3 := HG3.out.size
      have hown5 : OwnP wz lo ov n out := ownsRow_besides HO.out (fun k hk => by
        have hkl := (World.ownsRow.lt HO.out k hk).2
        exact (hb5.block k (by omega)).trans ((HG3.out.block k (by omega) (fun e => hom (by rw [hk]; exact e))).trans (hz2.block k hkl)))
      have hbel5 : Below lo w wz := ((hz2.mono hlw).grown HG3.out (by omega) (fun k hk => by cases hk; exact hlm)).trans (hb5.mono (by omega))
      have hlz : lo ≤ wz.heap.size := Nat.le_trans hlw hbel5.size
      have HFC : Hid (Calls Try.prog 38 #[.pointer (some ⟨B, 0, none⟩)] wz fun e w'' => e = .returned (.tuple #[]) ∧ WrNew B b n lo wide ov (out ++ [C]) wz w'') := HFO.out wz HS5.out.1.1 hown5 hlz
      have HB5 : Hid (Below lo w wz ∧ OwnP wz lo ov n out) := ⟨hbel5, hown5⟩
      clear hb5 hz2 hs2 hs3 hown5 hbel5
      go_wp2_with fail
      refine HFC.out.mono ?_
      rintro e w6 ⟨rfl, g6, cap6, mb6, hr6, ho6, hm6, hmb6, hg6⟩
      have HFIN : Hid (LrFull B b n lo wide (out ++ [C]) w w6) := ⟨g6, cap6, mb6, hr6, ho6, hm6, by omega, hg6.below HB5.out.1 hlB hlz (fun k hk => (World.ownsRow.lt HB5.out.2 k hk).1)⟩
      clear hr6 ho6 hm6 hg6
      go_wp2_with fail
      go_end0
      exact ⟨rfl, HFIN.out⟩
end Go.Proofs.Ytjfihmpnbblomaa

/- A text is packed by LZW: l6Put and LzwPut of the specification. -/
namespace Go.Proofs.Ytjfihmpnbblomaa
open Go.RowKit

theorem wpList_appP {ops : Array Oper} {rest : List Oper} {o : Oper} {a : Act} {Q : Exit → Act → World → Prop} (w0 : World) (hgd : o.guard = none) (s x : Operand)
    (ho : o.op = .call { callee := .builtin .append, args := #[s, x], argTypes := #[61, 61] })
    (base : Nat) (v : Value) (n : Nat) (l : List (Int × Int)) (z : Int × Int) (hs : a.eval s = v) (hown : OwnP w0 base v n l) (hx : a.eval x = .slice (some ⟨w0.heap.size, 0, none⟩) 1 1) (hn : n ≤ 2000000) (hb : base ≤ w0.heap.size)
    (h : ∀ g cap w', OwnP w' base (.slice (some ⟨g, 0, none⟩) (n + 1) cap) (n + 1) (l ++ [z]) → Grew base w0 w' v g → wpList Try.prog ops Q rest (a.put o.dst (.slice (some ⟨g, 0, none⟩) (n + 1) cap)) w') :
    wpList Try.prog ops Q (o :: rest) a (w0.alloc (.cells #[.int .i64 z.1, .int .i64 z.2] 94)) := by
  obtain ⟨i0, hi0, hz0, hz1, hz2⟩ := info_parts info_bit
  refine wpList_append_lies _ hgd s x _ ho base 94 i0 (.agg #[.int .i64 0, .int .i64 0]) 2 16 Try.underlying61 hi0 hz0 hz1 hz2 rfl (by decide) v n (cellsOf l) hs (World.ownsRow.alloc (show World.ownsRow _ _ _ _ _ _ _ from hown) _) ⟨w0.heap.size, 0, none⟩ 1 1 [.int .i64 z.1, .int .i64 z.2] hx rfl (World.news_of_block (heap_alloc_new _ _)) (fun u hu => by simp at hu; rcases hu with rfl | rfl <;> rfl) (by decide) (by unfold maxLen; omega) (by omega) (by rw [World.size_alloc]; omega) _ rfl ?_
  intro g cap w' hown' hg hat hlt
  exact h g cap w' (OwnP.more hown') (Grew.of hown hg hat hlt)

/-- a row that stays beside one that grew -/
theorem row_grew {w w' : World} {base lo e e' z z' n n' g : Nat} {v v' : Value} {l l' : List Value} (hr : w.ownsRow lo e z v n l) (ho : w.ownsRow base e' z' v' n' l') (hne : e' ≠ e) (hg : Grew base w w' v' g) : w'.ownsRow lo e z v n l :=
  ownsRow_besides hr (fun k hk => hg.block k (World.ownsRow.lt hr k hk).2 (fun q => rows_apart ho hr hne k q.symm hk))
theorem row_below {w w' : World} {lo e z n : Nat} {v : Value} {l : List Value} (hr : w.ownsRow lo e z v n l) (hb : Below w.heap.size w w') : w'.ownsRow lo e z v n l :=
  ownsRow_besides hr (fun k hk => hb.block k (World.ownsRow.lt hr k hk).2)

/-- what lies in memory between two bytes -/
structure LpM (w : World) (b : Nat) (wide : Bool) (s : ByteArray) (k : Nat) (t : Lp.St) (g cap : Nat) (ov : Value) (wr : World) : Prop where
  eq : t = Lp.at b wide s k
  ol : OwnL wr w.heap.size (.slice (some ⟨g, 0, none⟩) t.l.length cap) t.l.length t.l
  op : OwnP wr w.heap.size ov t.out.length t.out
  bel : Below w.heap.size w wr

theorem Lp.one_stay {b : Nat} {wide : Bool} {t : Lp.St} {x : ByteArray} (h : 0 ≤ Lp.num t.l (t.last ++ x)) : Lp.one b wide t x = ⟨t.l, t.out, t.last ++ x⟩ := by unfold Lp.one; rw [if_pos h]
theorem Lp.one_full {b : Nat} {wide : Bool} {t : Lp.St} {x : ByteArray} (h : ¬ 0 ≤ Lp.num t.l (t.last ++ x)) (h2 : Lp.full wide ≤ t.l.length + 1) : Lp.one b wide t x = ⟨Lz.start b, (t.out ++ [Lp.code b wide (Lp.num t.l t.last) t.l.length]) ++ [Lp.code b wide ((2 ^ b : Nat) : Int) (t.l.length + 1)], x⟩ := by unfold Lp.one; rw [if_neg h, if_pos h2]
theorem Lp.one_add {b : Nat} {wide : Bool} {t : Lp.St} {x : ByteArray} (h : ¬ 0 ≤ Lp.num t.l (t.last ++ x)) (h2 : ¬ Lp.full wide ≤ t.l.length + 1) : Lp.one b wide t x = ⟨t.l ++ [t.last ++ x], t.out ++ [Lp.code b wide (Lp.num t.l t.last) t.l.length], x⟩ := by unfold Lp.one; rw [if_neg h, if_neg h2]

/-- what l6Put answers -/
def LpOut (w : World) (L : List (Int × Int)) (e : Ending) (w' : World) : Prop := ∃ ao cap, e = .returned (.slice ao L.length cap) ∧ Bits2 w' ao L ∧ Below w.heap.size w w'

set_option linter.unusedSimpArgs false in
set_option maxHeartbeats 4000000 in
set_option maxRecDepth 20000 in
theorem l6Put_any (b : Nat) (wide : Bool) (s : ByteArray) (w : World) (hb : b ≤ 8) (hsz : s.size ≤ 5000) (hsm : Lp.small b s) :
    Calls Try.prog 46 #[.string s, .int .i64 (b : Int), .bool wide] w (LpOut w (Lp.all b wide s)) := by
  have HPW : Hid (∀ w', Calls Try.prog 35 #[.int .i64 (b : Int)] w' fun e w'' => e = .returned (.int .i64 ((2 ^ b : Nat) : Int)) ∧ w'' = w') := fun w' => l1Pow_any b w' (by omega)
  have HST : Hid (∀ w', Calls Try.prog 54 #[.int .i64 (b : Int)] w' fun e w'' => ∃ g cap, e = .returned (.slice (some ⟨g, 0, none⟩) (2 ^ b + 2) cap) ∧ OwnL w'' w'.heap.size (.slice (some ⟨g, 0, none⟩) (2 ^ b + 2) cap) (2 ^ b + 2) (Lz.start b) ∧ Below w'.heap.size w' w'') := fun w' => l6Start_any b hb w'
  have HNU : Hid (∀ (base n g cap : Nat) (l : List ByteArray) (x : ByteArray) (w' : World), OwnL w' base (.slice (some ⟨g, 0, none⟩) n cap) n l → n ≤ 5000 → x.size ≤ 6000 → Calls Try.prog 64 #[.slice (some ⟨g, 0, none⟩) n cap, .string x] w' fun e w'' => e = .returned (.int .i64 (Lp.num l x)) ∧ w'' = w') := fun base n g cap l x w' => l6Num_any base n g cap l x w'
  have HCO : Hid (∀ (n cap : Nat) (ao : Option Addr) (v : Int) (w' : World), n ≤ 5000 → 1 ≤ n → Calls Try.prog 65 #[.int .i64 v, .slice ao n cap, .int .i64 (b : Int), .bool wide] w' fun e w'' => e = .returned (.agg #[.int .i64 (Lp.code b wide v n).1, .int .i64 (Lp.code b wide v n).2]) ∧ Below w'.heap.size w' w'') := fun n cap ao v w' => l6Code_any b n cap ao v wide w' hb
  have HFU : Hid (∀ w', Calls Try.prog 66 #[.bool wide] w' fun e w'' => e = .returned (.int .i64 (Lp.full wide : Int)) ∧ w'' = w') := fun w' => l6Full_any wide w'
  have HGD : Hid (∀ k, k ≤ s.size → Lp.Good b wide k (Lp.at b wide s k)) := fun k hk => Lp.good_at hb wide hsm k hk
  have hpw := Lz.pow_le hb
  have hfb := Lp.full_bd wide
  have HFIN : Hid (∀ t, t = Lp.at b wide s s.size → Lp.all b wide s = Lp.close b wide t) := fun t e => by rw [e]; rfl
  obtain ⟨P, hP⟩ : ∃ P : Nat, P = 2 ^ b := ⟨_, rfl⟩
  have HP : Hid (P = 2 ^ b) := hP
  rw [← hP] at HPW hpw HST
  obtain ⟨LL, hLL⟩ : ∃ LL, LL = Lp.all b wide s := ⟨_, rfl⟩
  rw [← hLL] at HFIN ⊢
  clear hP hsm hLL
  have e1 : IntKind.i64.wrap ((b : Int) + 1) = ((b + 1 : Nat) : Int) := by
    have := wrap_i64_nat (b + 1) (by omega)
    simpa using this
  go_enter Try.func46, Try.ntmps46
  go_wp2_with fail
  refine (HPW.out _).mono ?_
  rintro e w1 ⟨rfl, hw1⟩
  replace hw1 := hw1.symm
  subst hw1
  go_wp2_with fail
  refine (HST.out _).mono ?_
  rintro e w2 ⟨g0, cap0, rfl, ho2, b2⟩
  have hbz := b2.size
  have H0 : Hid (∃ t g cap ov, LpM w b wide s 0 t g cap ov (w2.alloc (.cells #[.int .i64 (P : Int), .int .i64 ((b : Int) + 1)] 94)) ∧ Value.slice (some ⟨g0, 0, none⟩) (P + 2) cap0 = .slice (some ⟨g, 0, none⟩) t.l.length cap ∧ Value.slice (some ⟨w2.heap.size, 0, none⟩) 1 1 = ov ∧ Value.string ⟨#[]⟩ = .string t.last) := by
    have hl : (Lp.init b).l.length = P + 2 := by show (Lz.start b).length = _; rw [Lz.start_len, HP.out]
    refine ⟨Lp.init b, g0, cap0, _, ⟨rfl, ?_, ?_, b2.alloc hbz _⟩, by rw [hl], rfl, rfl⟩
    · rw [hl]; exact (ho2.down (Nat.le_refl _)).alloc _
    · have hlit := World.ownsRow_lit (base := w.heap.size) (e := 94) (size := 2) w2 #[.int .i64 (P : Int), .int .i64 ((b : Int) + 1)] 1 hbz (by decide) rfl
      have ec : (#[Value.int .i64 (P : Int), .int .i64 ((b : Int) + 1)] : Array Value).toList = cellsOf (Lp.init b).out := by
        rw [HP.out]
        simp [Lp.init, cellsOf]
      rw [ec] at hlit
      exact hlit
  clear ho2 b2 hbz HPW
  go_wp2_with fail
  go_loopw [8, 9, 10, 11] (fun lv ov xv iv wr => ∃ k : Nat, k ≤ s.size ∧ iv = .int .i64 (k : Int) ∧ ∃ t g cap ov', LpM w b wide s k t g cap ov' wr ∧ lv = .slice (some ⟨g, 0, none⟩) t.l.length cap ∧ ov = ov' ∧ xv = .string t.last) (fun _ _ _ iv _ => s.size - (intOf iv).toNat)
  case atStart => exact ⟨0, Nat.zero_le _, rfl, H0.out⟩
  case round =>
    clear H0
    obtain ⟨k, hk, rfl, t, g, cap, ov, hM, rfl, rfl, rfl⟩ := hrel
    have HM : Hid (LpM w b wide s k t g cap u9 wr) := hM
    have HG : Hid (Lp.Good b wide k t) := by show Lp.Good _ _ _ _; rw [hM.eq]; exact HGD.out k hk
    have hlo := HG.out.lo
    have hhi := HG.out.hi
    have hla := HG.out.last
    have hol := Lp.len_bd hb HG.out (by omega)
    rw [← HP.out] at hlo
    have hbw := hM.bel.size
    clear hM
    obtain ⟨n, hn⟩ : ∃ n, n = t.l.length := ⟨_, rfl⟩
    have HN : Hid (n = t.l.length) := hn
    rw [← hn] at hlo hhi ⊢
    clear hn
    have HOL : Hid (OwnL wr w.heap.size (.slice (some ⟨g, 0, none⟩) n cap) n t.l) := by show OwnL _ _ _ _ _; rw [HN.out]; exact HM.out.ol
    by_cases hlt : k < s.size
    · obtain ⟨x, hx⟩ : ∃ x, x = s.extract k (k + 1) := ⟨_, rfl⟩
      have HX : Hid (x = s.extract k (k + 1)) := hx
      have hxs : x.size = 1 := by rw [hx, ByteArray.size_extract]; omega
      obtain ⟨z, hz⟩ : ∃ z, z = t.last ++ x := ⟨_, rfl⟩
      have HZ : Hid (z = t.last ++ x) := hz
      have hzs : z.size = t.last.size + 1 := by rw [hz, ByteArray.size_append, hxs]
      have hxe : s.extract k (k + 1) = x := hx.symm
      have hze : t.last ++ x = z := hz.symm
      have hik : (k : Int) < (s.size : Int) := by omega
      have hlz : ¬ 9223372036854775807 < t.last.size + x.size := by omega
      have HNX : Hid (Lp.at b wide s (k + 1) = Lp.one b wide t x) := by show _ = _; rw [HM.out.eq, HX.out]; rfl
      have HN1 : Hid (∀ w', w' = wr → Calls Try.prog 64 #[.slice (some ⟨g, 0, none⟩) n cap, .string z] w' fun e w'' => e = .returned (.int .i64 (Lp.num t.l z)) ∧ w'' = w') := fun w' e => by subst e; exact HNU.out w.heap.size n g cap t.l z w' HOL.out (by omega) (by omega)
      have HN2 : Hid (∀ w', w' = wr → Calls Try.prog 64 #[.slice (some ⟨g, 0, none⟩) n cap, .string t.last] w' fun e w'' => e = .returned (.int .i64 (Lp.num t.l t.last)) ∧ w'' = w') := fun w' e => by subst e; exact HNU.out w.heap.size n g cap t.l t.last w' HOL.out (by omega) (by omega)
      clear hx hz hzs HNU HFIN
      by_cases hst : 0 ≤ Lp.num t.l z
      · have HNEW : Hid (LpM w b wide s (k + 1) ⟨t.l, t.out, z⟩ g cap u9 wr) := by
          refine ⟨?_, HM.out.ol, HM.out.op, HM.out.bel⟩
          rw [HNX.out, Lp.one_stay (by rw [← HZ.out]; exact hst), ← HZ.out]
        have HFL : Hid (∃ t' g' cap' ov', LpM w b wide s (k + 1) t' g' cap' ov' wr ∧ Value.slice (some ⟨g, 0, none⟩) n cap = .slice (some ⟨g', 0, none⟩) t'.l.length cap' ∧ u9 = ov' ∧ Value.string z = .string t'.last) := ⟨_, g, cap, u9, HNEW.out, by rw [HN.out], rfl, rfl⟩
        have hge : (Lp.num t.l z) ≥ 0 := hst
        generalize Lp.num t.l z = V at *
        clear HNEW HM HG HN2 HNX HOL
        go_wp2_with fail
        refine (HN1.out _ rfl).mono ?_
        rintro e w1 ⟨rfl, hw1⟩
        replace hw1 := hw1.symm
        subst hw1
        go_wp2_with fail
        go_roundw
        case rel => exact ⟨k + 1, by omega, by go_num, HFL.out⟩
        case measure => simp [intOf]; omega
      · have HNS : Hid (Lp.num t.l (t.last ++ x) < 0) := by show _ < _; rw [← HZ.out]; omega
        have hlt0 : ¬ (Lp.num t.l z) ≥ 0 := hst
        have HOP : Hid (OwnP wr w.heap.size u9 t.out.length t.out) := HM.out.op
        have HBE : Hid (Below w.heap.size w wr) := HM.out.bel
        generalize hV : Lp.num t.l z = V at *
        clear hV
        obtain ⟨V2, hV2⟩ : ∃ V2, V2 = Lp.num t.l t.last := ⟨_, rfl⟩
        have HV2 : Hid (V2 = Lp.num t.l t.last) := hV2
        rw [← hV2] at HN2
        obtain ⟨C, hC⟩ : ∃ C, C = Lp.code b wide V2 n := ⟨_, rfl⟩
        have HC : Hid (C = Lp.code b wide V2 n) := hC
        have HCC : Hid (∀ w' ca ao, Calls Try.prog 65 #[.int .i64 V2, .slice ao n ca, .int .i64 (b : Int), .bool wide] w' fun e w'' => e = .returned (.agg #[.int .i64 C.1, .int .i64 C.2]) ∧ Below w'.heap.size w' w'') := fun w' ca ao => by rw [hC]; exact HCO.out n ca ao V2 w' (by omega) (by omega)
        obtain ⟨M, hMo⟩ : ∃ M, M = t.out.length := ⟨_, rfl⟩
        have HMo : Hid (M = t.out.length) := hMo
        have hMb : M ≤ 5002 := by rw [hMo]; exact hol
        clear hV2 hC hMo hol
        go_wp2_with fail
        refine (HN1.out _ rfl).mono ?_
        rintro e w1 ⟨rfl, hw1⟩
        replace hw1 := hw1.symm
        subst hw1
        clear HN1
        go_wp2_with fail
        refine (HN2.out _ rfl).mono ?_
        rintro e w1 ⟨rfl, hw1⟩
        replace hw1 := hw1.symm
        subst hw1
        clear HN2
        go_wp2_with fail
        refine (HCC.out _ _ _).mono ?_
        rintro e w3 ⟨rfl, b3⟩
        have HOL3 : Hid (OwnL w3 w.heap.size (.slice (some ⟨g, 0, none⟩) n cap) n t.l) := row_below HOL.out b3
        have HOP3 : Hid (OwnP w3 w.heap.size u9 M t.out) := by show OwnP _ _ _ _ _; rw [HMo.out]; exact row_below HOP.out b3
        have HBE3 : Hid (Below w.heap.size w w3) := HBE.out.trans (b3.mono hbw)
        have hbw3 : w.heap.size ≤ w3.heap.size := Nat.le_trans hbw b3.size
        clear b3 HOL HOP HBE HCC hbw
        go_wp2_with (at_builtin; refine wpList_appP w3 (by rfl) _ _ (by rfl) w.heap.size _ M t.out C (by rfl) HOP3.out (by rfl) (by omega) hbw3 ?_)
        intro g4 cap4 w4 ho4 hg4
        have HOP4 : Hid (OwnP w4 w.heap.size (.slice (some ⟨g4, 0, none⟩) (M + 1) cap4) (M + 1) (t.out ++ [C])) := ho4
        have HOL4 : Hid (OwnL w4 w.heap.size (.slice (some ⟨g, 0, none⟩) n cap) n t.l) := row_grew HOL3.out HOP3.out (by decide) hg4
        have HBE4 : Hid (Below w.heap.size w w4) := hg4.below HBE3.out (Nat.le_refl _) hbw3
        have hbw4 : w.heap.size ≤ w4.heap.size := HBE4.out.size
        clear ho4 hg4 HOL3 HOP3 HBE3 hbw3
        go_wp2_with (at_builtin; refine wpList_appL w4 (by rfl) _ _ (by rfl) w.heap.size _ n t.l z (by rfl) HOL4.out (by rfl) (by omega) hbw4 ?_)
        intro g5 cap5 w5 ho5 hg5
        have HOL5 : Hid (OwnL w5 w.heap.size (.slice (some ⟨g5, 0, none⟩) (n + 1) cap5) (n + 1) (t.l ++ [z])) := ho5
        have HOP5 : Hid (OwnP w5 w.heap.size (.slice (some ⟨g4, 0, none⟩) (M + 1) cap4) (M + 1) (t.out ++ [C])) := row_grew HOP4.out HOL4.out (by decide) hg5
        have HBE5 : Hid (Below w.heap.size w w5) := hg5.below HBE4.out (Nat.le_refl _) hbw4
        have hbw5 : w.heap.size ≤ w5.heap.size := HBE5.out.size
        clear ho5 hg5 HOL4 HOP4 HBE4 hbw4
        by_cases hfull : Lp.full wide ≤ n + 1
        · have HNXT : Hid (Lp.at b wide s (k + 1) = ⟨Lz.start b, (t.out ++ [C]) ++ [Lp.code b wide ((2 ^ b : Nat) : Int) (n + 1)], x⟩) := by
            show _ = _
            rw [HNX.out, Lp.one_full (by have := HNS.out; omega) (by rw [← HN.out]; exact hfull), HC.out, HV2.out, HN.out]
          obtain ⟨D, hD⟩ : ∃ D, D = Lp.code b wide ((P : Nat) : Int) (n + 1) := ⟨_, rfl⟩
          have HD : Hid (D = Lp.code b wide ((P : Nat) : Int) (n + 1)) := hD
          have HCD : Hid (∀ w' ca ao, Calls Try.prog 65 #[.int .i64 (P : Int), .slice ao (n + 1) ca, .int .i64 (b : Int), .bool wide] w' fun e w'' => e = .returned (.agg #[.int .i64 D.1, .int .i64 D.2]) ∧ Below w'.heap.size w' w'') := fun w' ca ao => by rw [hD]; exact HCO.out (n + 1) ca ao (P : Int) w' (by omega) (by omega)
          have hge2 : ((n : Int) + 1) ≥ (Lp.full wide : Int) := by omega
          obtain ⟨F, hF⟩ : ∃ F, F = Lp.full wide := ⟨_, rfl⟩
          rw [← hF] at HFU hge2 hfull hfb
          clear hD hF HG HM HNX HNS
          go_wp2_with fail
          refine (HFU.out _).mono ?_
          rintro e w6 ⟨rfl, hw6⟩
          replace hw6 := hw6.symm
          subst hw6
          go_wp2_with fail
          refine (HCD.out _ _ _).mono ?_
          rintro e w6 ⟨rfl, b6⟩
          have HOP6 : Hid (OwnP w6 w.heap.size (.slice (some ⟨g4, 0, none⟩) (M + 1) cap4) (M + 1) (t.out ++ [C])) := row_below HOP5.out b6
          have HBE6 : Hid (Below w.heap.size w w6) := HBE5.out.trans (b6.mono hbw5)
          have hbw6 : w.heap.size ≤ w6.heap.size := HBE6.out.size
          clear b6 HOL5 HOP5 HBE5 hbw5 HCD
          go_wp2_with (at_builtin; refine wpList_appP w6 (by rfl) _ _ (by rfl) w.heap.size _ (M + 1) (t.out ++ [C]) D (by rfl) HOP6.out (by rfl) (by omega) hbw6 ?_)
          intro g7 cap7 w7 ho7 hg7
          have HOP7 : Hid (OwnP w7 w.heap.size (.slice (some ⟨g7, 0, none⟩) (M + 1 + 1) cap7) (M + 1 + 1) ((t.out ++ [C]) ++ [D])) := by show OwnP _ _ _ _ _; rw [List.append_assoc]; exact ho7
          have HBE7 : Hid (Below w.heap.size w w7) := hg7.below HBE6.out (Nat.le_refl _) hbw6
          have hbw7 : w.heap.size ≤ w7.heap.size := HBE7.out.size
          clear ho7 hg7 HOP6 HBE6 hbw6
          go_wp2_with fail
          refine (HST.out _).mono ?_
          rintro e w8 ⟨g8, cap8, rfl, ho8, b8⟩
          have HFL : Hid (∃ t' g' cap' ov', LpM w b wide s (k + 1) t' g' cap' ov' w8 ∧ Value.slice (some ⟨g8, 0, none⟩) (P + 2) cap8 = .slice (some ⟨g', 0, none⟩) t'.l.length cap' ∧ Value.slice (some ⟨g7, 0, none⟩) (M + 1 + 1) cap7 = ov' ∧ Value.string x = .string t'.last) := by
            have hl : (Lz.start b).length = P + 2 := by rw [Lz.start_len, HP.out]
            refine ⟨_, g8, cap8, _, ⟨rfl, ?_, ?_, HBE7.out.trans (b8.mono hbw7)⟩, ?_, rfl, ?_⟩
            · rw [HNXT.out]; show OwnL _ _ (.slice _ (Lz.start b).length _) (Lz.start b).length (Lz.start b); rw [hl]; exact ho8.down hbw7
            · rw [HNXT.out]
              show OwnP _ _ _ ((t.out ++ [C]) ++ [Lp.code b wide ((2 ^ b : Nat) : Int) (n + 1)]).length ((t.out ++ [C]) ++ [Lp.code b wide ((2 ^ b : Nat) : Int) (n + 1)])
              rw [← HP.out, ← HD.out]
              have hlM : ((t.out ++ [C]) ++ [D]).length = M + 1 + 1 := by rw [List.length_append, List.length_append, ← HMo.out]; rfl
              rw [hlM]
              exact row_below HOP7.out b8
            · rw [HNXT.out]; show _ = Value.slice _ (Lz.start b).length _; rw [hl]
            · rw [HNXT.out]
          clear ho8 b8 HOP7 HBE7 hbw7 HNXT
          go_wp2_with fail
          go_roundw
          case rel => first | exact ⟨k + 1, by omega, by go_num, HFL.out⟩ | exact ⟨k + 1, by omega, by go_num, by simpa using HFL.out⟩
          case measure => simp [intOf]; omega
        · have HNXT : Hid (Lp.at b wide s (k + 1) = ⟨t.l ++ [z], t.out ++ [C], x⟩) := by
            show _ = _
            rw [HNX.out, Lp.one_add (by have := HNS.out; omega) (by rw [← HN.out]; exact hfull), HC.out, HV2.out, HN.out, HZ.out]
          have hge2 : ¬ ((n : Int) + 1) ≥ (Lp.full wide : Int) := by omega
          have HFL : Hid (∃ t' g' cap' ov', LpM w b wide s (k + 1) t' g' cap' ov' w5 ∧ Value.slice (some ⟨g5, 0, none⟩) (n + 1) cap5 = .slice (some ⟨g', 0, none⟩) t'.l.length cap' ∧ Value.slice (some ⟨g4, 0, none⟩) (M + 1) cap4 = ov' ∧ Value.string x = .string t'.last) := by
            have hl : (t.l ++ [z]).length = n + 1 := by rw [List.length_append, ← HN.out]; rfl
            refine ⟨_, g5, cap5, _, ⟨rfl, ?_, ?_, HBE5.out⟩, ?_, rfl, ?_⟩
            · rw [HNXT.out]; show OwnL _ _ (.slice _ (t.l ++ [z]).length _) (t.l ++ [z]).length (t.l ++ [z]); rw [hl]; exact HOL5.out
            · rw [HNXT.out]
              show OwnP _ _ _ (t.out ++ [C]).length (t.out ++ [C])
              have hlM : (t.out ++ [C]).length = M + 1 := by rw [List.length_append, ← HMo.out]; rfl
              rw [hlM]
              exact HOP5.out
            · rw [HNXT.out]; show _ = Value.slice _ (t.l ++ [z]).length _; rw [hl]
            · rw [HNXT.out]
          obtain ⟨F, hF⟩ : ∃ F, F = Lp.full wide := ⟨_, rfl⟩
          rw [← hF] at HFU hge2 hfull hfb
          clear hF HG HM HNX HNS HOL5 HOP5 HBE5 hbw5 HNXT
          go_wp2_with fail
          refine (HFU.out _).mono ?_
          rintro e w6 ⟨rfl, hw6⟩
          replace hw6 := hw6.symm
          subst hw6
          go_wp2_with fail
          go_roundw
          case rel => exact ⟨k + 1, by omega, by go_num, HFL.out⟩
          case measure => simp [intOf]; omega
    · have hks : k = s.size := by omega
      have HALL : Hid (LL = Lp.close b wide t) := HFIN.out t (by rw [HM.out.eq, hks])
      have HOP : Hid (OwnP wr w.heap.size u9 t.out.length t.out) := HM.out.op
      have HBE : Hid (Below w.heap.size w wr) := HM.out.bel
      have hik : ¬ (k : Int) < (s.size : Int) := by omega
      obtain ⟨M, hMo⟩ : ∃ M, M = t.out.length := ⟨_, rfl⟩
      have HMo : Hid (M = t.out.length) := hMo
      have hMb : M ≤ 5002 := by rw [hMo]; exact hol
      clear hks hMo hol HFIN HFU HST
      by_cases hl0 : t.last.size = 0
      · have HA2 : Hid (LL = t.out ++ [Lp.code b wide ((P : Int) + 1) n]) := by
          show _ = _
          rw [HALL.out]; unfold Lp.close; rw [if_pos hl0, HP.out, HN.out]
        have hem : t.last.toList.isEmpty = true := by
          rw [List.isEmpty_iff]
          exact List.eq_nil_of_length_eq_zero (by rw [toList_len]; exact hl0)
        obtain ⟨D, hD⟩ : ∃ D, D = Lp.code b wide ((P : Int) + 1) n := ⟨_, rfl⟩
        rw [← hD] at HA2
        have HCD : Hid (∀ w' ca ao, Calls Try.prog 65 #[.int .i64 ((P : Int) + 1), .slice ao n ca, .int .i64 (b : Int), .bool wide] w' fun e w'' => e = .returned (.agg #[.int .i64 D.1, .int .i64 D.2]) ∧ Below w'.heap.size w' w'') := fun w' ca ao => by rw [hD]; exact HCO.out n ca ao ((P : Int) + 1) w' (by omega) (by omega)
        clear hD HM HG HNU HALL
        go_wp2_with fail
        refine (HCD.out _ _ _).mono ?_
        rintro e w3 ⟨rfl, b3⟩
        have HOP3 : Hid (OwnP w3 w.heap.size u9 M t.out) := by show OwnP _ _ _ _ _; rw [HMo.out]; exact row_below HOP.out b3
        have HBE3 : Hid (Below w.heap.size w w3) := HBE.out.trans (b3.mono hbw)
        have hbw3 : w.heap.size ≤ w3.heap.size := HBE3.out.size
        clear b3 HOP HBE HCD
        go_wp2_with (at_builtin; refine wpList_appP w3 (by rfl) _ _ (by rfl) w.heap.size _ M t.out D (by rfl) HOP3.out (by rfl) (by omega) hbw3 ?_)
        intro g4 cap4 w4 ho4 hg4
        have HF : Hid (LpOut w LL (.returned (.slice (some ⟨g4, 0, none⟩) (M + 1) cap4)) w4) := by
          obtain ⟨ao, c2, he, hbits⟩ := OwnP.bits ho4
          cases he
          refine ⟨_, cap4, ?_, by rw [HA2.out]; exact hbits, hg4.below HBE3.out (Nat.le_refl _) hbw3⟩
          rw [HA2.out, List.length_append, ← HMo.out]; rfl
        clear ho4 hg4
        go_wp2_with fail
        go_ret
        exact HF.out
      · have HA2 : Hid (LL = (t.out ++ [Lp.code b wide (Lp.num t.l t.last) n]) ++ [Lp.code b wide ((P : Int) + 1) (n + 1)]) := by
          show _ = _
          rw [HALL.out]; unfold Lp.close; rw [if_neg hl0, HP.out, HN.out]
        have hem : t.last.toList.isEmpty = false := by
          rw [← Bool.not_eq_true, List.isEmpty_iff]
          exact fun e => hl0 (by have h := congrArg List.length e; rw [toList_len] at h; exact h)
        have HN2 : Hid (∀ w', w' = wr → Calls Try.prog 64 #[.slice (some ⟨g, 0, none⟩) n cap, .string t.last] w' fun e w'' => e = .returned (.int .i64 (Lp.num t.l t.last)) ∧ w'' = w') := fun w' e => by subst e; exact HNU.out w.heap.size n g cap t.l t.last w' HOL.out (by omega) (by omega)
        obtain ⟨V2, hV2⟩ : ∃ V2, V2 = Lp.num t.l t.last := ⟨_, rfl⟩
        rw [← hV2] at HN2 HA2
        obtain ⟨C, hC⟩ : ∃ C, C = Lp.code b wide V2 n := ⟨_, rfl⟩
        have HCC : Hid (∀ w' ca ao, Calls Try.prog 65 #[.int .i64 V2, .slice ao n ca, .int .i64 (b : Int), .bool wide] w' fun e w'' => e = .returned (.agg #[.int .i64 C.1, .int .i64 C.2]) ∧ Below w'.heap.size w' w'') := fun w' ca ao => by rw [hC]; exact HCO.out n ca ao V2 w' (by omega) (by omega)
        obtain ⟨D, hD⟩ : ∃ D, D = Lp.code b wide ((P : Int) + 1) (n + 1) := ⟨_, rfl⟩
        rw [← hD, ← hC] at HA2
        have HCD : Hid (∀ w' ca ao, Calls Try.prog 65 #[.int .i64 ((P : Int) + 1), .slice ao (n + 1) ca, .int .i64 (b : Int), .bool wide] w' fun e w'' => e = .returned (.agg #[.int .i64 D.1, .int .i64 D.2]) ∧ Below w'.heap.size w' w'') := fun w' ca ao => by rw [hD]; exact HCO.out (n + 1) ca ao ((P : Int) + 1) w' (by omega) (by omega)
        clear hD hC hV2 HM HG HNU HALL
        go_wp2_with fail
        refine (HN2.out _ rfl).mono ?_
        rintro e w1 ⟨rfl, hw1⟩
        replace hw1 := hw1.symm
        subst hw1
        go_wp2_with fail
        refine (HCC.out _ _ _).mono ?_
        rintro e w3 ⟨rfl, b3⟩
        have HOP3 : Hid (OwnP w3 w.heap.size u9 M t.out) := by show OwnP _ _ _ _ _; rw [HMo.out]; exact row_below HOP.out b3
        have HOL3 : Hid (OwnL w3 w.heap.size (.slice (some ⟨g, 0, none⟩) n cap) n t.l) := row_below HOL.out b3
        have HBE3 : Hid (Below w.heap.size w w3) := HBE.out.trans (b3.mono hbw)
        have hbw3 : w.heap.size ≤ w3.heap.size := HBE3.out.size
        clear b3 HOP HBE HCC HN2 HOL
        go_wp2_with (at_builtin; refine wpList_appP w3 (by rfl) _ _ (by rfl) w.heap.size _ M t.out C (by rfl) HOP3.out (by rfl) (by omega) hbw3 ?_)
        intro g4 cap4 w4 ho4 hg4
        have HOP4 : Hid (OwnP w4 w.heap.size (.slice (some ⟨g4, 0, none⟩) (M + 1) cap4) (M + 1) (t.out ++ [C])) := ho4
        have HOL4 : Hid (OwnL w4 w.heap.size (.slice (some ⟨g, 0, none⟩) n cap) n t.l) := row_grew HOL3.out HOP3.out (by decide) hg4
        have HBE4 : Hid (Below w.heap.size w w4) := hg4.below HBE3.out (Nat.le_refl _) hbw3
        have hbw4 : w.heap.size ≤ w4.heap.size := HBE4.out.size
        clear ho4 hg4 HOL3 HOP3 HBE3 hbw3
        go_wp2_with (at_builtin; refine wpList_appL w4 (by rfl) _ _ (by rfl) w.heap.size _ n t.l ⟨#[]⟩ (by rfl) HOL4.out (by rfl) (by omega) hbw4 ?_)
        intro g5 cap5 w5 ho5 hg5
        have HOP5 : Hid (OwnP w5 w.heap.size (.slice (some ⟨g4, 0, none⟩) (M + 1) cap4) (M + 1) (t.out ++ [C])) := row_grew HOP4.out HOL4.out (by decide) hg5
        have HBE5 : Hid (Below w.heap.size w w5) := hg5.below HBE4.out (Nat.le_refl _) hbw4
        have hbw5 : w.heap.size ≤ w5.heap.size := HBE5.out.size
        clear ho5 hg5 HOL4 HOP4 HBE4 hbw4
        go_wp2_with fail
        refine (HCD.out _ _ _).mono ?_
        rintro e w6 ⟨rfl, b6⟩
        have HOP6 : Hid (OwnP w6 w.heap.size (.slice (some ⟨g4, 0, none⟩) (M + 1) cap4) (M + 1) (t.out ++ [C])) := row_below HOP5.out b6
        have HBE6 : Hid (Below w.heap.size w w6) := HBE5.out.trans (b6.mono hbw5)
        have hbw6 : w.heap.size ≤ w6.heap.size := HBE6.out.size
        clear b6 HOP5 HBE5 hbw5 HCD
        go_wp2_with (at_builtin; refine wpList_appP w6 (by rfl) _ _ (by rfl) w.heap.size _ (M + 1) (t.out ++ [C]) D (by rfl) HOP6.out (by rfl) (by omega) hbw6 ?_)
        intro g7 cap7 w7 ho7 hg7
        have HF : Hid (LpOut w LL (.returned (.slice (some ⟨g7, 0, none⟩) (M + 1 + 1) cap7)) w7) := by
          obtain ⟨ao, c2, he, hbits⟩ := OwnP.bits ho7
          cases he
          refine ⟨_, cap7, ?_, by rw [HA2.out, List.append_assoc]; exact hbits, hg7.below HBE6.out (Nat.le_refl _) hbw6⟩
          rw [HA2.out, List.length_append, List.length_append, ← HMo.out]; rfl
        clear ho7 hg7
        go_wp2_with fail
        go_ret
        exact HF.out

/-- the text that LzwPut answers -/
def Lp.ok (s : ByteArray) (b : Int) (wide : Bool) : Bool := Lz.ok b wide && decide (s.size ≤ 5000) && Lp.smallB b.toNat s
def Lp.ans (s : ByteArray) (b : Int) (wide : Bool) : List UInt8 := if Lp.ok s b wide then (Bp.text wide (Lp.all b.toNat wide s)).map UInt8.ofNat else []
theorem Lz.ok_rng {b : Int} {wide : Bool} (h : Lz.ok b wide = true) : 2 ≤ b ∧ b ≤ 8 := by
  unfold Lz.ok at h
  split at h
  · have := eq_of_beq h; omega
  · simp at h; omega
theorem Lp.ans_len (s : ByteArray) (b : Int) (wide : Bool) : (Lp.ans s b wide).length ≤ 9000 := by
  unfold Lp.ans
  split
  · rename_i h
    unfold Lp.ok at h
    simp only [Bool.and_eq_true, decide_eq_true_eq] at h
    obtain ⟨⟨h1, h2⟩, h3⟩ := h
    have hb := Lz.ok_rng h1
    have hf := Lp.all_ok (b := b.toNat) (by omega) (by omega) wide (Lp.small_of h3) h2
    have ht := Bp.fits_tot hf.1 (Nat.le_refl _) (Nat.le_refl _)
    rw [List.length_map]
    unfold Bp.text
    rw [Bp.pack_len]
    omega
  · simp

set_option maxHeartbeats 1000000 in
theorem spec_lzwPut (s : ByteArray) (b : Int) (wide : Bool) (w : World) (hs : s.size ≤ 3000000)
    (HOK0 : ∀ w, Calls Try.prog 31 #[.int .i64 b, .bool wide] w fun e w' => e = .returned (.bool (Lz.ok b wide)) ∧ w' = w) :
    Calls Try.prog 14 #[.string s, .int .i64 b, .bool wide] w fun e w' => e = .returned (.string ⟨(Lp.ans s b wide).toArray⟩) ∧ Below w.heap.size w w' := by
  have HOK : Hid (∀ w, Calls Try.prog 31 #[.int .i64 b, .bool wide] w fun e w' => e = .returned (.bool (Lz.ok b wide)) ∧ w' = w) := HOK0
  clear HOK0
  cases hk : Lz.ok b wide with
  | false =>
    have HA : Hid (Lp.ans s b wide = []) := by show _ = _; unfold Lp.ans Lp.ok; rw [hk]; rfl
    rw [hk] at HOK
    rw [HA.out]
    clear hk
    go_enter Try.func14, Try.ntmps14
    go_wp2_with fail
    refine (HOK.out _).mono ?_
    rintro e w1 ⟨rfl, hw1⟩
    replace hw1 := hw1.symm
    subst hw1
    go_wp2_with fail
    go_ret
    exact ⟨rfl, Below.refl _ _⟩
  | true =>
    have hbd := Lz.ok_rng hk
    obtain ⟨B, rfl⟩ := Int.eq_ofNat_of_zero_le (show 0 ≤ b by omega)
    have HAN : Hid (Lp.ans s B wide = if (decide (s.size ≤ 5000) && Lp.smallB B s) then (Bp.text wide (Lp.all B wide s)).map UInt8.ofNat else []) := by show _ = _; unfold Lp.ans Lp.ok; rw [hk, Bool.true_and, Int.toNat_natCast]
    rw [hk] at HOK
    clear hk
    by_cases h5 : 5000 < s.size
    · have HA : Hid (Lp.ans s B wide = []) := by show _ = _; rw [HAN.out, decide_eq_false (by omega)]; rfl
      rw [HA.out]
      have d1 : decide ((s.size : Int) > 5000) = true := decide_eq_true (by omega)
      clear HAN
      go_enter Try.func14, Try.ntmps14
      go_wp2_with fail
      refine (HOK.out _).mono ?_
      rintro e w1 ⟨rfl, hw1⟩
      replace hw1 := hw1.symm
      subst hw1
      go_wp2_with fail
      go_ret
      exact ⟨rfl, Below.refl _ _⟩
    · have d1 : decide ((s.size : Int) > 5000) = false := decide_eq_false (by omega)
      have HFT : Hid (∀ w, Calls Try.prog 44 #[.string s, .int .i64 (B : Int)] w fun e w' => e = .returned (.bool (Lp.smallB B s)) ∧ ∃ m, w' = w.drewN m) := fun w => l6Fits_any B s w (by omega) (by omega)
      cases hsm : Lp.smallB B s with
      | false =>
        have HA : Hid (Lp.ans s B wide = []) := by show _ = _; rw [HAN.out, hsm, Bool.and_false]; rfl
        rw [HA.out]
        rw [hsm] at HFT
        clear HAN hsm
        go_enter Try.func14, Try.ntmps14
        go_wp2_with fail
        refine (HOK.out _).mono ?_
        rintro e w1 ⟨rfl, hw1⟩
        replace hw1 := hw1.symm
        subst hw1
        go_wp2_with fail
        refine (HFT.out _).mono ?_
        rintro e w1 ⟨rfl, m, rfl⟩
        go_wp2_with fail
        go_ret
        exact ⟨rfl, below_drewN (Below.refl _ _) _⟩
      | true =>
        have HA : Hid (Lp.ans s B wide = (Bp.text wide (Lp.all B wide s)).map UInt8.ofNat) := by show _ = _; rw [HAN.out, hsm, Bool.and_true, decide_eq_true (by omega)]; rfl
        have hf := Lp.all_ok (b := B) (by omega) (by omega) wide (Lp.small_of hsm) (by omega)
        have HPU : Hid (∀ w, Calls Try.prog 46 #[.string s, .int .i64 (B : Int), .bool wide] w (LpOut w (Lp.all B wide s))) := fun w => l6Put_any B wide s w (by omega) (by omega) (Lp.small_of hsm)
        rw [HA.out]
        rw [hsm] at HFT
        generalize Lp.all B wide s = L at *
        have HPK : Hid (∀ (a : Option Addr) (cap : Nat) (w : World), Bits2 w a L → Calls Try.prog 45 #[.slice a L.length cap, .bool wide] w fun e w' => e = .returned (.string ⟨((Bp.text wide L).map UInt8.ofNat).toArray⟩) ∧ Below w.heap.size w w') := fun a cap w h => l1Put_any wide a L.length cap L w h rfl (by omega) hf.1
        generalize hT : (Bp.text wide L).map UInt8.ofNat = T at *
        clear HAN hsm hf HA hT
        go_enter Try.func14, Try.ntmps14
        go_wp2_with fail
        refine (HOK.out _).mono ?_
        rintro e w1 ⟨rfl, hw1⟩
        replace hw1 := hw1.symm
        subst hw1
        go_wp2_with fail
        refine (HFT.out _).mono ?_
        rintro e w1 ⟨rfl, m, hw1⟩
        have B1 : Hid (Below w.heap.size w w1) := by show Below _ _ _; rw [hw1]; exact below_drewN (Below.refl _ _) _
        clear hw1
        go_wp2_with fail
        refine (HPU.out _).mono ?_
        rintro e w2 ⟨ao, cap, rfl, hbits, b2⟩
        have B2 : Hid (Below w.heap.size w w2) := B1.out.trans (b2.mono B1.out.size)
        have HBI : Hid (Bits2 w2 ao L) := hbits
        clear b2 hbits
        go_wp2_with fail
        refine (HPK.out ao cap w2 HBI.out).mono ?_
        rintro e w3 ⟨rfl, b3⟩
        have B3 : Hid (Below w.heap.size w w3) := B2.out.trans (b3.mono B2.out.size)
        clear b3
        go_wp2_with fail
        go_ret
        exact ⟨rfl, B3.out⟩
end Go.Proofs.Ytjfihmpnbblomaa

/- LzwPut of the program. -/
namespace Go.Proofs.Ytjfihmpnbblomaa
open Go.RowKit Go.Maps

theorem shr_small (y b : Nat) (_hy : y < 256) : (y / 2 ^ b = 0) ↔ y < 2 ^ b := by
  rw [Nat.div_eq_zero_iff]
  have : (2 : Nat) ^ b ≠ 0 := by have := Nat.one_le_two_pow (n := b); omega
  omega

set_option maxHeartbeats 1000000 in
theorem bytesFit_any (b : Nat) (s : ByteArray) (w : World) (hb : b ≤ 8) (hs : s.size ≤ 9000) :
    Calls Try.prog 37 #[.string s, .int .i64 (b : Int)] w fun e w' => e = .returned (.bool (Lp.smallB b s)) ∧ w' = w := by
  have HNO : Hid (∀ k (h : k < s.size), 2 ^ b ≤ (s[k]).toNat → Lp.smallB b s = false) := fun k h hk => by
    rw [← Bool.not_eq_true]
    intro hc
    have := Lp.small_of hc k h
    rw [extract_byte s k h] at this
    omega
  have HYES : Hid ((∀ k (h : k < s.size), (s[k]).toNat < 2 ^ b) → Lp.smallB b s = true) := fun h => by
    unfold Lp.smallB
    rw [List.all_eq_true]
    intro k hk
    have hk' := List.mem_range.1 hk
    rw [extract_byte s k hk']
    simpa using h k hk'
  generalize hB : Lp.smallB b s = B at *
  clear hB
  go_enter Try.func37, Try.ntmps37
  go_wp2_with fail
  go_loop [8] (fun i => ∃ k : Nat, k ≤ s.size ∧ i = .int .i64 (k : Int) ∧ Hid (∀ j (h : j < s.size), j < k → (s[j]).toNat < 2 ^ b)) (fun i => s.size - (intOf i).toNat)
  case atStart => exact ⟨0, Nat.zero_le _, rfl, fun j _ h => absurd h (Nat.not_lt_zero _)⟩
  case round =>
    obtain ⟨k, hk, rfl, HA⟩ := hrel
    by_cases hlt : k < s.size
    · obtain ⟨y, hy⟩ : ∃ y, y = (s[k]).toNat := ⟨_, rfl⟩
      have hyb : y < 256 := by rw [hy]; exact UInt8.toNat_lt _
      have hsy : (s[k]).toNat = y := hy.symm
      have hi : (k : Int) < (s.size : Int) := by omega
      have hsh := shr_small y b hyb
      have hA0 : y / 2 ^ b ≤ y := Nat.div_le_self _ _
      obtain ⟨q, hq⟩ : ∃ q, q = y / 2 ^ b := ⟨_, rfl⟩
      rw [← hq] at hsh hA0
      have e1 : (y : Int) / 2 ^ b = (q : Int) := by rw [hq]; simp
      have e2 : (y : Int) >>> b = (q : Int) := by rw [Int.shiftRight_eq_div_pow, hq]; simp
      have hu := wrap_u8_small q (by omega)
      by_cases hsm : y < 2 ^ b
      · have HA2 : Hid (∀ j (h : j < s.size), j < k + 1 → (s[j]).toNat < 2 ^ b) := fun j h hj => by
          rcases Nat.lt_or_ge j k with h1 | h1
          · exact HA.out j h h1
          · have e : j = k := by omega
            subst e
            omega
        have hq0 : q = 0 := hsh.2 hsm
        subst hq0
        clear hy HA hsh hq
        go_wp2_with fail
        go_round
        case rel => exact ⟨k + 1, by omega, by go_num, HA2⟩
        case measure => simp [intOf]; omega
      · have hBf : B = false := HNO.out k hlt (by omega)
        subst hBf
        have hq0 : q ≠ 0 := fun e => hsm (hsh.1 e)
        have hqb : ((q : Int) != 0) = true := by rw [bne_iff_ne]; omega
        clear hy HA hsh hq
        go_wp2_with fail
        go_ret
        exact ⟨rfl, rfl⟩
    · have hBt : B = true := HYES.out (fun j h => HA.out j h (by omega))
      subst hBt
      go_wp2_with fail
      go_ret
      exact ⟨rfl, rfl⟩
end Go.Proofs.Ytjfihmpnbblomaa

/- LzwPut of the program: its loop. -/
namespace Go.Proofs.Ytjfihmpnbblomaa
open Go.RowKit Go.Maps

theorem Lz.width_start {b : Nat} (_hb : b ≤ 8) (hb2 : 2 ≤ b) (wide : Bool) : Lz.width b wide (2 ^ b + 2) = b + 1 := by
  have h1 : 2 ^ 2 ≤ 2 ^ b := Nat.pow_le_pow_right (by omega) hb2
  have h2 : (2 : Nat) ^ (b + 1) = 2 * 2 ^ b := by rw [Nat.pow_succ]; omega
  unfold Lz.width
  refine Lz.grow_stop (fun h => ?_)
  have := h.2
  unfold Lz.known at this
  split at this <;> omega
theorem Lp.known_since {b n : Nat} (h : 2 ^ b + 2 ≤ n) : Lp.known b n = 2 ^ b + 2 + (n - (2 ^ b + 2) - 1) := by
  unfold Lp.known
  generalize 2 ^ b + 2 = F at *
  by_cases e : n = F
  · rw [if_pos e]; omega
  · rw [if_neg e]; omega

/-- between two phrases -/
structure LqA (w : World) (lo B b : Nat) (wide : Bool) (s : ByteArray) (p : Nat) (l : List ByteArray) (out : List (Int × Int)) (ov : Value) (mb N : Nat) (D : DataW Unit) (wr : World) : Prop where
  at_ : Lp.at b wide s (p + 1) = ⟨l, out, s.extract p (p + 1)⟩
  inv : Lq.Inv b l
  wr_ : Wr wr B b wide (.map (some mb)) (l.length - (2 ^ b + 2)) ov
  op : OwnP wr lo ov out.length out
  map_ : MapAt wr mb N D
  nl : N ≤ l.length
  tab : TabIs D b l
  lm : lo ≤ mb
  bel : Below lo w wr
/-- behind the last one -/
structure LqB (w : World) (lo B b : Nat) (wide : Bool) (LL : List (Int × Int)) (mv : Value) (since : Nat) (out : List (Int × Int)) (ov : Value) (wr : World) : Prop where
  wr_ : Wr wr B b wide mv since ov
  op : OwnP wr lo ov out.length out
  bel : Below lo w wr
  si : since ≤ 4200
  ol : out.length ≤ 5003
  all_ : LL = out ++ [(((2 ^ b : Nat) : Int) + 1, (Lz.width b wide (2 ^ b + 2 + (since - 1)) : Int))]
def LqI (w : World) (lo B b : Nat) (wide : Bool) (s : ByteArray) (LL : List (Int × Int)) (p : Nat) (wr : World) : Prop :=
  (p < s.size ∧ ∃ l out ov mb N D, LqA w lo B b wide s p l out ov mb N D wr) ∨ (p = s.size ∧ ∃ mv since out ov, LqB w lo B b wide LL mv since out ov wr)

theorem Lp.at_first {b : Nat} {wide : Bool} {s : ByteArray} (hs : 0 < s.size) : Lp.at b wide s 1 = ⟨Lz.start b, (Lp.init b).out, s.extract 0 1⟩ := by
  show Lp.one b wide (Lp.init b) (s.extract 0 1) = _
  unfold Lp.one Lp.init
  simp only [Lp.nil_app]
  rw [if_pos]
  rw [Lp.num_one (by rw [ByteArray.size_extract]; omega)]
  omega
theorem Lp.close_end {b : Nat} {wide : Bool} {l : List ByteArray} {out : List (Int × Int)} {z : ByteArray} (hz : z.size ≠ 0) (hl : 2 ^ b + 2 ≤ l.length) :
    Lp.close b wide ⟨l, out, z⟩ = (out ++ [Lp.code b wide (Lp.num l z) l.length]) ++ [(((2 ^ b : Nat) : Int) + 1, (Lz.width b wide (2 ^ b + 2 + ((l.length - (2 ^ b + 2) + 1) - 1)) : Int))] := by
  unfold Lp.close
  rw [if_neg hz]
  unfold Lp.code
  rw [Lp.known_since (n := l.length + 1) (by omega), show l.length + 1 - (2 ^ b + 2) - 1 = l.length - (2 ^ b + 2) + 1 - 1 by omega]

set_option linter.unusedSimpArgs false in
set_option maxHeartbeats 4000000 in
set_option maxRecDepth 20000 in
theorem impl_lzwPut_yes (s : ByteArray) (b : Nat) (wide : Bool) (w : World) (hok : Lz.ok b wide = true) (hsz : s.size ≤ 5000) (hsB : Lp.smallB b s = true) :
    Calls Try.prog 13 #[.string s, .int .i64 (b : Int), .bool wide] w fun e w' => e = .returned (.string ⟨((Bp.text wide (Lp.all b wide s)).map UInt8.ofNat).toArray⟩) ∧ Below w.heap.size w w' := by
  have hbd := Lz.ok_rng hok
  have hb : b ≤ 8 := by omega
  have hb2 : 2 ≤ b := by omega
  have hsm := Lp.small_of hsB
  have hallok := Lp.all_ok hb hb2 wide hsm hsz
  have HOK : Hid (∀ w', Calls Try.prog 36 #[.agg #[.int .i64 (b : Int), .bool wide]] w' fun e w'' => e = .returned (.bool true) ∧ Below w'.heap.size w' w'') := fun w' => by rw [← hok]; exact lzOk_any b wide w'
  have HFT : Hid (∀ w', Calls Try.prog 37 #[.string s, .int .i64 (b : Int)] w' fun e w'' => e = .returned (.bool true) ∧ w'' = w') := fun w' => by rw [← hsB]; exact bytesFit_any b s w' hb (by omega)
  have HEN : Hid (∀ w', Calls Try.prog 42 #[.agg #[.int .i64 (b : Int), .bool wide]] w' fun e w'' => e = .returned (.int .i64 ((2 ^ b + 1 : Nat) : Int)) ∧ Below w'.heap.size w' w'') := fun w' => lzEnd_any b hb wide w'
  have HGD : Hid (∀ k, k ≤ s.size → Lp.Good b wide k (Lp.at b wide s k)) := fun k hk => Lp.good_at hb wide hsm k hk
  have HBY : Hid (∀ k (h : k < s.size), (s[k]).toNat < 2 ^ b) := fun k hk => by rw [← extract_byte s k hk]; exact hsm k hk
  obtain ⟨LL, hLL⟩ : ∃ LL, LL = Lp.all b wide s := ⟨_, rfl⟩
  have HLL : Hid (LL = Lp.all b wide s) := hLL
  rw [← hLL] at hallok ⊢
  have HBP : Hid (∀ (a : Option Addr) (cap : Nat) (w' : World), Bits2 w' a LL → Calls Try.prog 43 #[.slice a LL.length cap, .bool wide] w' fun e w'' => e = .returned (.string ⟨((Bp.text wide LL).map UInt8.ofNat).toArray⟩) ∧ Below w'.heap.size w' w'') := fun a cap w' h => by
    have := impl_bitsPut wide a LL.length cap LL w' h rfl (by omega) (fun p hp => by
      obtain ⟨j, hj, e⟩ := List.getElem_of_mem hp
      have := (hallok.1 j hj hj).1
      rw [e] at this
      unfold Bp.Ok at this
      have h3 : 2 ^ p.2.toNat ≤ 2 ^ 24 := Nat.pow_le_pow_right (by omega) (by omega)
      have h4 : (2 : Nat) ^ 24 = 16777216 := by decide
      omega)
    rw [Bp.answer_yes hallok.1] at this
    exact this
  generalize hT : (Bp.text wide LL).map UInt8.ofNat = T at *
  clear hT hLL hok hsB hsm hallok hbd
  have d1 : decide ((s.size : Int) > 5000) = false := decide_eq_false (by omega)
  obtain ⟨W0, hW0⟩ : ∃ W0, W0 = w.alloc (.cells #[.int .i64 (b : Int), .bool wide] 50) := ⟨_, rfl⟩
  have HB0 : Hid (Below w.heap.size w W0) := by show Below _ _ _; rw [hW0]; exact (Below.refl _ _).alloc (Nat.le_refl _) _
  have hz0 : W0.heap.size = w.heap.size + 1 := by rw [hW0]; simp
  have HC0 : Hid (W0.cell? ⟨w.heap.size, 0, none⟩ = some (.int .i64 (b : Int)) ∧ W0.cell? ⟨w.heap.size, 1, none⟩ = some (.bool wide)) := by
    show _ ∧ _
    rw [hW0]; exact ⟨by simp, by simp⟩
  have HW0 : Hid (W0 = w.alloc (.cells #[.int .i64 (b : Int), .bool wide] 50)) := hW0
  clear hW0
  go_enter Try.func13, Try.ntmps13
  go_wp2_with fail
  refine (HOK.out _).mono ?_
  rintro e w1 ⟨rfl, b1⟩
  rw [← HW0.out] at b1
  have HB1 : Hid (Below w.heap.size w w1) := HB0.out.trans (b1.mono (by omega))
  have hz1 : w.heap.size + 1 ≤ w1.heap.size := by have := b1.size; omega
  have c10 : w1.cell? ⟨w.heap.size, 0, none⟩ = some (.int .i64 (b : Int)) := (b1.cell (p := ⟨w.heap.size, 0, none⟩) (by show w.heap.size < _; omega)).trans HC0.out.1
  have c11 : w1.cell? ⟨w.heap.size, 1, none⟩ = some (.bool wide) := (b1.cell (p := ⟨w.heap.size, 1, none⟩) (by show w.heap.size < _; omega)).trans HC0.out.2
  clear b1 HB0 HC0 HW0 HOK hz0
  go_wp2_with fail
  refine (HFT.out _).mono ?_
  rintro e w2 ⟨rfl, hw2⟩
  replace hw2 := hw2.symm
  subst hw2
  clear HFT
  obtain ⟨B, hB⟩ : ∃ B, B = w1.heap.size := ⟨_, rfl⟩
  obtain ⟨W2, hW2⟩ : ∃ W2, W2 = w1.alloc (.cells #[.int .i64 (b : Int), .bool wide, .map none, .int .i64 0, .slice none 0 0] 63) := ⟨_, rfl⟩
  have hr2 : Wr W2 B b wide (.map none) 0 (.slice none 0 0) := by rw [hW2, hB]; exact World.alloc_heap_new w1 _
  have hb2' : Below w.heap.size w W2 := by rw [hW2]; exact HB1.out.alloc HB1.out.size _
  have hlB : w.heap.size ≤ B := by rw [hB]; exact HB1.out.size
  have HFO : Hid (Calls Try.prog 38 #[.pointer (some ⟨B, 0, none⟩)] W2 fun e w' => e = .returned (.tuple #[]) ∧ LqI w w.heap.size B b wide s LL 0 w') := by
    refine (wrForget B b 0 0 w.heap.size wide (.map none) (.slice none 0 0) [] _ W2 hb hr2 (World.ownsRow_nil _ _ _ _) hb2'.size (by omega) (by omega) rfl).mono ?_
    rintro e w3 ⟨rfl, g, cap, mb, hr3, ho3, hm3, hmb, hg3⟩
    refine ⟨rfl, ?_⟩
    have hbel3 : Below w.heap.size w w3 := hg3.below hb2' hlB hb2'.size (fun k hk => by cases hk)
    have hout : ([] : List (Int × Int)) ++ [(((2 ^ b : Nat) : Int), (Lz.width b wide (2 ^ b + 2 + (0 - 1)) : Int))] = (Lp.init b).out := by
      rw [show 2 ^ b + 2 + (0 - 1) = 2 ^ b + 2 by omega, Lz.width_start hb hb2]; rfl
    rw [hout] at ho3
    by_cases hs0 : 0 < s.size
    · refine .inl ⟨hs0, Lz.start b, (Lp.init b).out, .slice (some ⟨g, 0, none⟩) (0 + 1) cap, mb, 0, .map [], { at_ := Lp.at_first hs0, inv := Lq.inv_start hb, wr_ := ?_, op := ho3, map_ := hm3, nl := Nat.zero_le _, tab := tab_start b, lm := by have := hb2'.size; omega, bel := hbel3 }⟩
      rw [Lz.start_len, Nat.sub_self]; exact hr3
    · refine .inr ⟨by omega, _, 0, (Lp.init b).out, _, { wr_ := hr3, op := ho3, bel := hbel3, si := by omega, ol := by show 1 ≤ _; omega, all_ := ?_ }⟩
      rw [HLL.out]
      have e0 : s.size = 0 := by omega
      unfold Lp.all
      rw [e0]
      show Lp.close b wide (Lp.init b) = _
      unfold Lp.close
      rw [if_pos (show (Lp.init b).last.size = 0 from rfl)]
      unfold Lp.code
      rw [show (Lp.init b).l.length = 2 ^ b + 2 from Lz.start_len b, Lp.known_since (Nat.le_refl _), show 2 ^ b + 2 - (2 ^ b + 2) - 1 = 0 - 1 by omega]
  have HW2 : Hid (w1.alloc (.cells #[.int .i64 (b : Int), .bool wide, .map none, .int .i64 0, .slice none 0 0] 63) = W2) := hW2.symm
  have HBB : Hid (B = w1.heap.size) := hB
  rw [hW2, hB] at HFO
  clear hr2 hb2' hW2 hB
  go_wp2_with fail
  refine HFO.out.mono ?_
  rintro e w3 ⟨rfl, hI⟩
  rw [← HBB.out] at hI ⊢
  have HI0 : Hid (LqI w w.heap.size B b wide s LL 0 w3) := hI
  clear hI HFO HW2 HBB c10 c11 HB1 hz1
  go_wp2_with fail
  go_loopw [9] (fun pv wr => ∃ p : Nat, p ≤ s.size ∧ pv = .int .i64 (p : Int) ∧ Hid (LqI w w.heap.size B b wide s LL p wr)) (fun pv _ => s.size - (intOf pv).toNat)
  case atStart => exact ⟨0, Nat.zero_le _, rfl, HI0⟩
  case round =>
    obtain ⟨p, hp, rfl, HI⟩ := hrel
    clear HI0
    by_cases hlt : p < s.size
    · rcases HI.out with ⟨-, l, out, ov, mb, N, D, hA⟩ | ⟨hq, -⟩
      · have HA : Hid (LqA w w.heap.size B b wide s p l out ov mb N D wr) := hA
        clear hA HI
        have hgd := HGD.out (p + 1) (by omega)
        rw [HA.out.at_] at hgd
        have HG1 : Hid (Lp.Good b wide (p + 1) ⟨l, out, s.extract p (p + 1)⟩) := hgd
        have hll : l.length < Lp.full wide := hgd.hi
        have hlo2 : 2 ^ b + 2 ≤ l.length := hgd.lo
        have hol : out.length ≤ 5002 := Lp.len_bd hb hgd (by omega)
        have hfb := Lp.full_bd wide
        have hl95 : l.length ≤ 4094 := by have h1 := hll; have h2 := hfb.2; omega
        have hs42 : l.length - (2 ^ b + 2) + 1 ≤ 4200 := Nat.le_trans (Nat.succ_le_succ (Nat.sub_le _ _)) (by omega)
        clear hgd
        obtain ⟨u, hu⟩ : ∃ u, u = s.extract p s.size := ⟨_, rfl⟩
        have hus : u.size = s.size - p := by rw [hu, ByteArray.size_extract]; omega
        have hux : ∀ j, j ≤ s.size - p → u.extract 0 j = s.extract p (p + j) := fun j hj => by
          rw [hu, ByteArray.extract_extract]
          congr 1
          omega
        have hub : ∀ k (h : k < u.size), (u[k]).toNat < 2 ^ b := fun k hk => by
          have e : u[k] = s[p + k]'(by omega) := by subst hu; exact ByteArray.getElem_extract ..
          rw [e]; exact HBY.out (p + k) (by omega)
        have HLG : Hid (Calls Try.prog 39 #[.pointer (some ⟨B, 0, none⟩), .string u] wr (LongOut l u wr)) := wrLongest B b _ mb N wide ov D l u wr hb HA.out.wr_ HA.out.map_ HA.out.tab HA.out.inv (by omega) (by omega) (by omega) hub
        have HU : Hid (u.size = s.size - p ∧ ∀ j, j ≤ s.size - p → u.extract 0 j = s.extract p (p + j)) := ⟨hus, hux⟩
        have eu : s.extract p s.size = u := hu.symm
        have hpi : (p : Int) < (s.size : Int) := by omega
        clear hu hus hux hub
        go_wp2_with fail
        refine HLG.out.mono ?_
        rintro e w5 ⟨v, k, rfl, hk1, hk2, hkn, hkv, hke, m, hw5⟩
        have hkp : p + k ≤ s.size := by have := HU.out.1; omega
        obtain ⟨z, hz⟩ : ∃ z, z = s.extract p (p + k) := ⟨_, rfl⟩
        have hzs : z.size = k := by rw [hz, ByteArray.size_extract]; omega
        have HZV : Hid (Lp.num l z = (v : Int)) := by show _ = _; rw [hz, ← HU.out.2 k (by omega)]; exact hkv
        have HATK : Hid (Lp.at b wide s (p + k) = ⟨l, out, z⟩) := by
          show _ = _
          rw [hz]
          exact Lq.run HA.out.at_ (fun j h1 h2 => by rw [← HU.out.2 j (by omega)]; exact hkn j h1 h2) k hk1 (Nat.le_refl _)
        have HEND : Hid (p + k = s.size ∨ (p + k < s.size ∧ Lp.num l (s.extract p (p + (k + 1))) < 0)) := by
          rcases hke with h1 | ⟨h1, h2⟩
          · exact .inl (by have := HU.out.1; omega)
          · refine .inr ⟨by have := HU.out.1; omega, ?_⟩
            rw [← HU.out.2 (k + 1) (by have := HU.out.1; omega)]; exact h2
        have HZB : Hid (z.size = 1 → Lp.byte z < 2 ^ b) := fun h1 => by
          have e1 : k = 1 := by omega
          rw [hz, e1, extract_byte s p hlt]; exact HBY.out p hlt
        have HA5 : Hid (LqA w w.heap.size B b wide s p l out ov mb N D w5) := by
          subst hw5
          exact ⟨HA.out.at_, HA.out.inv, HA.out.wr_, HA.out.op, HA.out.map_, HA.out.nl, HA.out.tab, HA.out.lm, below_drewN HA.out.bel m⟩
        have HZZ : Hid (z = s.extract p (p + k)) := hz
        clear hz hkn hkv hke hw5 HA HLG HU eu
        have hsz5 : w.heap.size ≤ w5.heap.size := HA5.out.bel.size
        obtain ⟨C, hC⟩ : ∃ C, C = Lp.code b wide (v : Int) l.length := ⟨_, rfl⟩
        have HPU : Hid (Calls Try.prog 40 #[.pointer (some ⟨B, 0, none⟩), .int .i64 (v : Int)] w5 fun e w' => e = .returned (.tuple #[]) ∧ ∃ g cap, Wr w' B b wide (.map (some mb)) (l.length - (2 ^ b + 2) + 1) (.slice (some ⟨g, 0, none⟩) (out.length + 1) cap) ∧ OwnP w' w.heap.size (.slice (some ⟨g, 0, none⟩) (out.length + 1) cap) (out.length + 1) (out ++ [C]) ∧ WrG B ov w5 w') :=
          wrPut B b (l.length - (2 ^ b + 2)) out.length w.heap.size wide _ ov (v : Int) out C w5 hb HA5.out.wr_ HA5.out.op hsz5 (by omega) (Nat.le_trans (Nat.le_succ _) hs42) (by rw [hC]; unfold Lp.code; rw [Lp.known_since hlo2])
        have HC : Hid (C = Lp.code b wide (v : Int) l.length) := hC
        clear hC
        have hkI : (p : Int) + (k : Int) = ((p + k : Nat) : Int) := by omega
        go_wp2_with fail
        refine HPU.out.mono ?_
        rintro e w6 ⟨rfl, g6, cap6, hr6, ho6, hg6⟩
        have hmB := map_writer HA5.out.map_ HA5.out.wr_
        have hom := map_apart HA5.out.map_ HA5.out.op
        have hm6 : MapAt w6 mb N D := map_same HA5.out.map_ (hg6.block mb HA5.out.map_.lt hmB (fun e => hom e.symm))
        have hbel6 : Below w.heap.size w w6 := hg6.below HA5.out.bel hlB hsz5 (fun k hk => (World.ownsRow.lt HA5.out.op k hk).1)
        have HS6 : Hid (Wr w6 B b wide (.map (some mb)) (l.length - (2 ^ b + 2) + 1) (.slice (some ⟨g6, 0, none⟩) (out.length + 1) cap6) ∧ OwnP w6 w.heap.size (.slice (some ⟨g6, 0, none⟩) (out.length + 1) cap6) (out.length + 1) (out ++ [C]) ∧ MapAt w6 mb N D ∧ Below w.heap.size w w6) := ⟨hr6, ho6, hm6, hbel6⟩
        have HK6 : Hid (TabIs D b l ∧ Lq.Inv b l ∧ N ≤ l.length ∧ w.heap.size ≤ mb) := ⟨HA5.out.tab, HA5.out.inv, HA5.out.nl, HA5.out.lm⟩
        clear hr6 ho6 hg6 hm6 hbel6 hom hmB HPU HA5 hsz5
        by_cases hfin : p + k < s.size
        · obtain ⟨c, hc⟩ : ∃ c, c = (s[p + k]).toNat := ⟨_, rfl⟩
          have hcb : c < 256 := by rw [hc]; exact UInt8.toNat_lt _
          have hsc : (s[p + k]).toNat = c := hc.symm
          have hx1 : s.extract (p + k) (p + k + 1) = Lz.one c := by
            have hs1 : (s.extract (p + k) (p + k + 1)).size = 1 := by rw [ByteArray.size_extract]; omega
            rw [Lp.one_of hs1, extract_byte s (p + k) hfin, hc]
          have hzx : z ++ Lz.one c = s.extract p (p + (k + 1)) := by
            rw [HZZ.out, ← hx1, ByteArray.extract_append_extract, Nat.min_eq_left (by omega), Nat.max_eq_right (by omega)]
            rfl
          have hnum : Lp.num l (z ++ Lz.one c) < 0 := by
            rw [hzx]
            rcases HEND.out with h1 | h1
            · omega
            · exact h1.2
          have hfind : Lp.find l (z ++ Lz.one c) < 0 := by rw [← Lp.num_two rfl (by omega)]; exact hnum
          have hnx : Lp.at b wide s (p + k + 1) = Lp.one b wide ⟨l, out, z⟩ (Lz.one c) := by
            show Lp.one b wide (Lp.at b wide s (p + k)) (s.extract (p + k) (p + k + 1)) = _
            rw [HATK.out, hx1]
          obtain ⟨P, hP⟩ : ∃ P : Nat, P = p + k := ⟨_, rfl⟩
          have hPb : P < s.size := by omega
          have hPi : (P : Int) < (s.size : Int) := by omega
          have hkI2 : (p : Int) + (k : Int) = (P : Int) := by omega
          have hscP : (s[P]).toNat = c := by subst hP; exact hsc
          have HX : Hid (s.extract P (P + 1) = Lz.one c ∧ Lp.at b wide s (P + 1) = Lp.one b wide ⟨l, out, z⟩ (Lz.one c)) := by rw [hP]; exact ⟨hx1, hnx⟩
          have HLN : Hid (Calls Try.prog 41 #[.pointer (some ⟨B, 0, none⟩), .agg #[.int .i64 (v : Int), .int .u8 (c : Int)]] w6 fun e w' => e = .returned (.tuple #[]) ∧ LqI w w.heap.size B b wide s LL P w') := by
            by_cases hfl : l.length + 1 < Lp.full wide
            · refine (wrLearn_add B b _ (out.length + 1) w.heap.size mb N v c wide _ D l z (out ++ [C]) w6 hb HS6.out.1 HS6.out.2.1 HS6.out.2.2.1 HK6.out.1 HK6.out.2.1 hlB HK6.out.2.2.2 (by omega) (by have := HK6.out.2.2.1; omega) HZV.out HZB.out (by omega) hfind hcb hfl).mono ?_
              rintro e w7 ⟨rfl, D2, hr7, ho7, hm7, ht7, hb7⟩
              refine ⟨rfl, .inl ⟨hPb, l ++ [z ++ Lz.one c], out ++ [C], .slice (some ⟨g6, 0, none⟩) (out.length + 1) cap6, mb, N + 1, D2, { at_ := ?_, inv := Lq.inv_more HK6.out.2.1 rfl (by omega) (by rw [HZV.out]; omega) hfind, wr_ := ?_, op := ?_, map_ := hm7, nl := ?_, tab := ht7, lm := HK6.out.2.2.2, bel := HS6.out.2.2.2.trans hb7 }⟩⟩
              · rw [HX.out.2, HX.out.1, Lp.one_add (by show ¬ 0 ≤ Lp.num l (z ++ Lz.one c); omega) (by show ¬ Lp.full wide ≤ l.length + 1; omega), HC.out]
                show Lp.St.mk _ (out ++ [Lp.code b wide (Lp.num l z) l.length]) _ = _
                rw [HZV.out]
              · rw [List.length_append, show l.length + [z ++ Lz.one c].length - (2 ^ b + 2) = l.length - (2 ^ b + 2) + 1 by simp; omega]
                exact hr7
              · rw [List.length_append]; exact ho7
              · rw [List.length_append]; have := HK6.out.2.2.1; simp; omega
            · refine (wrLearn_full B b _ (out.length + 1) w.heap.size mb N v c wide _ D l z (out ++ [C]) _ w6 hb HS6.out.1 HS6.out.2.1 HS6.out.2.2.1 HK6.out.1 HK6.out.2.1 hlB HK6.out.2.2.2 (by omega) (by have := HK6.out.2.2.1; omega) HZV.out HZB.out (by omega) hfind hcb (by omega) rfl rfl).mono ?_
              rintro e w7 ⟨rfl, g7, cap7, mb7, hr7, ho7, hm7, hmb7, hb7⟩
              refine ⟨rfl, .inl ⟨hPb, Lz.start b, (out ++ [C]) ++ [Lp.code b wide ((2 ^ b : Nat) : Int) (l.length + 1)], .slice (some ⟨g7, 0, none⟩) (out.length + 1 + 1) cap7, mb7, 0, .map [], { at_ := ?_, inv := Lq.inv_start hb, wr_ := ?_, op := ?_, map_ := hm7, nl := Nat.zero_le _, tab := tab_start b, lm := hmb7, bel := HS6.out.2.2.2.trans hb7 }⟩⟩
              · rw [HX.out.2, HX.out.1, Lp.one_full (by show ¬ 0 ≤ Lp.num l (z ++ Lz.one c); omega) (by show Lp.full wide ≤ l.length + 1; omega), HC.out]
                show Lp.St.mk _ ((out ++ [Lp.code b wide (Lp.num l z) l.length]) ++ _) _ = _
                rw [HZV.out]
              · rw [Lz.start_len, Nat.sub_self]; exact hr7
              · rw [List.length_append, List.length_append]; exact ho7
          clear hc hx1 hzx hnum hfind hnx hP HX HK6 HS6 HZV HATK HEND HZB HZZ HC hsc hkI
          go_wp2_with fail
          refine HLN.out.mono ?_
          rintro e w7 ⟨rfl, hI7⟩
          have HI7 : Hid (LqI w w.heap.size B b wide s LL P w7) := hI7
          clear hI7 HLN
          go_wp2_with fail
          go_roundw
          case rel => exact ⟨P, by omega, rfl, HI7⟩
          case measure => simp [intOf]; omega
        · obtain ⟨P, hP⟩ : ∃ P : Nat, P = p + k := ⟨_, rfl⟩
          have hPs : P = s.size := by omega
          have hPi : ¬ (P : Int) < (s.size : Int) := by omega
          have hkI2 : (p : Int) + (k : Int) = (P : Int) := by omega
          have HI7 : Hid (LqI w w.heap.size B b wide s LL P w6) := by
            refine .inr ⟨hPs, .map (some mb), l.length - (2 ^ b + 2) + 1, out ++ [C], .slice (some ⟨g6, 0, none⟩) (out.length + 1) cap6, { wr_ := HS6.out.1, op := by rw [List.length_append]; exact HS6.out.2.1, bel := HS6.out.2.2.2, si := hs42, ol := by rw [List.length_append]; show out.length + 1 ≤ _; omega, all_ := ?_ }⟩
            rw [HLL.out]
            unfold Lp.all
            rw [← hPs, hP, HATK.out, Lp.close_end (by omega) hlo2, HZV.out, HC.out]
          have hpP : p < P := by omega
          clear hP HK6 HS6 HZV HATK HEND HZB HZZ HC hkI
          have HPS : Hid (P = s.size) := hPs
          clear hPs
          go_wp2_with fail
          go_roundw
          case rel => exact ⟨P, by have := HPS.out; omega, rfl, HI7⟩
          case measure => simp [intOf]; have := HPS.out; omega
      · omega
    · rcases HI.out with ⟨hq, -⟩ | ⟨-, mv, since, out, ov, hBB⟩
      · exact absurd hq hlt
      · have HBX : Hid (LqB w w.heap.size B b wide LL mv since out ov wr) := hBB
        have c0 := hBB.wr_.cell 0
        have c1 := hBB.wr_.cell 1
        simp at c0 c1
        have hpi : ¬ (p : Int) < (s.size : Int) := by omega
        clear hBB HI
        go_wp2_with fail
        refine (HEN.out _).mono ?_
        rintro e w4 ⟨rfl, b4⟩
        have hr4 : Wr w4 B b wide mv since ov := HBX.out.wr_.same (b4.block _ HBX.out.wr_.lt)
        have ho4 : OwnP w4 w.heap.size ov out.length out := row_below HBX.out.op b4
        have hbel4 : Below w.heap.size w w4 := HBX.out.bel.trans (b4.mono HBX.out.bel.size)
        have HPU : Hid (Calls Try.prog 40 #[.pointer (some ⟨B, 0, none⟩), .int .i64 ((2 ^ b + 1 : Nat) : Int)] w4 fun e w' => e = .returned (.tuple #[]) ∧ ∃ g cap, Wr w' B b wide mv (since + 1) (.slice (some ⟨g, 0, none⟩) LL.length cap) ∧ Bits2 w' (some ⟨g, 0, none⟩) LL ∧ Below w.heap.size w w') := by
          refine (wrPut B b since out.length w.heap.size wide mv ov _ out _ w4 hb hr4 ho4 hbel4.size (by have := HBX.out.ol; omega) HBX.out.si rfl).mono ?_
          rintro e w5 ⟨rfl, g, cap, hr5, ho5, hg5⟩
          have hLL2 : LL = out ++ [(((2 ^ b + 1 : Nat) : Int), (Lz.width b wide (2 ^ b + 2 + (since - 1)) : Int))] := by rw [HBX.out.all_]; rfl
          have hlen : LL.length = out.length + 1 := by rw [hLL2, List.length_append]; rfl
          rw [← hLL2, ← hlen] at ho5
          rw [← hlen] at hr5
          obtain ⟨ao, c2, he, hbits⟩ := OwnP.bits ho5
          cases he
          exact ⟨rfl, g, cap, hr5, hbits, hg5.below hbel4 hlB hbel4.size (fun k hk => (World.ownsRow.lt ho4 k hk).1)⟩
        clear b4 hr4 ho4 hbel4 HEN HBX c0 c1
        generalize 2 ^ b + 1 = E at *
        go_wp2_with fail
        refine HPU.out.mono ?_
        rintro e w5 ⟨rfl, g, cap, hr5, hbits, hb5⟩
        have HS5 : Hid (Bits2 w5 (some ⟨g, 0, none⟩) LL ∧ Below w.heap.size w w5) := ⟨hbits, hb5⟩
        have k4 := hr5.cell 4
        simp at k4
        clear hr5 hbits hb5 HPU
        go_wp2_with fail
        refine (HBP.out (some ⟨g, 0, none⟩) cap w5 HS5.out.1).mono ?_
        rintro e w6 ⟨rfl, b6⟩
        have HB6 : Hid (Below w.heap.size w w6) := HS5.out.2.trans (b6.mono HS5.out.2.size)
        clear b6 HS5
        go_wp2_with fail
        go_ret
        exact ⟨rfl, HB6.out⟩
end Go.Proofs.Ytjfihmpnbblomaa

/- Whether so many bits can be packed, by the specification. -/
namespace Go.Proofs.Ytjfihmpnbblomaa
open Go.RowKit

def inB (n lo hi : Int) : Bool := decide (lo ≤ n ∧ n ≤ hi)
theorem l6In_any (n lo hi : Int) (w : World) : Calls Try.prog 32 #[.int .i64 n, .int .i64 lo, .int .i64 hi] w fun e w' => e = .returned (.bool (inB n lo hi)) ∧ w' = w := by
  by_cases h : lo ≤ n ∧ n ≤ hi
  · rw [show inB n lo hi = true from decide_eq_true h]
    exact l1In_yes n lo hi w h.1 h.2
  · rw [show inB n lo hi = false from decide_eq_false h]
    exact l1In_no n lo hi w h

set_option maxHeartbeats 400000 in
theorem l6Ok_any (b : Int) (wide : Bool) (w : World) : Calls Try.prog 31 #[.int .i64 b, .bool wide] w fun e w' => e = .returned (.bool (Lz.ok b wide)) ∧ w' = w := by
  have HIN : Hid (∀ w, Calls Try.prog 32 #[.int .i64 b, .int .i64 2, .int .i64 8] w fun e w' => e = .returned (.bool (inB b 2 8)) ∧ w' = w) := fun w => l6In_any b 2 8 w
  cases wide with
  | true =>
    by_cases h8 : b = 8
    · subst h8
      rw [show inB 8 2 8 = true from rfl] at HIN
      go_enter Try.func31, Try.ntmps31
      go_wp2_with fail
      refine (HIN.out _).mono ?_
      rintro e w1 ⟨rfl, hw1⟩
      subst hw1
      go_wp2_with fail
      go_ret
      exact ⟨rfl, rfl⟩
    · have hr : Lz.ok b true = false := by simp [Lz.ok, h8]
      rw [hr]
      have hb8 : (b == 8) = false := by simpa using h8
      generalize inB b 2 8 = k at HIN
      cases k
      all_goals
        go_enter Try.func31, Try.ntmps31
        go_wp2_with fail
        refine (HIN.out _).mono ?_
        rintro e w1 ⟨rfl, hw1⟩
        subst hw1
        go_wp2_with fail
        go_ret
        first | exact ⟨rfl, rfl⟩ | exact ⟨by simp [h8], rfl⟩
  | false =>
    have hr : Lz.ok b false = inB b 2 8 := by simp [Lz.ok, inB, Bool.decide_and]
    rw [hr]
    generalize inB b 2 8 = k at HIN ⊢
    cases k
    all_goals
      go_enter Try.func31, Try.ntmps31
      go_wp2_with fail
      refine (HIN.out _).mono ?_
      rintro e w1 ⟨rfl, hw1⟩
      subst hw1
      go_wp2_with fail
      go_ret
      exact ⟨rfl, rfl⟩
end Go.Proofs.Ytjfihmpnbblomaa

/- LzwPut of the program at every input; the exact law, walked. -/
namespace Go.Proofs.Ytjfihmpnbblomaa
open Go.RowKit

set_option maxHeartbeats 1000000 in
theorem impl_lzwPut (s : ByteArray) (b : Int) (wide : Bool) (w : World) (hs : s.size ≤ 3000000) :
    Calls Try.prog 13 #[.string s, .int .i64 b, .bool wide] w fun e w' => e = .returned (.string ⟨(Lp.ans s b wide).toArray⟩) ∧ Below w.heap.size w w' := by
  have HOK : Hid (∀ w', Calls Try.prog 36 #[.agg #[.int .i64 b, .bool wide]] w' fun e w'' => e = .returned (.bool (Lz.ok b wide)) ∧ Below w'.heap.size w' w'') := fun w' => lzOk_any b wide w'
  have HB0 : Hid (Below w.heap.size w (w.alloc (.cells #[.int .i64 b, .bool wide] 50))) := (Below.refl _ _).alloc (Nat.le_refl _) _
  cases hk : Lz.ok b wide with
  | false =>
    have HA : Hid (Lp.ans s b wide = []) := by show _ = _; unfold Lp.ans Lp.ok; rw [hk]; rfl
    rw [hk] at HOK
    rw [HA.out]
    clear hk HA
    go_enter Try.func13, Try.ntmps13
    go_wp2_with fail
    refine (HOK.out _).mono ?_
    rintro e w1 ⟨rfl, b1⟩
    have HB1 : Hid (Below w.heap.size w w1) := HB0.out.trans (b1.mono HB0.out.size)
    clear b1 HB0 HOK
    go_wp2_with fail
    go_ret
    exact ⟨rfl, HB1.out⟩
  | true =>
    have hbd := Lz.ok_rng hk
    obtain ⟨B, rfl⟩ := Int.eq_ofNat_of_zero_le (show 0 ≤ b by omega)
    have HAN : Hid (Lp.ans s B wide = if (decide (s.size ≤ 5000) && Lp.smallB B s) then (Bp.text wide (Lp.all B wide s)).map UInt8.ofNat else []) := by show _ = _; unfold Lp.ans Lp.ok; rw [hk, Bool.true_and, Int.toNat_natCast]
    by_cases h5 : 5000 < s.size
    · have HA : Hid (Lp.ans s B wide = []) := by show _ = _; rw [HAN.out, decide_eq_false (by omega)]; rfl
      rw [HA.out]
      rw [hk] at HOK
      have d1 : decide ((s.size : Int) > 5000) = true := decide_eq_true (by omega)
      clear HAN HA hk
      go_enter Try.func13, Try.ntmps13
      go_wp2_with fail
      refine (HOK.out _).mono ?_
      rintro e w1 ⟨rfl, b1⟩
      have HB1 : Hid (Below w.heap.size w w1) := HB0.out.trans (b1.mono HB0.out.size)
      clear b1 HB0 HOK
      go_wp2_with fail
      go_ret
      exact ⟨rfl, HB1.out⟩
    · cases hsm : Lp.smallB B s with
      | false =>
        have HA : Hid (Lp.ans s B wide = []) := by show _ = _; rw [HAN.out, hsm, Bool.and_false]; rfl
        have HFT : Hid (∀ w', Calls Try.prog 37 #[.string s, .int .i64 (B : Int)] w' fun e w'' => e = .returned (.bool false) ∧ w'' = w') := fun w' => by rw [← hsm]; exact bytesFit_any B s w' (by omega) (by omega)
        have d1 : decide ((s.size : Int) > 5000) = false := decide_eq_false (by omega)
        rw [HA.out]
        rw [hk] at HOK
        clear HAN HA hk hsm
        go_enter Try.func13, Try.ntmps13
        go_wp2_with fail
        refine (HOK.out _).mono ?_
        rintro e w1 ⟨rfl, b1⟩
        have HB1 : Hid (Below w.heap.size w w1) := HB0.out.trans (b1.mono HB0.out.size)
        clear b1 HB0 HOK
        go_wp2_with fail
        refine (HFT.out _).mono ?_
        rintro e w2 ⟨rfl, hw2⟩
        replace hw2 := hw2.symm
        subst hw2
        go_wp2_with fail
        go_ret
        exact ⟨rfl, HB1.out⟩
      | true =>
        have HA : Hid (Lp.ans s B wide = (Bp.text wide (Lp.all B wide s)).map UInt8.ofNat) := by show _ = _; rw [HAN.out, hsm, Bool.and_true, decide_eq_true (by omega)]; rfl
        rw [HA.out]
        exact impl_lzwPut_yes s B wide w hk (by omega) hsm

set_option maxHeartbeats 1000000 in
theorem exLzwPut (s : ByteArray) (b : Int) (wide : Bool) (hs : s.size ≤ maxLen) (_hw : (Lit.int .i64 b).wf = true) (w : World) :
    Calls Try.prog 6 #[.string s, .int .i64 b, .bool wide] w fun e w' => e = .returned (.bool true) ∧ Below w.heap.size w w' := by
  by_cases hbig : 1048576 < s.size
  · unfold maxLen at hs
    go_enter Try.func6, Try.ntmps6
    go_wp2_with fail
    go_ret
    exact ⟨rfl, Below.refl _ _⟩
  have hsm : s.size ≤ 1048576 := by omega
  obtain ⟨T, hT⟩ : ∃ T : ByteArray, T = ⟨(Lp.ans s b wide).toArray⟩ := ⟨_, rfl⟩
  have HSP : Hid (∀ w : World, Calls Try.prog 14 #[.string s, .int .i64 b, .bool wide] w fun e w' => e = .returned (.string T) ∧ Below w.heap.size w w') := fun w => by rw [hT]; exact spec_lzwPut s b wide w (by omega) (fun w => l6Ok_any b wide w)
  have HIM : Hid (∀ w : World, Calls Try.prog 13 #[.string s, .int .i64 b, .bool wide] w fun e w' => e = .returned (.string T) ∧ Below w.heap.size w w') := fun w => by rw [hT]; exact impl_lzwPut s b wide w (by omega)
  have hbe : (T.toList == T.toList) = true := by simp
  clear hT hbig
  go_enter Try.func6, Try.ntmps6
  go_wp2_with fail
  refine (HSP.out _).mono ?_
  rintro e w1 ⟨rfl, b1⟩
  go_wp2_with fail
  refine (HIM.out _).mono ?_
  rintro e w2 ⟨rfl, b2⟩
  have B2 : Hid (Below w.heap.size w w2) := b1.trans (b2.mono b1.size)
  clear b1 b2 HSP HIM
  go_wp2_with fail
  go_ret
  exact ⟨rfl, B2.out⟩
end Go.Proofs.Ytjfihmpnbblomaa
