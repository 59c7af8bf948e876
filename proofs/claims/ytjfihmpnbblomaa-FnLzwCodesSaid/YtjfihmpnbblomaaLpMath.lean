/- Packing a text by LZW: its mathematics. -/
import Derived.Test.YtjfihmpnbblomaaLzMath
import Derived.Test.YtjfihmpnbblomaaBpMath
namespace Go.Proofs.Ytjfihmpnbblomaa

/-- where a text stands in a list from here on -/
def Lp.from (s : ByteArray) : List ByteArray → Nat → Int
  | [], _ => -1
  | x :: xs, i => if x = s then (i : Int) else Lp.from s xs (i + 1)
def Lp.find (l : List ByteArray) (s : ByteArray) : Int := Lp.from s l 0
def Lp.byte (s : ByteArray) : Nat := (s.data.toList.headD 0).toNat
def Lp.num (l : List ByteArray) (s : ByteArray) : Int := if s.size = 1 then (Lp.byte s : Int) else Lp.find l s
def Lp.known (b : Nat) (n : Nat) : Nat := if n = 2 ^ b + 2 then n else n - 1
def Lp.code (b : Nat) (wide : Bool) (v : Int) (n : Nat) : Int × Int := (v, (Lz.width b wide (Lp.known b n) : Int))
def Lp.full (wide : Bool) : Nat := if wide then 4094 else 4095

/-- what is known, what was put, the last text -/
structure Lp.St where
  l : List ByteArray
  out : List (Int × Int)
  last : ByteArray
/-- a byte more -/
def Lp.one (b : Nat) (wide : Bool) (t : Lp.St) (x : ByteArray) : Lp.St :=
  if 0 ≤ Lp.num t.l (t.last ++ x) then ⟨t.l, t.out, t.last ++ x⟩
  else if Lp.full wide ≤ t.l.length + 1 then ⟨Lz.start b, (t.out ++ [Lp.code b wide (Lp.num t.l t.last) t.l.length]) ++ [Lp.code b wide ((2 ^ b : Nat) : Int) (t.l.length + 1)], x⟩
  else ⟨t.l ++ [t.last ++ x], t.out ++ [Lp.code b wide (Lp.num t.l t.last) t.l.length], x⟩
def Lp.init (b : Nat) : Lp.St := ⟨Lz.start b, [(((2 ^ b : Nat) : Int), ((b + 1 : Nat) : Int))], ⟨#[]⟩⟩
def Lp.at (b : Nat) (wide : Bool) (s : ByteArray) : Nat → Lp.St
  | 0 => Lp.init b
  | k + 1 => Lp.one b wide (Lp.at b wide s k) (s.extract k (k + 1))
/-- what ends it -/
def Lp.close (b : Nat) (wide : Bool) (t : Lp.St) : List (Int × Int) :=
  if t.last.size = 0 then t.out ++ [Lp.code b wide (((2 ^ b : Nat) : Int) + 1) t.l.length]
  else (t.out ++ [Lp.code b wide (Lp.num t.l t.last) t.l.length]) ++ [Lp.code b wide (((2 ^ b : Nat) : Int) + 1) (t.l.length + 1)]
def Lp.all (b : Nat) (wide : Bool) (s : ByteArray) : List (Int × Int) := Lp.close b wide (Lp.at b wide s s.size)

theorem Lp.from_bd (s : ByteArray) : ∀ (l : List ByteArray) (i : Nat), -1 ≤ Lp.from s l i ∧ Lp.from s l i < (i + l.length : Nat)
  | [], i => by unfold Lp.from; simp; omega
  | x :: xs, i => by
    unfold Lp.from
    split
    · simp; omega
    · have := Lp.from_bd s xs (i + 1)
      simp only [List.length_cons]
      omega
theorem Lp.find_bd (l : List ByteArray) (s : ByteArray) : -1 ≤ Lp.find l s ∧ Lp.find l s < (l.length : Int) := by
  have := Lp.from_bd s l 0
  unfold Lp.find
  omega
theorem Lp.byte_lt (s : ByteArray) : Lp.byte s < 256 := UInt8.toNat_lt _
theorem Lp.full_bd (wide : Bool) : 4094 ≤ Lp.full wide ∧ Lp.full wide ≤ 4095 := by unfold Lp.full; split <;> omega

/-- the width serves -/
theorem Lz.grow_fits (k : Nat) : ∀ f n, n ≤ 12 → 12 ≤ n + f → Lz.grow k f n = 12 ∨ k < 2 ^ Lz.grow k f n
  | 0, n, h, h2 => by unfold Lz.grow; left; omega
  | f + 1, n, h, h2 => by
    unfold Lz.grow
    split
    · rename_i hc
      exact Lz.grow_fits k f (n + 1) (by omega) (by omega)
    · rename_i hc
      rcases Nat.lt_or_ge n 12 with h3 | h3
      · right
        rcases Nat.lt_or_ge k (2 ^ n) with h4 | h4
        · exact h4
        · exact absurd ⟨h3, h4⟩ hc
      · left; omega
theorem Lp.fits {b : Nat} (hb : b ≤ 8) (wide : Bool) {v n : Nat} (_hn : 2 ^ b + 2 ≤ n) (hv : v < n) (h4 : v < 4096) : v < 2 ^ Lz.width b wide (Lp.known b n) := by
  have hw := Lz.width_bd hb wide (Lp.known b n)
  have hg := Lz.grow_fits (Lz.known wide (Lp.known b n)) 12 (b + 1) (by omega) (by omega)
  have hk : v ≤ Lz.known wide (Lp.known b n) := by
    unfold Lz.known Lp.known
    split <;> split <;> omega
  unfold Lz.width at hw ⊢
  rcases hg with e | e
  · rw [e]; exact h4
  · omega
theorem Lp.fits_small {b : Nat} (hb : b ≤ 8) (wide : Bool) {v m : Nat} (hv : v < 2 ^ (b + 1)) : v < 2 ^ Lz.width b wide m := by
  have hw := Lz.width_bd hb wide m
  exact Nat.lt_of_lt_of_le hv (Nat.pow_le_pow_right (by omega) hw.1)

/-- what holds between two bytes -/
structure Lp.Good (b : Nat) (wide : Bool) (k : Nat) (t : Lp.St) : Prop where
  lo : 2 ^ b + 2 ≤ t.l.length
  hi : t.l.length < Lp.full wide
  last : t.last.size ≤ k
  num : t.last.size ≠ 0 → ∃ v : Nat, Lp.num t.l t.last = (v : Int) ∧ v < t.l.length
  ok : ∀ p ∈ t.out, Bp.Ok p ∧ p.2.toNat ≤ 12
  cnt : ∃ a c : Nat, t.out.length = 1 + a + c ∧ a + (if t.last.size = 0 then 0 else 1) ≤ k ∧ t.l.length + c * (Lp.full wide - (2 ^ b + 2)) = 2 ^ b + 2 + a
  pos : 0 < k → t.last.size ≠ 0

theorem Lp.code_ok {b : Nat} (hb : b ≤ 8) (wide : Bool) {v n : Nat} (hn : 2 ^ b + 2 ≤ n) (hv : v < n) (h4 : v < 4096) : Bp.Ok (Lp.code b wide (v : Int) n) ∧ (Lp.code b wide (v : Int) n).2.toNat ≤ 12 := by
  have hw := Lz.width_bd hb wide (Lp.known b n)
  have := Lp.fits hb wide hn hv h4
  unfold Lp.code Bp.Ok
  simp only [Int.toNat_natCast]
  omega
theorem Lp.code_ok2 {b : Nat} (hb : b ≤ 8) (wide : Bool) {v n : Nat} (hv : v < 2 ^ (b + 1)) : Bp.Ok (Lp.code b wide (v : Int) n) ∧ (Lp.code b wide (v : Int) n).2.toNat ≤ 12 := by
  have hw := Lz.width_bd hb wide (Lp.known b n)
  have := Lp.fits_small hb wide (m := Lp.known b n) hv
  unfold Lp.code Bp.Ok
  simp only [Int.toNat_natCast]
  omega

theorem Lp.num_bd {b : Nat} {l : List ByteArray} {s : ByteArray} (hl : 2 ^ b + 2 ≤ l.length) (h : 0 ≤ Lp.num l s) (h1 : s.size = 1 → Lp.byte s < 2 ^ b) : ∃ v : Nat, Lp.num l s = (v : Int) ∧ v < l.length := by
  refine ⟨(Lp.num l s).toNat, by omega, ?_⟩
  unfold Lp.num at h ⊢
  split
  · rename_i e
    have := h1 e
    simp only [Int.toNat_natCast]
    omega
  · rename_i e
    rw [if_neg e] at h
    have := Lp.find_bd l s
    omega

theorem Lp.num_one {l : List ByteArray} {x : ByteArray} (h : x.size = 1) : Lp.num l x = (Lp.byte x : Int) := by unfold Lp.num; rw [if_pos h]

theorem Lp.nil_app (x : ByteArray) : (⟨#[]⟩ : ByteArray) ++ x = x := by
  apply ByteArray.ext
  rw [ByteArray.data_append]
  simp

theorem Lp.good_init {b : Nat} (hb : b ≤ 8) (wide : Bool) : Lp.Good b wide 0 (Lp.init b) := by
  have hp := Lz.pow_le hb
  have hf := Lp.full_bd wide
  have hs := Lz.start_len b
  have h2 : (2 : Nat) ^ (b + 1) = 2 * 2 ^ b := by rw [Nat.pow_succ]; omega
  have h1 : 1 ≤ 2 ^ b := Nat.one_le_two_pow
  refine ⟨by show _ ≤ (Lz.start b).length; omega, by show (Lz.start b).length < _; omega, Nat.le_refl _, fun h => absurd rfl h, ?_, ⟨0, 0, rfl, Nat.le_refl _, by show (Lz.start b).length + _ = _; rw [hs]; omega⟩, fun h => absurd h (by omega)⟩
  intro p hp'
  have e : p = (((2 ^ b : Nat) : Int), ((b + 1 : Nat) : Int)) := by simpa [Lp.init] using hp'
  subst e
  unfold Bp.Ok
  simp only [Int.toNat_natCast]
  omega

theorem Lp.good_one {b k : Nat} {wide : Bool} {t : Lp.St} (hb : b ≤ 8) (g : Lp.Good b wide k t) {x : ByteArray} (hx : x.size = 1) (hxb : Lp.byte x < 2 ^ b) : Lp.Good b wide (k + 1) (Lp.one b wide t x) := by
  have hp := Lz.pow_le hb
  have hf := Lp.full_bd wide
  have hs := Lz.start_len b
  have h1 : 1 ≤ 2 ^ b := Nat.one_le_two_pow
  have h2 : (2 : Nat) ^ (b + 1) = 2 * 2 ^ b := by rw [Nat.pow_succ]; omega
  have hlo := g.lo
  have hhi := g.hi
  have hla := g.last
  have hsz : (t.last ++ x).size = t.last.size + 1 := by rw [ByteArray.size_append, hx]
  obtain ⟨a, c, c1, c2, c3⟩ := g.cnt
  unfold Lp.one
  split
  · rename_i h0
    refine ⟨hlo, hhi, by show (t.last ++ x).size ≤ _; omega, fun _ => ?_, g.ok, ⟨a, c, c1, ?_, c3⟩, fun _ => by show (t.last ++ x).size ≠ 0; omega⟩
    · refine Lp.num_bd hlo h0 (fun e => ?_)
      replace e : (t.last ++ x).size = 1 := e
      have e0 : t.last = ⟨#[]⟩ := ByteArray.ext (Array.eq_empty_of_size_eq_zero (show t.last.size = 0 by omega))
      rw [e0, Lp.nil_app]
      exact hxb
    · show a + (if (t.last ++ x).size = 0 then 0 else 1) ≤ k + 1
      rw [if_neg (by omega)]
      split at c2 <;> omega
  · rename_i h0
    have hne : t.last.size ≠ 0 := fun e => by
      have e0 : t.last = ⟨#[]⟩ := ByteArray.ext (Array.eq_empty_of_size_eq_zero e)
      rw [e0, Lp.nil_app, Lp.num_one hx] at h0
      omega
    obtain ⟨v, hv, hvl⟩ := g.num hne
    rw [if_neg hne] at c2
    have hok1 := Lp.code_ok hb wide hlo hvl (by omega)
    have hxn : ∃ v : Nat, Lp.num (Lz.start b) x = (v : Int) ∧ v < (Lz.start b).length := ⟨Lp.byte x, Lp.num_one hx, by omega⟩
    split
    · rename_i h3
      refine ⟨by show _ ≤ (Lz.start b).length; omega, by show (Lz.start b).length < _; omega, by show x.size ≤ _; omega, fun _ => hxn, ?_, ⟨a + 1, c + 1, by simp [c1]; omega, ?_, ?_⟩, fun _ => by show x.size ≠ 0; omega⟩
      · intro p hp'
        simp only [List.mem_append, List.mem_singleton] at hp'
        rcases hp' with (hp' | rfl) | rfl
        · exact g.ok p hp'
        · rw [hv]; exact hok1
        · exact Lp.code_ok2 hb wide (by omega)
      · show a + 1 + (if x.size = 0 then 0 else 1) ≤ k + 1
        rw [if_neg (by omega)]
        omega
      · show (Lz.start b).length + _ = _
        rw [hs, Nat.succ_mul]
        omega
    · rename_i h3
      refine ⟨by simp; omega, by simp; omega, by show x.size ≤ _; omega, fun _ => ⟨Lp.byte x, Lp.num_one hx, by simp; omega⟩, ?_, ⟨a + 1, c, by simp [c1]; omega, ?_, ?_⟩, fun _ => by show x.size ≠ 0; omega⟩
      · intro p hp'
        simp only [List.mem_append, List.mem_singleton] at hp'
        rcases hp' with hp' | rfl
        · exact g.ok p hp'
        · rw [hv]; exact hok1
      · show a + 1 + (if x.size = 0 then 0 else 1) ≤ k + 1
        rw [if_neg (by omega)]
        omega
      · show (t.l ++ [t.last ++ x]).length + _ = _
        rw [List.length_append]
        simp
        omega

theorem Lp.len_bd {b k : Nat} {wide : Bool} {t : Lp.St} (hb : b ≤ 8) (g : Lp.Good b wide k t) (hk : k ≤ 5000) : t.out.length ≤ 5002 := by
  obtain ⟨a, c, c1, c2, c3⟩ := g.cnt
  have hp := Lz.pow_le hb
  have hf := Lp.full_bd wide
  have hlo := g.lo
  have h1 : c * 3836 ≤ c * (Lp.full wide - (2 ^ b + 2)) := Nat.mul_le_mul_left _ (by omega)
  omega

/-- every byte is small enough -/
def Lp.small (b : Nat) (s : ByteArray) : Prop := ∀ k, k < s.size → Lp.byte (s.extract k (k + 1)) < 2 ^ b
theorem Lp.good_at {b : Nat} (hb : b ≤ 8) (wide : Bool) {s : ByteArray} (hs : Lp.small b s) : ∀ k, k ≤ s.size → Lp.Good b wide k (Lp.at b wide s k)
  | 0, _ => Lp.good_init hb wide
  | k + 1, h => Lp.good_one hb (Lp.good_at hb wide hs k (by omega)) (by rw [ByteArray.size_extract]; omega) (hs k (by omega))

theorem tot_le {l : List (Int × Int)} (h : ∀ p ∈ l, p.2.toNat ≤ 12) : ∀ i, i ≤ l.length → Bp.tot l i ≤ 12 * i
  | 0, _ => by simp [Bp.tot]
  | i + 1, hi => by
    rw [Bp.tot_succ l i (by omega)]
    have := tot_le h i (by omega)
    have := h l[i] (List.getElem_mem _)
    omega
theorem Lp.all_ok {b : Nat} (hb : b ≤ 8) (hb2 : 2 ≤ b) (wide : Bool) {s : ByteArray} (hs : Lp.small b s) (hz : s.size ≤ 5000) : Bp.Fits (Lp.all b wide s) (Lp.all b wide s).length ∧ (Lp.all b wide s).length ≤ 5004 := by
  have g := Lp.good_at hb wide hs s.size (Nat.le_refl _)
  have hlen := Lp.len_bd hb g hz
  have hlo := g.lo
  have hhi := g.hi
  have hf := Lp.full_bd wide
  have h1 : 2 ^ 2 ≤ 2 ^ b := Nat.pow_le_pow_right (by omega) hb2
  have h2 : (2 : Nat) ^ (b + 1) = 2 * 2 ^ b := by rw [Nat.pow_succ]; omega
  have hall : ∀ p ∈ Lp.all b wide s, Bp.Ok p ∧ p.2.toNat ≤ 12 := by
    intro p hp'
    have hend : ∀ n, Bp.Ok (Lp.code b wide (((2 ^ b : Nat) : Int) + 1) n) ∧ (Lp.code b wide (((2 ^ b : Nat) : Int) + 1) n).2.toNat ≤ 12 := fun n => by
      have := Lp.code_ok2 hb wide (v := 2 ^ b + 1) (n := n) (by omega)
      exact this
    unfold Lp.all Lp.close at hp'
    split at hp'
    · simp only [List.mem_append, List.mem_singleton] at hp'
      rcases hp' with hp' | rfl
      · exact g.ok p hp'
      · exact hend _
    · rename_i hne
      obtain ⟨v, hv, hvl⟩ := g.num hne
      simp only [List.mem_append, List.mem_singleton] at hp'
      rcases hp' with (hp' | rfl) | rfl
      · exact g.ok p hp'
      · rw [hv]; exact Lp.code_ok hb wide hlo hvl (by omega)
      · exact hend _
  have hl2 : (Lp.all b wide s).length ≤ 5004 := by
    unfold Lp.all Lp.close
    split <;> simp <;> omega
  refine ⟨fun j hj _ => ⟨(hall _ (List.getElem_mem hj)).1, ?_⟩, hl2⟩
  have := tot_le (fun p hp' => (hall p hp').2) (j + 1) (by omega)
  omega
end Go.Proofs.Ytjfihmpnbblomaa
