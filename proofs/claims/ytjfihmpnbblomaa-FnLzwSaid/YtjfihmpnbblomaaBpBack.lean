/- Bits that were packed are there, each where it was put: the mathematics. -/
import Derived.Test.YtjfihmpnbblomaaBgBits
import Derived.Test.YtjfihmpnbblomaaBpAnswer
namespace Go.Proofs.Ytjfihmpnbblomaa
open Go.RowKit

/-- the text that bits make -/
def textOf (hi : Bool) (l : List (Int × Int)) : ByteArray := ⟨((Bp.answer hi l).map UInt8.ofNat).toArray⟩

theorem textOf_size {hi : Bool} {l : List (Int × Int)} (h : Bp.Fits l l.length) : (textOf hi l).size = (Bp.tot l l.length + 7) / 8 := by
  have : (textOf hi l).size = (Bp.answer hi l).length := by simp [textOf, ByteArray.size]
  rw [this, Bp.answer_yes h]
  exact Bp.pack_len hi _ _

theorem byteAt_text {hi : Bool} {l : List (Int × Int)} (h : Bp.Fits l l.length) (j : Nat) : byteAt (textOf hi l) j = (Bp.text hi l).getD j 0 := by
  have hb : (Bp.text hi l).getD j 0 < 256 := (Bp.inv hi (Bp.fOf hi l) (Bp.fOf_lt hi l) _).byte j
  unfold byteAt textOf
  rw [Bp.answer_yes h]
  show (((Bp.text hi l).map UInt8.ofNat).getD j 0).toNat = _
  rw [List.getD_eq_getElem?_getD, List.getD_eq_getElem?_getD, List.getElem?_map] at *
  cases e : (Bp.text hi l)[j]? with
  | none => rfl
  | some x =>
    rw [e] at hb
    have hx : x < 256 := hb
    show (UInt8.ofNat x).toNat = x
    simp [UInt8.toNat_ofNat']
    omega

theorem tot_mono (l : List (Int × Int)) : ∀ j, j ≤ l.length → ∀ i, i ≤ j → Bp.tot l i ≤ Bp.tot l j := by
  intro j
  induction j with
  | zero => intro _ i hi; have : i = 0 := by omega
            subst this; exact Nat.le_refl _
  | succ j ih =>
    intro hj i hi
    by_cases e : i = j + 1
    · subst e; exact Nat.le_refl _
    · have := ih (by omega) i (by omega)
      rw [Bp.tot_succ l j (by omega)]; omega

theorem bitAt_text {hi : Bool} {l : List (Int × Int)} (h : Bp.Fits l l.length) (i : Nat) (hi' : i < Bp.tot l l.length) : bitAt (textOf hi l) hi i = Bp.fOf hi l i := by
  have hv := (Bp.inv hi (Bp.fOf hi l) (Bp.fOf_lt hi l) (Bp.tot l l.length)).bit i (by rw [Bp.pack_len]; omega)
  unfold bitAt
  rw [byteAt_text h]
  exact hv.trans (if_pos hi')

theorem low_bits (V : Nat) : ∀ S, Bg.low (fun q => V / 2 ^ q % 2) S = V % 2 ^ S := by
  intro S
  induction S with
  | zero => simp [Bg.low, Nat.mod_one]
  | succ S ih => rw [Bg.low, ih, Nat.mod_pow_succ, Nat.mul_comm]

theorem big_bits (V : Nat) : ∀ S k, k ≤ S → Bg.big (fun q => V / 2 ^ (S - 1 - q) % 2) k = V % 2 ^ S / 2 ^ (S - k) := by
  intro S k
  induction k with
  | zero => intro _; rw [Nat.sub_zero, Nat.div_eq_of_lt (Nat.mod_lt _ (Nat.pow_pos (by omega)))]; rfl
  | succ k ih =>
    intro hk
    rw [Bg.big, ih (by omega)]
    have e1 : S - k = (S - (k + 1)) + 1 := by omega
    have e2 : S - 1 - k = S - (k + 1) := by omega
    rw [e2, e1, Nat.pow_succ, ← Nat.div_div_eq_div_mul]
    have h3 : V / 2 ^ (S - (k + 1)) % 2 = V % 2 ^ S / 2 ^ (S - (k + 1)) % 2 := by
      have e3 : 2 ^ S = 2 ^ (S - (k + 1)) * 2 ^ (k + 1) := by rw [← Nat.pow_add]; congr 1; omega
      rw [e3, Nat.mod_mul_right_div_self, Nat.pow_succ, Nat.mul_comm, Nat.mod_mul_right_mod]
    rw [h3]
    have := Nat.div_add_mod (V % 2 ^ S / 2 ^ (S - (k + 1))) 2
    omega

theorem num_bits (hi : Bool) (V S : Nat) (h : V < 2 ^ S) (b : Nat → Nat) (hb : ∀ q, q < S → b q = Bp.bitIn hi V S q) : Bg.num b S hi = V := by
  have clow : ∀ k, k ≤ S → ∀ b c : Nat → Nat, (∀ q, q < S → b q = c q) → Bg.low b k = Bg.low c k := by
    intro k
    induction k with
    | zero => intro _ b c _; rfl
    | succ k ih => intro hk b c hbc; rw [Bg.low, Bg.low, ih (by omega) b c hbc, hbc k (by omega)]
  have cbig : ∀ k, k ≤ S → ∀ b c : Nat → Nat, (∀ q, q < S → b q = c q) → Bg.big b k = Bg.big c k := by
    intro k
    induction k with
    | zero => intro _ b c _; rfl
    | succ k ih => intro hk b c hbc; rw [Bg.big, Bg.big, ih (by omega) b c hbc, hbc k (by omega)]
  cases hi
  · show Bg.low b S = V
    rw [clow S (Nat.le_refl _) b (fun q => V / 2 ^ q % 2) hb, low_bits, Nat.mod_eq_of_lt h]
  · show Bg.big b S = V
    rw [cbig S (Nat.le_refl _) b (fun q => V / 2 ^ (S - 1 - q) % 2) hb, big_bits V S S (Nat.le_refl _), Nat.sub_self, Nat.pow_zero, Nat.div_one, Nat.mod_eq_of_lt h]

/-- each number is where it was put -/
theorem back {hi : Bool} {l : List (Int × Int)} (h : Bp.Fits l l.length) (k : Nat) (hk : k < l.length) (V S : Nat) (hV : (l[k]).1 = (V : Int)) (hS : (l[k]).2 = (S : Int)) :
    Bg.num (fun q => bitAt (textOf hi l) hi (Bp.tot l k + q)) S hi = V := by
  have ho := (h k hk hk).1
  have h4 : (l[k]).1.toNat < 2 ^ (l[k]).2.toNat := ho.2.2.2
  rw [hV, hS, Int.toNat_natCast, Int.toNat_natCast] at h4
  refine num_bits hi V S h4 _ (fun q hq => ?_)
  have ht := Bp.tot_succ l k hk
  rw [hS, Int.toNat_natCast] at ht
  have hm := tot_mono l l.length (Nat.le_refl _) (k + 1) (by omega)
  rw [bitAt_text h _ (by omega)]
  have := Bp.fOf_at hi l k q hk (by rw [hS, Int.toNat_natCast]; exact hq)
  rw [hV, hS, Int.toNat_natCast, Int.toNat_natCast] at this
  exact this
end Go.Proofs.Ytjfihmpnbblomaa
