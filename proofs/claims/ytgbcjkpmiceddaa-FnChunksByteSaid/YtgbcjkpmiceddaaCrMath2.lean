/- Plain mathematics of the CRC sum, gone on with: piece by piece; and that one bit turned gives another sum (of the other sum, too). -/
import Derived.Test.YtgbcjkpmiceddaaCrMath
import Derived.Test.YtgbcjkpmiceddaaAdMath
namespace Go.Proofs.Ytgbcjkpmiceddaa
namespace Cr

theorem ans_append (l m : List UInt8) (h : l.length + m.length ≤ 9000) : ans 0 (l ++ m) = ans (ans 0 l) m := by
  have o1 : okB 0 (l ++ m).length = true := by rw [okB_iff]; rw [List.length_append]; omega
  have o2 : okB 0 l.length = true := by rw [okB_iff]; omega
  have hb := more_lt 0 l
  have o3 : okB ((more 0 l : Nat) : Int) m.length = true := by rw [okB_iff]; omega
  have e : (0 : Int).toNat = 0 := rfl
  rw [ans_yes o1, ans_yes o2, e, ans_yes o3, Int.toNat_natCast, more_append]

theorem ans_none : ans 0 [] = 0 := by decide
theorem ans_nine : ans 0 [49, 50, 51, 52, 53, 54, 55, 56, 57] = 3421780262 := by decide +kernel

theorem bit_inj {x y : Nat} (hx : x < 4294967296) (hy : y < 4294967296) (h : bit x = bit y) : x = y := by
  have top : ∀ z : Nat, z < 4294967296 → (bit z / 2147483648 = z % 2) := by
    intro z hz
    unfold bit
    split
    · rename_i h1
      have e : (z / 2 ^^^ 3988292384) / 2147483648 = (z / 2) / 2147483648 ^^^ 3988292384 / 2147483648 := by
        have := Nat.shiftRight_xor_distrib (a := z / 2) (b := 3988292384) (i := 31)
        simpa [Nat.shiftRight_eq_div_pow] using this
      rw [e, h1, Nat.div_eq_of_lt (show z / 2 < 2147483648 by omega)]
      decide
    · rename_i h1
      rw [Nat.div_eq_of_lt (show z / 2 < 2147483648 by omega)]
      omega
  have hp : x % 2 = y % 2 := by rw [← top x hx, ← top y hy, h]
  unfold bit at h
  rw [hp] at h
  split at h
  · have e2 : x / 2 = y / 2 := by
      have := congrArg (fun t => t ^^^ 3988292384) h
      simpa [Nat.xor_assoc, Nat.xor_self, Nat.xor_zero] using this
    omega
  · omega

theorem bits_inj (n : Nat) : ∀ {x y : Nat}, x < 4294967296 → y < 4294967296 → bits n x = bits n y → x = y := by
  induction n with
  | zero => intro x y _ _ h; exact h
  | succ n ih => intro x y hx hy h; exact bit_inj hx hy (ih (bit_lt hx) (bit_lt hy) h)

theorem xor_cancel {a b c : Nat} (h : a ^^^ c = b ^^^ c) : a = b := by
  have := congrArg (fun t => t ^^^ c) h
  simpa [Nat.xor_assoc, Nat.xor_self, Nat.xor_zero] using this

theorem byte_inj_c {x y : Nat} (b : UInt8) (hx : x < 4294967296) (hy : y < 4294967296) (h : byte x b = byte y b) : x = y := by
  have hb := UInt8.toNat_lt b
  exact xor_cancel (bits_inj 8 (xor_lt hx (by omega)) (xor_lt hy (by omega)) h)

theorem byte_inj_b {x : Nat} {b d : UInt8} (hx : x < 4294967296) (h : byte x b = byte x d) : b.toNat = d.toNat := by
  have hb := UInt8.toNat_lt b
  have hd := UInt8.toNat_lt d
  have := bits_inj 8 (xor_lt hx (by omega)) (xor_lt hx (by omega)) h
  rw [Nat.xor_comm x, Nat.xor_comm x] at this
  exact xor_cancel this

theorem run_inj (l : List UInt8) : ∀ {x y : Nat}, x < 4294967296 → y < 4294967296 → run x l = run y l → x = y := by
  induction l with
  | nil => intro x y _ _ h; exact h
  | cons b l ih => intro x y hx hy h; exact byte_inj_c b hx hy (ih (byte_lt b hx) (byte_lt b hy) h)

/-- one byte another one: another sum -/
theorem ans_other (p q : List UInt8) (b d : UInt8) (h : b.toNat ≠ d.toNat) (hl : (p ++ b :: q).length ≤ 9000) : ans 0 (p ++ b :: q) ≠ ans 0 (p ++ d :: q) := by
  have o1 : okB 0 (p ++ b :: q).length = true := by rw [okB_iff]; omega
  have o2 : okB 0 (p ++ d :: q).length = true := by rw [okB_iff]; rw [List.length_append, List.length_cons] at hl ⊢; omega
  rw [ans_yes o1, ans_yes o2]
  intro e
  have e' : more 0 (p ++ b :: q) = more 0 (p ++ d :: q) := by rw [show (0 : Int).toNat = 0 from rfl] at e; omega
  unfold more at e'
  rw [run_append, run_append] at e'
  have hr := run_lt p (turn_lt 0)
  have e2 : run (run (turn 0) p) (b :: q) = run (run (turn 0) p) (d :: q) := by
    have h1 := run_lt (b :: q) hr
    have h2 := run_lt (d :: q) hr
    generalize run (run (turn 0) p) (b :: q) = x at *
    generalize run (run (turn 0) p) (d :: q) = y at *
    unfold turn at e'
    omega
  exact h (byte_inj_b hr (run_inj q (byte_lt b hr) (byte_lt d hr) e2))
end Cr
end Go.Proofs.Ytgbcjkpmiceddaa
