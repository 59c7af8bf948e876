/- Plain mathematics of the CRC sum: one bit's step, a byte's step, a text's; that a step is linear and one to one, so a table of 256 serves. -/
import Init
namespace Go.Proofs.Ytjdilanmkgodnaa
namespace Cr

def bit (c : Nat) : Nat := if c % 2 = 1 then c / 2 ^^^ 3988292384 else c / 2

/-- so many steps -/
def bits : Nat → Nat → Nat
  | 0, c => c
  | n + 1, c => bits n (bit c)

def byte (c : Nat) (b : UInt8) : Nat := bits 8 (c ^^^ b.toNat)

def run (c : Nat) : List UInt8 → Nat
  | [] => c
  | b :: l => run (byte c b) l

def turn (c : Nat) : Nat := 4294967295 - c

theorem xor_lt {a b : Nat} (ha : a < 4294967296) (hb : b < 4294967296) : a ^^^ b < 4294967296 := by
  have := Nat.xor_lt_two_pow (x := a) (y := b) (n := 32) (by omega) (by omega); omega

theorem bit_lt {c : Nat} (h : c < 4294967296) : bit c < 4294967296 := by
  unfold bit
  split
  · exact xor_lt (by omega) (by omega)
  · omega

theorem bits_lt (n : Nat) : ∀ {c : Nat}, c < 4294967296 → bits n c < 4294967296 := by
  induction n with
  | zero => intro c h; exact h
  | succ n ih => intro c h; exact ih (bit_lt h)

theorem bits_succ (n : Nat) : ∀ c, bits (n + 1) c = bit (bits n c) := by
  induction n with
  | zero => intro c; rfl
  | succ n ih => intro c; exact ih (bit c)

theorem byte_lt {c : Nat} (b : UInt8) (h : c < 4294967296) : byte c b < 4294967296 := by
  have hb := UInt8.toNat_lt b
  exact bits_lt 8 (xor_lt h (by omega))

theorem run_lt (l : List UInt8) : ∀ {c : Nat}, c < 4294967296 → run c l < 4294967296 := by
  induction l with
  | nil => intro c h; exact h
  | cons b l ih => intro c h; exact ih (byte_lt b h)

theorem run_append (l m : List UInt8) : ∀ c, run c (l ++ m) = run (run c l) m := by
  induction l with
  | nil => intro c; rfl
  | cons b l ih => intro c; exact ih _

theorem run_snoc (c : Nat) (l : List UInt8) (b : UInt8) : run c (l ++ [b]) = byte (run c l) b := by
  rw [run_append]; rfl

theorem xor_half (x y : Nat) : (x ^^^ y) / 2 = x / 2 ^^^ y / 2 := by
  have := Nat.shiftRight_xor_distrib (a := x) (b := y) (i := 1)
  simpa [Nat.shiftRight_eq_div_pow] using this

theorem xor_odd (x y : Nat) : (x ^^^ y) % 2 = (x % 2 + y % 2) % 2 := by
  have := Nat.xor_mod_two_pow (a := x) (b := y) (n := 1)
  rw [show (2 : Nat) ^ 1 = 2 from rfl] at this
  rw [this]
  have hx : x % 2 = 0 ∨ x % 2 = 1 := by omega
  have hy : y % 2 = 0 ∨ y % 2 = 1 := by omega
  rcases hx with hx | hx <;> rcases hy with hy | hy <;> rw [hx, hy] <;> rfl

theorem bit_xor (x y : Nat) : bit (x ^^^ y) = bit x ^^^ bit y := by
  unfold bit
  rw [xor_odd, xor_half]
  have hx : x % 2 = 0 ∨ x % 2 = 1 := by omega
  have hy : y % 2 = 0 ∨ y % 2 = 1 := by omega
  generalize x / 2 = p
  generalize y / 2 = q
  rcases hx with hx | hx <;> rcases hy with hy | hy <;> rw [hx, hy] <;> simp
  · rw [Nat.xor_assoc]
  · rw [Nat.xor_assoc, Nat.xor_assoc, Nat.xor_comm q]
  · rw [Nat.xor_assoc, Nat.xor_comm 3988292384, Nat.xor_assoc q, Nat.xor_self, Nat.xor_zero]

theorem bits_xor (n : Nat) : ∀ x y, bits n (x ^^^ y) = bits n x ^^^ bits n y := by
  induction n with
  | zero => intro x y; rfl
  | succ n ih => intro x y; show bits n (bit (x ^^^ y)) = _; rw [bit_xor, ih]; rfl

theorem bit_even (x : Nat) : bit (2 * x) = x := by
  unfold bit; rw [if_neg (by omega)]; omega

theorem bits_high (x : Nat) : bits 8 (x * 256) = x := by
  have e : x * 256 = 2 * (2 * (2 * (2 * (2 * (2 * (2 * (2 * x))))))) := by omega
  rw [e]; simp only [bits, bit_even]

theorem low_high (c : Nat) : c = c % 256 ^^^ c / 256 * 256 := by
  apply Nat.eq_of_testBit_eq
  intro i
  rw [Nat.testBit_xor]
  have e1 : (c % 256).testBit i = (decide (i < 8) && c.testBit i) := by
    rw [show (256 : Nat) = 2 ^ 8 from rfl, Nat.testBit_mod_two_pow]
  have e2 : (c / 256 * 256).testBit i = (decide (8 ≤ i) && c.testBit i) := by
    rw [show (256 : Nat) = 2 ^ 8 from rfl, Nat.mul_comm, Nat.testBit_two_pow_mul, ← Nat.shiftRight_eq_div_pow, Nat.testBit_shiftRight]
    by_cases h : 8 ≤ i
    · simp [h]
    · simp [h]
  rw [e1, e2]
  by_cases h : i < 8
  · have h' : ¬ 8 ≤ i := by omega
    simp [h, h']
  · have h' : 8 ≤ i := by omega
    simp [h, h']

/-- the table's step -/
theorem byte_table (c : Nat) (b : UInt8) : byte c b = bits 8 (c % 256 ^^^ b.toNat) ^^^ c / 256 := by
  have e : c ^^^ b.toNat = c % 256 ^^^ b.toNat ^^^ c / 256 * 256 := by
    have h := low_high c
    generalize c % 256 = p at *
    generalize c / 256 * 256 = q at *
    rw [h, Nat.xor_assoc, Nat.xor_comm q, ← Nat.xor_assoc]
  unfold byte
  rw [e, bits_xor, bits_high]

theorem idx_lt (c : Nat) (b : UInt8) : c % 256 ^^^ b.toNat < 256 := by
  have hb := UInt8.toNat_lt b
  exact Nat.xor_lt_two_pow (n := 8) (by omega) (by omega)

theorem xor_turn {c : Nat} (h : c < 4294967296) : c ^^^ 4294967295 = turn c := by
  have e : (BitVec.ofNat 32 c ^^^ BitVec.allOnes 32).toNat = (~~~ (BitVec.ofNat 32 c)).toNat := by rw [BitVec.xor_allOnes]
  rw [BitVec.toNat_xor, BitVec.toNat_not, BitVec.toNat_allOnes, BitVec.toNat_ofNat, Nat.mod_eq_of_lt (by omega)] at e
  simpa [turn] using e

theorem turn_lt (c : Nat) : turn c < 4294967296 := by unfold turn; omega
theorem turn_turn {c : Nat} (h : c < 4294967296) : turn (turn c) = c := by unfold turn; omega

/-- the sum of a text, gone on with -/
def more (sum : Nat) (l : List UInt8) : Nat := turn (run (turn sum) l)

theorem more_append (sum : Nat) (l m : List UInt8) : more sum (l ++ m) = more (more sum l) m := by
  unfold more
  rw [run_append, turn_turn (run_lt l (turn_lt _))]

theorem more_lt (sum : Nat) (l : List UInt8) : more sum l < 4294967296 := turn_lt _

def okB (sum : Int) (n : Nat) : Bool := decide (0 ≤ sum) && decide (sum ≤ 4294967295) && decide (n ≤ 9000)

theorem okB_iff (sum : Int) (n : Nat) : okB sum n = true ↔ 0 ≤ sum ∧ sum ≤ 4294967295 ∧ n ≤ 9000 := by
  unfold okB; simp [and_assoc]

/-- what 'CrcMore' answers -/
def ans (sum : Int) (l : List UInt8) : Int := if okB sum l.length = true then (more sum.toNat l : Int) else 0

theorem ans_yes {sum : Int} {l : List UInt8} (h : okB sum l.length = true) : ans sum l = (more sum.toNat l : Int) := by unfold ans; rw [if_pos h]
theorem ans_no {sum : Int} {l : List UInt8} (h : okB sum l.length = false) : ans sum l = 0 := by unfold ans; rw [h]; rfl

theorem ans_bounds (sum : Int) (l : List UInt8) : 0 ≤ ans sum l ∧ ans sum l ≤ 4294967295 := by
  unfold ans
  split
  · have := more_lt sum.toNat l; omega
  · omega
end Cr
end Go.Proofs.Ytjdilanmkgodnaa
