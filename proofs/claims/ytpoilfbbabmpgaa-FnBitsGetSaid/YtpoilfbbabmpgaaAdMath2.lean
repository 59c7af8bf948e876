/- The Adler sum of a text of which one byte is another one is another one. -/
import Derived.Test.YtpoilfbbabmpgaaAdMath
namespace Go.Proofs.Ytpoilfbbabmpgaa
namespace Ad

def lsum : List UInt8 → Int
  | [] => 0
  | c :: l => (c.toNat : Int) + lsum l

theorem lsum_append (l m : List UInt8) : lsum (l ++ m) = lsum l + lsum m := by
  induction l with
  | nil => simp [lsum]
  | cons c l ih => simp only [List.cons_append, lsum, ih]; omega

theorem fin_fst (l : List UInt8) : ∀ p : Int × Int, 0 ≤ p.1 → p.1 ≤ 65520 → (fin p l).1 = (p.1 + lsum l) % 65521 := by
  induction l with
  | nil => intro p h1 h2; simp only [fin, lsum]; omega
  | cons c l ih =>
    intro p h1 h2
    simp only [fin, lsum]
    rw [ih _ (by simp only [stepA]; omega) (by simp only [stepA]; omega)]
    simp only [stepA]
    omega

theorem more_other (p q : List UInt8) (b d : UInt8) (h : b.toNat ≠ d.toNat) (hl : (p ++ b :: q).length ≤ 9000) : more 1 (p ++ b :: q) ≠ more 1 (p ++ d :: q) := by
  have o1 : okB 1 (p ++ b :: q).length = true := by rw [okB_iff]; omega
  have o2 : okB 1 (p ++ d :: q).length = true := by rw [okB_iff]; rw [List.length_append, List.length_cons] at hl ⊢; omega
  rw [more_yes o1, more_yes o2]
  have e : ((1 : Int) % 65536, (1 : Int) / 65536) = ((1, 0) : Int × Int) := by decide
  rw [e]
  have b1 := fin_bounds (p ++ b :: q) (1, 0) (by decide) (by decide) (by decide) (by decide)
  have b2 := fin_bounds (p ++ d :: q) (1, 0) (by decide) (by decide) (by decide) (by decide)
  have f1 := fin_fst (p ++ b :: q) (1, 0) (by decide) (by decide)
  have f2 := fin_fst (p ++ d :: q) (1, 0) (by decide) (by decide)
  rw [lsum_append] at f1 f2
  simp only [lsum] at f1 f2
  have hb := UInt8.toNat_lt b
  have hd := UInt8.toNat_lt d
  intro g
  omega
end Ad
end Go.Proofs.Ytpoilfbbabmpgaa
