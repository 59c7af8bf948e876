/- Plain mathematics of the Adler sum: a fold over bytes, its bounds, and how it goes on. -/
import Init
namespace Go.Proofs.Ytjdilanmkgodnaa
namespace Ad

def stepA (a : Int) (c : UInt8) : Int := (a + (c.toNat : Int)) % 65521
def stepB (a b : Int) (c : UInt8) : Int := (b + stepA a c) % 65521

def fin (p : Int × Int) : List UInt8 → Int × Int
  | [] => p
  | c :: l => fin (stepA p.1 c, stepB p.1 p.2 c) l

theorem fin_append (l m : List UInt8) : ∀ p, fin p (l ++ m) = fin (fin p l) m := by
  induction l with
  | nil => intro p; rfl
  | cons c l ih => intro p; exact ih _

theorem fin_snoc (p : Int × Int) (l : List UInt8) (c : UInt8) :
    fin p (l ++ [c]) = (stepA (fin p l).1 c, stepB (fin p l).1 (fin p l).2 c) := by
  rw [fin_append]; rfl

theorem fin_bounds (l : List UInt8) : ∀ p : Int × Int, 0 ≤ p.1 → p.1 ≤ 65520 → 0 ≤ p.2 → p.2 ≤ 65520 →
    (0 ≤ (fin p l).1 ∧ (fin p l).1 ≤ 65520) ∧ (0 ≤ (fin p l).2 ∧ (fin p l).2 ≤ 65520) := by
  induction l with
  | nil => intro p a b c d; exact ⟨⟨a, b⟩, c, d⟩
  | cons c l ih =>
    intro p h1 h2 h3 h4
    apply ih
    all_goals simp only [stepA, stepB]
    all_goals omega

/-- whether a sum may be gone on with -/
def okB (sum : Int) (n : Nat) : Bool :=
  decide (0 ≤ sum) && decide (sum ≤ 4294967295) && decide (sum % 65536 ≤ 65520) && decide (sum / 65536 ≤ 65520) && decide (n ≤ 9000)

/-- the sum of a text, gone on with -/
def more (sum : Int) (l : List UInt8) : Int :=
  if okB sum l.length = true then (fin (sum % 65536, sum / 65536) l).2 * 65536 + (fin (sum % 65536, sum / 65536) l).1 else 0

theorem more_no {sum : Int} {l : List UInt8} (h : okB sum l.length = false) : more sum l = 0 := by
  unfold more; rw [h]; rfl

theorem more_yes {sum : Int} {l : List UInt8} (h : okB sum l.length = true) :
    more sum l = (fin (sum % 65536, sum / 65536) l).2 * 65536 + (fin (sum % 65536, sum / 65536) l).1 := by
  unfold more; rw [if_pos h]

theorem more_bounds (sum : Int) (l : List UInt8) : 0 ≤ more sum l ∧ more sum l ≤ 4294967295 := by
  unfold more
  split
  · rename_i h
    simp [okB] at h
    have hb := fin_bounds l (sum % 65536, sum / 65536) (by omega) (by omega) (by omega) (by omega)
    omega
  · omega

theorem okB_iff (sum : Int) (n : Nat) : okB sum n = true ↔ 0 ≤ sum ∧ sum ≤ 4294967295 ∧ sum % 65536 ≤ 65520 ∧ sum / 65536 ≤ 65520 ∧ n ≤ 9000 := by
  unfold okB; simp [and_assoc]

theorem okB_no {sum : Int} {n : Nat} (h : ¬ (0 ≤ sum ∧ sum ≤ 4294967295 ∧ sum % 65536 ≤ 65520 ∧ sum / 65536 ≤ 65520 ∧ n ≤ 9000)) : okB sum n = false := by
  cases e : okB sum n
  · rfl
  · exact absurd ((okB_iff _ _).1 e) h


theorem more_append (l m : List UInt8) (h : l.length + m.length ≤ 9000) : more 1 (l ++ m) = more (more 1 l) m := by
  have o1 : okB 1 (l ++ m).length = true := by rw [okB_iff]; rw [List.length_append]; omega
  have o2 : okB 1 l.length = true := by rw [okB_iff]; omega
  have e : ((1 : Int) % 65536, (1 : Int) / 65536) = ((1, 0) : Int × Int) := by decide
  have hb := fin_bounds l (1, 0) (by decide) (by decide) (by decide) (by decide)
  have hm : more 1 l = (fin (1, 0) l).2 * 65536 + (fin (1, 0) l).1 := by rw [more_yes o2, e]
  have h1 : more 1 l % 65536 = (fin (1, 0) l).1 := by rw [hm]; omega
  have h2 : more 1 l / 65536 = (fin (1, 0) l).2 := by rw [hm]; omega
  have o3 : okB (more 1 l) m.length = true := by
    rw [okB_iff, h1, h2]
    have := more_bounds 1 l
    omega
  rw [more_yes o1, more_yes o3, h1, h2, e, fin_append]

theorem more_none : more 1 [] = 1 := by decide
theorem more_wiki : more 1 [87, 105, 107, 105, 112, 101, 100, 105, 97] = 300286872 := by decide
end Ad
end Go.Proofs.Ytjdilanmkgodnaa
