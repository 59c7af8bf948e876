/- Rows packed as BMP does: the mathematics. -/
import Derived.Test.YtlpfedhehfbfeaaRnMath
import Derived.Test.YtlpfedhehfbfeaaRtMath
namespace Go.Proofs.Ytlpfedhehfbfeaa
namespace Re

def piece (l : List Int) (x : Nat × Nat × Bool) : List UInt8 := [UInt8.ofNat x.2.1, UInt8.ofNat (l.getD x.1 0).toNat]
def flat (l : List Int) (xs : List (Nat × Nat × Bool)) : List UInt8 := xs.flatMap (piece l)
theorem flat_snoc (l : List Int) (xs : List (Nat × Nat × Bool)) (x : Nat × Nat × Bool) : flat l (xs ++ [x]) = flat l xs ++ piece l x := by simp [flat]
theorem flat_len (l : List Int) (xs : List (Nat × Nat × Bool)) : (flat l xs).length = 2 * xs.length := by
  induction xs with
  | nil => rfl
  | cons x xs ih => unfold flat at ih ⊢; rw [List.flatMap_cons, List.length_append, ih]; simp [piece]; omega
/-- a row -/
def row (l : List Int) : List UInt8 := flat l (Rn.from_ 1 255 l 0)
theorem row_len (l : List Int) : (row l).length ≤ 2 * l.length := by
  unfold row
  rw [flat_len]
  have := Rn.all_len (least := 1) (m := 255) (l := l) (l.length - 0) 0
  unfold Rn.from_
  omega
theorem size_same {l : List Int} (h : 0 < l.length) : Rn.size 1 255 l = Rn.same l 255 := by
  have := Rn.same_pos (m := 255) h (by omega)
  unfold Rn.size
  rw [if_pos (by omega)]
theorem again_yes {l : List Int} (h : 0 < l.length) : Rn.again 1 255 l = true := by
  have := Rn.same_pos (m := 255) h (by omega)
  unfold Rn.again
  exact decide_eq_true (by omega)

/-- rows are right -/
def okRow (l : List Int) : Bool := decide (l.length ≤ 100) && Rt.fit 1 l
def ok (ls : List (List Int)) : Bool := decide (ls.length ≤ 100) && ls.all okRow
/-- the first so many rows, a nought and a nought between -/
def part : List (List Int) → List UInt8
  | [] => []
  | [l] => row l
  | l :: m :: ls => row l ++ [0, 0] ++ part (m :: ls)
theorem part_snoc (ls : List (List Int)) (l : List Int) (h : ls ≠ []) : part (ls ++ [l]) = part ls ++ [0, 0] ++ row l := by
  induction ls with
  | nil => exact absurd rfl h
  | cons a ls ih =>
    cases ls with
    | nil => simp [part]
    | cons b ls =>
      have := ih (by simp)
      rw [List.cons_append, List.cons_append, part, ← List.cons_append, this, part]
      simp [List.append_assoc]
theorem part_len : ∀ (ls : List (List Int)), (∀ l ∈ ls, l.length ≤ 100) → (part ls).length ≤ 202 * ls.length
  | [], _ => Nat.le_refl _
  | [l], h => by
    have := row_len l
    have := h l (by simp)
    rw [part]; simp; omega
  | l :: m :: ls, h => by
    have h1 := row_len l
    have h2 := h l (by simp)
    have h3 := part_len (m :: ls) (fun x hx => h x (by simp at hx ⊢; exact .inr hx))
    rw [part, List.length_append, List.length_append]
    simp at h3 ⊢
    omega
/-- the answer -/
def all (ls : List (List Int)) : List UInt8 := if ok ls = true then part ls ++ [0, 1] else []
theorem all_bad {ls : List (List Int)} (k : Nat) (hk : k < ls.length) (h : okRow ls[k] = false) : all ls = [] := by
  unfold all
  rw [if_neg]
  unfold ok
  intro e
  simp only [Bool.and_eq_true, List.all_eq_true] at e
  have := e.2 _ (List.getElem_mem hk)
  rw [h] at this
  exact absurd this (by decide)
theorem all_many {ls : List (List Int)} (h : 100 < ls.length) : all ls = [] := by
  unfold all
  rw [if_neg]
  unfold ok
  intro e
  simp only [Bool.and_eq_true, decide_eq_true_eq] at e
  omega
theorem all_good {ls : List (List Int)} (hn : ls.length ≤ 100) (h : ∀ l ∈ ls, okRow l = true) : all ls = part ls ++ [0, 1] := by
  unfold all
  rw [if_pos]
  unfold ok
  simp only [Bool.and_eq_true, decide_eq_true_eq, List.all_eq_true]
  exact ⟨hn, h⟩
/-- what stands behind so many rows, if more come -/
def sep (k n : Nat) : List UInt8 := if 0 < k ∧ k < n then [0, 0] else []
theorem part_step {ls : List (List Int)} {k : Nat} (hk : k < ls.length) : part (ls.take k) ++ sep k ls.length ++ row ls[k] = part (ls.take (k + 1)) := by
  rw [List.take_succ_eq_append_getElem hk]
  unfold sep
  by_cases h0 : k = 0
  · subst h0
    rw [if_neg (by omega)]
    simp [part]
  · rw [if_pos ⟨by omega, hk⟩, part_snoc _ _ (by intro e; have := congrArg List.length e; rw [List.length_take, List.length_nil] at this; omega)]
theorem okRow_len {l : List Int} (h : okRow l = true) : l.length ≤ 100 := by
  unfold okRow at h
  simp only [Bool.and_eq_true, decide_eq_true_eq] at h
  exact h.1
theorem okRow_fit {l : List Int} (h : okRow l = true) : Rt.fit 1 l = true := by
  unfold okRow at h
  simp only [Bool.and_eq_true, decide_eq_true_eq] at h
  exact h.2
theorem okRow_yes {l : List Int} (h : l.length ≤ 100) (hf : ∀ i (hi : i < l.length), 0 ≤ l[i] ∧ l[i] ≤ 255) : okRow l = true := by
  unfold okRow
  simp only [Bool.and_eq_true, decide_eq_true_eq]
  refine ⟨h, Rt.fit_yes fun i hi => ?_⟩
  have e : ((256 ^ 1 : Nat) : Int) = 256 := by decide
  rw [e]
  have := hf i hi
  omega
theorem okRow_long {l : List Int} (h : 100 < l.length) : okRow l = false := by
  unfold okRow
  rw [decide_eq_false (by omega), Bool.false_and]
theorem okRow_no {l : List Int} (i : Nat) (hi : i < l.length) (h : ¬ (0 ≤ l[i] ∧ l[i] ≤ 255)) : okRow l = false := by
  unfold okRow
  rw [Rt.fit_no i hi (by have e : ((256 ^ 1 : Nat) : Int) = 256 := by decide
                         rw [e]; omega), Bool.and_false]
end Re
end Go.Proofs.Ytlpfedhehfbfeaa
