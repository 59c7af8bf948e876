/- Numbers in packets (mathematics). -/
import Derived.Test.YtcgmmpfckmhahaaRnMath
import Derived.Test.YtcgmmpfckmhahaaPutMath
namespace Go.Proofs.Ytcgmmpfckmhahaa
namespace Rt

/-- numbers as bytes, the lowest first -/
def txt (S : Nat) (l : List Int) : List UInt8 := l.flatMap fun z => Pt.low z.toNat S
theorem txt_nil (S : Nat) : txt S [] = [] := rfl
theorem txt_snoc (S : Nat) (l : List Int) (z : Int) : txt S (l ++ [z]) = txt S l ++ Pt.low z.toNat S := by simp [txt]
theorem txt_len (S : Nat) : ∀ l : List Int, (txt S l).length = S * l.length
  | [] => rfl
  | z :: l => by
    show (Pt.low z.toNat S ++ txt S l).length = _
    rw [List.length_append, Pt.low_len, txt_len S l, List.length_cons, Nat.mul_add, Nat.mul_one, Nat.add_comm]

/-- a packet -/
def piece (S : Nat) (l : List Int) (x : Nat × Nat × Bool) : List UInt8 :=
  if x.2.2 then UInt8.ofNat (127 + x.2.1) :: txt S ((l.drop x.1).take 1) else UInt8.ofNat (x.2.1 - 1) :: txt S ((l.drop x.1).take x.2.1)
def flat (S : Nat) (l : List Int) (xs : List (Nat × Nat × Bool)) : List UInt8 := xs.flatMap (piece S l)
theorem flat_snoc (S : Nat) (l : List Int) (xs : List (Nat × Nat × Bool)) (x : Nat × Nat × Bool) : flat S l (xs ++ [x]) = flat S l xs ++ piece S l x := by simp [flat]
theorem flat_cons (S : Nat) (l : List Int) (xs : List (Nat × Nat × Bool)) (x : Nat × Nat × Bool) : flat S l (x :: xs) = piece S l x ++ flat S l xs := by simp [flat]
theorem piece_len (S : Nat) (l : List Int) (x : Nat × Nat × Bool) (hS : S ≤ 4) (h : x.2.1 ≤ 128) : (piece S l x).length ≤ 513 := by
  have h1 : ∀ k, k ≤ 128 → S * ((l.drop x.1).take k).length ≤ 512 := fun k hk => by
    have : ((l.drop x.1).take k).length ≤ 128 := by rw [List.length_take]; omega
    calc S * ((l.drop x.1).take k).length ≤ 4 * 128 := Nat.mul_le_mul hS this
      _ = 512 := rfl
  unfold piece
  split
  · rw [List.length_cons, txt_len]; have := h1 1 (by omega); omega
  · rw [List.length_cons, txt_len]; have := h1 x.2.1 h; omega
theorem flat_len (S : Nat) (l : List Int) (hS : S ≤ 4) : ∀ (xs : List (Nat × Nat × Bool)), (∀ x ∈ xs, x.2.1 ≤ 128) → (flat S l xs).length ≤ 513 * xs.length
  | [], _ => by simp [flat]
  | x :: xs, h => by
    have h1 := piece_len S l x hS (h x (by simp))
    have h2 := flat_len S l hS xs (fun y hy => h y (by simp [hy]))
    rw [flat_cons, List.length_append, List.length_cons]; omega
/-- all of it -/
def all (S : Nat) (l : List Int) : List UInt8 := flat S l (Rn.from_ 2 128 l 0)

/-- all numbers are of so many bytes -/
def fit (S : Nat) (l : List Int) : Bool := l.all fun z => decide (0 ≤ z ∧ z < ((256 ^ S : Nat) : Int))
theorem fit_at {S : Nat} {l : List Int} (h : fit S l = true) (i : Nat) (hi : i < l.length) : 0 ≤ l[i] ∧ l[i] < ((256 ^ S : Nat) : Int) := by
  unfold fit at h
  rw [List.all_eq_true] at h
  simpa using h l[i] (List.getElem_mem hi)
theorem fit_no {S : Nat} {l : List Int} (i : Nat) (hi : i < l.length) (h : ¬ (0 ≤ l[i] ∧ l[i] < ((256 ^ S : Nat) : Int))) : fit S l = false := by
  unfold fit
  rw [List.all_eq_false]
  exact ⟨l[i], List.getElem_mem hi, by simpa using h⟩
theorem fit_sub {S : Nat} {l : List Int} (h : fit S l = true) (k t : Nat) : fit S ((l.drop k).take t) = true := by
  unfold fit at *
  rw [List.all_eq_true] at *
  exact fun z hz => h z (List.mem_of_mem_drop (List.mem_of_mem_take hz))
theorem fit_yes {S : Nat} {l : List Int} (h : ∀ i (hi : i < l.length), 0 ≤ l[i] ∧ l[i] < ((256 ^ S : Nat) : Int)) : fit S l = true := by
  unfold fit
  rw [List.all_eq_true]
  intro z hz
  obtain ⟨i, hi, rfl⟩ := List.mem_iff_getElem.1 hz
  simpa using h i hi
end Rt
end Go.Proofs.Ytcgmmpfckmhahaa
