/- PackBits (mathematics). -/
import Derived.Test.YtmcjdilmmabiaaaRnMath
namespace Go.Proofs.Ytmcjdilmmabiaaa
namespace Pk

/-- the bytes as numbers -/
def ints (l : List UInt8) : List Int := l.map fun c => ((c.toNat : Nat) : Int)
theorem ints_len (l : List UInt8) : (ints l).length = l.length := by simp [ints]
theorem ints_at (l : List UInt8) (i : Nat) (h : i < (ints l).length) : (ints l)[i] = (((l.getD i 0).toNat : Nat) : Int) := by
  rw [ints_len] at h
  simp [ints, List.getD_eq_getElem?_getD, List.getElem?_eq_getElem h]

/-- a stretch, packed -/
def piece (l : List UInt8) (x : Nat × Nat × Bool) : List UInt8 := if x.2.2 then [UInt8.ofNat (257 - x.2.1), l.getD x.1 0] else UInt8.ofNat (x.2.1 - 1) :: (l.drop x.1).take x.2.1
def flat (l : List UInt8) (xs : List (Nat × Nat × Bool)) : List UInt8 := xs.flatMap (piece l)
theorem flat_nil (l : List UInt8) : flat l [] = [] := rfl
theorem flat_snoc (l : List UInt8) (xs : List (Nat × Nat × Bool)) (x : Nat × Nat × Bool) : flat l (xs ++ [x]) = flat l xs ++ piece l x := by simp [flat]
theorem flat_cons (l : List UInt8) (xs : List (Nat × Nat × Bool)) (x : Nat × Nat × Bool) : flat l (x :: xs) = piece l x ++ flat l xs := by simp [flat]
theorem piece_len (l : List UInt8) (x : Nat × Nat × Bool) (h : x.2.1 ≤ 128) : (piece l x).length ≤ 129 := by
  unfold piece
  split
  · simp
  · simp; omega
theorem flat_len (l : List UInt8) : ∀ (xs : List (Nat × Nat × Bool)), (∀ x ∈ xs, x.2.1 ≤ 128) → (flat l xs).length ≤ 129 * xs.length
  | [], _ => by simp [flat]
  | x :: xs, h => by
    have h1 := piece_len l x (h x (by simp))
    have h2 := flat_len l xs (fun y hy => h y (by simp [hy]))
    rw [flat_cons, List.length_append, List.length_cons]; omega

/-- all of it -/
def all (l : List UInt8) : List UInt8 := flat l (Rn.from_ 3 128 (ints l) 0)
end Pk
end Go.Proofs.Ytmcjdilmmabiaaa
