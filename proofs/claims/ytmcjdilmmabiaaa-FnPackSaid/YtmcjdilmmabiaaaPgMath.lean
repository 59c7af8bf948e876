/- Reading PackBits (mathematics). -/
import Derived.Test.YtmcjdilmmabiaaaPkMath
namespace Go.Proofs.Ytmcjdilmmabiaaa
namespace Pg

/-- how many bytes a head asks for -/
def nd (h : Nat) : Nat := if h < 128 then h + 1 else if 128 < h then 1 else 0
/-- what it puts out -/
def outp (h : Nat) (t : List UInt8) : List UInt8 := if h < 128 then t.take (h + 1) else if 128 < h then List.replicate (257 - h) (t.getD 0 0) else []
/-- a code, and all that is put out -/
def get (lim : Nat) (t out : List UInt8) : Int × List UInt8 :=
  match t with
  | [] => (0, out)
  | h :: t => if nd h.toNat ≤ t.length then (if lim < (out ++ outp h.toNat t).length then (3, []) else get lim (t.drop (nd h.toNat)) (out ++ outp h.toNat t)) else (2, [])
  termination_by t.length
  decreasing_by simp; omega
theorem get_nil (lim : Nat) (out : List UInt8) : get lim [] out = (0, out) := by rw [get]
theorem get_short {lim : Nat} {h : UInt8} {t out : List UInt8} (h1 : ¬ nd h.toNat ≤ t.length) : get lim (h :: t) out = (2, []) := by rw [get, if_neg h1]
theorem get_long {lim : Nat} {h : UInt8} {t out : List UInt8} (h1 : nd h.toNat ≤ t.length) (h2 : lim < (out ++ outp h.toNat t).length) : get lim (h :: t) out = (3, []) := by rw [get, if_pos h1, if_pos h2]
theorem get_more {lim : Nat} {h : UInt8} {t out : List UInt8} (h1 : nd h.toNat ≤ t.length) (h2 : (out ++ outp h.toNat t).length ≤ lim) : get lim (h :: t) out = get lim (t.drop (nd h.toNat)) (out ++ outp h.toNat t) := by rw [get, if_pos h1, if_neg (by omega)]

/-- so many times -/
def rep (k : Nat) (p : List UInt8) : List UInt8 := (List.replicate k p).flatten
theorem rep_zero (p : List UInt8) : rep 0 p = [] := rfl
theorem rep_succ (k : Nat) (p : List UInt8) : rep (k + 1) p = rep k p ++ p := by
  unfold rep
  rw [List.replicate_succ', List.flatten_append]; simp
theorem rep_one (p : List UInt8) : rep 1 p = p := by rw [rep_succ, rep_zero]; rfl
theorem rep_byte (c : UInt8) : ∀ k, rep k [c] = List.replicate k c
  | 0 => rfl
  | k + 1 => by rw [rep_succ, rep_byte c k, List.replicate_succ']
theorem rep_len (p : List UInt8) : ∀ k, (rep k p).length = k * p.length
  | 0 => by simp [rep_zero]
  | k + 1 => by rw [rep_succ, List.length_append, rep_len p k, Nat.succ_mul]
theorem rep_over {l p : List UInt8} {k T j lim : Nat} (hk : k < T) (hj : j < p.length) (h : lim ≤ (l ++ rep k p ++ p.take j).length) : lim < (l ++ rep T p).length := by
  rw [List.length_append, List.length_append, rep_len, List.length_take] at h
  rw [List.length_append, rep_len]
  have : (k + 1) * p.length ≤ T * p.length := Nat.mul_le_mul_right _ hk
  rw [Nat.succ_mul] at this
  omega
theorem rep_bound {l p : List UInt8} {k T : Nat} (hk : k ≤ T) : (l ++ rep k p).length ≤ (l ++ rep T p).length := by
  rw [List.length_append, List.length_append, rep_len, rep_len]
  have := Nat.mul_le_mul_right p.length hk
  omega
end Pg
end Go.Proofs.Ytmcjdilmmabiaaa
