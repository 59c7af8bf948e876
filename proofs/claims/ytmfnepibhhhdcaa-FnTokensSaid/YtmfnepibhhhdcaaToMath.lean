/- What tokens make (mathematics). -/
import Derived.Test.YtmfnepibhhhdcaaTkRow
namespace Go.Proofs.Ytmfnepibhhhdcaa
namespace To

def okTok (p : Tk) (n : Nat) : Bool :=
  if p.2.1 = 0 then decide (0 ≤ p.1) && (decide (p.1 ≤ 255) && decide (p.2.2 = 0))
  else decide (p.1 = 0) && (decide (3 ≤ p.2.1) && (decide (p.2.1 ≤ 258) && (decide (1 ≤ p.2.2) && decide (p.2.2 ≤ (n : Int)))))
def again (l : List UInt8) (d : Nat) : Nat → List UInt8
  | 0 => l
  | k + 1 => again l d k ++ [(again l d k).getD ((again l d k).length - d) 0]
theorem again_len (l : List UInt8) (d : Nat) : ∀ k, (again l d k).length = l.length + k
  | 0 => rfl
  | k + 1 => by rw [again, List.length_append, again_len l d k]; rfl
def step (p : Tk) (l : List UInt8) : Option (List UInt8) :=
  if okTok p l.length = true then
    (if p.2.1 = 0 then (if l.length < 5000 then some (l ++ [UInt8.ofNat p.1.toNat]) else none)
     else if l.length + p.2.1.toNat ≤ 5000 then some (again l p.2.2.toNat p.2.1.toNat) else none)
  else none
def get : List Tk → List UInt8 → Option (List UInt8)
  | [], l => some l
  | p :: ts, l => (step p l).bind (get ts)
theorem get_drop {ts : List Tk} {k : Nat} {l : List UInt8} (h : k < ts.length) : get (ts.drop k) l = (step ts[k] l).bind (get (ts.drop (k + 1))) := by
  rw [List.drop_eq_getElem_cons h]; rfl
theorem get_end {ts : List Tk} {k : Nat} {l : List UInt8} (h : ts.length ≤ k) : get (ts.drop k) l = some l := by
  rw [List.drop_of_length_le h]; rfl
/-- what TokensOut answers -/
def ansL (ts : List Tk) : List UInt8 := (get ts []).getD []
def ansB (ts : List Tk) : Bool := (get ts []).isSome
theorem ok_zero {v d : Int} {n : Nat} (h1 : 0 ≤ v) (h2 : v ≤ 255) (h3 : d = 0) : okTok (v, 0, d) n = true := by
  simp [okTok, h1, h2, h3]
theorem ok_zero_no {v d : Int} {n : Nat} (h : ¬ (0 ≤ v ∧ v ≤ 255 ∧ d = 0)) : okTok (v, 0, d) n = false := by
  unfold okTok
  simp only [if_true]
  by_cases h1 : 0 ≤ v <;> by_cases h2 : v ≤ 255 <;> by_cases h3 : d = 0 <;> simp_all
theorem ok_more {v s d : Int} {n : Nat} (h0 : s ≠ 0) (h1 : v = 0) (h2 : 3 ≤ s) (h3 : s ≤ 258) (h4 : 1 ≤ d) (h5 : d ≤ (n : Int)) : okTok (v, s, d) n = true := by
  unfold okTok
  rw [if_neg h0]
  simp [h1, h2, h3, h4, h5]
theorem ok_more_no {v s d : Int} {n : Nat} (h0 : s ≠ 0) (h : ¬ (v = 0 ∧ 3 ≤ s ∧ s ≤ 258 ∧ 1 ≤ d ∧ d ≤ (n : Int))) : okTok (v, s, d) n = false := by
  unfold okTok
  rw [if_neg h0]
  by_cases h1 : v = 0 <;> by_cases h2 : 3 ≤ s <;> by_cases h3 : s ≤ 258 <;> by_cases h4 : 1 ≤ d <;> by_cases h5 : d ≤ (n : Int) <;> simp_all
theorem step_no {v s d : Int} {l : List UInt8} (h : okTok (v, s, d) l.length = false) : step (v, s, d) l = none := by
  unfold step; rw [h]; rfl
theorem step_byte {v d : Int} {l : List UInt8} (h : okTok (v, 0, d) l.length = true) (h2 : l.length < 5000) : step (v, 0, d) l = some (l ++ [UInt8.ofNat v.toNat]) := by
  unfold step; rw [if_pos h]; simp [h2]
theorem step_full {v d : Int} {l : List UInt8} (h2 : ¬ l.length < 5000) : step (v, 0, d) l = none := by
  unfold step
  by_cases h : okTok (v, 0, d) l.length = true
  · rw [if_pos h, if_pos rfl, if_neg h2]
  · rw [if_neg h]
theorem step_again {v s d : Int} {l : List UInt8} (h0 : s ≠ 0) (h : okTok (v, s, d) l.length = true) (h2 : l.length + s.toNat ≤ 5000) : step (v, s, d) l = some (again l d.toNat s.toNat) := by
  unfold step; rw [if_pos h, if_neg h0, if_pos h2]
theorem step_long {v s d : Int} {l : List UInt8} (h0 : s ≠ 0) (h2 : ¬ l.length + s.toNat ≤ 5000) : step (v, s, d) l = none := by
  unfold step
  by_cases h : okTok (v, s, d) l.length = true
  · rw [if_pos h, if_neg h0, if_neg h2]
  · rw [if_neg h]
end To
end Go.Proofs.Ytmfnepibhhhdcaa
