/- What is read by LZW: the answers. -/
import Derived.Test.YtjfihmpnbblomaaLzFine
import Derived.Test.YtjfihmpnbblomaaLzKeep
namespace Go.Proofs.Ytjfihmpnbblomaa
open Go.RowKit

instance (s : ByteArray) (b : Int) (wide : Bool) (limit : Int) : Decidable (LzFine s b wide limit) := by unfold LzFine; infer_instance
/-- all numbers with what they put out, or a code -/
def Lz.res (s : ByteArray) (b : Int) (wide : Bool) (limit : Int) : Except Int (List (Nat × ByteArray)) :=
  if LzFine s b wide limit then Lz.go s b.toNat wide (8 * s.size + 1) 0 (Lz.start b.toNat) ⟨#[]⟩ limit.toNat else .error 1
def Lz.codes (R : Except Int (List (Nat × ByteArray))) : List Int := match R with | .ok dn => codesOf dn | .error _ => []
def Lz.out (R : Except Int (List (Nat × ByteArray))) : List UInt8 := match R with | .ok dn => textsOf dn | .error _ => []
def Lz.code (R : Except Int (List (Nat × ByteArray))) : Int := match R with | .ok _ => 0 | .error c => c

theorem Lz.ok_bd {b : Int} {wide : Bool} (h : Lz.ok b wide = true) : 2 ≤ b ∧ b ≤ 8 := by
  unfold Lz.ok at h
  split at h
  · have := eq_of_beq h; omega
  · simp at h; omega
theorem Lz.res_no {s : ByteArray} {b limit : Int} {wide : Bool} (h : ¬ LzFine s b wide limit) : Lz.res s b wide limit = .error 1 := by unfold Lz.res; rw [if_neg h]
theorem Lz.res_yes {s : ByteArray} {b limit : Nat} {wide : Bool} (h : LzFine s b wide limit) : Lz.res s b wide limit = Lz.go s b wide (8 * s.size + 1) 0 (Lz.start b) ⟨#[]⟩ limit := by unfold Lz.res; rw [if_pos h, Int.toNat_natCast, Int.toNat_natCast]

/-- all that is told of what comes of it -/
theorem Lz.go_len {s : ByteArray} {b : Nat} {wide : Bool} : ∀ {f p : Nat} {l : List ByteArray} {last : ByteArray} {left : Nat} {dn : List (Nat × ByteArray)}, Lz.go s b wide f p l last left = .ok dn → dn.length ≤ f ∧ (textsOf dn).length ≤ left
  | 0, p, l, last, left, dn, h => by unfold Lz.go at h; cases h
  | f + 1, p, l, last, left, dn, h => by
    cases hs : Lz.step s b wide p l last left with
    | error c => rw [Lz.go_err hs] at h; cases h
    | ok r =>
      obtain ⟨v, t, l2, last2, left2⟩ := r
      have hl := Lz.step_left hs
      by_cases hv : v = 2 ^ b + 1
      · rw [Lz.go_end hs hv] at h
        cases h
        have : textsOf [(v, t)] = t.data.toList := by simp [textsOf]
        rw [this]
        exact ⟨by simp, by show t.size ≤ _; omega⟩
      · rw [Lz.go_on hs hv] at h
        cases hg : Lz.go s b wide f (p + Lz.width b wide l.length) l2 last2 left2 with
        | error c => rw [hg] at h; cases h
        | ok dn' =>
          rw [hg] at h
          have ih := Lz.go_len hg
          have e : dn = (v, t) :: dn' := by cases h; rfl
          subst e
          have e2 : textsOf ((v, t) :: dn') = t.data.toList ++ textsOf dn' := by simp [textsOf]
          have e3 : t.data.toList.length = t.size := rfl
          rw [e2, List.length_append, e3, List.length_cons]
          omega
theorem Lz.res_len {s : ByteArray} {b limit : Int} {wide : Bool} {dn : List (Nat × ByteArray)} (h : Lz.res s b wide limit = .ok dn) : dn.length ≤ 72001 ∧ (textsOf dn).length ≤ 5000 ∧ ((textsOf dn).length : Int) ≤ limit := by
  unfold Lz.res at h
  split at h
  · rename_i hf
    obtain ⟨h1, h2, h3, h4⟩ := hf
    have := Lz.go_len h
    omega
  · cases h
theorem Lz.codes_len (s : ByteArray) (b limit : Int) (wide : Bool) : (Lz.codes (Lz.res s b wide limit)).length ≤ 72001 := by
  cases h : Lz.res s b wide limit with
  | error c => show 0 ≤ _; omega
  | ok dn => show (codesOf dn).length ≤ _; rw [codesOf_len]; exact (Lz.res_len h).1
theorem Lz.out_len (s : ByteArray) (b limit : Int) (wide : Bool) : (Lz.out (Lz.res s b wide limit)).length ≤ 5000 := by
  cases h : Lz.res s b wide limit with
  | error c => show 0 ≤ _; omega
  | ok dn => exact (Lz.res_len h).2.1
end Go.Proofs.Ytjfihmpnbblomaa
