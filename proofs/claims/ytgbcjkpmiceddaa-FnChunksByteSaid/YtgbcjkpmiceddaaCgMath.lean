/- Pieces, read (mathematics). -/
import Derived.Test.YtgbcjkpmiceddaaChMath
import Derived.Test.YtgbcjkpmiceddaaNmMath
namespace Go.Proofs.Ytgbcjkpmiceddaa
namespace Cg

/-- the number of four bytes, the highest first -/
def n4 (s : ByteArray) (A : Nat) : Nat := Nm.big (fun i => byteAt s (A + i)) 4
theorem n4_lt (s : ByteArray) (A : Nat) : n4 s A < 4294967296 := Nm.big_lt _ (fun _ => byteAt_lt _ _) 4
def nm (s : ByteArray) (A : Nat) : ByteArray := s.extract (A + 4) (A + 8)
def bd (s : ByteArray) (A : Nat) : ByteArray := s.extract (A + 8) (A + 8 + n4 s A)
/-- a piece stands there -/
def Ok (s : ByteArray) (A : Nat) : Prop := A + 12 + n4 s A ≤ s.size ∧ Ch.name (nm s A) = true ∧ n4 s (A + 8 + n4 s A) = Ch.crc (nm s A, bd s A)
instance (s : ByteArray) (A : Nat) : Decidable (Ok s A) := by unfold Ok; infer_instance
/-- all pieces from there on, behind others -/
def get (s : ByteArray) (A : Nat) (out : List (ByteArray × ByteArray)) : Option (List (ByteArray × ByteArray)) :=
  if A < s.size then (if Ok s A then get s (A + 12 + n4 s A) (out ++ [(nm s A, bd s A)]) else none) else some out
  termination_by s.size - A
  decreasing_by omega
theorem get_end {s : ByteArray} {A : Nat} {out : List (ByteArray × ByteArray)} (h : ¬ A < s.size) : get s A out = some out := by rw [get, if_neg h]
theorem get_no {s : ByteArray} {A : Nat} {out : List (ByteArray × ByteArray)} (h : A < s.size) (h2 : ¬ Ok s A) : get s A out = none := by rw [get, if_pos h, if_neg h2]
theorem get_more {s : ByteArray} {A : Nat} {out : List (ByteArray × ByteArray)} (h : A < s.size) (h2 : Ok s A) : get s A out = get s (A + 12 + n4 s A) (out ++ [(nm s A, bd s A)]) := by rw [get, if_pos h, if_pos h2]
def signB : ByteArray := ⟨#[137, 80, 78, 71, 13, 10, 26, 10]⟩
def Valid (s : ByteArray) : Prop := s.size ≤ 9000 ∧ 8 ≤ s.size ∧ s.extract 0 8 = signB
instance (s : ByteArray) : Decidable (Valid s) := by unfold Valid; infer_instance
/-- what ChunksGet answers -/
def ans (s : ByteArray) : Option (List (ByteArray × ByteArray)) := if Valid s then get s 8 [] else none
theorem ans_no {s : ByteArray} (h : ¬ Valid s) : ans s = none := by unfold ans; rw [if_neg h]
theorem ans_ok {s : ByteArray} (h : Valid s) : ans s = get s 8 [] := by unfold ans; rw [if_pos h]
def ansL (s : ByteArray) : List (ByteArray × ByteArray) := (ans s).getD []
def ansB (s : ByteArray) : Bool := (ans s).isSome
theorem get_len (s : ByteArray) : ∀ (k A : Nat) (out l : List (ByteArray × ByteArray)), s.size - A ≤ k → get s A out = some l → l.length ≤ out.length + (s.size - A)
  | 0, A, out, l, hk, h => by
    rw [get_end (by omega)] at h
    cases h; omega
  | k + 1, A, out, l, hk, h => by
    by_cases hA : A < s.size
    · by_cases ho : Ok s A
      · rw [get_more hA ho] at h
        have := get_len s k _ _ l (by omega) h
        rw [List.length_append] at this
        simp at this
        omega
      · rw [get_no hA ho] at h; cases h
    · rw [get_end hA] at h
      cases h; omega
theorem ansL_len (s : ByteArray) : (ansL s).length ≤ 9000 := by
  unfold ansL
  by_cases h : Valid s
  · rw [ans_ok h]
    rcases hg : get s 8 [] with _ | l
    · simp
    · have := get_len s _ 8 [] l (Nat.le_refl _) hg
      have := h.1
      simp at *
      omega
  · rw [ans_no h]; simp
end Cg
end Go.Proofs.Ytgbcjkpmiceddaa
