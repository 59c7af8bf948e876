/- The points of a row, told by their bits. -/
import Derived.Test.YtjikjjganloobaaBgBits
import Derived.Test.YtjikjjganloobaaBgMath2
import Derived.Test.YtjikjjganloobaaDepOk
namespace Go.Proofs.Ytjikjjganloobaa
open Go.RowKit
namespace Rw

/-- the i-th point of D bits -/
def pt (s : ByteArray) (D i : Nat) : Nat := Bg.big (fun k => bitAt s true (i * D + k)) D
theorem pt_lt (s : ByteArray) (D i : Nat) : pt s D i < 2 ^ D := Bg.big_lt _ (fun _ => bitAt_lt _ _ _) _
theorem pt_split (s : ByteArray) (i : Nat) : pt s 32 i = Bg.big (fun k => bitAt s true (i * 32 + k)) 16 * 65536 + Bg.big (fun k => bitAt s true (i * 32 + 16 + k)) 16 := by
  unfold pt
  have h := Bg.big_add (fun k => bitAt s true (i * 32 + k)) 16 16
  rw [show (16 + 16 : Nat) = 32 from rfl] at h
  rw [h]
  simp only [Nat.add_assoc]

/-- n points -/
def row (s : ByteArray) (D n : Nat) : List Int := (List.range n).map fun i => ((pt s D i : Nat) : Int)
theorem row_len (s : ByteArray) (D n : Nat) : (row s D n).length = n := by simp [row]
theorem row_succ (s : ByteArray) (D n : Nat) : row s D (n + 1) = row s D n ++ [((pt s D n : Nat) : Int)] := by simp [row, List.range_succ]
theorem row_get (s : ByteArray) (D n i : Nat) (h : i < (row s D n).length) : (row s D n)[i] = ((pt s D i : Nat) : Int) := by simp [row]

/-- whether a text holds just so many points -/
def There (n : Nat) (d c : Int) : Prop := depB d = true ∧ 0 ≤ c ∧ c ≤ 1000 ∧ (n : Int) = (c * d + 7) / 8
def thereB (n : Nat) (d c : Int) : Bool := depB d && decide (0 ≤ c ∧ c ≤ 1000 ∧ (n : Int) = (c * d + 7) / 8)
theorem thereB_iff (n : Nat) (d c : Int) : thereB n d c = true ↔ There n d c := by simp [thereB, There]
theorem thereB_yes {n : Nat} {d c : Int} (h : There n d c) : thereB n d c = true := (thereB_iff n d c).2 h
theorem thereB_no {n : Nat} {d c : Int} (h : ¬ There n d c) : thereB n d c = false := by
  cases g : thereB n d c
  · rfl
  · exact absurd ((thereB_iff n d c).1 g) h
/-- what is read -/
def ans (s : ByteArray) (d c : Int) : List Int := if thereB s.size d c = true then row s d.toNat c.toNat else []
theorem ans_yes {s : ByteArray} {D C : Nat} (h : There s.size D C) : ans s D C = row s D C := by unfold ans; rw [if_pos (thereB_yes h)]; rfl
theorem ans_no {s : ByteArray} {d c : Int} (h : ¬ There s.size d c) : ans s d c = [] := by unfold ans; rw [thereB_no h]; rfl
theorem ans_len (s : ByteArray) (d c : Int) : (ans s d c).length ≤ 1000 := by
  by_cases h : There s.size d c
  · unfold ans; rw [if_pos (thereB_yes h), row_len]; have := h.2.1; have := h.2.2.1; omega
  · rw [ans_no h]; simp

theorem dep_cases {d : Int} (h : depB d = true) : d = 1 ∨ d = 2 ∨ d = 4 ∨ d = 8 ∨ d = 24 ∨ d = 32 := of_decide_eq_true h
theorem dep_nat {d : Int} (h : depB d = true) : ∃ D : Nat, d = (D : Int) ∧ 1 ≤ D ∧ D ≤ 32 ∧ (D ≤ 24 ∨ D = 32) := by
  have := dep_cases h
  exact ⟨d.toNat, by omega, by omega, by omega, by omega⟩
end Rw
end Go.Proofs.Ytjikjjganloobaa
