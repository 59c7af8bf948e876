/- Numbers in packets, read (mathematics). -/
import Derived.Test.YtmcjdilmmabiaaaBase
import Derived.Test.YtmcjdilmmabiaaaNmMath
namespace Go.Proofs.Ytmcjdilmmabiaaa
namespace Rg

/-- the number of S bytes from a byte on -/
def num (s : ByteArray) (S p : Nat) : Int := ((Nm.low (fun i => byteAt s (p + i)) S : Nat) : Int)
/-- how many numbers a packet has, by its first byte; how many bytes they take -/
def cnt (h : Nat) : Nat := if 128 ≤ h then h - 127 else h + 1
def need (S h : Nat) : Nat := if 128 ≤ h then S else (h + 1) * S
theorem cnt_pos (h : Nat) : 1 ≤ cnt h := by unfold cnt; split <;> omega
theorem cnt_le {h : Nat} (hh : h < 256) : cnt h ≤ 128 := by unfold cnt; split <;> omega
theorem need_le {S h : Nat} (hS : S ≤ 4) (hh : h < 256) : need S h ≤ 512 := by
  unfold need; split
  · omega
  · calc (h + 1) * S ≤ 128 * 4 := Nat.mul_le_mul (by omega) hS
      _ = 512 := rfl
/-- where a number of a packet begins -/
def off (S h i : Nat) : Nat := if 128 ≤ h then 0 else i * S
/-- the numbers of a packet -/
def nums (s : ByteArray) (S A : Nat) : List Int := (List.range (cnt (byteAt s A))).map fun i => num s S (A + 1 + off S (byteAt s A) i)
theorem nums_len (s : ByteArray) (S A : Nat) : (nums s S A).length = cnt (byteAt s A) := by simp [nums]
theorem nums_at (s : ByteArray) (S A i : Nat) (h : i < (nums s S A).length) : (nums s S A)[i] = num s S (A + 1 + off S (byteAt s A) i) := by simp [nums]
/-- a packet is there, and has no more than is left -/
def There (s : ByteArray) (S A n : Nat) : Prop := A < s.size ∧ cnt (byteAt s A) ≤ n ∧ A + 1 + need S (byteAt s A) ≤ s.size
instance (s : ByteArray) (S A n : Nat) : Decidable (There s S A n) := by unfold There; infer_instance

def getF (s : ByteArray) (S : Nat) : Nat → Nat → Nat → Option (List Int × Nat)
  | _, A, 0 => some ([], A)
  | 0, _, _ + 1 => none
  | f + 1, A, n + 1 => if There s S A (n + 1) then (getF s S f (A + 1 + need S (byteAt s A)) (n + 1 - cnt (byteAt s A))).map fun r => (nums s S A ++ r.1, r.2) else none
theorem getF_more (s : ByteArray) (S : Nat) : ∀ (f g A n : Nat), n ≤ f → n ≤ g → getF s S f A n = getF s S g A n
  | f, g, A, 0, _, _ => by cases f <;> cases g <;> rfl
  | 0, _, _, _ + 1, h, _ => by omega
  | _ + 1, 0, _, _ + 1, _, h => by omega
  | f + 1, g + 1, A, n + 1, hf, hg => by
    have := cnt_pos (byteAt s A)
    unfold getF
    rw [getF_more s S f g _ (n + 1 - cnt (byteAt s A)) (by omega) (by omega)]
/-- so many numbers from a byte on, and where they end -/
def get (s : ByteArray) (S A n : Nat) : Option (List Int × Nat) := getF s S n A n
theorem get_zero (s : ByteArray) (S A : Nat) : get s S A 0 = some ([], A) := rfl
theorem get_yes {s : ByteArray} {S A n : Nat} (hn : 0 < n) (h : There s S A n) : get s S A n = (get s S (A + 1 + need S (byteAt s A)) (n - cnt (byteAt s A))).map fun r => (nums s S A ++ r.1, r.2) := by
  obtain ⟨m, rfl⟩ := Nat.exists_eq_succ_of_ne_zero (show n ≠ 0 by omega)
  have := cnt_pos (byteAt s A)
  unfold get
  rw [Nat.succ_eq_add_one] at *
  conv => lhs; unfold getF
  rw [if_pos h, getF_more s S m _ _ _ (show m + 1 - cnt (byteAt s A) ≤ m by omega) (Nat.le_refl _)]
theorem get_no {s : ByteArray} {S A n : Nat} (hn : 0 < n) (h : ¬ There s S A n) : get s S A n = none := by
  obtain ⟨m, rfl⟩ := Nat.exists_eq_succ_of_ne_zero (show n ≠ 0 by omega)
  unfold get getF
  rw [if_neg h]

/-- some packets were read: the numbers so far, the byte, how many are left -/
def Reach (s : ByteArray) (S A0 N : Nat) (l : List Int) (A n : Nat) : Prop := l.length + n = N ∧ get s S A0 N = (get s S A n).map fun r => (l ++ r.1, r.2)
theorem reach_start (s : ByteArray) (S A N : Nat) : Reach s S A N [] A N := ⟨by simp, by cases get s S A N <;> simp⟩
theorem Reach.step {s : ByteArray} {S A0 N A n : Nat} {l : List Int} (h : Reach s S A0 N l A n) (hn : 0 < n) (ht : There s S A n) : Reach s S A0 N (l ++ nums s S A) (A + 1 + need S (byteAt s A)) (n - cnt (byteAt s A)) := by
  refine ⟨?_, ?_⟩
  · rw [List.length_append, nums_len]; have := h.1; have := ht.2.1; omega
  · rw [h.2, get_yes hn ht]
    cases get s S (A + 1 + need S (byteAt s A)) (n - cnt (byteAt s A)) <;> simp
theorem Reach.done {s : ByteArray} {S A0 N A : Nat} {l : List Int} (h : Reach s S A0 N l A 0) : get s S A0 N = some (l, A) := by rw [h.2, get_zero]; simp
theorem Reach.stuck {s : ByteArray} {S A0 N A n : Nat} {l : List Int} (h : Reach s S A0 N l A n) (hn : 0 < n) (ht : ¬ There s S A n) : get s S A0 N = none := by rw [h.2, get_no hn ht]; rfl
theorem num_bound {s : ByteArray} {S p : Nat} (hS : S ≤ 4) : ∃ z : Nat, num s S p = (z : Int) ∧ z ≤ 4294967295 := by
  have h1 := Nm.low_lt (fun i => byteAt s (p + i)) (fun i => byteAt_lt s _) S
  have h2 : 256 ^ S ≤ 256 ^ 4 := Nat.pow_le_pow_right (by omega) hS
  have h3 : (256 : Nat) ^ 4 = 4294967296 := by decide
  exact ⟨_, rfl, by omega⟩
end Rg
end Go.Proofs.Ytmcjdilmmabiaaa
