/- A text cut into blocks (mathematics). -/
import Derived.Test.YtcahppmnfoopkaaBase
namespace Go.Proofs.Ytcahppmnfoopkaa
namespace Bk

/-- the bytes of the block at place j -/
def part (l : List UInt8) (j : Nat) : List UInt8 := (l.drop (255 * j)).take 255
/-- the first j blocks, each behind its length -/
def acc (l : List UInt8) : Nat → List UInt8
  | 0 => []
  | j + 1 => acc l j ++ UInt8.ofNat (part l j).length :: part l j
theorem acc_succ (l : List UInt8) (j : Nat) : acc l (j + 1) = acc l j ++ UInt8.ofNat (part l j).length :: part l j := rfl
theorem part_len (l : List UInt8) (j : Nat) : (part l j).length = min 255 (l.length - 255 * j) := by simp [part]
theorem acc_len (l : List UInt8) : ∀ j, (acc l j).length ≤ 256 * j
  | 0 => Nat.le_refl _
  | j + 1 => by
    have := acc_len l j
    have h := part_len l j
    rw [acc_succ, List.length_append, List.length_cons]; omega

/-- how many blocks there are -/
def num (n : Nat) : Nat := (n + 254) / 255
theorem num_iff {n j : Nat} : j < num n ↔ 255 * j < n := by unfold num; omega
theorem num_le {n : Nat} (h : n ≤ 5000) : num n ≤ 20 := by unfold num; omega
/-- all blocks, and the end -/
def all (l : List UInt8) : List UInt8 := acc l (num l.length) ++ [0]

theorem extract_part (s : ByteArray) (i j : Nat) : s.extract i j = ⟨((s.data.toList.drop i).take (j - i)).toArray⟩ := by
  apply ByteArray.ext
  rw [ByteArray.data_extract]
  apply Array.toList_inj.1
  simp [List.extract_eq_take_drop]
end Bk
end Go.Proofs.Ytcahppmnfoopkaa
