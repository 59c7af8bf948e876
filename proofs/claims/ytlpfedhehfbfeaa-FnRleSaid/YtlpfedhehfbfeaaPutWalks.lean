/- What the functions that write a number in bytes return. -/
import Derived.Test.YtlpfedhehfbfeaaInWalks
import Derived.Test.YtlpfedhehfbfeaaOrdWalks
import Derived.Test.YtlpfedhehfbfeaaStrWalks
import Derived.Test.YtlpfedhehfbfeaaPowWalks
import Derived.Test.YtlpfedhehfbfeaaPutMath
namespace Go.Proofs.Ytlpfedhehfbfeaa
open Go.RowKit

theorem str_cons (c : UInt8) (l : List UInt8) : (ByteArray.mk #[c] ++ ByteArray.mk l.toArray) = ByteArray.mk (c :: l).toArray := ByteArray.mk_append_mk [c] l

/-- whether a number fits so many bytes -/
def NumFits (n size : Int) : Prop := 1 ≤ size ∧ size ≤ 4 ∧ 0 ≤ n ∧ n.toNat < 256 ^ size.toNat

theorem pow8 (S : Nat) : (2 : Nat) ^ (8 * S) = 256 ^ S := by rw [Nat.pow_mul]

theorem fits_nat {N S : Nat} (h : NumFits (N : Int) (S : Int)) : 1 ≤ S ∧ S ≤ 4 ∧ N < 256 ^ S := by
  obtain ⟨h1, h2, h3, h4⟩ := h
  rw [Int.toNat_natCast, Int.toNat_natCast] at h4
  exact ⟨by omega, by omega, h4⟩

theorem pow_le4 {S : Nat} (h : S ≤ 4) : 256 ^ S ≤ 4294967296 := Nat.le_trans (Nat.pow_le_pow_right (by omega) h) (by decide)

/-- S bytes in memory, the first k of them made -/
def putArr (f : Nat → Nat) (S k : Nat) : Array Value := ((List.range S).map fun j => Value.int .u8 (if j < k then (f j : Int) else 0)).toArray

theorem putArr_size (f : Nat → Nat) (S k : Nat) : (putArr f S k).size = S := by simp [putArr]

theorem putArr_get (f : Nat → Nat) (S k j : Nat) (h : j < S) : (putArr f S k)[j]? = some (Value.int .u8 (if j < k then (f j : Int) else 0)) := by
  simp [putArr, h]

theorem putArr_set (f : Nat → Nat) (S k : Nat) (h : k < S) : (putArr f S k).setIfInBounds k (.int .u8 (f k : Int)) = putArr f S (k + 1) := by
  apply Array.ext_getElem?
  intro j
  rw [Array.getElem?_setIfInBounds, putArr_size]
  by_cases hj : j < S
  · rw [putArr_get _ _ _ _ hj, putArr_get _ _ _ _ hj]
    by_cases e : k = j
    · subst e; simp [h]
    · rw [if_neg e]
      by_cases l : j < k
      · rw [if_pos l, if_pos (by omega)]
      · rw [if_neg l, if_neg (by omega)]
  · rw [if_neg (by omega), Array.getElem?_eq_none (by rw [putArr_size]; omega), Array.getElem?_eq_none (by rw [putArr_size]; omega)]

theorem putArr_text (f : Nat → Nat) (S b : Nat) (w : World) (hb : b = w.heap.size) :
    Sem.run Try.prog (convert 22 9 (.slice (some ⟨b, 0, none⟩) S S)) (w.alloc (.cells (putArr f S S) 5)) = .ok (.string ⟨(((List.range S).map f).map UInt8.ofNat).toArray⟩) (w.alloc (.cells (putArr f S S) 5)) := by
  subst hb
  have h := run_text (w.alloc (.cells (putArr f S S) 5)) ⟨w.heap.size, 0, none⟩ S ((List.range S).map f) ?_
  · rw [List.length_map, List.length_range] at h; exact h
  · intro j v hj
    have hjS : j < S := by
      have := (List.getElem?_eq_some_iff.1 hj).1
      simpa using this
    rw [show (⟨w.heap.size, 0, none⟩ : Addr).add j = ⟨w.heap.size, j, none⟩ from by simp [Addr.add]; omega, World.cell?_alloc_at _ _ _ _ rfl, putArr_get _ _ _ _ hjS, if_pos hjS, ← hj]
    simp [hjS]

theorem make_bytes1 (f : Nat → Nat) (w : World) :
    (Instr.makeSlice 22 (.int .i64 ((1 : Nat) : Int)) (.int .i64 ((1 : Nat) : Int))).run Try.prog w = .ok (.slice (some ⟨w.heap.size, 0, none⟩) 1 1) (w.alloc (.cells (putArr f 1 0) 5)) := by kernel_rfl
theorem make_bytes2 (f : Nat → Nat) (w : World) :
    (Instr.makeSlice 22 (.int .i64 ((2 : Nat) : Int)) (.int .i64 ((2 : Nat) : Int))).run Try.prog w = .ok (.slice (some ⟨w.heap.size, 0, none⟩) 2 2) (w.alloc (.cells (putArr f 2 0) 5)) := by kernel_rfl
theorem make_bytes3 (f : Nat → Nat) (w : World) :
    (Instr.makeSlice 22 (.int .i64 ((3 : Nat) : Int)) (.int .i64 ((3 : Nat) : Int))).run Try.prog w = .ok (.slice (some ⟨w.heap.size, 0, none⟩) 3 3) (w.alloc (.cells (putArr f 3 0) 5)) := by kernel_rfl
theorem make_bytes4 (f : Nat → Nat) (w : World) :
    (Instr.makeSlice 22 (.int .i64 ((4 : Nat) : Int)) (.int .i64 ((4 : Nat) : Int))).run Try.prog w = .ok (.slice (some ⟨w.heap.size, 0, none⟩) 4 4) (w.alloc (.cells (putArr f 4 0) 5)) := by kernel_rfl

theorem make_bytes (f : Nat → Nat) (S : Nat) (h1 : 1 ≤ S) (h4 : S ≤ 4) (w : World) :
    (Instr.makeSlice 22 (.int .i64 (S : Int)) (.int .i64 (S : Int))).run Try.prog w = .ok (.slice (some ⟨w.heap.size, 0, none⟩) S S) (w.alloc (.cells (putArr f S 0) 5)) := by
  have h : S = 1 ∨ S = 2 ∨ S = 3 ∨ S = 4 := by omega
  rcases h with rfl | rfl | rfl | rfl
  · exact make_bytes1 f w
  · exact make_bytes2 f w
  · exact make_bytes3 f w
  · exact make_bytes4 f w

theorem shr_none (N S : Nat) (h : N < 256 ^ S) : ((N : Int) / 2 ^ (8 * S) != 0) = false := by
  have e : (N : Int) / 2 ^ (8 * S) = ((N / 2 ^ (8 * S) : Nat) : Int) := by simp
  rw [e, pow8, Nat.div_eq_of_lt h]; rfl

theorem shr_some (N S : Nat) (h : ¬ N < 256 ^ S) : ((N : Int) / 2 ^ (8 * S) != 0) = true := by
  have e : (N : Int) / 2 ^ (8 * S) = ((N / 2 ^ (8 * S) : Nat) : Int) := by simp
  have hp : 0 < N / 256 ^ S := Nat.div_pos (by omega) (Nat.pow_pos (by omega))
  rw [e, pow8, bne_iff_ne]
  omega

theorem shr_byte (N j : Nat) : (N : Int) / 2 ^ (8 * j) % 256 = ((N / 256 ^ j % 256 : Nat) : Int) := by
  have e : (N : Int) / 2 ^ (8 * j) = ((N / 2 ^ (8 * j) : Nat) : Int) := by simp
  rw [e, pow8]; omega

end Go.Proofs.Ytlpfedhehfbfeaa
