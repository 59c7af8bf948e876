/- What the law on numbers in bytes needs beside the walk. -/
import Derived.Test.YtoocijfkckjbfaaDrawNums
namespace Go.Proofs.Ytoocijfkckjbfaa
open Go.RowKit

/-- what the walk is told of a number that was written -/
structure Wrote (N S : Nat) (hi : Bool) (s o : ByteArray) : Prop where
  data : s.data.toList = Pt.num N S hi
  other : o.data.toList = Pt.num N S (!hi)
  fits : N < 256 ^ S

theorem Wrote.size {N S : Nat} {hi : Bool} {s o : ByteArray} (h : Wrote N S hi s o) : s.size = S := by
  rw [← bytes_len, h.data, Pt.num_len]
theorem Wrote.size2 {N S : Nat} {hi : Bool} {s o : ByteArray} (h : Wrote N S hi s o) : o.size = S := by
  rw [← bytes_len, h.other, Pt.num_len]
theorem Wrote.full {N S : Nat} {hi : Bool} {s o : ByteArray} (h : Wrote N S hi s o) (h1 : 1 ≤ S) : s.toList.isEmpty = false := by
  rw [ByteArray.toList_eq, h.data]
  cases e : Pt.num N S hi with
  | nil => have := Pt.num_len N S hi; rw [e] at this; simp at this; omega
  | cons x l => rfl
theorem Wrote.back {N S : Nat} {hi : Bool} {s o : ByteArray} (h : Wrote N S hi s o) : Nm.num (fun i => byteAt s ((0 : Int).toNat + i)) S hi = N := by
  apply Np.get_put N S hi h.fits
  intro i hiS
  refine ⟨?_, byteAt_lt _ _⟩
  rw [← h.data]
  unfold byteAt
  rw [show (0 : Int).toNat + i = i from by simp, List.getD_eq_getElem?_getD, List.getElem?_eq_getElem (by rw [bytes_len, h.size]; exact hiS)]
  simp
theorem Wrote.mirror {N S : Nat} {hi : Bool} {s o : ByteArray} (h : Wrote N S hi s o) (k j : Nat) (hk : k < s.size) (hj : j < o.size) (e : k + j + 1 = S) : (s[k]).toNat = (o[j]).toNat := by
  have hp := Np.put_other N S k hi (by omega)
  rw [← h.data, ← h.other, show S - 1 - k = j from by omega] at hp
  have h1 : s.data.toList[k]? = some s[k] := by rw [List.getElem?_eq_getElem (by rw [bytes_len]; exact hk)]; rfl
  have h2 : o.data.toList[j]? = some o[j] := by rw [List.getElem?_eq_getElem (by rw [bytes_len]; exact hj)]; rfl
  rw [h1, h2] at hp
  exact congrArg UInt8.toNat (Option.some.inj hp)

/-- what was read, written again, is the bytes -/
theorem again (t : ByteArray) (A C : Nat) (hi : Bool) (h : A + C ≤ t.size) :
    ((ByteArray.mk (Pt.num (Nm.num (fun i => byteAt t (A + i)) C hi) C hi).toArray).toList == (t.extract A (A + C)).toList) = true := by
  rw [beq_iff_eq, ByteArray.toList_eq, ByteArray.toList_eq, Np.put_get _ (fun i => byteAt_lt _ _)]
  rw [ByteArray.data_extract, Array.toList_extract]
  apply List.ext_getElem?
  intro i
  by_cases hi' : i < C
  · simp only [List.getElem?_map, List.extract_eq_take_drop, List.getElem?_take, List.getElem?_drop]
    rw [List.getElem?_range hi', if_pos (by omega)]
    have hl : A + i < t.data.toList.length := by rw [bytes_len]; omega
    rw [List.getElem?_eq_getElem hl]
    show some (UInt8.ofNat (byteAt t (A + i))) = _
    unfold byteAt
    rw [List.getD_eq_getElem?_getD, List.getElem?_eq_getElem hl]
    simp
  · rw [List.getElem?_eq_none (by simp; omega), List.getElem?_eq_none (by simp; omega)]

theorem num_lt (b : Nat → Nat) (hb : ∀ i, b i < 256) (C : Nat) (hi : Bool) : Nm.num b C hi < 256 ^ C := by
  cases hi
  · exact Nm.low_lt b hb C
  · exact Nm.big_lt b hb C

end Go.Proofs.Ytoocijfkckjbfaa
