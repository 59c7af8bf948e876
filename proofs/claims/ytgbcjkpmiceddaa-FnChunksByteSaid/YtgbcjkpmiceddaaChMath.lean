/- Pieces, written (mathematics). -/
import Derived.Test.YtgbcjkpmiceddaaChName
import Derived.Test.YtgbcjkpmiceddaaCrMath
import Derived.Test.YtgbcjkpmiceddaaPutMath
namespace Go.Proofs.Ytgbcjkpmiceddaa
namespace Ch

/-- the sum of a piece -/
def crc (p : ByteArray × ByteArray) : Nat := Cr.more 0 (p.1 ++ p.2).data.toList
theorem crc_lt (p : ByteArray × ByteArray) : crc p < 4294967296 := Cr.more_lt _ _
/-- a piece, written -/
def piece (p : ByteArray × ByteArray) : List UInt8 := (Pt.low p.2.size 4).reverse ++ p.1.data.toList ++ p.2.data.toList ++ (Pt.low (crc p) 4).reverse
theorem piece_len {p : ByteArray × ByteArray} (h : p.1.size = 4) : (piece p).length = 12 + p.2.size := by
  unfold piece
  rw [List.length_append, List.length_append, List.length_append, List.length_reverse, List.length_reverse, Pt.low_len, Pt.low_len, bytes_len, bytes_len, h]
  omega
def sign : List UInt8 := [137, 80, 78, 71, 13, 10, 26, 10]
def out (l : List (ByteArray × ByteArray)) : List UInt8 := sign ++ l.flatMap piece
theorem out_snoc (l : List (ByteArray × ByteArray)) (k : Nat) (h : k < l.length) : out (l.take (k + 1)) = out (l.take k) ++ piece l[k] := by
  unfold out
  rw [List.take_succ_eq_append_getElem h, List.flatMap_append, List.append_assoc]
  simp
/-- whether all can be written, behind so many bytes -/
def ok (n : Nat) : List (ByteArray × ByteArray) → Bool
  | [] => true
  | p :: l => name p.1 && (decide (n + 12 + p.2.size ≤ 9000) && ok (n + 12 + p.2.size) l)
def ans (l : List (ByteArray × ByteArray)) : List UInt8 := if ok 8 l = true then out l else []
theorem ok_drop {n : Nat} {l : List (ByteArray × ByteArray)} {k : Nat} (h : k < l.length) : ok n (l.drop k) = (name (l[k]).1 && (decide (n + 12 + (l[k]).2.size ≤ 9000) && ok (n + 12 + (l[k]).2.size) (l.drop (k + 1)))) := by
  rw [List.drop_eq_getElem_cons h]; rfl
theorem ok_end {n : Nat} {l : List (ByteArray × ByteArray)} {k : Nat} (h : l.length ≤ k) : ok n (l.drop k) = true := by
  rw [List.drop_of_length_le h]; rfl
theorem crc_ans {p : ByteArray × ByteArray} (h : (p.1 ++ p.2).size ≤ 9000) : Cr.ans 0 (p.1 ++ p.2).data.toList = (crc p : Int) := by
  rw [Cr.ans_yes (by rw [Cr.okB_iff, bytes_len]; omega)]
  rfl
end Ch
end Go.Proofs.Ytgbcjkpmiceddaa
