/- What the functions of the CRC sum return, for every sum and every text. -/
import Derived.Test.YtjdilanmkgodnaaAdWalks
import Derived.Test.YtjdilanmkgodnaaCrMath
import Derived.Test.YtjdilanmkgodnaaInWalks
namespace Go.Proofs.Ytjdilanmkgodnaa
open Go.RowKit

theorem u32_one (z : Nat) (h : z < 4294967296) : bits .and .u32 (z : Int) 1 = (z : Int) % 2 := by
  have := u32_and_nat z 1 h (by omega)
  rw [show ((1 : Nat) : Int) = 1 from rfl] at this
  rw [this, nat_mask1]; omega

theorem u32_poly (z : Nat) (h : z < 4294967296) : bits .xor .u32 ((z : Int) / 2) 3988292384 = ((z / 2 ^^^ 3988292384 : Nat) : Int) := by
  have := u32_xor_nat (z / 2) 3988292384 (by omega) (by omega)
  rw [show ((3988292384 : Nat) : Int) = 3988292384 from rfl, show ((z / 2 : Nat) : Int) = (z : Int) / 2 from by omega] at this
  exact this

/-- the table, its first k cells made -/
def tab (k : Nat) : Array Value := ((List.range 256).map fun j => Value.int .u32 (if j < k then (Cr.bits 8 j : Nat) else 0)).toArray

theorem tab_size (k : Nat) : (tab k).size = 256 := by simp [tab]

theorem tab_get (k j : Nat) (h : j < 256) : (tab k)[j]? = some (Value.int .u32 (if j < k then (Cr.bits 8 j : Nat) else 0)) := by
  simp [tab, h]

theorem tab_set (k : Nat) (h : k < 256) : (tab k).setIfInBounds k (.int .u32 (Cr.bits 8 k : Nat)) = tab (k + 1) := by
  apply Array.ext_getElem?
  intro j
  rw [Array.getElem?_setIfInBounds, tab_size]
  by_cases hj : j < 256
  · rw [tab_get _ _ hj, tab_get _ _ hj]
    by_cases e : k = j
    · subst e; simp [h]
    · rw [if_neg e]
      by_cases l : j < k
      · rw [if_pos l, if_pos (by omega)]
      · rw [if_neg l, if_neg (by omega)]
  · rw [if_neg (by omega), Array.getElem?_eq_none (by rw [tab_size]; omega), Array.getElem?_eq_none (by rw [tab_size]; omega)]

theorem u32_conv (S : Nat) (h : S < 4294967296) : IntKind.u32.wrap (S : Int) = (S : Int) := by rw [IntKind.wrap_u32']; omega

theorem u8_idx (x : Nat) (b : UInt8) : bits .xor .u8 ((x : Int) % 256) (b.toNat : Int) = ((x % 256 ^^^ b.toNat : Nat) : Int) := by
  have hb := UInt8.toNat_lt b
  have := u8_xor_nat (x % 256) b.toNat (by omega) (by omega)
  rw [← this]; rfl

theorem u32_last (x y : Nat) (hx : x < 4294967296) (hy : y < 4294967296) : bits .xor .u32 (y : Int) ((x : Int) / 256) = ((y ^^^ x / 256 : Nat) : Int) := by
  have := u32_xor_nat y (x / 256) hy (by omega)
  rw [← this]; rfl

theorem u32_not (c : Nat) (h : c < 4294967296) : bits .xor .u32 IntKind.u32.max (c : Int) = (Cr.turn c : Nat) := by
  have e : IntKind.u32.max = ((4294967295 : Nat) : Int) := by decide
  rw [e, u32_xor_nat 4294967295 c (by omega) h, Nat.xor_comm, Cr.xor_turn h]

end Go.Proofs.Ytjdilanmkgodnaa
