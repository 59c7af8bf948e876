/- What the functions of the Adler sum return, for every sum and every text. -/
import Derived.Test.YtjdilanmkgodnaaProg
import Derived.Test.YtjdilanmkgodnaaAdMath
import Derived.Test.YtjdilanmkgodnaaBase
namespace Go.Proofs.Ytjdilanmkgodnaa
open Go.RowKit

/-- 'b << 16 ' joined with a low part -/
theorem or_join (a b : Int) (h1 : 0 ≤ a) (h2 : a ≤ 65535) (h3 : 0 ≤ b) (h4 : b ≤ 65535) : bits .or .i64 (b * 65536) a = b * 65536 + a := by
  obtain ⟨A, rfl⟩ := Int.eq_ofNat_of_zero_le h1
  obtain ⟨B, rfl⟩ := Int.eq_ofNat_of_zero_le h3
  have e : ((B : Int) * 65536) = ((B * 65536 : Nat) : Int) := by omega
  rw [e, i64_or_nat _ _ (by omega) (by omega), nat_join 16 (B * 65536) A (by omega) (by omega)]
  omega

theorem and_low (a : Int) (h1 : 0 ≤ a) (h2 : a ≤ 4294967295) : bits .and .i64 a 65535 = a % 65536 := by
  obtain ⟨A, rfl⟩ := Int.eq_ofNat_of_zero_le h1
  have := i64_and_nat A 65535 (by omega) (by omega)
  rw [show ((65535 : Nat) : Int) = 65535 from rfl] at this
  rw [this, Nat.and_two_pow_sub_one_eq_mod A 16]
  omega

end Go.Proofs.Ytjdilanmkgodnaa
