/- LzwCodes of the program. -/
import Derived.Test.YtjfihmpnbblomaaLzReadI
import Derived.Test.YtjfihmpnbblomaaLzAns
namespace Go.Proofs.Ytjfihmpnbblomaa
open Go.RowKit

set_option maxHeartbeats 1000000 in
theorem impl_lzwCodes (s : ByteArray) (b : Int) (wide : Bool) (w : World) (hs : s.size ≤ 3000000) :
    Calls Try.prog 17 #[.string s, .int .i64 b, .bool wide] w fun e w' => (∃ ao cap, e = .returned (.slice ao (Lz.codes (Lz.res s b wide 5000)).length cap) ∧ Owns w' w.heap.size ao (Lz.codes (Lz.res s b wide 5000))) ∧ Below w.heap.size w w' := by
  by_cases hf : LzFine s b wide 5000
  · obtain ⟨B, rfl⟩ := Int.eq_ofNat_of_zero_le (show 0 ≤ b by have := Lz.ok_bd hf.1; omega)
    have HR := fun w => lzReadI_yes s B 5000 wide (Lz.res s B wide 5000) w hf (Lz.res_yes (limit := 5000) hf)
    generalize hRs : Lz.res s B wide 5000 = R at *
    clear hRs
    have HRD : Hid (∀ w, Calls Try.prog 48 #[.string s, .agg #[.int .i64 (B : Int), .bool wide], .int .i64 5000, .func (.func 47) #[] #[]] w (LzRdI w R)) := HR
    clear HR hf
    go_enter Try.func17, Try.ntmps17
    go_wp2_with fail
    refine (HRD.out _).mono ?_
    rintro e w1 (⟨dn, ao, n, cap, rfl, rfl, hk, bel⟩ | ⟨c, -, rfl, rfl, bel⟩)
    · obtain ⟨ao', cap', he, how⟩ := OwnI.owns hk
      cases he
      have HF : Hid (Owns w1 w.heap.size ao (codesOf dn) ∧ Below w.heap.size w w1) := ⟨how, bel⟩
      have hl := codesOf_len dn
      clear hk how bel HRD
      go_wp2_with fail
      go_ret
      exact ⟨⟨ao, cap, by show Ending.returned _ = .returned (.slice ao (codesOf dn).length cap); rw [hl]; rfl, HF.out.1⟩, HF.out.2⟩
    · go_wp2_with fail
      go_ret
      exact ⟨⟨none, 0, rfl, .inl rfl⟩, bel⟩
  · have HRD : Hid (∀ w, Calls Try.prog 48 #[.string s, .agg #[.int .i64 b, .bool wide], .int .i64 5000, .func (.func 47) #[] #[]] w fun e w' => e = .returned (.tuple #[.slice none 0 0, .int .i64 1]) ∧ Below w.heap.size w w') := fun w => lzReadI_no s b 5000 wide w hs hf
    rw [Lz.res_no hf]
    clear hf
    go_enter Try.func17, Try.ntmps17
    go_wp2_with fail
    refine (HRD.out _).mono ?_
    rintro e w1 ⟨rfl, bel⟩
    go_wp2_with fail
    go_ret
    exact ⟨⟨none, 0, rfl, .inl rfl⟩, bel⟩
end Go.Proofs.Ytjfihmpnbblomaa
