/- FilterPut and FilterGet of the program, whatever is asked. -/
import Derived.Test.YtjikjjganloobabFlImplGet
namespace Go.Proofs.Ytjikjjganloobab
open Go.RowKit

set_option maxHeartbeats 400000 in
theorem impl_filterPut (kind : Int) (s t : ByteArray) (step : Int) (w : World) (hs : s.size ≤ 1048576) (ht : t.size ≤ 1048576) :
    Calls Try.prog 10 #[.int .i64 kind, .string s, .string t, .int .i64 step] w fun e w' => e = .returned (.string (flPut kind s t step)) ∧ Below w.heap.size w w' := by
  by_cases h : FlOk kind s.size t.size step
  · rw [flPut_yes h]
    obtain ⟨K, rfl⟩ := Int.eq_ofNat_of_zero_le h.1.1
    obtain ⟨st, rfl⟩ := Int.eq_ofNat_of_zero_le (show 0 ≤ step by have := h.2.1.1; omega)
    rw [Int.toNat_natCast, Int.toNat_natCast]
    exact impl_filterPut_yes K st s t w h
  · have HA : Hid (flPut kind s t step = ⟨#[]⟩) := flPut_no h
    have HAT : Hid (∀ w : World, Calls Try.prog 32 #[.int .i64 kind, .string s, .string t, .int .i64 step] w fun e w' => e = .returned (.tuple #[.agg #[.nilIface, .string ⟨#[]⟩, .int .i64 0], .bool false]) ∧ Below w.heap.size w w') := fun w => filterAt_no kind s t step w hs ht h
    clear h
    go_enter Try.func10, Try.ntmps10
    go_wp2_with fail
    refine (HAT.out _).mono ?_
    rintro e w1 ⟨rfl, b1⟩
    have hb2 := fun o => b1.alloc b1.size o
    clear b1
    go_wp2_with fail
    go_ret
    exact ⟨by rw [HA.out]; rfl, hb2 _⟩

end Go.Proofs.Ytjikjjganloobab
