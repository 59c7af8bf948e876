/- BitsGet of the program, for every text, place and size. -/
import Derived.Test.YtjfihmpnbblomaaBgImpl
import Derived.Test.YtjfihmpnbblomaaBgSpec
namespace Go.Proofs.Ytjfihmpnbblomaa
open Go.RowKit

theorem reads_new (w : World) (hi : Bool) (s : ByteArray) (A : Nat) (T : TypeId) : Reads (w.alloc (.cells #[ordV hi, .string s, .int .i64 (A : Int)] T)) w.heap.size hi s A := by
  refine ⟨?_, ?_, ?_, ?_⟩
  · rw [World.cell?_alloc_at _ _ _ _ rfl]; rfl
  · rw [World.cell?_alloc_at _ _ _ _ rfl]; rfl
  · rw [World.cell?_alloc_at _ _ _ _ rfl]; rfl
  · rw [World.frozen?_alloc_at _ _ _ _ rfl]

set_option maxHeartbeats 1000000 in
theorem moveBits_no (B A S : Nat) (hi : Bool) (o : Value) (s : ByteArray) (w : World) (h : Reads w B hi s A) (hs : s.size ≤ 9000) (hA : A ≤ 9223372036854775807) (hno : 8 * s.size < A + S) (_h24 : S ≤ 24) :
    Calls Try.prog 63 #[.iface 113 (.pointer (some ⟨B, 0, none⟩)), o, .int .i64 0, .int .i64 S] w fun e w' => e = .returned (.tuple #[.int .i64 0, .bool false]) ∧ Below B w w' := by
  have m1 := fun w => method_room ⟨B, 0, none⟩ w
  have HR : Hid (Reads w B hi s A) := h
  clear h
  go_enter Try.func63, Try.ntmps63
  go_wp2_with fail
  refine (room_any B A hi s w HR.out hs hA).mono ?_
  rintro e w1 ⟨rfl, m, rfl⟩
  have hd : 8 * (s.size : Int) - (A : Int) < (S : Int) := by omega
  go_wp2_with fail
  go_ret2
  exact ⟨rfl, below_drewN (Below.refl _ _) _⟩

end Go.Proofs.Ytjfihmpnbblomaa
