/- BitsGet of the program, for every text, place and size. -/
import Derived.Test.YtjdilanmkgodnaaBgImpl
import Derived.Test.YtjdilanmkgodnaaBgSpec
namespace Go.Proofs.Ytjdilanmkgodnaa
open Go.RowKit

theorem reads_new (w : World) (hi : Bool) (s : ByteArray) (A : Nat) (T : TypeId) : Reads (w.alloc (.cells #[ordV hi, .string s, .int .i64 (A : Int)] T)) w.heap.size hi s A := by
  refine ⟨?_, ?_, ?_, ?_⟩
  · rw [World.cell?_alloc_at _ _ _ _ rfl]; rfl
  · rw [World.cell?_alloc_at _ _ _ _ rfl]; rfl
  · rw [World.cell?_alloc_at _ _ _ _ rfl]; rfl
  · rw [World.frozen?_alloc_at _ _ _ _ rfl]

set_option maxHeartbeats 1000000 in
theorem moveBits_no (B A S : Nat) (hi : Bool) (o : Value) (s : ByteArray) (w : World) (h : Reads w B hi s A) (hs : s.size ≤ 9000) (hA : A ≤ 9223372036854775807) (hno : 8 * s.size < A + S) (_h24 : S ≤ 24) :
    Calls Try.prog 45 #[.iface 54 (.pointer (some ⟨B, 0, none⟩)), o, .int .i64 0, .int .i64 S] w fun e w' => e = .returned (.tuple #[.int .i64 0, .bool false]) ∧ Below B w w' := by
  have m1 := fun w => method_room ⟨B, 0, none⟩ w
  have HR : Hid (Reads w B hi s A) := h
  clear h
  go_enter Try.func45, Try.ntmps45
  go_wp2_with fail
  refine (room_any B A hi s w HR.out hs hA).mono ?_
  rintro e w1 ⟨rfl, m, rfl⟩
  have hd : 8 * (s.size : Int) - (A : Int) < (S : Int) := by omega
  go_wp2_with fail
  go_ret2
  exact ⟨rfl, below_drewN (Below.refl _ _) _⟩

set_option maxHeartbeats 1000000 in
theorem impl_bitsGet_yes (s : ByteArray) (A S : Nat) (hi : Bool) (w : World) (h : BitsThere s.size A S) :
    Calls Try.prog 20 #[.string s, .int .i64 A, .int .i64 S, .bool hi] w fun e w' => e = .returned (.tuple #[.int .i64 (Bg.num (fun i => bitAt s hi (A + i)) S hi : Nat), .bool true]) ∧ Below w.heap.size w w' := by
  obtain ⟨h1, h2, h3, h4, h5⟩ := h
  have d1 : decide ((S : Int) < 0) = false := by simp
  have d2 : decide ((24 : Int) < (S : Int)) = false := by simp; omega
  have d3 : decide ((9000 : Int) < (s.size : Int)) = false := by simp; omega
  have d4 : decide ((A : Int) < 0) = false := by simp
  cases hi
  · have hR := reads_new w false s A 59
    have HR : Hid (Reads (w.alloc (.cells #[.func (.func 56) #[] #[], .string s, .int .i64 (A : Int)] 59)) w.heap.size false s A) := hR
    clear hR
    go_enter Try.func20, Try.ntmps20
    go_wp2_with fail
    refine (orderOf_low _).mono ?_
    rintro e w1 ⟨rfl, hw1⟩
    subst hw1
    go_wp2_with fail
    refine (moveBits_low _ A S s _ HR.out h3 (by omega) (by omega)).mono ?_
    rintro e w2 ⟨rfl, bel⟩
    go_wp2_with fail
    go_ret2
    exact ⟨rfl, ((Below.refl _ _).alloc (Nat.le_refl _) _).trans bel⟩
  · have hR := reads_new w true s A 59
    have HR : Hid (Reads (w.alloc (.cells #[.func (.func 55) #[] #[], .string s, .int .i64 (A : Int)] 59)) w.heap.size true s A) := hR
    clear hR
    go_enter Try.func20, Try.ntmps20
    go_wp2_with fail
    refine (orderOf_high _).mono ?_
    rintro e w1 ⟨rfl, hw1⟩
    subst hw1
    go_wp2_with fail
    refine (moveBits_high _ A S s _ HR.out h3 (by omega) (by omega)).mono ?_
    rintro e w2 ⟨rfl, bel⟩
    go_wp2_with fail
    go_ret2
    exact ⟨rfl, ((Below.refl _ _).alloc (Nat.le_refl _) _).trans bel⟩

set_option maxHeartbeats 1000000 in
theorem impl_bitsGet_no (s : ByteArray) (at_ size : Int) (hi : Bool) (w : World) (hs : s.size ≤ 1048576) (hA : at_ ≤ 9223372036854775807) (h : ¬ BitsThere s.size at_ size) :
    Calls Try.prog 20 #[.string s, .int .i64 at_, .int .i64 size, .bool hi] w fun e w' => e = .returned (.tuple #[.int .i64 0, .bool false]) ∧ Below w.heap.size w w' := by
  unfold BitsThere at h
  by_cases a1 : size < 0
  · clear h
    go_enter Try.func20, Try.ntmps20
    go_wp2_with fail
    go_ret2
    exact ⟨rfl, Below.refl _ _⟩
  · have hd1 : decide (size < 0) = false := by simpa using a1
    by_cases a2 : 24 < size
    · clear h
      go_enter Try.func20, Try.ntmps20
      go_wp2_with fail
      go_ret2
      exact ⟨rfl, Below.refl _ _⟩
    · have hd2 : decide (24 < size) = false := by simpa using a2
      by_cases a3 : 9000 < s.size
      · clear h
        go_enter Try.func20, Try.ntmps20
        go_wp2_with fail
        go_ret2
        exact ⟨rfl, Below.refl _ _⟩
      · have hd3 : decide ((9000 : Int) < (s.size : Int)) = false := by simp; omega
        by_cases a4 : at_ < 0
        · clear h
          go_enter Try.func20, Try.ntmps20
          go_wp2_with fail
          go_ret2
          exact ⟨rfl, Below.refl _ _⟩
        · have hd4 : decide (at_ < 0) = false := by simpa using a4
          obtain ⟨A, rfl⟩ := Int.eq_ofNat_of_zero_le (show 0 ≤ at_ by omega)
          obtain ⟨S, rfl⟩ := Int.eq_ofNat_of_zero_le (show 0 ≤ size by omega)
          have hno : 8 * s.size < A + S := by omega
          have h9 : s.size ≤ 9000 := by omega
          have hS : S ≤ 24 := by omega
          clear h a1 a2 a3 a4
          cases hi
          · have hR := reads_new w false s A 59
            have HR : Hid (Reads (w.alloc (.cells #[.func (.func 56) #[] #[], .string s, .int .i64 (A : Int)] 59)) w.heap.size false s A) := hR
            clear hR
            go_enter Try.func20, Try.ntmps20
            go_wp2_with fail
            refine (orderOf_low _).mono ?_
            rintro e w1 ⟨rfl, hw1⟩
            subst hw1
            go_wp2_with fail
            refine (moveBits_no _ A S false _ s _ HR.out h9 (by omega) hno hS).mono ?_
            rintro e w2 ⟨rfl, bel⟩
            go_wp2_with fail
            go_ret2
            exact ⟨rfl, ((Below.refl _ _).alloc (Nat.le_refl _) _).trans bel⟩
          · have hR := reads_new w true s A 59
            have HR : Hid (Reads (w.alloc (.cells #[.func (.func 55) #[] #[], .string s, .int .i64 (A : Int)] 59)) w.heap.size true s A) := hR
            clear hR
            go_enter Try.func20, Try.ntmps20
            go_wp2_with fail
            refine (orderOf_high _).mono ?_
            rintro e w1 ⟨rfl, hw1⟩
            subst hw1
            go_wp2_with fail
            refine (moveBits_no _ A S true _ s _ HR.out h9 (by omega) hno hS).mono ?_
            rintro e w2 ⟨rfl, bel⟩
            go_wp2_with fail
            go_ret2
            exact ⟨rfl, ((Below.refl _ _).alloc (Nat.le_refl _) _).trans bel⟩
end Go.Proofs.Ytjdilanmkgodnaa
