/- The reader's next number. -/
import Derived.Test.YtmcjdilmmabiaaaBrWalks
import Derived.Test.YtmcjdilmmabiaaaRgMath
import Derived.Test.YtmcjdilmmabiaaaNmWalks
namespace Go.Proofs.Ytmcjdilmmabiaaa
open Go.RowKit

theorem low_extract (s : ByteArray) (A n : Nat) (h : A + n ≤ s.size) : ((Nm.low (fun i => byteAt (s.extract A (A + n)) (0 + i)) n : Nat) : Int) = Rg.num s n A := by
  unfold Rg.num
  have : ∀ k, k ≤ n → Nm.low (fun i => byteAt (s.extract A (A + n)) (0 + i)) k = Nm.low (fun i => byteAt s (A + i)) k := by
    intro k
    induction k with
    | zero => intro _; rfl
    | succ k ih => intro hk; unfold Nm.low; rw [ih (by omega), Nat.zero_add, extract_at s A n k h (by omega)]
  rw [this n (Nat.le_refl _)]

set_option maxHeartbeats 1000000 in
theorem number_yes (B A S : Nat) (s : ByteArray) (w : World) (h : Br w B s A) (hs : s.size ≤ 9000) (hA : A + S ≤ s.size) (hS1 : 1 ≤ S) (hS : S ≤ 4) :
    Calls Try.prog 60 #[.pointer (some ⟨B, 0, none⟩), .int .i64 (S : Int)] w fun e w' => e = .returned (.int .i64 (Rg.num s S A)) ∧ Br w' B s (A + S) ∧ Only B w w' := by
  have HP : Hid (Calls Try.prog 49 #[.pointer (some ⟨B, 0, none⟩), .int .i64 (S : Int)] w fun e w' => e = .returned (.string (s.extract A (A + S))) ∧ Br w' B s (A + S) ∧ Only B w w' ∧ w'.heap.size = w.heap.size) := piece_yes B A S s w h (by omega) hA
  have HN : Hid (∀ w : World, Calls Try.prog 62 #[.string (s.extract A (A + S)), .int .i64 0, .int .i64 (S : Int), .bool false] w fun e w' => e = .returned (.tuple #[.int .i64 (Rg.num s S A), .bool true]) ∧ Below w.heap.size w w') := fun w => by
    have := impl_numGet_low (s.extract A (A + S)) 0 S w hS1 hS (by rw [extract_size s A S hA]; omega) (by rw [extract_size s A S hA]; omega)
    rw [low_extract s A S hA] at this; exact this
  generalize s.extract A (A + S) = t at *
  generalize Rg.num s S A = z at *
  clear h
  go_enter Try.func60, Try.ntmps60
  go_wp2_with fail
  refine HP.out.mono ?_
  rintro e w1 ⟨rfl, h1, h2, _⟩
  have HF : Hid (Br w1 B s (A + S) ∧ Only B w w1) := ⟨h1, h2⟩
  clear h1 h2 HP
  go_wp2_with fail
  refine (HN.out _).mono ?_
  rintro e w2 ⟨rfl, b2⟩
  have HG : Hid (Br w2 B s (A + S) ∧ Only B w w2) := ⟨HF.out.1.kept b2, HF.out.2.trans (Only.of_below b2 HF.out.1.lt)⟩
  clear b2 HF HN
  go_wp2_with fail
  go_ret
  exact ⟨rfl, HG.out⟩

set_option maxHeartbeats 1000000 in
theorem number_no (B A S : Nat) (s : ByteArray) (w : World) (h : Br w B s A) (hs : s.size ≤ 9000) (hA0 : A ≤ s.size) (hA : s.size < A + S) :
    Calls Try.prog 60 #[.pointer (some ⟨B, 0, none⟩), .int .i64 (S : Int)] w fun e w' => e = fault 2 ∧ Br w' B s A ∧ Only B w w' := by
  have HP : Hid (Calls Try.prog 49 #[.pointer (some ⟨B, 0, none⟩), .int .i64 (S : Int)] w fun e w' => e = fault 2 ∧ Br w' B s A ∧ Only B w w' ∧ w'.heap.size = w.heap.size) := piece_no B A S s w h (by omega) hA0 hA
  clear h hA
  go_enter Try.func60, Try.ntmps60
  go_wp2_with fail
  refine HP.out.mono ?_
  rintro e w1 ⟨rfl, h1, h2, _⟩
  unfold fault
  go_wp2_with fail
  exact ⟨rfl, rfl, h1, h2⟩
end Go.Proofs.Ytmcjdilmmabiaaa
