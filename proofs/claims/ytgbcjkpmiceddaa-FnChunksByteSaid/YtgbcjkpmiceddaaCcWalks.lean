/- The cursor over pieces: the next number, the next piece. -/
import Derived.Test.YtgbcjkpmiceddaaCgMath
import Derived.Test.YtgbcjkpmiceddaaBtWalks
import Derived.Test.YtgbcjkpmiceddaaNmWalks
import Derived.Test.YtgbcjkpmiceddaaCrWalks
import Derived.Test.YtgbcjkpmiceddaaChClone
namespace Go.Proofs.Ytgbcjkpmiceddaa
open Go.RowKit

/-- the cursor at a byte -/
abbrev Cc (w : World) (B : Nat) (s : ByteArray) (A : Nat) : Prop := Bt 40 w B s A

set_option maxHeartbeats 1000000 in
theorem ccNumber_yes (B A : Nat) (s : ByteArray) (w : World) (h : Cc w B s A) (hs : s.size ≤ 9000) (hA : A + 4 ≤ s.size) :
    Calls Try.prog 32 #[.pointer (some ⟨B, 0, none⟩), .int .i64 4] w fun e w' => e = .returned (.int .i64 (Cg.n4 s A : Int)) ∧ Cc w' B s (A + 4) ∧ Only B w w' := by
  have HP : Hid (Calls Try.prog 20 #[.pointer (some ⟨B, 0, none⟩), .int .i64 4] w fun e w' => e = .returned (.string (s.extract A (A + 4))) ∧ Cc w' B s (A + 4) ∧ Only B w w' ∧ w'.heap.size = w.heap.size) := bt_piece_yes _ B A 4 s w h (by omega) hA
  have hx := extract_size s A 4 hA
  have HN : Hid (∀ w2, Calls Try.prog 41 #[.string (s.extract A (A + 4)), .int .i64 0, .int .i64 4, .bool true] w2 fun e w' => e = .returned (.tuple #[.int .i64 (Cg.n4 s A : Int), .bool true]) ∧ Below w2.heap.size w2 w') := fun w2 => by
    have h1 := impl_numGet_high (s.extract A (A + 4)) 0 4 w2 (by omega) (by omega) (by omega) (by omega)
    have e : Nm.big (fun i => byteAt (s.extract A (A + 4)) (0 + i)) 4 = Cg.n4 s A := by
      unfold Cg.n4
      simp only [Nm.big, Nat.zero_add]
      rw [extract_at s A 4 0 hA (by omega), extract_at s A 4 1 hA (by omega), extract_at s A 4 2 hA (by omega), extract_at s A 4 3 hA (by omega)]
    rw [e] at h1
    exact h1
  have hBs := h.lt
  clear h hA hx
  generalize s.extract A (A + 4) = t at *
  generalize Cg.n4 s A = N at *
  go_enter Try.func32, Try.ntmps32
  go_wp2_with fail
  refine HP.out.mono ?_
  rintro e w1 ⟨rfl, h1, h2, h3⟩
  have HX : Hid (Cc w1 B s (A + 4) ∧ Only B w w1 ∧ w1.heap.size = w.heap.size) := ⟨h1, h2, h3⟩
  clear h1 h2 h3 HP
  go_wp2_with fail
  refine (HN.out _).mono ?_
  rintro e w2 ⟨rfl, hb⟩
  have HF : Hid (Cc w2 B s (A + 4) ∧ Only B w w2) := ⟨HX.out.1.kept hb, HX.out.2.1.trans (Only.of_below hb (by rw [HX.out.2.2]; exact hBs))⟩
  clear hb HX HN
  go_wp2_with fail
  go_ret
  exact ⟨rfl, HF.out⟩

set_option maxHeartbeats 1000000 in
theorem ccNumber_no (B A : Nat) (s : ByteArray) (w : World) (h : Cc w B s A) (hs : s.size ≤ 9000) (hA : A ≤ s.size) (hn : s.size < A + 4) :
    Calls Try.prog 32 #[.pointer (some ⟨B, 0, none⟩), .int .i64 4] w fun e w' => e = fault 2 ∧ Only B w w' := by
  have HP : Hid (Calls Try.prog 20 #[.pointer (some ⟨B, 0, none⟩), .int .i64 4] w fun e w' => e = fault 2 ∧ Cc w' B s A ∧ Only B w w' ∧ w'.heap.size = w.heap.size) := bt_piece_no _ B A 4 s w h (by omega) hA hn
  clear h hA hn
  go_enter Try.func32, Try.ntmps32
  go_wp2_with fail
  refine HP.out.mono ?_
  rintro e w1 ⟨rfl, h1, h2, h3⟩
  have HX : Hid (Only B w w1) := h2
  clear h1 h2 h3 HP
  unfold fault
  go_wp2_with fail
  exact ⟨rfl, rfl, HX.out⟩

/-- how reading a piece ends -/
def CkEnd (w : World) (B : Nat) (s : ByteArray) (A : Nat) (e : Ending) (w' : World) : Prop :=
  Only B w w' ∧ ((Cg.Ok s A ∧ e = .returned (.agg #[.string (Cg.nm s A), .string (Cg.bd s A)]) ∧ Cc w' B s (A + 12 + Cg.n4 s A)) ∨ (¬ Cg.Ok s A ∧ ∃ c, c ≠ 0 ∧ e = fault c))
theorem ckEnd_no {w w' : World} {B A : Nat} {s : ByteArray} (c : Int) (h : c ≠ 0) (h1 : ¬ Cg.Ok s A) (h2 : Only B w w') : CkEnd w B s A (fault c) w' := ⟨h2, .inr ⟨h1, c, h, rfl⟩⟩

/-- on the way: the cursor at a byte, the answer's place laid out -/
def Cst (w : World) (B R : Nat) (s : ByteArray) (A : Nat) (wr : World) : Prop :=
  Cc wr B s A ∧ Only B w wr ∧ wr.heap[R]? = some (.cells #[.string ⟨#[]⟩, .string ⟨#[]⟩] 46 (0, 0))
theorem Cst.next {w wr w2 : World} {B R A A' : Nat} {s : ByteArray} (h : Cst w B R s A wr) (o : Only B wr w2) (hR : R ≠ B) (hc : Cc w2 B s A') : Cst w B R s A' w2 :=
  ⟨hc, h.2.1.trans o, (o.rest R (Array.getElem?_eq_some_iff.1 h.2.2).1 hR).trans h.2.2⟩
theorem Cst.up {w wr w2 : World} {B R A : Nat} {s : ByteArray} (h : Cst w B R s A wr) (b : Below wr.heap.size wr w2) : Cst w B R s A w2 :=
  ⟨h.1.kept b, h.2.1.trans (Only.of_below b h.1.lt), (b.block R (Array.getElem?_eq_some_iff.1 h.2.2).1).trans h.2.2⟩

end Go.Proofs.Ytgbcjkpmiceddaa
