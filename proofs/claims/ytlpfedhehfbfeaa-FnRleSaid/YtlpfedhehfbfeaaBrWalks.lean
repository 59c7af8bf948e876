/- A reader of bytes: what is left, the next piece, the next byte. -/
import Derived.Test.YtlpfedhehfbfeaaFault
import Derived.Test.YtlpfedhehfbfeaaOnlyB
namespace Go.Proofs.Ytlpfedhehfbfeaa
open Go.RowKit

/-- a reader at a byte of a text -/
def Br (w : World) (B : Nat) (s : ByteArray) (A : Nat) : Prop := w.heap[B]? = some (.cells #[.string s, .int .i64 (A : Int)] 52 (0, 0))
theorem Br.lt {w : World} {B A : Nat} {s : ByteArray} (h : Br w B s A) : B < w.heap.size := (Array.getElem?_eq_some_iff.1 h).1
theorem Br.cells {w : World} {B A : Nat} {s : ByteArray} (h : Br w B s A) : w.cell? ⟨B, 0, none⟩ = some (.string s) ∧ w.cell? ⟨B, 1, none⟩ = some (.int .i64 (A : Int)) ∧ w.frozen? ⟨B, 1, none⟩ = false := by
  refine ⟨?_, ?_, ?_⟩ <;> simp [World.cell?, World.frozen?, show w.heap[B]? = _ from h]
theorem Br.kept {w w' : World} {B A : Nat} {s : ByteArray} (h : Br w B s A) (b : Below w.heap.size w w') : Br w' B s A := (b.block _ h.lt).trans h
theorem Br.other {w w' : World} {B C A : Nat} {s : ByteArray} (h : Br w B s A) (o : Only C w w') (hB : B ≠ C) : Br w' B s A := (o.rest _ h.lt hB).trans h
theorem Br.set {w : World} {B A : Nat} {s : ByteArray} (h : Br w B s A) (A' : Nat) : Br (w.setCell ⟨B, 1, none⟩ (.int .i64 (A' : Int))) B s A' := by
  unfold Br
  rw [setCell_eq_setRow w B 1 _ _ (0, 0) _ h]
  exact setRow_heap w B _ _ _ _ h

set_option maxHeartbeats 400000 in
theorem left_any (B A : Nat) (s : ByteArray) (w : World) (h : Br w B s A) (hs : s.size ≤ 1048576) (hA : A ≤ s.size) :
    Calls Try.prog 32 #[.pointer (some ⟨B, 0, none⟩)] w fun e w' => e = .returned (.int .i64 ((s.size - A : Nat) : Int)) ∧ ∃ q, w' = w.drewN q := by
  obtain ⟨c0, c1, _⟩ := h.cells
  have e : (s.size : Int) - (A : Int) = ((s.size - A : Nat) : Int) := by omega
  have f := wrap_i64_nat (s.size - A) (by omega)
  generalize s.size - A = L at *
  clear h
  go_enter Try.func32, Try.ntmps32
  go_wp2_with fail
  go_quiet (fail)
  go_wp2_with fail
  go_ret
  exact ⟨rfl, _, rfl⟩

set_option maxHeartbeats 1000000 in
theorem piece_yes (B A n : Nat) (s : ByteArray) (w : World) (h : Br w B s A) (hs : s.size ≤ 1048576) (hA : A + n ≤ s.size) :
    Calls Try.prog 48 #[.pointer (some ⟨B, 0, none⟩), .int .i64 (n : Int)] w fun e w' => e = .returned (.string (s.extract A (A + n))) ∧ Br w' B s (A + n) ∧ Only B w w' ∧ w'.heap.size = w.heap.size := by
  have HL : Hid (Calls Try.prog 32 #[.pointer (some ⟨B, 0, none⟩)] w fun e w' => e = .returned (.int .i64 ((s.size - A : Nat) : Int)) ∧ ∃ q, w' = w.drewN q) := left_any B A s w h hs (by omega)
  have hnL : n ≤ s.size - A := by omega
  obtain ⟨c0, c1, f1⟩ := h.cells
  obtain ⟨E, hE⟩ : ∃ E, E = A + n := ⟨_, rfl⟩
  have e1 : (A : Int) + (n : Int) = (E : Int) := by omega
  have e2 : (E : Int) - (n : Int) = (A : Int) := by omega
  have g1 := wrap_i64_nat E (by omega)
  have g2 := wrap_i64_nat A (by omega)
  have hEs : (E : Int) ≤ (s.size : Int) := by omega
  have hAE : (A : Int) ≤ (E : Int) := by omega
  have hAE' : A ≤ E := by omega
  have HB : Hid (Br w B s A) := h
  rw [← hE]
  generalize s.size - A = L at *
  clear h hA hE
  go_enter Try.func48, Try.ntmps48
  go_wp2_with fail
  refine HL.out.mono ?_
  rintro e w1 ⟨rfl, q, hq⟩
  have c0' : w1.cell? ⟨B, 0, none⟩ = some (.string s) := by rw [hq]; exact c0
  have c1' : w1.cell? ⟨B, 1, none⟩ = some (.int .i64 (A : Int)) := by rw [hq]; exact c1
  have f1' : w1.frozen? ⟨B, 1, none⟩ = false := by rw [hq]; exact f1
  have HB1 : Hid (Br w1 B s A) := by rw [hq]; exact HB.out
  have HO1 : Hid (Only B w w1 ∧ w1.heap.size = w.heap.size) := ⟨by rw [hq]; exact (Only.refl B w).drewN q, by rw [hq]; rfl⟩
  clear hq c0 c1 f1 HL
  go_wp2_with fail
  refine (insist_of _ 2 _ (by first | rfl | simp <;> omega)).mono ?_
  rintro e w2 ⟨rfl, rfl⟩
  go_wp2_with fail
  have hn0 : (w2.setCell ⟨B, 1, none⟩ (.int .i64 (E : Int))).cell? ⟨B, 0, none⟩ = some (.string s) := (World.cell?_setCell_other _ _ _ _ (fun e => by have := congrArg Addr.off e; simp at this)).trans c0'
  have hn1 : (w2.setCell ⟨B, 1, none⟩ (.int .i64 (E : Int))).cell? ⟨B, 1, none⟩ = some (.int .i64 (E : Int)) := World.cell?_setCell_same _ _ _ c1'
  have HB2 : Hid (Br (w2.setCell ⟨B, 1, none⟩ (.int .i64 (E : Int))) B s E) := HB1.out.set E
  have HO2 : Hid (Only B w (w2.setCell ⟨B, 1, none⟩ (.int .i64 (E : Int))) ∧ (w2.setCell ⟨B, 1, none⟩ (.int .i64 (E : Int))).heap.size = w.heap.size) := ⟨HO1.out.1.trans (Only.own w2 B 1 _), by rw [← HO1.out.2]; simp⟩
  generalize w2.setCell ⟨B, 1, none⟩ (.int .i64 (E : Int)) = w3 at *
  clear c0' c1' f1'
  go_quiet (fail)
  go_wp2_with fail
  go_ret
  exact ⟨rfl, HB2.out, HO2.out.1.drewN _, HO2.out.2⟩

set_option maxHeartbeats 1000000 in
theorem piece_no (B A n : Nat) (s : ByteArray) (w : World) (h : Br w B s A) (hs : s.size ≤ 1048576) (hA : A ≤ s.size) (hn : s.size < A + n) :
    Calls Try.prog 48 #[.pointer (some ⟨B, 0, none⟩), .int .i64 (n : Int)] w fun e w' => e = fault 2 ∧ Br w' B s A ∧ Only B w w' ∧ w'.heap.size = w.heap.size := by
  have HL : Hid (Calls Try.prog 32 #[.pointer (some ⟨B, 0, none⟩)] w fun e w' => e = .returned (.int .i64 ((s.size - A : Nat) : Int)) ∧ ∃ q, w' = w.drewN q) := left_any B A s w h hs (by omega)
  have hnL : ¬ n ≤ s.size - A := by omega
  have HB : Hid (Br w B s A) := h
  generalize s.size - A = L at *
  clear h hA hn
  go_enter Try.func48, Try.ntmps48
  go_wp2_with fail
  refine HL.out.mono ?_
  rintro e w1 ⟨rfl, q, hq⟩
  have HO1 : Hid (Br w1 B s A ∧ Only B w w1 ∧ w1.heap.size = w.heap.size) := ⟨by rw [hq]; exact HB.out, by rw [hq]; exact (Only.refl B w).drewN q, by rw [hq]; rfl⟩
  clear hq HL
  go_wp2_with fail
  refine (insist_not _ 2 _ (by first | rfl | simp <;> omega)).mono ?_
  rintro e w2 ⟨rfl, rfl⟩
  unfold fault
  go_wp2_with fail
  exact ⟨rfl, rfl, HO1.out⟩

theorem extract_size (s : ByteArray) (A n : Nat) (h : A + n ≤ s.size) : (s.extract A (A + n)).size = n := by rw [ByteArray.size_extract]; omega
theorem extract_at (s : ByteArray) (A n i : Nat) (h : A + n ≤ s.size) (hi : i < n) : byteAt (s.extract A (A + n)) i = byteAt s (A + i) := by
  rw [← byteAt_eq _ i (by rw [extract_size s A n h]; exact hi), ← byteAt_eq _ (A + i) (by omega), ByteArray.getElem_extract]

set_option maxHeartbeats 1000000 in
theorem nextByte_yes (B A : Nat) (s : ByteArray) (w : World) (h : Br w B s A) (hs : s.size ≤ 1048576) (hA : A < s.size) :
    Calls Try.prog 46 #[.pointer (some ⟨B, 0, none⟩)] w fun e w' => e = .returned (.int .i64 (byteAt s A : Int)) ∧ Br w' B s (A + 1) ∧ Only B w w' ∧ w'.heap.size = w.heap.size := by
  have HP : Hid (Calls Try.prog 48 #[.pointer (some ⟨B, 0, none⟩), .int .i64 1] w fun e w' => e = .returned (.string (s.extract A (A + 1))) ∧ Br w' B s (A + 1) ∧ Only B w w' ∧ w'.heap.size = w.heap.size) := piece_yes B A 1 s w h hs hA
  have hz := extract_size s A 1 hA
  have hat := extract_at s A 1 0 hA (by omega)
  obtain ⟨t, ht⟩ : ∃ t, t = s.extract A (A + 1) := ⟨_, rfl⟩
  rw [← ht] at hz hat HP
  have hz0 : 0 < t.size := by omega
  have hb : ((t[0]'hz0).toNat : Int) = (byteAt s A : Int) := by rw [byteAt_eq t 0 hz0, hat]; rfl
  have HB : Hid (((t[0]'hz0).toNat : Int) = (byteAt s A : Int)) := hb
  have hzi : (0 : Int) < (t.size : Int) := by omega
  have hbb : ((t[0]'hz0).toNat : Int) < 256 := by have := UInt8.toNat_lt (t[0]'hz0); omega
  clear h hat ht hz hb
  go_enter Try.func46, Try.ntmps46
  go_wp2_with fail
  refine HP.out.mono ?_
  rintro e w1 ⟨rfl, h1, h2, h3⟩
  have HF : Hid (Br w1 B s (A + 1) ∧ Only B w w1 ∧ w1.heap.size = w.heap.size) := ⟨h1, h2, h3⟩
  clear h1 h2 h3 HP
  go_wp2_with fail
  go_ret
  exact ⟨by rw [← HB.out]; rfl, HF.out⟩

set_option maxHeartbeats 1000000 in
theorem nextByte_no (B A : Nat) (s : ByteArray) (w : World) (h : Br w B s A) (hs : s.size ≤ 1048576) (hA : A = s.size) :
    Calls Try.prog 46 #[.pointer (some ⟨B, 0, none⟩)] w fun e w' => e = fault 2 ∧ Br w' B s A ∧ Only B w w' ∧ w'.heap.size = w.heap.size := by
  have HP : Hid (Calls Try.prog 48 #[.pointer (some ⟨B, 0, none⟩), .int .i64 1] w fun e w' => e = fault 2 ∧ Br w' B s A ∧ Only B w w' ∧ w'.heap.size = w.heap.size) := piece_no B A 1 s w h hs (by omega) (by omega)
  clear h hA
  go_enter Try.func46, Try.ntmps46
  go_wp2_with fail
  refine HP.out.mono ?_
  rintro e w1 ⟨rfl, h1⟩
  unfold fault
  go_wp2_with fail
  exact ⟨rfl, rfl, h1⟩
end Go.Proofs.Ytlpfedhehfbfeaa
