/- The bits of all symbols of a code, as the program makes them. -/
import Derived.Test.YtjdilanmkgodnaaCpMath
import Derived.Test.YtjdilanmkgodnaaMakeWalks
import Derived.Test.YtjdilanmkgodnaaPairMake
import Derived.Test.YtjdilanmkgodnaaMarkWalks
import Derived.Test.YtjdilanmkgodnaaSymWalks
namespace Go.Proofs.Ytjdilanmkgodnaa
open Go.RowKit

theorem Turned.trans' {b : Nat} {w w' w'' : World} (h : Turned b w w') (g : Turned b w' w'') : Turned b w w'' :=
  ⟨g.os.trans h.os, g.tape.trans h.tape, g.output.trans h.output, g.size.trans h.size, fun k hk => (g.rest k hk).trans (h.rest k hk)⟩
theorem Turned.cell {b c : Nat} {w w' : World} (h : Turned b w w') (hne : c ≠ b) (o : Nat) : w'.cell? ⟨c, o, none⟩ = w.cell? ⟨c, o, none⟩ := World.cell?_of_block (w := w) (a := ⟨c, o, none⟩) (h.rest c hne)
theorem OwnP.kept {w w' : World} {B n : Nat} {v : Value} {l : List (Int × Int)} (h : OwnP w B v n l) (hb : Below w.heap.size w w') : OwnP w' B v n l := h.same (fun k hk _ => hb.block k hk)

set_option maxHeartbeats 2000000 in
set_option maxRecDepth 20000 in
theorem codeBits_any (a : Option Addr) (n cap : Nat) (ls : List Int) (w : World) (h : Ints w a ls) (hn : ls.length = n) (hl : n ≤ 300) (hok : Cd.okB ls = true) :
    Calls Try.prog 44 #[.slice a n cap] w fun e w' => e = .returned (.slice (some ⟨w.heap.size, 0, none⟩) n n) ∧ OwnP w' w.heap.size (.slice (some ⟨w.heap.size, 0, none⟩) n n) n (Cp.all ls) ∧ Below w.heap.size w w' := by
  have hmk := fun w => make_pairs n (by omega) w
  obtain ⟨W1, hW1⟩ : ∃ W1, W1 = w.alloc (.cells (madeCells #[.int .i64 0, .int .i64 0] (n * 2)) 40) := ⟨_, rfl⟩
  have hown := own_made w (Cp.all ls) (by rw [Cp.all_len]; omega)
  rw [Cp.all_len, hn, ← hW1] at hown
  have b1 : Below w.heap.size w W1 := by rw [hW1]; exact (Below.refl _ _).alloc (Nat.le_refl _) _
  have hs1 : W1.heap.size = w.heap.size + 1 := by rw [hW1]; simp
  have hI1 := h.kept b1
  have HCM := impl_codeMake a cap n ls W1 hI1 hn (by omega)
  rw [mkB_yes hok, Mk.mk_len, hn] at HCM
  have HC : Hid (Calls Try.prog 9 #[.slice a n cap] W1 fun e w' => (∃ x c, e = .returned (.slice x n c) ∧ Owns w' W1.heap.size x (Mk.mk ls)) ∧ Below W1.heap.size W1 w') := HCM
  rw [hW1] at HC
  have HW1 : Hid (W1 = w.alloc (.cells (madeCells #[.int .i64 0, .int .i64 0] (n * 2)) 40)) := hW1
  have HF : Hid (OwnP W1 w.heap.size (.slice (some ⟨w.heap.size, 0, none⟩) n n) n (half (Cp.all ls) 0) ∧ Below w.heap.size w W1 ∧ W1.heap.size = w.heap.size + 1) := ⟨hown, b1, hs1⟩
  have HL : Hid (Ints w a ls ∧ ls.length = n ∧ Cd.okB ls = true) := ⟨h, hn, hok⟩
  clear HCM hown b1 hs1 hI1 h hn hok hW1
  go_enter Try.func44, Try.ntmps44
  go_wp2_with fail
  refine HC.out.mono ?_
  rintro e w2 ⟨⟨x, c, rfl, hO2⟩, b2⟩
  rw [← HW1.out] at hO2 b2
  obtain ⟨f1, f2, f3⟩ := HF.out
  have hI2 : Hid (Ints w2 a ls) := (HL.out.1.kept f2).kept b2
  have hX2 : Hid (Owns w2 (w.heap.size + 1) x (Mk.mk ls)) := by show Owns _ _ _ _; rw [← f3]; exact hO2
  have hP2 : Hid (OwnP w2 w.heap.size (.slice (some ⟨w.heap.size, 0, none⟩) n n) n (half (Cp.all ls) 0)) := f1.kept b2
  have hB2 : Hid (Below w.heap.size w w2) := f2.trans (b2.mono f2.size)
  have ha0 : Hid (∀ y, a = some y → ls ≠ [] → y.block < w.heap.size) := by
    intro y hy hne
    rcases HL.out.1 with g | ⟨b, off, e, hb, _⟩
    · exact absurd g hne
    · rw [e] at hy; cases hy; exact hb
  clear f1 f2 f3 hO2 b2 HC HF HW1 hmk
  go_wp2_with fail
  go_loopw [13] (fun i wr => ∃ k : Nat, k ≤ n ∧ i = .int .i64 k ∧ OwnP wr w.heap.size (.slice (some ⟨w.heap.size, 0, none⟩) n n) n (half (Cp.all ls) k) ∧ Turned w.heap.size w2 wr) (fun i _ => n - (intOf i).toNat)
  case atStart => exact ⟨0, Nat.zero_le _, rfl, hP2.out, Turned.refl _ _⟩
  case round =>
    obtain ⟨k, hk, rfl, hP, hT⟩ := hrel
    by_cases hlt : k < n
    · have hkl : k < ls.length := by have := HL.out.2.1; omega
      obtain ⟨V, S, hV, hS, hVb, hSb⟩ := Cp.parts HL.out.2.2 k hkl
      have hbit := Cp.bit_of hV hS
      have hka : k < (Cp.all ls).length := by rw [Cp.all_len]; exact hkl
      have hkm : k < (Mk.mk ls).length := by rw [Mk.mk_len]; exact hkl
      have hne : ls ≠ [] := by intro g; rw [g] at hkl; simp at hkl
      obtain ⟨b1, o1, e1, hb1, c1⟩ := (hI2.out).at hkl
      have hlt1 := ha0.out _ e1 hne
      rcases hX2.out with g | ⟨b2, e2, hlo2, hb2, hc2⟩
      · rw [g] at hkm; simp at hkm
      · subst e1
        subst e2
        have c2 := (hc2 k hkm).1
        have d1 : wr.cell? ⟨b1, o1 + k, none⟩ = some (.int .i64 (S : Int)) := by
          rw [hT.cell (by show b1 ≠ w.heap.size; have : b1 < w.heap.size := hlt1; omega) (o1 + k), c1, ← hS, List.getD_eq_getElem?_getD, List.getElem?_eq_getElem hkl]; rfl
        have d2 : wr.cell? ⟨b2, k, none⟩ = some (.int .i64 (V : Int)) := by
          rw [hT.cell (by omega) k, c2, ← hV, List.getD_eq_getElem?_getD, List.getElem?_eq_getElem hkm]; rfl
        have hput := hP.put (k := k) hlt ((turned V S : Nat) : Int) (S : Int)
        have hset := half_set (Cp.all ls) k hka
        rw [Cp.all_get, hbit] at hset
        rw [hset] at hput
        have hTT := (hT.set (k * 2) (.int .i64 ((turned V S : Nat) : Int))).set (k * 2 + 1) (.int .i64 (S : Int))
        have g0 : (wr.cell? ⟨w.heap.size, k * 2, none⟩).isSome = true := by
          rw [World.ownsRow.cellAt hP (k * 2) (by omega)]
          have := (cellsOf_get (half (Cp.all ls) k) k (half_get _ _ hka)).1
          rw [this]; rfl
        have g1 : (wr.cell? ⟨w.heap.size, k * 2 + 1, none⟩).isSome = true := by
          rw [World.ownsRow.cellAt hP (k * 2 + 1) (by omega)]
          have := (cellsOf_get (half (Cp.all ls) k) k (half_get _ _ hka)).2
          rw [this]; rfl
        obtain ⟨u0, hu0⟩ := Option.isSome_iff_exists.1 g0
        obtain ⟨u1, hu1⟩ := Option.isSome_iff_exists.1 g1
        have z0 := World.ownsRow.frozenAt hP (k * 2)
        have z1 := World.ownsRow.frozenAt hP (k * 2 + 1)
        have HT : Hid (∀ w : World, Calls Try.prog 59 #[.int .i64 (V : Int), .int .i64 (S : Int)] w fun e w' => e = .returned (.int .i64 (turned V S : Nat)) ∧ w' = w) := fun w => turnRound_any V S w (by omega) hSb
        have HN : Hid (OwnP _ w.heap.size (.slice (some ⟨w.heap.size, 0, none⟩) n n) n (half (Cp.all ls) (k + 1)) ∧ Turned w.heap.size w2 _) := ⟨hput, hTT⟩
        have hki : (k : Int) < (n : Int) := by omega
        generalize turned V S = T at *
        clear hP hT hput hTT hset hbit hV hS c1 c2 hc2 g0 g1 hb1 hb2 hka hkm
        go_wp2_with fail
        refine (HT.out _).mono ?_
        rintro e w4 ⟨rfl, hw4⟩
        have hv4 := hw4.symm
        subst hv4
        go_wp2_with fail
        go_roundw
        case rel => exact ⟨k + 1, by omega, by go_num, HN.out.1, HN.out.2⟩
        case measure => simp [intOf]; omega
    · have hk' : k = n := by omega
      subst hk'
      have hall : half (Cp.all ls) k = Cp.all ls := by
        have := half_all (Cp.all ls)
        rw [Cp.all_len, HL.out.2.1] at this; exact this
      rw [hall] at hP
      have HE : Hid (OwnP _ _ _ _ _ ∧ Below w.heap.size w _) := ⟨hP, hB2.out.trans (hT.below (Nat.le_refl _))⟩
      clear hP hT hall
      go_wp2_with fail
      go_ret
      exact ⟨rfl, HE.out.1, HE.out.2⟩
end Go.Proofs.Ytjdilanmkgodnaa
