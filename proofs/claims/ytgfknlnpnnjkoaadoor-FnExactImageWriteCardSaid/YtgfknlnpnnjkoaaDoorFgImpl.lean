/- Numbers in figures, as the program writes them. -/
import Derived.Test.YtgfknlnpnnjkoaaDoorBldI
import Derived.Test.YtgfknlnpnnjkoaaDoorFgSpec
import Derived.Lib.AppendIntMem
namespace Go.Proofs.YtgfknlnpnnjkoaaDoor
open Go.RowKit

/-- the table of powers of ten, that the library of Go lays -/
def Tens (w : World) : Prop := Lib.TabIs Tryd.prog w "internal/strconv.uint64pow10" .u64 Lib.pow10Tab
theorem Tens.below {w w' : World} (h : Tens w) (b : Below w.heap.size w w') : Tens w' := by
  unfold Tens Lib.TabIs World.var? at *
  obtain ⟨g, hg, h2⟩ := Option.bind_eq_some_iff.1 h
  have hlt : g < w.heap.size := by
    rcases Nat.lt_or_ge g w.heap.size with h3 | h3
    · exact h3
    · rw [Array.getElem?_eq_none h3] at h2
      cases h2
  rw [hg]
  show (match w'.heap[g]? with | some (.cells cs _ _) => some cs | _ => none) = _
  rw [b.block g hlt]
  exact h2
theorem itoa_any (n : Nat) (w : World) (hn : n ≤ 4294967295) (ht : Tens w) : Calls Tryd.prog 55 #[.int .i64 (n : Int)] w fun e w' => e = .returned (.string ⟨(Lib.decDigits n).toArray⟩) ∧ Below w.heap.size w w' := by
  refine (Tryd.strconv_Itoa (n : Int) (by omega) (by omega) w ht).mono ?_
  rintro e w' ⟨rfl, k, os, rfl⟩
  refine ⟨?_, below_grow w k os⟩
  have e : Lib.itoa (n : Int) = Lib.decDigits n := by
    unfold Lib.itoa
    rw [if_neg (by omega)]
    rfl
  rw [e]
set_option maxHeartbeats 4000000 in
set_option maxRecDepth 20000 in
theorem listFigures_any (a : Option Addr) (N c : Nat) (l : List Int) (w : World) (h : Ints w a l) (hN : l.length = N) (hNb : N ≤ 1048576) (hf : Figs l) (ht : Tens w) : Calls Tryd.prog 45 #[.slice a N c] w fun e w' => e = .returned (.string ⟨(figs l).toArray⟩) ∧ Below w.heap.size w w' := by
  have HI : Hid (Ints w a l ∧ l.length = N ∧ Figs l ∧ Tens w) := ⟨h, hN, hf, ht⟩
  obtain ⟨W0, hW0⟩ : ∃ W0, W0 = w.alloc (.cells #[.pointer none, .slice none 0 0] 43) := ⟨_, rfl⟩
  obtain ⟨b, hb⟩ : ∃ b, b = w.heap.size := ⟨_, rfl⟩
  have HB0 : Hid (Bld b b (Lib.byteCells (figs (l.take 0))) W0 ∧ Below w.heap.size w W0) := by
    rw [hW0, hb]
    exact ⟨bld_new w, (Below.refl _ _).alloc (Nat.le_refl _) _⟩
  have HBB : Hid (b = w.heap.size) := hb
  clear h hN hf ht
  go_enter Tryd.func45, Tryd.ntmps45
  go_wp2_with fail
  rw [← hW0, ← hb]
  clear hW0 hb
  go_loopw [8] (fun i wr => ∃ k : Nat, k ≤ N ∧ i = .int .i64 (k : Int) ∧ Hid (Bld b b (Lib.byteCells (figs (l.take k))) wr ∧ Below w.heap.size w wr)) (fun i _ => N - (intOf i).toNat)
  case atStart => exact ⟨0, Nat.zero_le _, rfl, HB0⟩
  case round =>
    obtain ⟨k, hk, rfl, HR⟩ := hrel
    clear HB0
    by_cases hlt : k < N
    · have hki : (k : Int) < (N : Int) := by omega
      have hkl : k < l.length := by rw [HI.out.2.1]; exact hlt
      obtain ⟨b1, off, rfl, hb1, hcell⟩ := (HI.out.1.kept HR.out.2).cellAt hkl
      have hfk := HI.out.2.2.1 _ (List.getElem_mem hkl)
      obtain ⟨z, hz⟩ := Int.eq_ofNat_of_zero_le hfk.1
      have HT : Hid (figs (l.take (k + 1)) = figs (l.take k) ++ (32 :: Lib.decDigits z)) := by
        show _ = _
        rw [List.take_succ_eq_append_getElem hkl, figs_snoc, hz]
        rfl
      rw [hz] at hcell hfk
      have hfl := figs_len (l := l.take k) (fun m hm => HI.out.2.2.1 m (List.mem_of_mem_take hm))
      have hlk : (l.take k).length ≤ k := List.length_take_le _ _
      have hzl := dec_short (n := z) (by omega)
      have hcl : (Lib.byteCells (figs (l.take k))).length = (figs (l.take k)).length := by simp [Lib.byteCells]
      have HSZ : Hid (b ≤ wr.heap.size) := by show _ ≤ _; rw [HBB.out]; exact HR.out.2.size
      have HW1 : Hid (Calls Tryd.prog 23 #[.pointer (some ⟨b, 0, none⟩), .string ⟨#[32]⟩] wr fun e w' => (∃ r, e = .returned r) ∧ Bld b b (Lib.byteCells (figs (l.take k)) ++ Lib.strCells ⟨#[32]⟩) w' ∧ Below b wr w') := writeString_any b b _ ⟨#[32]⟩ wr HR.out.1 (by rw [hcl]; show (figs (l.take k)).length + 1 ≤ _; omega) HSZ.out
      clear hz
      go_wp2_with fail
      refine HW1.out.mono ?_
      rintro e w1 ⟨⟨r1, rfl⟩, hB1, b1⟩
      have b1' : Below w.heap.size wr w1 := by rw [← HBB.out]; exact b1
      have HB1 : Hid (Bld b b (Lib.byteCells (figs (l.take k)) ++ Lib.strCells ⟨#[32]⟩) w1 ∧ Below w.heap.size w w1 ∧ b ≤ w1.heap.size) := ⟨hB1, HR.out.2.trans b1', Nat.le_trans HSZ.out b1.size⟩
      have HIT : Hid (Calls Tryd.prog 55 #[.int .i64 (z : Int)] w1 fun e w' => e = .returned (.string ⟨(Lib.decDigits z).toArray⟩) ∧ Below w1.heap.size w1 w') := itoa_any z w1 (by omega) (HI.out.2.2.2.below HB1.out.2.1)
      clear hB1 b1 b1' HW1 HR
      go_wp2_with fail
      refine HIT.out.mono ?_
      rintro e w2 ⟨rfl, b2⟩
      have HB2 : Hid (Bld b b (Lib.byteCells (figs (l.take k)) ++ Lib.strCells ⟨#[32]⟩) w2 ∧ Below w.heap.size w w2 ∧ b ≤ w2.heap.size) := ⟨HB1.out.1.below b2, HB1.out.2.1.trans (b2.mono HB1.out.2.1.size), Nat.le_trans HB1.out.2.2 b2.size⟩
      have HW2 : Hid (Calls Tryd.prog 23 #[.pointer (some ⟨b, 0, none⟩), .string ⟨(Lib.decDigits z).toArray⟩] w2 fun e w' => (∃ r, e = .returned r) ∧ Bld b b (Lib.byteCells (figs (l.take k)) ++ Lib.strCells ⟨#[32]⟩ ++ Lib.strCells ⟨(Lib.decDigits z).toArray⟩) w' ∧ Below b w2 w') := writeString_any b b _ ⟨(Lib.decDigits z).toArray⟩ w2 HB2.out.1 (by rw [List.length_append, hcl, show (Lib.strCells ⟨#[32]⟩).length = 1 from rfl, str_size (Lib.decDigits z)]; omega) HB2.out.2.2
      clear b2 HIT HB1
      go_wp2_with fail
      refine HW2.out.mono ?_
      rintro e w3 ⟨⟨r3, rfl⟩, hB3, b3⟩
      have HF : Hid (Bld b b (Lib.byteCells (figs (l.take (k + 1)))) w3 ∧ Below w.heap.size w w3) := by
        refine ⟨?_, HB2.out.2.1.trans (by rw [← HBB.out]; exact b3)⟩
        rw [HT.out]
        have e : Lib.byteCells (figs (l.take k) ++ (32 :: Lib.decDigits z)) = Lib.byteCells (figs (l.take k)) ++ Lib.strCells ⟨#[32]⟩ ++ Lib.strCells ⟨(Lib.decDigits z).toArray⟩ := by
          rw [Lib.strCells_toArray]
          show _ = Lib.byteCells (figs (l.take k)) ++ Lib.byteCells [32] ++ _
          simp [Lib.byteCells]
          rfl
        rw [e]
        exact hB3
      clear hB3 b3 HW2 HB2 HT hfl hcl
      go_wp2_with fail
      go_roundw
      case rel => exact ⟨k + 1, by omega, by go_num, HF⟩
      case measure => simp [intOf]; omega
    · have hki : ¬ (k : Int) < (N : Int) := by omega
      have hkN : k = N := by omega
      have HS : Hid (Calls Tryd.prog 30 #[.pointer (some ⟨b, 0, none⟩)] wr fun e w' => e = .returned (.string ⟨(figs l).toArray⟩) ∧ Below b wr w') := by
        have h := HR.out.1
        rw [List.take_of_length_le (by rw [HI.out.2.1, hkN]; exact Nat.le_refl _)] at h
        exact Tryd.Builder_String_any b b (figs l) wr h (by rw [HBB.out]; exact HR.out.2.size)
      go_wp2_with fail
      refine HS.out.mono ?_
      rintro e w1 ⟨rfl, b1⟩
      have HE : Hid (Below w.heap.size w w1) := HR.out.2.trans (by rw [← HBB.out]; exact b1)
      clear b1 HS HR
      go_wp2_with fail
      go_ret
      exact ⟨ret_str rfl, HE.out⟩
end Go.Proofs.YtgfknlnpnnjkoaaDoor
