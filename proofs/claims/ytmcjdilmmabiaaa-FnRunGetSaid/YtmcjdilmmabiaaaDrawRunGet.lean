/- A text, a byte, a size and how many, drawn of a code. -/
import Derived.Test.YtmcjdilmmabiaaaDrawRunPut
import Derived.Test.YtmcjdilmmabiaaaBendWalks
import Derived.Test.YtmcjdilmmabiaaaExRunPut
import Derived.Test.YtmcjdilmmabiaaaRgBack
namespace Go.Proofs.Ytmcjdilmmabiaaa
open Go.RowKit

/-- what is drawn -/
def GetDrawn (w : World) (e : Ending) (w' : World) : Prop :=
  (∃ (t : ByteArray) (at_ sz ct : Int), e = .returned (.tuple #[.string t, .int .i64 at_, .int .i64 sz, .int .i64 ct]) ∧ t.size ≤ 3000 ∧ ct ≤ 1000) ∧ Below w.heap.size w w'
theorem getDrawn_mk {w w' : World} {e : Ending} (t : ByteArray) (at_ sz ct : Int) (h1 : e = .returned (.tuple #[.string t, .int .i64 at_, .int .i64 sz, .int .i64 ct])) (h2 : t.size ≤ 3000) (h3 : ct ≤ 1000) (h4 : Below w.heap.size w w') : GetDrawn w e w' := ⟨⟨t, at_, sz, ct, h1, h2, h3⟩, h4⟩

theorem ans_size (sz : Int) (l : List Int) (hl : l.length ≤ 400) : (ByteArray.mk (Rt.ans sz l).toArray).size ≤ 2000 := by
  have hsz : (ByteArray.mk (Rt.ans sz l).toArray).size = (Rt.ans sz l).length := by simp [ByteArray.size]
  rw [hsz]
  unfold Rt.ans
  split
  · next hy =>
    unfold Rt.yes at hy
    simp only [Bool.and_eq_true, decide_eq_true_eq] at hy
    obtain ⟨⟨⟨h1, h4⟩, _⟩, _⟩ := hy
    have := Rt.all_short (S := sz.toNat) (l := l) (by omega)
    have hP : sz.toNat * l.length ≤ 4 * 400 := Nat.mul_le_mul (by omega) (by omega)
    omega
  · simp

/-- seven numbers of which one is drawn -/
def sevens (m : Int) (y : Nat) : Int := if y = 6 then m else if y = 5 then -1 else 0
theorem seven_cell (W : World) (m : Int) (y : Nat) (hy : y < 7) : (W.alloc (.cells #[.int .i64 0, .int .i64 0, .int .i64 0, .int .i64 0, .int .i64 0, .int .i64 (-1), .int .i64 m] 3)).cell? ⟨W.heap.size, y, none⟩ = some (.int .i64 (sevens m y)) := by
  rw [World.cell?_alloc_at _ _ _ _ rfl]
  have h : y = 0 ∨ y = 1 ∨ y = 2 ∨ y = 3 ∨ y = 4 ∨ y = 5 ∨ y = 6 := by omega
  rcases h with rfl | rfl | rfl | rfl | rfl | rfl | rfl <;> rfl

set_option maxHeartbeats 4000000 in
set_option maxRecDepth 20000 in
theorem drawRunGet_any (a : Option Addr) (len cap : Nat) (w : World) (h : Code8 w a len cap) :
    Calls Try.prog 18 #[.slice a len cap] w (GetDrawn w) := by
  have HOP : Hid (Calls Try.prog 20 #[.slice a len cap] w fun e w' => e = .returned (.pointer (some ⟨w.heap.size, 0, none⟩)) ∧ RdAt w' w.heap.size 0 ∧ Below w.heap.size w w') := open_any a len cap w h
  have HC : Hid (Code8 w a len cap) := h
  clear h
  go_enter Try.func18, Try.ntmps18
  go_wp2_with fail
  refine HOP.out.mono ?_
  rintro e w1 ⟨rfl, hR1, b1⟩
  clear HOP
  have HR1 : Hid (RdAt w1 w.heap.size 0) := hR1
  have HB1 : Hid (Below w.heap.size w w1) := b1
  have HDR : Hid (Calls Try.prog 13 #[.slice a len cap] w1 (RunDrawn w1)) := drawRunPut_any a len cap w1 (HC.out.kept b1)
  clear hR1 b1 HC
  generalize hBB : w.heap.size = B at *
  go_wp2_with fail
  refine HDR.out.mono ?_
  rintro e w2 ⟨⟨ao, n, c, l, sz, rfl, hI, hlen, hn, -, -, -⟩, b2⟩
  have HR2 : Hid (RdAt w2 B 0) := HR1.out.kept (b2.mono HR1.out.lt)
  have HB2 : Hid (Below B w w2) := HB1.out.trans (b2.mono (Nat.le_of_lt HR1.out.lt))
  obtain ⟨T, hT⟩ : ∃ T, T = (⟨(Rt.ans sz l).toArray⟩ : ByteArray) := ⟨_, rfl⟩
  have hTb : T.size ≤ 2000 := by rw [hT]; exact ans_size sz l (by omega)
  have HS : Hid (Calls Try.prog 15 #[.slice ao n c, .int .i64 sz] w2 fun e w' => e = .returned (.string T) ∧ Below w2.heap.size w2 w') := by rw [hT]; exact spec_runPut ao n c sz l w2 hI hlen (by omega)
  clear hT hI hlen b2 HR1 HB1 HDR
  go_wp2_with fail
  refine HS.out.mono ?_
  rintro e w3 ⟨rfl, b3⟩
  have HR3 : Hid (RdAt w3 B 0) := HR2.out.kept (b3.mono HR2.out.lt)
  have HB3 : Hid (Below B w w3) := HB2.out.trans (b3.mono (Nat.le_of_lt HR2.out.lt))
  clear b3 HR2 HB2 HS
  go_wp2_with fail
  refine (pick_named B 0 _ _ HR3.out (by omega) (by omega) (by omega)).mono ?_
  rintro e w4 ⟨x, rfl, hx, hR4, hO4, -⟩
  have HR4 : Hid (RdAt w4 B 1) := hR4
  have HB4 : Hid (Below B w w4) := HB3.out.trans hO4.below
  clear hR4 hO4 HR3 HB3
  by_cases hx2 : x = 2
  · subst hx2
    have hTi : (T.size : Int) ≤ 2000 := by omega
    have HSZ : Hid ((ByteArray.mk #[120] ++ T).size ≤ 3000) := by show _ ≤ _; rw [ByteArray.size_append]; show 1 + T.size ≤ 3000; omega
    go_wp2_with fail
    refine bodyPost_ret (v := .tuple #[.string (ByteArray.mk #[120] ++ T), .int .i64 1, .int .i64 sz, .int .i64 (n : Int)]) (by simp [results, Try.results18, go_sem]) rfl (getDrawn_mk _ _ _ _ rfl HSZ.out (by omega) (hBB ▸ HB4.out))
  · by_cases hx0 : x = 0
    · subst hx0
      have HBN : Hid (Calls Try.prog 32 #[.pointer (some ⟨B, 0, none⟩), .string T] w4 fun e w' => (∃ t : ByteArray, e = .returned (.string t) ∧ t.size = T.size) ∧ (∃ q, q ≤ 1 + 2 ∧ RdAt w' B q) ∧ Only B w4 w') := l14Bend_any B 1 T w4 HR4.out (by omega) (by omega)
      go_wp2_with fail
      refine HBN.out.mono ?_
      rintro e w5 ⟨⟨t, rfl, ht⟩, ⟨q, hq, hR5⟩, hO5⟩
      have htb : t.size ≤ 2000 := by omega
      have HRt : Hid (RdAt w5 B q) := hR5
      have HBt : Hid (Below B w w5) := HB4.out.trans hO5.below
      clear hR5 hO5 HR4 HB4 HBN ht
      obtain ⟨M, hM⟩ : ∃ M : Nat, M = t.size + 1 := ⟨_, rfl⟩
      have eM : (t.size : Int) + 1 = (M : Int) := by omega
      have fM := wrap_i64_nat M (by omega)
      have HRd : Hid (RdAt w5.drew B q) := HRt.out.drew
      have HRa : Hid (RdAt (w5.drew.alloc (.cells #[.int .i64 0, .int .i64 0, .int .i64 0, .int .i64 0, .int .i64 0, .int .i64 (-1), .int .i64 (M : Int)] 3)) B q) := HRt.out.drew.alloc _
      have hWB : w5.heap.size ≠ B := by have := HRt.out.lt; omega
      have hWB' : B ≤ w5.heap.size := Nat.le_of_lt HRt.out.lt
      clear hM
      go_wp2_with fail
      go_region_with (first | (go_at_call 21; refine (pick_named B q _ _ HRa.out (by omega) (by omega) (by omega)).mono ?_; rintro e w6 ⟨y, rfl, hy, hR6, hO6, -⟩; have hy7 : y < 7 := (by omega); have hyi : (y : Int) < 7 := (by omega); have hcy : w6.cell? ⟨w5.heap.size, y, none⟩ = some (.int .i64 (sevens M y)) := (hO6.cell w5.heap.size y (by simp) hWB).trans (seven_cell w5.drew M y hy7); have HBf : Hid (Below B w w6) := (HBt.out.drew.alloc hWB' _).trans hO6.below; clear hR6 hO6) | (go_at_call 21; refine (pick_named B q _ _ HRd.out (by omega) (by omega) (by omega)).mono ?_; rintro e w6 ⟨y, rfl, hy, hR6, hO6, -⟩; have hy7 : y < 7 := (by omega); have hyi : (y : Int) < 7 := (by omega); have hcy := seven_cell w6 M y hy7; have HBf : Hid (Below B w (w6.alloc (.cells #[.int .i64 0, .int .i64 0, .int .i64 0, .int .i64 0, .int .i64 0, .int .i64 (-1), .int .i64 (M : Int)] 3))) := (HBt.out.drew.trans hO6.below).alloc (Nat.le_of_lt hR6.lt) _; clear hR6 hO6))
      all_goals
        clear HRd HRa
        generalize sevens M y = z at *
        go_wp2_with fail
        exact bodyPost_ret (v := .tuple #[.string t, .int .i64 z, .int .i64 sz, .int .i64 (n : Int)]) (by simp [results, Try.results18, go_sem]) rfl (getDrawn_mk _ _ _ _ rfl (by omega) (by omega) (hBB ▸ HBf.out))
    · by_cases hx1 : x = 1
      · subst hx1
        go_wp2_with fail
        refine (pick_named B 1 _ _ HR4.out (by omega) (by omega) (by omega)).mono ?_
        rintro e w5 ⟨k, rfl, hk, hR5, hO5, -⟩
        have HRt : Hid (RdAt w5 B 2) := hR5
        have HBt : Hid (Below B w w5) := HB4.out.trans hO5.below
        obtain ⟨ct, hct⟩ : ∃ ct : Int, ct = (n : Int) + (k : Int) - 1 := ⟨_, rfl⟩
        have ect : (n : Int) + (k : Int) - 1 = ct := hct.symm
        have hctb : ct ≤ 1000 := by omega
        have hki : (k : Int) < 3 := hk
        clear hR5 hO5 HR4 HB4 hct
        obtain ⟨M, hM⟩ : ∃ M : Nat, M = T.size + 1 := ⟨_, rfl⟩
        have eM : (T.size : Int) + 1 = (M : Int) := by omega
        have fM := wrap_i64_nat M (by omega)
        have HRd : Hid (RdAt w5.drew B 2) := HRt.out.drew
        have HRa : Hid (RdAt (w5.drew.alloc (.cells #[.int .i64 0, .int .i64 0, .int .i64 0, .int .i64 0, .int .i64 0, .int .i64 (-1), .int .i64 (M : Int)] 3)) B 2) := HRt.out.drew.alloc _
        have hWB : w5.heap.size ≠ B := by have := HRt.out.lt; omega
        have hWB' : B ≤ w5.heap.size := Nat.le_of_lt HRt.out.lt
        clear hM
        go_wp2_with fail
        go_region_with (first | (go_at_call 21; refine (pick_named B 2 _ _ HRa.out (by omega) (by omega) (by omega)).mono ?_; rintro e w6 ⟨y, rfl, hy, hR6, hO6, -⟩; have hy7 : y < 7 := (by omega); have hyi : (y : Int) < 7 := (by omega); have hcy : w6.cell? ⟨w5.heap.size, y, none⟩ = some (.int .i64 (sevens M y)) := (hO6.cell w5.heap.size y (by simp) hWB).trans (seven_cell w5.drew M y hy7); have HBf : Hid (Below B w w6) := (HBt.out.drew.alloc hWB' _).trans hO6.below; clear hR6 hO6) | (go_at_call 21; refine (pick_named B 2 _ _ HRd.out (by omega) (by omega) (by omega)).mono ?_; rintro e w6 ⟨y, rfl, hy, hR6, hO6, -⟩; have hy7 : y < 7 := (by omega); have hyi : (y : Int) < 7 := (by omega); have hcy := seven_cell w6 M y hy7; have HBf : Hid (Below B w (w6.alloc (.cells #[.int .i64 0, .int .i64 0, .int .i64 0, .int .i64 0, .int .i64 0, .int .i64 (-1), .int .i64 (M : Int)] 3))) := (HBt.out.drew.trans hO6.below).alloc (Nat.le_of_lt hR6.lt) _; clear hR6 hO6))
        all_goals
          clear HRd HRa
          generalize sevens M y = z at *
          go_wp2_with fail
          exact bodyPost_ret (v := .tuple #[.string T, .int .i64 z, .int .i64 sz, .int .i64 ct]) (by simp [results, Try.results18, go_sem]) rfl (getDrawn_mk _ _ _ _ rfl (by omega) (by omega) (hBB ▸ HBf.out))
      · by_cases hx3 : x = 3
        · subst hx3
          obtain ⟨L, hL⟩ : ∃ L : Nat, L = T.size + 1 := ⟨_, rfl⟩
          have eL : (T.size : Int) + 1 = (L : Int) := by omega
          have HLL : Hid (L = T.size + 1) := hL
          have hL1 : 1 ≤ L ∧ L ≤ 2001 := by omega
          clear hL
          go_wp2_with fail
          refine (pick_named B 1 _ _ HR4.out (by omega) (by omega) (by omega)).mono ?_
          rintro e w5 ⟨k, rfl, hk, hR5, hO5, -⟩
          have HRt : Hid (RdAt w5 B 2) := hR5
          have HBt : Hid (Below B w w5) := HB4.out.trans hO5.below
          have hkT : (k : Int) ≤ (T.size : Int) := by have := HLL.out; omega
          have hkn : k ≤ T.size := by omega
          obtain ⟨t, ht⟩ : ∃ t, t = T.extract 0 k := ⟨_, rfl⟩
          have htb : t.size ≤ 2000 := by rw [ht, ByteArray.size_extract]; omega
          have et : T.extract 0 k = t := ht.symm
          clear hR5 hO5 HR4 HB4 HLL hk ht
          obtain ⟨M, hM⟩ : ∃ M : Nat, M = t.size + 1 := ⟨_, rfl⟩
          have eM : (t.size : Int) + 1 = (M : Int) := by omega
          have fM := wrap_i64_nat M (by omega)
          have HRd : Hid (RdAt w5.drew B 2) := HRt.out.drew
          have HRa : Hid (RdAt (w5.drew.alloc (.cells #[.int .i64 0, .int .i64 0, .int .i64 0, .int .i64 0, .int .i64 0, .int .i64 (-1), .int .i64 (M : Int)] 3)) B 2) := HRt.out.drew.alloc _
          have hWB : w5.heap.size ≠ B := by have := HRt.out.lt; omega
          have hWB' : B ≤ w5.heap.size := Nat.le_of_lt HRt.out.lt
          clear hM
          go_wp2_with fail
          go_region_with (first | (go_at_call 21; refine (pick_named B 2 _ _ HRa.out (by omega) (by omega) (by omega)).mono ?_; rintro e w6 ⟨y, rfl, hy, hR6, hO6, -⟩; have hy7 : y < 7 := (by omega); have hyi : (y : Int) < 7 := (by omega); have hcy : w6.cell? ⟨w5.heap.size, y, none⟩ = some (.int .i64 (sevens M y)) := (hO6.cell w5.heap.size y (by simp) hWB).trans (seven_cell w5.drew M y hy7); have HBf : Hid (Below B w w6) := (HBt.out.drew.alloc hWB' _).trans hO6.below; clear hR6 hO6) | (go_at_call 21; refine (pick_named B 2 _ _ HRd.out (by omega) (by omega) (by omega)).mono ?_; rintro e w6 ⟨y, rfl, hy, hR6, hO6, -⟩; have hy7 : y < 7 := (by omega); have hyi : (y : Int) < 7 := (by omega); have hcy := seven_cell w6 M y hy7; have HBf : Hid (Below B w (w6.alloc (.cells #[.int .i64 0, .int .i64 0, .int .i64 0, .int .i64 0, .int .i64 0, .int .i64 (-1), .int .i64 (M : Int)] 3))) := (HBt.out.drew.trans hO6.below).alloc (Nat.le_of_lt hR6.lt) _; clear hR6 hO6))
          all_goals
            clear HRd HRa
            generalize sevens M y = z at *
            go_wp2_with fail
            exact bodyPost_ret (v := .tuple #[.string t, .int .i64 z, .int .i64 sz, .int .i64 (n : Int)]) (by simp [results, Try.results18, go_sem]) rfl (getDrawn_mk _ _ _ _ rfl (by omega) (by omega) (hBB ▸ HBf.out))
        · have g0 : ((x : Int) == 0) = false := by rw [beq_eq_false_iff_ne]; omega
          have g1 : ((x : Int) == 1) = false := by rw [beq_eq_false_iff_ne]; omega
          have g2 : ((x : Int) == 2) = false := by rw [beq_eq_false_iff_ne]; omega
          have g3 : ((x : Int) == 3) = false := by rw [beq_eq_false_iff_ne]; omega
          have HRt : Hid (RdAt w4 B 1) := HR4.out
          have HBt : Hid (Below B w w4) := HB4.out
          clear HR4 HB4
          obtain ⟨M, hM⟩ : ∃ M : Nat, M = T.size + 1 := ⟨_, rfl⟩
          have eM : (T.size : Int) + 1 = (M : Int) := by omega
          have fM := wrap_i64_nat M (by omega)
          have HRd : Hid (RdAt w4.drew B 1) := HRt.out.drew
          have HRa : Hid (RdAt (w4.drew.alloc (.cells #[.int .i64 0, .int .i64 0, .int .i64 0, .int .i64 0, .int .i64 0, .int .i64 (-1), .int .i64 (M : Int)] 3)) B 1) := HRt.out.drew.alloc _
          have hWB : w4.heap.size ≠ B := by have := HRt.out.lt; omega
          have hWB' : B ≤ w4.heap.size := Nat.le_of_lt HRt.out.lt
          clear hM
          go_wp2_with fail
          go_region_with (first | (go_at_call 21; refine (pick_named B 1 _ _ HRa.out (by omega) (by omega) (by omega)).mono ?_; rintro e w6 ⟨y, rfl, hy, hR6, hO6, -⟩; have hy7 : y < 7 := (by omega); have hyi : (y : Int) < 7 := (by omega); have hcy : w6.cell? ⟨w4.heap.size, y, none⟩ = some (.int .i64 (sevens M y)) := (hO6.cell w4.heap.size y (by simp) hWB).trans (seven_cell w4.drew M y hy7); have HBf : Hid (Below B w w6) := (HBt.out.drew.alloc hWB' _).trans hO6.below; clear hR6 hO6) | (go_at_call 21; refine (pick_named B 1 _ _ HRd.out (by omega) (by omega) (by omega)).mono ?_; rintro e w6 ⟨y, rfl, hy, hR6, hO6, -⟩; have hy7 : y < 7 := (by omega); have hyi : (y : Int) < 7 := (by omega); have hcy := seven_cell w6 M y hy7; have HBf : Hid (Below B w (w6.alloc (.cells #[.int .i64 0, .int .i64 0, .int .i64 0, .int .i64 0, .int .i64 0, .int .i64 (-1), .int .i64 (M : Int)] 3))) := (HBt.out.drew.trans hO6.below).alloc (Nat.le_of_lt hR6.lt) _; clear hR6 hO6))
          all_goals
            clear HRd HRa
            generalize sevens M y = z at *
            go_wp2_with fail
            exact bodyPost_ret (v := .tuple #[.string T, .int .i64 z, .int .i64 sz, .int .i64 (n : Int)]) (by simp [results, Try.results18, go_sem]) rfl (getDrawn_mk _ _ _ _ rfl (by omega) (by omega) (hBB ▸ HBf.out))
end Go.Proofs.Ytmcjdilmmabiaaa
