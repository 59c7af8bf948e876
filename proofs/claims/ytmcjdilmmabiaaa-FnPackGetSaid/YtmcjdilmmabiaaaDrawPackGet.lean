/- A text and a limit, drawn of a code. -/
import Derived.Test.YtmcjdilmmabiaaaDrawPack
import Derived.Test.YtmcjdilmmabiaaaBendWalks
import Derived.Test.YtmcjdilmmabiaaaPkSpec
import Derived.Test.YtmcjdilmmabiaaaPgBack
namespace Go.Proofs.Ytmcjdilmmabiaaa
open Go.RowKit

theorem mk_size (l : List UInt8) : (ByteArray.mk l.toArray).size = l.length := by simp [ByteArray.size]

/-- five limits of which one is drawn -/
def fives (m : Int) (j : Nat) : Int := if j = 2 then m else if j = 3 then 5001 else if j = 4 then -1 else 5000
theorem five_cell (W : World) (m : Int) (j : Nat) (hj : j < 5) : (W.alloc (.cells #[.int .i64 5000, .int .i64 5000, .int .i64 m, .int .i64 5001, .int .i64 (-1)] 3)).cell? ⟨W.heap.size, j, none⟩ = some (.int .i64 (fives m j)) := by
  rw [World.cell?_alloc_at _ _ _ _ rfl]
  have h : j = 0 ∨ j = 1 ∨ j = 2 ∨ j = 3 ∨ j = 4 := by omega
  rcases h with rfl | rfl | rfl | rfl | rfl <;> rfl

set_option maxHeartbeats 2000000 in
set_option maxRecDepth 20000 in
theorem l14Limit_any (B p : Nat) (w : World) (hr : RdAt w B p) (hp : p ≤ 100000) :
    Calls Try.prog 33 #[.pointer (some ⟨B, 0, none⟩)] w fun e w' => (∃ lm : Int, e = .returned (.int .i64 lm)) ∧ RdAt w' B (p + 2) ∧ Only B w w' := by
  have HR : Hid (RdAt w B p) := hr
  clear hr
  go_enter Try.func33, Try.ntmps33
  go_wp2_with fail
  refine (pick_named B p _ _ HR.out (by omega) (by omega) (by omega)).mono ?_
  rintro e w1 ⟨m, rfl, hm, hR1, hO1, -⟩
  have HR1 : Hid (RdAt (w1.alloc (.cells #[.int .i64 5000, .int .i64 5000, .int .i64 (m : Int), .int .i64 5001, .int .i64 (-1)] 3)) B (p + 1)) := hR1.alloc _
  have HO1 : Hid (Only B w (w1.alloc (.cells #[.int .i64 5000, .int .i64 5000, .int .i64 (m : Int), .int .i64 5001, .int .i64 (-1)] 3))) := hO1.alloc hR1.lt _
  have hWB : w1.heap.size ≠ B := by have := hR1.lt; omega
  clear hR1 hO1 HR
  go_wp2_with fail
  refine (pick_named B (p + 1) _ _ HR1.out (by omega) (by omega) (by omega)).mono ?_
  rintro e w2 ⟨y, rfl, hy, hR2, hO2, -⟩
  obtain ⟨Y, hY⟩ : ∃ Y : Nat, Y = y * 5 := ⟨_, rfl⟩
  obtain ⟨j, hj⟩ : ∃ j : Nat, j = Y / 14 := ⟨_, rfl⟩
  have e1 : (y : Int) * 5 = (Y : Int) := by omega
  have e2 : (Y : Int) / 14 = (j : Int) := by omega
  have e3 : (Y : Int).tdiv 14 = (j : Int) := by rw [Int.tdiv_eq_ediv_of_nonneg (by omega)]; exact e2
  have hYb : Y ≤ 65 := by omega
  have hjb : j < 5 := by omega
  have hji : (j : Int) < 5 := by omega
  have hcj : w2.cell? ⟨w1.heap.size, j, none⟩ = some (.int .i64 (fives m j)) := (hO2.cell w1.heap.size j (by simp) hWB).trans (five_cell w1 m j hjb)
  have HF : Hid (RdAt w2 B (p + 2) ∧ Only B w w2) := ⟨hR2, HO1.out.trans hO2⟩
  clear hR2 hO2 HR1 HO1 hY hj
  generalize fives m j = z at *
  go_wp2_with fail
  go_ret
  exact ⟨⟨z, rfl⟩, HF.out⟩

/-- what is drawn -/
def PackDrawn (w : World) (e : Ending) (w' : World) : Prop :=
  (∃ (t : ByteArray) (lm : Int), e = .returned (.tuple #[.string t, .int .i64 lm]) ∧ t.size ≤ 2500) ∧ Below w.heap.size w w'
theorem packDrawn_mk {w w' : World} {e : Ending} (t : ByteArray) (lm : Int) (h1 : e = .returned (.tuple #[.string t, .int .i64 lm])) (h2 : t.size ≤ 2500) (h4 : Below w.heap.size w w') : PackDrawn w e w' := ⟨⟨t, lm, h1, h2⟩, h4⟩

set_option maxHeartbeats 2000000 in
set_option maxRecDepth 20000 in
theorem drawPackGet_any (a : Option Addr) (len cap : Nat) (w : World) (h : Code8 w a len cap) :
    Calls Try.prog 11 #[.slice a len cap] w (PackDrawn w) := by
  have HOP : Hid (Calls Try.prog 20 #[.slice a len cap] w fun e w' => e = .returned (.pointer (some ⟨w.heap.size, 0, none⟩)) ∧ RdAt w' w.heap.size 0 ∧ Below w.heap.size w w') := open_any a len cap w h
  have HC : Hid (Code8 w a len cap) := h
  clear h
  go_enter Try.func11, Try.ntmps11
  go_wp2_with fail
  refine HOP.out.mono ?_
  rintro e w1 ⟨rfl, hR1, b1⟩
  clear HOP
  have HR1 : Hid (RdAt w1 w.heap.size 0) := hR1
  have HB1 : Hid (Below w.heap.size w w1) := b1
  have HDR : Hid (Calls Try.prog 7 #[.slice a len cap] w1 (TextDrawn w1)) := drawPackPut_any a len cap w1 (HC.out.kept b1)
  clear hR1 b1 HC
  obtain ⟨B, hB⟩ : ∃ B, B = w.heap.size := ⟨_, rfl⟩
  rw [← hB] at HR1 HB1 ⊢
  have HBB : Hid (B = w.heap.size) := hB
  clear hB
  go_wp2_with fail
  refine HDR.out.mono ?_
  rintro e w2 ⟨⟨t, rfl, ht, ht2⟩, b2⟩
  have HR2 : Hid (RdAt w2 B 0) := HR1.out.kept (b2.mono HR1.out.lt)
  have HB2 : Hid (Below B w w2) := HB1.out.trans (b2.mono (Nat.le_of_lt HR1.out.lt))
  obtain ⟨T, hT⟩ : ∃ T : ByteArray, T = ⟨(if t.size ≤ 5000 then Pk.all t.data.toList else []).toArray⟩ := ⟨_, rfl⟩
  have hTb : T.size ≤ 2500 := by
    have hts : t.data.toList.length = t.size := by rw [Array.length_toList]; rfl
    have hTz : T.size = (if t.size ≤ 5000 then Pk.all t.data.toList else []).length := by rw [hT]; exact mk_size _
    rw [hTz]
    split
    · have hsh := Pg.all_short (l := t.data.toList)
      rw [hts] at hsh
      omega
    · simp
  have HS : Hid (Calls Try.prog 9 #[.string t] w2 fun e w' => e = .returned (.string T) ∧ Below w2.heap.size w2 w') := by rw [hT]; exact spec_packPut t w2 (by omega)
  clear hT b2 HR1 HB1 HDR ht2
  go_wp2_with fail
  refine HS.out.mono ?_
  rintro e w3 ⟨rfl, b3⟩
  have HR3 : Hid (RdAt w3 B 0) := HR2.out.kept (b3.mono HR2.out.lt)
  have HB3 : Hid (Below B w w3) := HB2.out.trans (b3.mono (Nat.le_of_lt HR2.out.lt))
  clear b3 HR2 HB2 HS
  go_wp2_with fail
  refine (pick_named B 0 _ _ HR3.out (by omega) (by omega) (by omega)).mono ?_
  rintro e w4 ⟨x, rfl, hx, hR4, hO4, -⟩
  have HR4 : Hid (RdAt w4 B 1) := hR4
  have HB4 : Hid (Below B w w4) := HB3.out.trans hO4.below
  clear hR4 hO4 HR3 HB3
  have hTi : (T.size : Int) ≤ 2500 := by omega
  by_cases hx0 : x = 0
  · subst hx0
    have HBN : Hid (Calls Try.prog 32 #[.pointer (some ⟨B, 0, none⟩), .string T] w4 fun e w' => (∃ t : ByteArray, e = .returned (.string t) ∧ t.size = T.size) ∧ (∃ q, q ≤ 1 + 2 ∧ RdAt w' B q) ∧ Only B w4 w') := l14Bend_any B 1 T w4 HR4.out (by omega) (by omega)
    go_wp2_with fail
    refine HBN.out.mono ?_
    rintro e w5 ⟨⟨u, rfl, hu⟩, ⟨q, hq, hR5⟩, hO5⟩
    have hub : u.size ≤ 2500 := by omega
    have HB5 : Hid (Below B w w5) := HB4.out.trans hO5.below
    have HL : Hid (Calls Try.prog 33 #[.pointer (some ⟨B, 0, none⟩)] w5 fun e w' => (∃ lm : Int, e = .returned (.int .i64 lm)) ∧ RdAt w' B (q + 2) ∧ Only B w5 w') := l14Limit_any B q w5 hR5 (by omega)
    clear hR5 hO5 HR4 HB4 HBN hu
    go_wp2_with fail
    refine HL.out.mono ?_
    rintro e w6 ⟨⟨lm, rfl⟩, -, hO6⟩
    have HB6 : Hid (Below B w w6) := HB5.out.trans hO6.below
    clear hO6 HB5 HL
    go_wp2_with fail
    exact bodyPost_ret (v := .tuple #[.string u, .int .i64 lm]) (by simp [results, Try.results11, go_sem]) rfl (packDrawn_mk _ _ rfl hub (by rw [← HBB.out]; exact HB6.out))
  · by_cases hx1 : x = 1
    · subst hx1
      obtain ⟨L, hL⟩ : ∃ L : Nat, L = T.size + 1 := ⟨_, rfl⟩
      have eL : (T.size : Int) + 1 = (L : Int) := by omega
      have HLL : Hid (L = T.size + 1) := hL
      have hL1 : 1 ≤ L ∧ L ≤ 2501 := by omega
      clear hL
      go_wp2_with fail
      refine (pick_named B 1 _ _ HR4.out (by omega) (by omega) (by omega)).mono ?_
      rintro e w5 ⟨k, rfl, hk, hR5, hO5, -⟩
      have HB5 : Hid (Below B w w5) := HB4.out.trans hO5.below
      have HL : Hid (Calls Try.prog 33 #[.pointer (some ⟨B, 0, none⟩)] w5 fun e w' => (∃ lm : Int, e = .returned (.int .i64 lm)) ∧ RdAt w' B (1 + 1 + 2) ∧ Only B w5 w') := l14Limit_any B (1 + 1) w5 hR5 (by omega)
      have hkT : (k : Int) ≤ (T.size : Int) := by have := HLL.out; omega
      have hkn : k ≤ T.size := by omega
      obtain ⟨u, hu⟩ : ∃ u, u = T.extract 0 k := ⟨_, rfl⟩
      have hub : u.size ≤ 2500 := by rw [hu, ByteArray.size_extract]; omega
      have et : T.extract 0 k = u := hu.symm
      clear hR5 hO5 HR4 HB4 HLL hk hu
      go_wp2_with fail
      refine HL.out.mono ?_
      rintro e w6 ⟨⟨lm, rfl⟩, -, hO6⟩
      have HB6 : Hid (Below B w w6) := HB5.out.trans hO6.below
      clear hO6 HB5 HL
      go_wp2_with fail
      exact bodyPost_ret (v := .tuple #[.string u, .int .i64 lm]) (by simp [results, Try.results11, go_sem]) rfl (packDrawn_mk _ _ rfl hub (by rw [← HBB.out]; exact HB6.out))
    · have g0 : ((x : Int) == 0) = false := by rw [beq_eq_false_iff_ne]; omega
      have g1 : ((x : Int) == 1) = false := by rw [beq_eq_false_iff_ne]; omega
      have HL : Hid (Calls Try.prog 33 #[.pointer (some ⟨B, 0, none⟩)] w4 fun e w' => (∃ lm : Int, e = .returned (.int .i64 lm)) ∧ RdAt w' B (1 + 2) ∧ Only B w4 w') := l14Limit_any B 1 w4 HR4.out (by omega)
      go_wp2_with fail
      refine HL.out.mono ?_
      rintro e w6 ⟨⟨lm, rfl⟩, -, hO6⟩
      have HB6 : Hid (Below B w w6) := HB4.out.trans hO6.below
      clear hO6 HB4 HL
      go_wp2_with fail
      exact bodyPost_ret (v := .tuple #[.string T, .int .i64 lm]) (by simp [results, Try.results11, go_sem]) rfl (packDrawn_mk _ _ rfl hTb (by rw [← HBB.out]; exact HB6.out))
end Go.Proofs.Ytmcjdilmmabiaaa
