/- The law on pictures upside down, walked. -/
import Derived.Test.YtgeepemhmkoknaaFlipMath
import Derived.Test.YtgeepemhmkoknaaDrawImg
namespace Go.Proofs.Ytgeepemhmkoknaa
open Go.RowKit

set_option maxHeartbeats 8000000 in
set_option maxRecDepth 20000 in
theorem lawImageFlip (ra : Option Addr) (len cap : Nat) (w : World) (h : Code8 w ra len cap) :
    Calls Try.prog 3 #[.slice ra len cap] w fun e w' => e = .returned (.bool true) ∧ Below w.heap.size w w' := by
  by_cases hbig : 1048576 < len
  · have hc := h.2.1
    have hc1 := h.1
    unfold maxLen at hc
    clear h
    go_enter Try.func3, Try.ntmps3
    go_wp2_with fail
    go_ret
    exact ⟨rfl, Below.refl _ _⟩
  · go_enter Try.func3, Try.ntmps3
    go_wp2_with fail
    refine (drawImageFlip_any ra len cap w h).mono ?_
    rintro e w1 ⟨⟨k, d, wd, hi, a, n, c, cs, b, m, cc, ps, rfl, i4, l4, l4', k4, i5, l5, l5', k5, bd⟩, b1⟩
    clear h
    rcases hok : Im.okB k d wd hi cs ps with _ | _
    · have HIF : Hid (∀ w1 : World, Ints w1 a cs → Ints w1 b ps → Calls Try.prog 10 #[.agg #[.int .i64 k, .int .i64 d, .int .i64 wd, .int .i64 hi, .slice a n c, .slice b m cc]] w1 fun e w' => e = .returned (.agg #[.int .i64 0, .int .i64 0, .int .i64 0, .int .i64 0, .slice none 0 0, .slice none 0 0]) ∧ Below w1.heap.size w1 w') := fun w1 g1 g2 => implFlip_bad k d wd hi a n c b m cc cs ps w1 g1 l4 l4' g2 l5 l5' hok
      have HSF : Hid (∀ w1 : World, Ints w1 a cs → Ints w1 b ps → Calls Try.prog 12 #[.agg #[.int .i64 k, .int .i64 d, .int .i64 wd, .int .i64 hi, .slice a n c, .slice b m cc]] w1 fun e w' => e = .returned (.agg #[.int .i64 0, .int .i64 0, .int .i64 0, .int .i64 0, .slice none 0 0, .slice none 0 0]) ∧ Below w1.heap.size w1 w') := fun w1 g1 g2 => specFlip_bad k d wd hi a n c b m cc cs ps w1 g1 l4 l4' g2 l5 hok
      have HOI : Hid (∀ w1 : World, Ints w1 a cs → Ints w1 b ps → Calls Try.prog 13 #[.agg #[.int .i64 k, .int .i64 d, .int .i64 wd, .int .i64 hi, .slice a n c, .slice b m cc]] w1 fun e w' => e = .returned (.bool false) ∧ Below w1.heap.size w1 w') := fun w1 g1 g2 => by
        have := impl_imageOk k d wd hi a n c b m cc w1 cs ps g1 l4 (by omega) g2 l5 (by omega)
        rw [hok] at this; exact this
      have HOS : Hid (∀ w1 : World, Ints w1 a cs → Ints w1 b ps → Calls Try.prog 14 #[.agg #[.int .i64 k, .int .i64 d, .int .i64 wd, .int .i64 hi, .slice a n c, .slice b m cc]] w1 fun e w' => e = .returned (.bool false) ∧ Below w1.heap.size w1 w') := fun w1 g1 g2 => by
        have := spec_imageOk k d wd hi a n c b m cc w1 cs ps g1 l4 (by omega) g2 l5
        rw [hok] at this; exact this
      have HWI : Hid (∀ (w1 : World), Calls Try.prog 11 #[.agg #[.int .i64 0, .int .i64 0, .int .i64 0, .int .i64 0, .slice none 0 0, .slice none 0 0], .agg #[.int .i64 0, .int .i64 0, .int .i64 0, .int .i64 0, .slice none 0 0, .slice none 0 0]] w1 fun e w' => e = .returned (.bool true) ∧ Below w1.heap.size w1 w') := fun w1 => wiImage_same 0 0 0 0 0 0 [] [] rfl rfl (by omega) (by omega) none 0 none 0 none 0 none 0 w1 (.inl rfl) (.inl rfl) (.inl rfl) (.inl rfl)
      have P1 : Hid (PB (w1.alloc (.cells #[.int .i64 k, .int .i64 d, .int .i64 wd, .int .i64 hi, .slice a n c, .slice b m cc] 25)) w1.heap.size k d wd hi a n c cs b m cc ps) := pb_new i4.ints i5.ints
      have B1 : Hid (Below w.heap.size w (w1.alloc (.cells #[.int .i64 k, .int .i64 d, .int .i64 wd, .int .i64 hi, .slice a n c, .slice b m cc] 25))) := b1.alloc b1.size _
      clear i4 i5 l4 l5 l4' l5' k4 k5 bd b1 hok
      go_wp2_with fail
      refine (HIF.out _ P1.out.i4 P1.out.i5).mono ?_
      rintro e w2 ⟨rfl, b2⟩
      generalize w1.heap.size = MB at *
      have P2 : Hid (PB (w2.alloc (.cells #[.int .i64 0, .int .i64 0, .int .i64 0, .int .i64 0, .slice none 0 0, .slice none 0 0] 25)) MB k d wd hi a n c cs b m cc ps) := (P1.out.kept b2).kept ((Below.refl _ _).alloc (Nat.le_refl _) _)
      have X2 : Hid (PB (w2.alloc (.cells #[.int .i64 0, .int .i64 0, .int .i64 0, .int .i64 0, .slice none 0 0, .slice none 0 0] 25)) w2.heap.size 0 0 0 0 none 0 0 [] none 0 0 []) := pb_new (.inl rfl) (.inl rfl)
      have B2 : Hid (Below w.heap.size w (w2.alloc (.cells #[.int .i64 0, .int .i64 0, .int .i64 0, .int .i64 0, .slice none 0 0, .slice none 0 0] 25))) := (B1.out.trans (b2.mono B1.out.size)).alloc (Nat.le_trans B1.out.size b2.size) _
      clear b2 P1 B1 HIF 
      obtain ⟨m0, m1, m2, m3, m4, m5⟩ := P2.out.box
      obtain ⟨n0, n1, n2, n3, n4, n5⟩ := X2.out.box
      go_upto_region 5 with fail
      generalize hW3 : w2.alloc (.cells #[.int .i64 0, .int .i64 0, .int .i64 0, .int .i64 0, .slice none 0 0, .slice none 0 0] 25) = W3 at *
      clear hW3
      generalize w2.heap.size = XB at *
      have PD : Hid (PB W3.drew MB k d wd hi a n c cs b m cc ps) := P2.out.kept (Below.refl _ _).drew
      have XD : Hid (PB W3.drew XB 0 0 0 0 none 0 0 [] none 0 0 []) := X2.out.kept (Below.refl _ _).drew
      have BD : Hid (Below w.heap.size w W3.drew) := B2.out.drew
      go_region_held3 (fun w' => w'.cell? ⟨MB, 0, none⟩ = some (.int .i64 k) ∧ w'.cell? ⟨MB, 1, none⟩ = some (.int .i64 d) ∧ w'.cell? ⟨MB, 2, none⟩ = some (.int .i64 wd) ∧ w'.cell? ⟨MB, 3, none⟩ = some (.int .i64 hi) ∧ w'.cell? ⟨MB, 4, none⟩ = some (.slice a n c) ∧ w'.cell? ⟨MB, 5, none⟩ = some (.slice b m cc) ∧ w'.cell? ⟨XB, 0, none⟩ = some (.int .i64 0) ∧ w'.cell? ⟨XB, 1, none⟩ = some (.int .i64 0) ∧ w'.cell? ⟨XB, 2, none⟩ = some (.int .i64 0) ∧ w'.cell? ⟨XB, 3, none⟩ = some (.int .i64 0) ∧ w'.cell? ⟨XB, 4, none⟩ = some (.slice none 0 0) ∧ w'.cell? ⟨XB, 5, none⟩ = some (.slice none 0 0)) (go_keep) (first | (go_at_call 12; refine (HSF.out _ PD.out.i4 PD.out.i5).mono ?_; rintro e w4 ⟨rfl, b4⟩; have P4 : Hid (PB w4 MB k d wd hi a n c cs b m cc ps) := PD.out.kept b4; have X4 : Hid (PB w4 XB 0 0 0 0 none 0 0 [] none 0 0 []) := XD.out.kept b4; have B4 : Hid (Below w.heap.size w w4) := BD.out.trans (b4.mono BD.out.size); obtain ⟨pa0, pa1, pa2, pa3, pa4, pa5⟩ := P4.out.box; obtain ⟨qa0, qa1, qa2, qa3, qa4, qa5⟩ := X4.out.box; clear b4) | (go_at_call 11; refine (HWI.out _).mono ?_; rintro e w5 ⟨rfl, b5⟩; have P5 : Hid (PB w5 MB k d wd hi a n c cs b m cc ps) := P4.out.kept b5; have X5 : Hid (PB w5 XB 0 0 0 0 none 0 0 [] none 0 0 []) := X4.out.kept b5; have B5 : Hid (Below w.heap.size w w5) := B4.out.trans (b5.mono B4.out.size); obtain ⟨pb0, pb1, pb2, pb3, pb4, pb5⟩ := P5.out.box; obtain ⟨qb0, qb1, qb2, qb3, qb4, qb5⟩ := X5.out.box; clear b5) | (go_at_call 13; refine (HOI.out _ P5.out.i4 P5.out.i5).mono ?_; rintro e w6 ⟨rfl, b6⟩; have P6 : Hid (PB w6 MB k d wd hi a n c cs b m cc ps) := P5.out.kept b6; have X6 : Hid (PB w6 XB 0 0 0 0 none 0 0 [] none 0 0 []) := X5.out.kept b6; have B6 : Hid (Below w.heap.size w w6) := B5.out.trans (b6.mono B5.out.size); obtain ⟨pc0, pc1, pc2, pc3, pc4, pc5⟩ := P6.out.box; obtain ⟨qc0, qc1, qc2, qc3, qc4, qc5⟩ := X6.out.box; clear b6) | (go_at_call 14; refine (HOS.out _ P6.out.i4 P6.out.i5).mono ?_; rintro e w7 ⟨rfl, b7⟩; have P7 : Hid (PB w7 MB k d wd hi a n c cs b m cc ps) := P6.out.kept b7; have X7 : Hid (PB w7 XB 0 0 0 0 none 0 0 [] none 0 0 []) := X6.out.kept b7; have B7 : Hid (Below w.heap.size w w7) := B6.out.trans (b7.mono B6.out.size); obtain ⟨pd0, pd1, pd2, pd3, pd4, pd5⟩ := P7.out.box; obtain ⟨qd0, qd1, qd2, qd3, qd4, qd5⟩ := X7.out.box; clear b7))
      clear PD XD BD P2 X2 B2 P4 X4 B4 P5 X5 B5 P6 X6 B6 m0 m1 m2 m3 m4 m5 n0 n1 n2 n3 n4 n5 pa0 pa1 pa2 pa3 pa4 pa5 pb0 pb1 pb2 pb3 pb4 pb5 pc0 pc1 pc2 pc3 pc4 pc5 qa0 qa1 qa2 qa3 qa4 qa5 qb0 qb1 qb2 qb3 qb4 qb5 qc0 qc1 qc2 qc3 qc4 qc5 HSF HOI HWI
      go_wp2_with fail
      refine (HOS.out _ P7.out.i4 P7.out.i5).mono ?_
      rintro e w8 ⟨rfl, b8⟩
      have P8 : Hid (PB w8 MB k d wd hi a n c cs b m cc ps) := P7.out.kept b8
      have X8 : Hid (PB w8 XB 0 0 0 0 none 0 0 [] none 0 0 []) := X7.out.kept b8
      have B8 : Hid (Below w.heap.size w w8) := B7.out.trans (b8.mono B7.out.size)
      clear b8 P7 X7 B7 pd0 pd1 pd2 pd3 pd4 pd5 qd0 qd1 qd2 qd3 qd4 qd5 HOS
      obtain ⟨qe0, qe1, qe2, qe3, qe4, qe5⟩ := X8.out.box
      go_wp2_with fail
      go_ret
      exact ⟨rfl, B8.out⟩
    · obtain ⟨_, hw, hh, _, hmm, _⟩ := ok_open hok
      obtain ⟨Wd, rfl⟩ := Int.eq_ofNat_of_zero_le (show 0 ≤ wd by omega)
      obtain ⟨Hi, rfl⟩ := Int.eq_ofNat_of_zero_le (show 0 ≤ hi by omega)
      have hWH : ((Wd * Hi : Nat) : Int) = (Wd : Int) * (Hi : Int) := by simp
      have hm : m = Wd * Hi := by omega
      obtain ⟨L, hL⟩ : ∃ L, L = flipL Wd Hi ps := ⟨_, rfl⟩
      have hLl : L.length = m := by rw [hL, flipL_len, hm]
      have hokL : Im.okB k d Wd Hi cs L = true := by rw [hL]; exact ok_flip hok
      have hLL : flipL Wd Hi L = ps := by rw [hL]; exact flipL_flipL (by omega)
      have HIF : Hid (∀ w1 : World, Ints w1 a cs → Ints w1 b ps → Calls Try.prog 10 #[.agg #[.int .i64 k, .int .i64 d, .int .i64 (Wd : Int), .int .i64 (Hi : Int), .slice a n c, .slice b m cc]] w1 fun e w' => (∃ x cx y cy, e = .returned (.agg #[.int .i64 k, .int .i64 d, .int .i64 (Wd : Int), .int .i64 (Hi : Int), .slice x n cx, .slice y m cy]) ∧ Ints w' x cs ∧ Ints w' y L) ∧ Below w1.heap.size w1 w') := fun w1 g1 g2 => by rw [hL]; exact implFlip_ok k d Wd Hi a n c b m cc cs ps w1 g1 l4 l4' g2 l5 hok
      have HSF : Hid (∀ w1 : World, Ints w1 a cs → Ints w1 b ps → Calls Try.prog 12 #[.agg #[.int .i64 k, .int .i64 d, .int .i64 (Wd : Int), .int .i64 (Hi : Int), .slice a n c, .slice b m cc]] w1 fun e w' => (∃ x cx y cy, e = .returned (.agg #[.int .i64 k, .int .i64 d, .int .i64 (Wd : Int), .int .i64 (Hi : Int), .slice x n cx, .slice y m cy]) ∧ Ints w' x cs ∧ Ints w' y L) ∧ Below w1.heap.size w1 w') := fun w1 g1 g2 => by rw [hL]; exact specFlip_ok k d Wd Hi a n c b m cc cs ps w1 g1 l4 l4' g2 l5 k5 hok
      have HIB : Hid (∀ (x : Option Addr) (cx : Nat) (y : Option Addr) (cy : Nat) (w1 : World), Ints w1 x cs → Ints w1 y L → Calls Try.prog 10 #[.agg #[.int .i64 k, .int .i64 d, .int .i64 (Wd : Int), .int .i64 (Hi : Int), .slice x n cx, .slice y m cy]] w1 fun e w' => (∃ x' cx' y' cy', e = .returned (.agg #[.int .i64 k, .int .i64 d, .int .i64 (Wd : Int), .int .i64 (Hi : Int), .slice x' n cx', .slice y' m cy']) ∧ Ints w' x' cs ∧ Ints w' y' ps) ∧ Below w1.heap.size w1 w') := fun x cx y cy w1 g1 g2 => by
        have := implFlip_ok k d Wd Hi x n cx y m cy cs L w1 g1 l4 l4' g2 hLl hokL
        rw [hLL] at this; exact this
      have HOX : Hid (∀ (x : Option Addr) (cx : Nat) (y : Option Addr) (cy : Nat) (w1 : World), Ints w1 x cs → Ints w1 y L → Calls Try.prog 13 #[.agg #[.int .i64 k, .int .i64 d, .int .i64 (Wd : Int), .int .i64 (Hi : Int), .slice x n cx, .slice y m cy]] w1 fun e w' => e = .returned (.bool true) ∧ Below w1.heap.size w1 w') := fun x cx y cy w1 g1 g2 => by
        have := impl_imageOk k d Wd Hi x n cx y m cy w1 cs L g1 l4 (by omega) g2 hLl (by omega)
        rw [hokL] at this; exact this
      have HAM : Hid (∀ (j : Nat) (w1 : World), j < Wd → Ints w1 a cs → Ints w1 b ps → Calls Try.prog 15 #[.agg #[.int .i64 k, .int .i64 d, .int .i64 (Wd : Int), .int .i64 (Hi : Int), .slice a n c, .slice b m cc], .int .i64 (j : Int), .int .i64 0] w1 fun e w' => e = .returned (.tuple #[.int .i64 (ps.getD j 0), .bool true]) ∧ Below w1.heap.size w1 w') := fun j w1 hj g1 g2 => by
        have := implAt_ok k d Wd Hi j 0 a n c b m cc cs ps w1 g1 l4 l4' g2 l5 l5' hok hj (by omega)
        rw [show 0 * Wd + j = j by omega] at this; exact this
      have HAX : Hid (∀ (j : Nat) (x : Option Addr) (cx : Nat) (y : Option Addr) (cy : Nat) (w1 : World), j < Wd → Ints w1 x cs → Ints w1 y L → Calls Try.prog 15 #[.agg #[.int .i64 k, .int .i64 d, .int .i64 (Wd : Int), .int .i64 (Hi : Int), .slice x n cx, .slice y m cy], .int .i64 (j : Int), .int .i64 ((Hi : Int) - 1)] w1 fun e w' => e = .returned (.tuple #[.int .i64 (ps.getD j 0), .bool true]) ∧ Below w1.heap.size w1 w') := fun j x cx y cy w1 hj g1 g2 => by
        have := implAt_ok k d Wd Hi j (Hi - 1) x n cx y m cy cs L w1 g1 l4 l4' g2 hLl (by omega) hokL hj (by omega)
        rw [hL, flipL_at ps hj (by omega), show (Hi - 1 - (Hi - 1)) * Wd + j = j by simp, show ((Hi - 1 : Nat) : Int) = (Hi : Int) - 1 by omega] at this; exact this
      have HWP : Hid (∀ (x : Option Addr) (cx : Nat) (y : Option Addr) (cy : Nat) (x' : Option Addr) (cx' : Nat) (y' : Option Addr) (cy' : Nat) (w1 : World), Ints w1 x cs → Ints w1 y ps → Ints w1 x' cs → Ints w1 y' ps → Calls Try.prog 11 #[.agg #[.int .i64 k, .int .i64 d, .int .i64 (Wd : Int), .int .i64 (Hi : Int), .slice x n cx, .slice y m cy], .agg #[.int .i64 k, .int .i64 d, .int .i64 (Wd : Int), .int .i64 (Hi : Int), .slice x' n cx', .slice y' m cy']] w1 fun e w' => e = .returned (.bool true) ∧ Below w1.heap.size w1 w') := fun x cx y cy x' cx' y' cy' w1 => wiImage_same k d Wd Hi n m cs ps l4 l5 (by omega) (by omega) x cx y cy x' cx' y' cy' w1
      have HOI : Hid (∀ w1 : World, Ints w1 a cs → Ints w1 b ps → Calls Try.prog 13 #[.agg #[.int .i64 k, .int .i64 d, .int .i64 (Wd : Int), .int .i64 (Hi : Int), .slice a n c, .slice b m cc]] w1 fun e w' => e = .returned (.bool true) ∧ Below w1.heap.size w1 w') := fun w1 g1 g2 => by
        have := impl_imageOk k d (Wd : Int) (Hi : Int) a n c b m cc w1 cs ps g1 l4 (by omega) g2 l5 (by omega)
        rw [hok] at this; exact this
      have HOS : Hid (∀ w1 : World, Ints w1 a cs → Ints w1 b ps → Calls Try.prog 14 #[.agg #[.int .i64 k, .int .i64 d, .int .i64 (Wd : Int), .int .i64 (Hi : Int), .slice a n c, .slice b m cc]] w1 fun e w' => e = .returned (.bool true) ∧ Below w1.heap.size w1 w') := fun w1 g1 g2 => by
        have := spec_imageOk k d (Wd : Int) (Hi : Int) a n c b m cc w1 cs ps g1 l4 (by omega) g2 l5
        rw [hok] at this; exact this
      have HWI : Hid (∀ (x : Option Addr) (cx : Nat) (y : Option Addr) (cy : Nat) (x' : Option Addr) (cx' : Nat) (y' : Option Addr) (cy' : Nat) (w1 : World), Ints w1 x cs → Ints w1 y L → Ints w1 x' cs → Ints w1 y' L → Calls Try.prog 11 #[.agg #[.int .i64 k, .int .i64 d, .int .i64 (Wd : Int), .int .i64 (Hi : Int), .slice x n cx, .slice y m cy], .agg #[.int .i64 k, .int .i64 d, .int .i64 (Wd : Int), .int .i64 (Hi : Int), .slice x' n cx', .slice y' m cy']] w1 fun e w' => e = .returned (.bool true) ∧ Below w1.heap.size w1 w') := fun x cx y cy x' cx' y' cy' w1 => wiImage_same k d Wd Hi n m cs L l4 hLl (by omega) (by omega) x cx y cy x' cx' y' cy' w1
      have hW20 : Wd ≤ 20 := by omega
      have hH20 : 1 ≤ Hi ∧ Hi ≤ 20 := by omega
      clear hL hLl hokL hLL hm hWH hw hh hmm
      have P1 : Hid (PB (w1.alloc (.cells #[.int .i64 k, .int .i64 d, .int .i64 (Wd : Int), .int .i64 (Hi : Int), .slice a n c, .slice b m cc] 25)) w1.heap.size k d (Wd : Int) (Hi : Int) a n c cs b m cc ps) := pb_new i4.ints i5.ints
      have B1 : Hid (Below w.heap.size w (w1.alloc (.cells #[.int .i64 k, .int .i64 d, .int .i64 (Wd : Int), .int .i64 (Hi : Int), .slice a n c, .slice b m cc] 25))) := b1.alloc b1.size _
      clear i4 i5 l4 l5 l4' l5' k4 k5 bd b1 hok
      go_wp2_with fail
      refine (HIF.out _ P1.out.i4 P1.out.i5).mono ?_
      rintro e w2 ⟨⟨x, cx, y, cy, rfl, gx, gy⟩, b2⟩
      generalize w1.heap.size = MB at *
      have P2 : Hid (PB (w2.alloc (.cells #[.int .i64 k, .int .i64 d, .int .i64 (Wd : Int), .int .i64 (Hi : Int), .slice x n cx, .slice y m cy] 25)) MB k d (Wd : Int) (Hi : Int) a n c cs b m cc ps) := (P1.out.kept b2).kept ((Below.refl _ _).alloc (Nat.le_refl _) _)
      have X2 : Hid (PB (w2.alloc (.cells #[.int .i64 k, .int .i64 d, .int .i64 (Wd : Int), .int .i64 (Hi : Int), .slice x n cx, .slice y m cy] 25)) w2.heap.size k d (Wd : Int) (Hi : Int) x n cx cs y m cy L) := pb_new gx gy
      have B2 : Hid (Below w.heap.size w (w2.alloc (.cells #[.int .i64 k, .int .i64 d, .int .i64 (Wd : Int), .int .i64 (Hi : Int), .slice x n cx, .slice y m cy] 25))) := (B1.out.trans (b2.mono B1.out.size)).alloc (Nat.le_trans B1.out.size b2.size) _
      clear b2 P1 B1 HIF gx gy
      obtain ⟨m0, m1, m2, m3, m4, m5⟩ := P2.out.box
      obtain ⟨n0, n1, n2, n3, n4, n5⟩ := X2.out.box
      go_upto_region 5 with fail
      generalize hW3 : w2.alloc (.cells #[.int .i64 k, .int .i64 d, .int .i64 (Wd : Int), .int .i64 (Hi : Int), .slice x n cx, .slice y m cy] 25) = W3 at *
      clear hW3
      generalize w2.heap.size = XB at *
      have PD : Hid (PB W3.drew MB k d (Wd : Int) (Hi : Int) a n c cs b m cc ps) := P2.out.kept (Below.refl _ _).drew
      have XD : Hid (PB W3.drew XB k d (Wd : Int) (Hi : Int) x n cx cs y m cy L) := X2.out.kept (Below.refl _ _).drew
      have BD : Hid (Below w.heap.size w W3.drew) := B2.out.drew
      go_region_held3 (fun w' => w'.cell? ⟨MB, 0, none⟩ = some (.int .i64 k) ∧ w'.cell? ⟨MB, 1, none⟩ = some (.int .i64 d) ∧ w'.cell? ⟨MB, 2, none⟩ = some (.int .i64 (Wd : Int)) ∧ w'.cell? ⟨MB, 3, none⟩ = some (.int .i64 (Hi : Int)) ∧ w'.cell? ⟨MB, 4, none⟩ = some (.slice a n c) ∧ w'.cell? ⟨MB, 5, none⟩ = some (.slice b m cc) ∧ w'.cell? ⟨XB, 0, none⟩ = some (.int .i64 k) ∧ w'.cell? ⟨XB, 1, none⟩ = some (.int .i64 d) ∧ w'.cell? ⟨XB, 2, none⟩ = some (.int .i64 (Wd : Int)) ∧ w'.cell? ⟨XB, 3, none⟩ = some (.int .i64 (Hi : Int)) ∧ w'.cell? ⟨XB, 4, none⟩ = some (.slice x n cx) ∧ w'.cell? ⟨XB, 5, none⟩ = some (.slice y m cy)) (go_keep) (first | (go_at_call 12; refine (HSF.out _ PD.out.i4 PD.out.i5).mono ?_; rintro e w4 ⟨⟨x4, c4, y4, d4, rfl, gx4, gy4⟩, b4⟩; have G4 : Hid (Ints w4 x4 cs ∧ Ints w4 y4 L) := ⟨gx4, gy4⟩; clear gx4 gy4; have P4 : Hid (PB w4 MB k d (Wd : Int) (Hi : Int) a n c cs b m cc ps) := PD.out.kept b4; have X4 : Hid (PB w4 XB k d (Wd : Int) (Hi : Int) x n cx cs y m cy L) := XD.out.kept b4; have B4 : Hid (Below w.heap.size w w4) := BD.out.trans (b4.mono BD.out.size); obtain ⟨pa0, pa1, pa2, pa3, pa4, pa5⟩ := P4.out.box; obtain ⟨qa0, qa1, qa2, qa3, qa4, qa5⟩ := X4.out.box; clear b4) | (go_at_call 11; refine (HWI.out x cx y cy x4 c4 y4 d4 _ X4.out.i4 X4.out.i5 G4.out.1 G4.out.2).mono ?_; rintro e w5 ⟨rfl, b5⟩; have P5 : Hid (PB w5 MB k d (Wd : Int) (Hi : Int) a n c cs b m cc ps) := P4.out.kept b5; have X5 : Hid (PB w5 XB k d (Wd : Int) (Hi : Int) x n cx cs y m cy L) := X4.out.kept b5; have B5 : Hid (Below w.heap.size w w5) := B4.out.trans (b5.mono B4.out.size); obtain ⟨pb0, pb1, pb2, pb3, pb4, pb5⟩ := P5.out.box; obtain ⟨qb0, qb1, qb2, qb3, qb4, qb5⟩ := X5.out.box; clear b5) | (go_at_call 13; refine (HOI.out _ P5.out.i4 P5.out.i5).mono ?_; rintro e w6 ⟨rfl, b6⟩; have P6 : Hid (PB w6 MB k d (Wd : Int) (Hi : Int) a n c cs b m cc ps) := P5.out.kept b6; have X6 : Hid (PB w6 XB k d (Wd : Int) (Hi : Int) x n cx cs y m cy L) := X5.out.kept b6; have B6 : Hid (Below w.heap.size w w6) := B5.out.trans (b6.mono B5.out.size); obtain ⟨pc0, pc1, pc2, pc3, pc4, pc5⟩ := P6.out.box; obtain ⟨qc0, qc1, qc2, qc3, qc4, qc5⟩ := X6.out.box; clear b6) | (go_at_call 14; refine (HOS.out _ P6.out.i4 P6.out.i5).mono ?_; rintro e w7 ⟨rfl, b7⟩; have P7 : Hid (PB w7 MB k d (Wd : Int) (Hi : Int) a n c cs b m cc ps) := P6.out.kept b7; have X7 : Hid (PB w7 XB k d (Wd : Int) (Hi : Int) x n cx cs y m cy L) := X6.out.kept b7; have B7 : Hid (Below w.heap.size w w7) := B6.out.trans (b7.mono B6.out.size); obtain ⟨pd0, pd1, pd2, pd3, pd4, pd5⟩ := P7.out.box; obtain ⟨qd0, qd1, qd2, qd3, qd4, qd5⟩ := X7.out.box; clear b7))
      clear PD XD BD P2 X2 B2 P4 X4 B4 P5 X5 B5 P6 X6 B6 m0 m1 m2 m3 m4 m5 n0 n1 n2 n3 n4 n5 pa0 pa1 pa2 pa3 pa4 pa5 pb0 pb1 pb2 pb3 pb4 pb5 pc0 pc1 pc2 pc3 pc4 pc5 qa0 qa1 qa2 qa3 qa4 qa5 qb0 qb1 qb2 qb3 qb4 qb5 qc0 qc1 qc2 qc3 qc4 qc5 HSF HOI HWI G4
      go_wp2_with fail
      refine (HOS.out _ P7.out.i4 P7.out.i5).mono ?_
      rintro e w8 ⟨rfl, b8⟩
      have P8 : Hid (PB w8 MB k d (Wd : Int) (Hi : Int) a n c cs b m cc ps) := P7.out.kept b8
      have X8 : Hid (PB w8 XB k d (Wd : Int) (Hi : Int) x n cx cs y m cy L) := X7.out.kept b8
      have B8 : Hid (Below w.heap.size w w8) := B7.out.trans (b8.mono B7.out.size)
      clear b8 P7 X7 B7 pd0 pd1 pd2 pd3 pd4 pd5 qd0 qd1 qd2 qd3 qd4 qd5 HOS
      go_wp2_with fail
      go_loopw [5] (fun i wr => ∃ j : Nat, j ≤ Wd ∧ i = .int .i64 (j : Int) ∧ PB wr MB k d (Wd : Int) (Hi : Int) a n c cs b m cc ps ∧ PB wr XB k d (Wd : Int) (Hi : Int) x n cx cs y m cy L ∧ Below w.heap.size w wr) (fun i _ => Wd - (intOf i).toNat)
      case atStart => exact ⟨0, Nat.zero_le _, rfl, P8.out, X8.out, B8.out⟩
      case round =>
        obtain ⟨j, hj, rfl, hP, hX, hB⟩ := hrel
        clear P8 X8 B8
        have PR : Hid (PB wr MB k d (Wd : Int) (Hi : Int) a n c cs b m cc ps) := hP
        have XR : Hid (PB wr XB k d (Wd : Int) (Hi : Int) x n cx cs y m cy L) := hX
        have BR : Hid (Below w.heap.size w wr) := hB
        clear hP hX hB
        obtain ⟨m0, m1, m2, m3, m4, m5⟩ := PR.out.box
        obtain ⟨n0, n1, n2, n3, n4, n5⟩ := XR.out.box
        by_cases hlt : j < Wd
        · have hji : (j : Int) < (Wd : Int) := by omega
          have HAMj : Hid _ := fun w1 => HAM.out j w1 hlt
          have HAXj : Hid _ := fun w1 => HAX.out j x cx y cy w1 hlt
          generalize ps.getD j 0 = v at *
          go_wp2_with fail
          refine (HAMj.out _ PR.out.i4 PR.out.i5).mono ?_
          rintro e w9 ⟨rfl, b9⟩
          have P9 : Hid (PB w9 MB k d (Wd : Int) (Hi : Int) a n c cs b m cc ps) := PR.out.kept b9
          have X9 : Hid (PB w9 XB k d (Wd : Int) (Hi : Int) x n cx cs y m cy L) := XR.out.kept b9
          have B9 : Hid (Below w.heap.size w w9) := BR.out.trans (b9.mono BR.out.size)
          clear b9 PR XR BR m0 m1 m2 m3 m4 m5 n0 n1 n2 n3 n4 n5
          obtain ⟨m0, m1, m2, m3, m4, m5⟩ := P9.out.box
          obtain ⟨n0, n1, n2, n3, n4, n5⟩ := X9.out.box
          go_wp2_with fail
          refine (HAXj.out _ X9.out.i4 X9.out.i5).mono ?_
          rintro e wa ⟨rfl, ba⟩
          have HF : Hid (PB wa MB k d (Wd : Int) (Hi : Int) a n c cs b m cc ps ∧ PB wa XB k d (Wd : Int) (Hi : Int) x n cx cs y m cy L ∧ Below w.heap.size w wa) := ⟨P9.out.kept ba, X9.out.kept ba, B9.out.trans (ba.mono B9.out.size)⟩
          clear ba P9 X9 B9 m0 m1 m2 m3 m4 m5 n0 n1 n2 n3 n4 n5
          go_wp2_with fail
          go_roundw
          case rel => exact ⟨j + 1, by omega, by go_num, HF.out⟩
          case measure => simp [intOf]; omega
        · have hji : ¬ (j : Int) < (Wd : Int) := by omega
          have PD : Hid (PB wr.drew MB k d (Wd : Int) (Hi : Int) a n c cs b m cc ps) := PR.out.kept (Below.refl _ _).drew
          have XD : Hid (PB wr.drew XB k d (Wd : Int) (Hi : Int) x n cx cs y m cy L) := XR.out.kept (Below.refl _ _).drew
          have BD : Hid (Below w.heap.size w wr.drew) := BR.out.drew
          go_wp2_with fail
          go_region_held3 (fun w' => w'.cell? ⟨MB, 0, none⟩ = some (.int .i64 k) ∧ w'.cell? ⟨MB, 1, none⟩ = some (.int .i64 d) ∧ w'.cell? ⟨MB, 2, none⟩ = some (.int .i64 (Wd : Int)) ∧ w'.cell? ⟨MB, 3, none⟩ = some (.int .i64 (Hi : Int)) ∧ w'.cell? ⟨MB, 4, none⟩ = some (.slice a n c) ∧ w'.cell? ⟨MB, 5, none⟩ = some (.slice b m cc) ∧ w'.cell? ⟨XB, 0, none⟩ = some (.int .i64 k) ∧ w'.cell? ⟨XB, 1, none⟩ = some (.int .i64 d) ∧ w'.cell? ⟨XB, 2, none⟩ = some (.int .i64 (Wd : Int)) ∧ w'.cell? ⟨XB, 3, none⟩ = some (.int .i64 (Hi : Int)) ∧ w'.cell? ⟨XB, 4, none⟩ = some (.slice x n cx) ∧ w'.cell? ⟨XB, 5, none⟩ = some (.slice y m cy)) (go_keep) (first | (go_at_call 13; refine (HOX.out x cx y cy _ XD.out.i4 XD.out.i5).mono ?_; rintro e w4 ⟨rfl, b4⟩; have P4 : Hid (PB w4 MB k d (Wd : Int) (Hi : Int) a n c cs b m cc ps) := PD.out.kept b4; have X4 : Hid (PB w4 XB k d (Wd : Int) (Hi : Int) x n cx cs y m cy L) := XD.out.kept b4; have B4 : Hid (Below w.heap.size w w4) := BD.out.trans (b4.mono BD.out.size); obtain ⟨pa0, pa1, pa2, pa3, pa4, pa5⟩ := P4.out.box; obtain ⟨qa0, qa1, qa2, qa3, qa4, qa5⟩ := X4.out.box; clear b4) | (go_at_call 10; refine (HIB.out x cx y cy _ X4.out.i4 X4.out.i5).mono ?_; rintro e w5 ⟨⟨x5, c5, y5, d5, rfl, gx5, gy5⟩, b5⟩; have G5 : Hid (Ints w5 x5 cs ∧ Ints w5 y5 ps) := ⟨gx5, gy5⟩; clear gx5 gy5; have P5 : Hid (PB w5 MB k d (Wd : Int) (Hi : Int) a n c cs b m cc ps) := P4.out.kept b5; have X5 : Hid (PB w5 XB k d (Wd : Int) (Hi : Int) x n cx cs y m cy L) := X4.out.kept b5; have B5 : Hid (Below w.heap.size w w5) := B4.out.trans (b5.mono B4.out.size); obtain ⟨pb0, pb1, pb2, pb3, pb4, pb5⟩ := P5.out.box; obtain ⟨qb0, qb1, qb2, qb3, qb4, qb5⟩ := X5.out.box; clear b5) | (go_at_call 11; refine (HWP.out x5 c5 y5 d5 a c b cc _ G5.out.1 G5.out.2 P5.out.i4 P5.out.i5).mono ?_; rintro e w6 ⟨rfl, b6⟩; have P6 : Hid (PB w6 MB k d (Wd : Int) (Hi : Int) a n c cs b m cc ps) := P5.out.kept b6; have X6 : Hid (PB w6 XB k d (Wd : Int) (Hi : Int) x n cx cs y m cy L) := X5.out.kept b6; have B6 : Hid (Below w.heap.size w w6) := B5.out.trans (b6.mono B5.out.size); obtain ⟨pc0, pc1, pc2, pc3, pc4, pc5⟩ := P6.out.box; obtain ⟨qc0, qc1, qc2, qc3, qc4, qc5⟩ := X6.out.box; clear b6))
          all_goals go_wp2_with fail
          all_goals go_ret
          all_goals exact ⟨rfl, B6.out⟩
end Go.Proofs.Ytgeepemhmkoknaa
