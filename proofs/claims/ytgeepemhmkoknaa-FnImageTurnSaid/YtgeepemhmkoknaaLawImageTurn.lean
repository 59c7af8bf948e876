/- The law on pictures turned to the right, walked. -/
import Derived.Test.YtgeepemhmkoknaaTurnMath
import Derived.Test.YtgeepemhmkoknaaDrawImg
namespace Go.Proofs.Ytgeepemhmkoknaa
open Go.RowKit

set_option maxHeartbeats 8000000 in
set_option maxRecDepth 20000 in
theorem lawImageTurn (ra : Option Addr) (len cap : Nat) (w : World) (h : Code8 w ra len cap) :
    Calls Try.prog 4 #[.slice ra len cap] w fun e w' => e = .returned (.bool true) ∧ Below w.heap.size w w' := by
  by_cases hbig : 1048576 < len
  · have hc := h.2.1
    have hc1 := h.1
    unfold maxLen at hc
    clear h
    go_enter Try.func4, Try.ntmps4
    go_wp2_with fail
    go_ret
    exact ⟨rfl, Below.refl _ _⟩
  · go_enter Try.func4, Try.ntmps4
    go_wp2_with fail
    refine (drawImageTurn_any ra len cap w h).mono ?_
    rintro e w1 ⟨⟨k, d, wd, hi, a, n, c, cs, b, m, cc, ps, rfl, i4, l4, l4', k4, i5, l5, l5', k5, bd⟩, b1⟩
    clear h
    rcases hok : Im.okB k d wd hi cs ps with _ | _
    · have HT1 : Hid (∀ w1 : World, Ints w1 a cs → Ints w1 b ps → Calls Try.prog 17 #[.agg #[.int .i64 k, .int .i64 d, .int .i64 wd, .int .i64 hi, .slice a n c, .slice b m cc]] w1 fun e w' => e = .returned (.agg #[.int .i64 0, .int .i64 0, .int .i64 0, .int .i64 0, .slice none 0 0, .slice none 0 0]) ∧ Below w1.heap.size w1 w') := fun w1 g1 g2 => implTurn_bad k d wd hi a n c b m cc cs ps w1 g1 l4 l4' g2 l5 l5' hok
      have HSF : Hid (∀ w1 : World, Ints w1 a cs → Ints w1 b ps → Calls Try.prog 18 #[.agg #[.int .i64 k, .int .i64 d, .int .i64 wd, .int .i64 hi, .slice a n c, .slice b m cc]] w1 fun e w' => e = .returned (.agg #[.int .i64 0, .int .i64 0, .int .i64 0, .int .i64 0, .slice none 0 0, .slice none 0 0]) ∧ Below w1.heap.size w1 w') := fun w1 g1 g2 => specTurn_bad k d wd hi a n c b m cc cs ps w1 g1 l4 l4' g2 l5 hok
      have HWI : Hid (∀ (w1 : World), Calls Try.prog 11 #[.agg #[.int .i64 0, .int .i64 0, .int .i64 0, .int .i64 0, .slice none 0 0, .slice none 0 0], .agg #[.int .i64 0, .int .i64 0, .int .i64 0, .int .i64 0, .slice none 0 0, .slice none 0 0]] w1 fun e w' => e = .returned (.bool true) ∧ Below w1.heap.size w1 w') := fun w1 => wiImage_same 0 0 0 0 0 0 [] [] rfl rfl (by omega) (by omega) none 0 none 0 none 0 none 0 w1 (.inl rfl) (.inl rfl) (.inl rfl) (.inl rfl)
      have HOI : Hid (∀ w1 : World, Ints w1 a cs → Ints w1 b ps → Calls Try.prog 13 #[.agg #[.int .i64 k, .int .i64 d, .int .i64 wd, .int .i64 hi, .slice a n c, .slice b m cc]] w1 fun e w' => e = .returned (.bool false) ∧ Below w1.heap.size w1 w') := fun w1 g1 g2 => by
        have := impl_imageOk k d wd hi a n c b m cc w1 cs ps g1 l4 (by omega) g2 l5 (by omega)
        rw [hok] at this; exact this
      have HOS : Hid (∀ w1 : World, Ints w1 a cs → Ints w1 b ps → Calls Try.prog 14 #[.agg #[.int .i64 k, .int .i64 d, .int .i64 wd, .int .i64 hi, .slice a n c, .slice b m cc]] w1 fun e w' => e = .returned (.bool false) ∧ Below w1.heap.size w1 w') := fun w1 g1 g2 => by
        have := spec_imageOk k d wd hi a n c b m cc w1 cs ps g1 l4 (by omega) g2 l5
        rw [hok] at this; exact this
      have M1 : Hid (PB (w1.alloc (.cells #[.int .i64 k, .int .i64 d, .int .i64 wd, .int .i64 hi, .slice a n c, .slice b m cc] 25)) w1.heap.size k d wd hi a n c cs b m cc ps) := pb_new i4.ints i5.ints
      have B1 : Hid (Below w.heap.size w (w1.alloc (.cells #[.int .i64 k, .int .i64 d, .int .i64 wd, .int .i64 hi, .slice a n c, .slice b m cc] 25))) := b1.alloc b1.size _
      clear i4 i5 l4 l5 l4' k4 k5 bd b1 hok
      go_wp2_with fail
      refine (HT1.out _ M1.out.i4 M1.out.i5).mono ?_
      rintro e w2 ⟨rfl, b2⟩
      generalize w1.heap.size = MB at *
      have M2 : Hid (PB (w2.alloc (.cells #[.int .i64 0, .int .i64 0, .int .i64 0, .int .i64 0, .slice none 0 0, .slice none 0 0] 25)) MB k d wd hi a n c cs b m cc ps) := (M1.out.kept b2).kept ((Below.refl _ _).alloc (Nat.le_refl _) _)
      have X2 : Hid (PB (w2.alloc (.cells #[.int .i64 0, .int .i64 0, .int .i64 0, .int .i64 0, .slice none 0 0, .slice none 0 0] 25)) w2.heap.size 0 0 0 0 none 0 0 [] none 0 0 []) := pb_new (.inl rfl) (.inl rfl)
      have B2 : Hid (Below w.heap.size w (w2.alloc (.cells #[.int .i64 0, .int .i64 0, .int .i64 0, .int .i64 0, .slice none 0 0, .slice none 0 0] 25))) := (B1.out.trans (b2.mono B1.out.size)).alloc (Nat.le_trans B1.out.size b2.size) _
      clear b2 M1 B1 HT1 
      obtain ⟨m20, m21, m22, m23, m24, m25⟩ := M2.out.box
      obtain ⟨x20, x21, x22, x23, x24, x25⟩ := X2.out.box
      go_upto_region 5 with fail
      generalize hW3 : w2.alloc (.cells #[.int .i64 0, .int .i64 0, .int .i64 0, .int .i64 0, .slice none 0 0, .slice none 0 0] 25) = W3 at *
      clear hW3
      generalize w2.heap.size = XB at *
      have M3 : Hid (PB W3.drew MB k d wd hi a n c cs b m cc ps) := M2.out.kept (Below.refl _ _).drew
      have X3 : Hid (PB W3.drew XB 0 0 0 0 none 0 0 [] none 0 0 []) := X2.out.kept (Below.refl _ _).drew
      have B3 : Hid (Below w.heap.size w W3.drew) := B2.out.drew
      go_region_held3 (fun w' => w'.cell? ⟨MB, 0, none⟩ = some (.int .i64 k) ∧ w'.cell? ⟨MB, 1, none⟩ = some (.int .i64 d) ∧ w'.cell? ⟨MB, 2, none⟩ = some (.int .i64 wd) ∧ w'.cell? ⟨MB, 3, none⟩ = some (.int .i64 hi) ∧ w'.cell? ⟨MB, 4, none⟩ = some (.slice a n c) ∧ w'.cell? ⟨MB, 5, none⟩ = some (.slice b m cc) ∧ w'.cell? ⟨XB, 0, none⟩ = some (.int .i64 0) ∧ w'.cell? ⟨XB, 1, none⟩ = some (.int .i64 0) ∧ w'.cell? ⟨XB, 2, none⟩ = some (.int .i64 0) ∧ w'.cell? ⟨XB, 3, none⟩ = some (.int .i64 0) ∧ w'.cell? ⟨XB, 4, none⟩ = some (.slice none 0 0) ∧ w'.cell? ⟨XB, 5, none⟩ = some (.slice none 0 0)) (go_keep) (first | (go_at_call 14; refine (HOS.out _ M7.out.i4 M7.out.i5).mono ?_; rintro e w8 ⟨rfl, b8⟩; have M8 : Hid (PB w8 MB k d wd hi a n c cs b m cc ps) := M7.out.kept b8; have X8 : Hid (PB w8 XB 0 0 0 0 none 0 0 [] none 0 0 []) := X7.out.kept b8; have B8 : Hid (Below w.heap.size w w8) := B7.out.trans (b8.mono B7.out.size); obtain ⟨m80, m81, m82, m83, m84, m85⟩ := M8.out.box; obtain ⟨x80, x81, x82, x83, x84, x85⟩ := X8.out.box; clear b8) | (go_at_call 14; refine (HOS.out _ M6.out.i4 M6.out.i5).mono ?_; rintro e w7 ⟨rfl, b7⟩; have M7 : Hid (PB w7 MB k d wd hi a n c cs b m cc ps) := M6.out.kept b7; have X7 : Hid (PB w7 XB 0 0 0 0 none 0 0 [] none 0 0 []) := X6.out.kept b7; have B7 : Hid (Below w.heap.size w w7) := B6.out.trans (b7.mono B6.out.size); obtain ⟨m70, m71, m72, m73, m74, m75⟩ := M7.out.box; obtain ⟨x70, x71, x72, x73, x74, x75⟩ := X7.out.box; clear b7) | (go_at_call 13; refine (HOI.out _ M5.out.i4 M5.out.i5).mono ?_; rintro e w6 ⟨rfl, b6⟩; have M6 : Hid (PB w6 MB k d wd hi a n c cs b m cc ps) := M5.out.kept b6; have X6 : Hid (PB w6 XB 0 0 0 0 none 0 0 [] none 0 0 []) := X5.out.kept b6; have B6 : Hid (Below w.heap.size w w6) := B5.out.trans (b6.mono B5.out.size); obtain ⟨m60, m61, m62, m63, m64, m65⟩ := M6.out.box; obtain ⟨x60, x61, x62, x63, x64, x65⟩ := X6.out.box; clear b6) | (go_at_call 11; refine (HWI.out _).mono ?_; rintro e w5 ⟨rfl, b5⟩; have M5 : Hid (PB w5 MB k d wd hi a n c cs b m cc ps) := M4.out.kept b5; have X5 : Hid (PB w5 XB 0 0 0 0 none 0 0 [] none 0 0 []) := X4.out.kept b5; have B5 : Hid (Below w.heap.size w w5) := B4.out.trans (b5.mono B4.out.size); obtain ⟨m50, m51, m52, m53, m54, m55⟩ := M5.out.box; obtain ⟨x50, x51, x52, x53, x54, x55⟩ := X5.out.box; clear b5) | (go_at_call 18; refine (HSF.out _ M3.out.i4 M3.out.i5).mono ?_; rintro e w4 ⟨rfl, b4⟩; have M4 : Hid (PB w4 MB k d wd hi a n c cs b m cc ps) := M3.out.kept b4; have X4 : Hid (PB w4 XB 0 0 0 0 none 0 0 [] none 0 0 []) := X3.out.kept b4; have B4 : Hid (Below w.heap.size w w4) := B3.out.trans (b4.mono B3.out.size); obtain ⟨m40, m41, m42, m43, m44, m45⟩ := M4.out.box; obtain ⟨x40, x41, x42, x43, x44, x45⟩ := X4.out.box; clear b4))
      clear M2 X2 B2 M3 X3 B3 M4 X4 B4 M5 X5 B5 M6 X6 B6 M7 X7 B7 m20 m21 m22 m23 m24 m25 m40 m41 m42 m43 m44 m45 m50 m51 m52 m53 m54 m55 m60 m61 m62 m63 m64 m65 m70 m71 m72 m73 m74 m75 x20 x21 x22 x23 x24 x25 x40 x41 x42 x43 x44 x45 x50 x51 x52 x53 x54 x55 x60 x61 x62 x63 x64 x65 x70 x71 x72 x73 x74 x75
      have M9 : Hid (PB w8.drew MB k d wd hi a n c cs b m cc ps) := M8.out.kept (Below.refl _ _).drew
      have X9 : Hid (PB w8.drew XB 0 0 0 0 none 0 0 [] none 0 0 []) := X8.out.kept (Below.refl _ _).drew
      have B9 : Hid (Below w.heap.size w w8.drew) := B8.out.drew
      go_wp2_with fail
      go_region_held3 (fun w' => w'.cell? ⟨MB, 0, none⟩ = some (.int .i64 k) ∧ w'.cell? ⟨MB, 1, none⟩ = some (.int .i64 d) ∧ w'.cell? ⟨MB, 2, none⟩ = some (.int .i64 wd) ∧ w'.cell? ⟨MB, 3, none⟩ = some (.int .i64 hi) ∧ w'.cell? ⟨MB, 4, none⟩ = some (.slice a n c) ∧ w'.cell? ⟨MB, 5, none⟩ = some (.slice b m cc) ∧ w'.cell? ⟨XB, 0, none⟩ = some (.int .i64 0) ∧ w'.cell? ⟨XB, 1, none⟩ = some (.int .i64 0) ∧ w'.cell? ⟨XB, 2, none⟩ = some (.int .i64 0) ∧ w'.cell? ⟨XB, 3, none⟩ = some (.int .i64 0) ∧ w'.cell? ⟨XB, 4, none⟩ = some (.slice none 0 0) ∧ w'.cell? ⟨XB, 5, none⟩ = some (.slice none 0 0)) (go_keep) (first | (go_at_call 14; refine (HOS.out _ M12.out.i4 M12.out.i5).mono ?_; rintro e w13 ⟨rfl, b13⟩; have M13 : Hid (PB w13 MB k d wd hi a n c cs b m cc ps) := M12.out.kept b13; have X13 : Hid (PB w13 XB 0 0 0 0 none 0 0 [] none 0 0 []) := X12.out.kept b13; have B13 : Hid (Below w.heap.size w w13) := B12.out.trans (b13.mono B12.out.size); obtain ⟨m130, m131, m132, m133, m134, m135⟩ := M13.out.box; obtain ⟨x130, x131, x132, x133, x134, x135⟩ := X13.out.box; clear b13) | (go_at_call 13; refine (HOI.out _ M11.out.i4 M11.out.i5).mono ?_; rintro e w12 ⟨rfl, b12⟩; have M12 : Hid (PB w12 MB k d wd hi a n c cs b m cc ps) := M11.out.kept b12; have X12 : Hid (PB w12 XB 0 0 0 0 none 0 0 [] none 0 0 []) := X11.out.kept b12; have B12 : Hid (Below w.heap.size w w12) := B11.out.trans (b12.mono B11.out.size); obtain ⟨m120, m121, m122, m123, m124, m125⟩ := M12.out.box; obtain ⟨x120, x121, x122, x123, x124, x125⟩ := X12.out.box; clear b12) | (go_at_call 11; refine (HWI.out _).mono ?_; rintro e w11 ⟨rfl, b11⟩; have M11 : Hid (PB w11 MB k d wd hi a n c cs b m cc ps) := M10.out.kept b11; have X11 : Hid (PB w11 XB 0 0 0 0 none 0 0 [] none 0 0 []) := X10.out.kept b11; have B11 : Hid (Below w.heap.size w w11) := B10.out.trans (b11.mono B10.out.size); obtain ⟨m110, m111, m112, m113, m114, m115⟩ := M11.out.box; obtain ⟨x110, x111, x112, x113, x114, x115⟩ := X11.out.box; clear b11) | (go_at_call 18; refine (HSF.out _ M9.out.i4 M9.out.i5).mono ?_; rintro e w10 ⟨rfl, b10⟩; have M10 : Hid (PB w10 MB k d wd hi a n c cs b m cc ps) := M9.out.kept b10; have X10 : Hid (PB w10 XB 0 0 0 0 none 0 0 [] none 0 0 []) := X9.out.kept b10; have B10 : Hid (Below w.heap.size w w10) := B9.out.trans (b10.mono B9.out.size); obtain ⟨m100, m101, m102, m103, m104, m105⟩ := M10.out.box; obtain ⟨x100, x101, x102, x103, x104, x105⟩ := X10.out.box; clear b10))
      all_goals go_wp2_with fail
      all_goals go_ret
      all_goals exact ⟨rfl, B13.out⟩
    · obtain ⟨_, hw, hh, _, hmm, _⟩ := ok_open hok
      obtain ⟨Wd, rfl⟩ := Int.eq_ofNat_of_zero_le (show 0 ≤ wd by omega)
      obtain ⟨Hi, rfl⟩ := Int.eq_ofNat_of_zero_le (show 0 ≤ hi by omega)
      have hWH : ((Wd * Hi : Nat) : Int) = (Wd : Int) * (Hi : Int) := by simp
      have hm : m = Wd * Hi := by omega
      have hm1 : 1 ≤ m := by rw [hm]; exact Nat.mul_pos (by omega) (by omega)
      obtain ⟨L, hL⟩ : ∃ L, L = turnL Wd Hi ps := ⟨_, rfl⟩
      obtain ⟨L2, hL2⟩ : ∃ L2, L2 = turnL Hi Wd L := ⟨_, rfl⟩
      obtain ⟨L3, hL3⟩ : ∃ L3, L3 = turnL Wd Hi L2 := ⟨_, rfl⟩
      have hL4 : turnL Hi Wd L3 = ps := by rw [hL3, hL2, hL]; exact turn4 (by omega)
      have hl1 : L.length = m := by rw [hL, turnL_len, hm, Nat.mul_comm]
      have hl2 : L2.length = m := by rw [hL2, turnL_len, hm]
      have hl3 : L3.length = m := by rw [hL3, turnL_len, hm, Nat.mul_comm]
      have ok1 : Im.okB k d Hi Wd cs L = true := by rw [hL]; exact ok_turn hok
      have ok2 : Im.okB k d Wd Hi cs L2 = true := by rw [hL2]; exact ok_turn ok1
      have ok3 : Im.okB k d Hi Wd cs L3 = true := by rw [hL3]; exact ok_turn ok2
      have HR : Hid (∀ j, j < m → L2.getD (m - 1 - j) 0 = ps.getD j 0) := fun j hj => by
        rw [hL2, hL, turn2_at _ (by omega), hm]; congr 1; omega
      have HT1 : Hid (∀ (x : Option Addr) (cx : Nat) (y : Option Addr) (cy : Nat) (w1 : World), Ints w1 x cs → Ints w1 y ps → Calls Try.prog 17 #[.agg #[.int .i64 k, .int .i64 d, .int .i64 (Wd : Int), .int .i64 (Hi : Int), .slice x n cx, .slice y m cy]] w1 fun e w' => (∃ x' cx' y' cy', e = .returned (.agg #[.int .i64 k, .int .i64 d, .int .i64 (Hi : Int), .int .i64 (Wd : Int), .slice x' n cx', .slice y' m cy']) ∧ Ints w' x' cs ∧ Ints w' y' L) ∧ Below w1.heap.size w1 w') := fun x cx y cy w1 g1 g2 => by
        have := implTurn_ok k d Wd Hi x n cx y m cy cs ps w1 g1 l4 l4' g2 l5 hok
        rw [← hL] at this; exact this
      have HT2 : Hid (∀ (x : Option Addr) (cx : Nat) (y : Option Addr) (cy : Nat) (w1 : World), Ints w1 x cs → Ints w1 y L → Calls Try.prog 17 #[.agg #[.int .i64 k, .int .i64 d, .int .i64 (Hi : Int), .int .i64 (Wd : Int), .slice x n cx, .slice y m cy]] w1 fun e w' => (∃ x' cx' y' cy', e = .returned (.agg #[.int .i64 k, .int .i64 d, .int .i64 (Wd : Int), .int .i64 (Hi : Int), .slice x' n cx', .slice y' m cy']) ∧ Ints w' x' cs ∧ Ints w' y' L2) ∧ Below w1.heap.size w1 w') := fun x cx y cy w1 g1 g2 => by
        have := implTurn_ok k d Hi Wd x n cx y m cy cs L w1 g1 l4 l4' g2 hl1 ok1
        rw [← hL2] at this; exact this
      have HT3 : Hid (∀ (x : Option Addr) (cx : Nat) (y : Option Addr) (cy : Nat) (w1 : World), Ints w1 x cs → Ints w1 y L2 → Calls Try.prog 17 #[.agg #[.int .i64 k, .int .i64 d, .int .i64 (Wd : Int), .int .i64 (Hi : Int), .slice x n cx, .slice y m cy]] w1 fun e w' => (∃ x' cx' y' cy', e = .returned (.agg #[.int .i64 k, .int .i64 d, .int .i64 (Hi : Int), .int .i64 (Wd : Int), .slice x' n cx', .slice y' m cy']) ∧ Ints w' x' cs ∧ Ints w' y' L3) ∧ Below w1.heap.size w1 w') := fun x cx y cy w1 g1 g2 => by
        have := implTurn_ok k d Wd Hi x n cx y m cy cs L2 w1 g1 l4 l4' g2 hl2 ok2
        rw [← hL3] at this; exact this
      have HT4 : Hid (∀ (x : Option Addr) (cx : Nat) (y : Option Addr) (cy : Nat) (w1 : World), Ints w1 x cs → Ints w1 y L3 → Calls Try.prog 17 #[.agg #[.int .i64 k, .int .i64 d, .int .i64 (Hi : Int), .int .i64 (Wd : Int), .slice x n cx, .slice y m cy]] w1 fun e w' => (∃ x' cx' y' cy', e = .returned (.agg #[.int .i64 k, .int .i64 d, .int .i64 (Wd : Int), .int .i64 (Hi : Int), .slice x' n cx', .slice y' m cy']) ∧ Ints w' x' cs ∧ Ints w' y' ps) ∧ Below w1.heap.size w1 w') := fun x cx y cy w1 g1 g2 => by
        have := implTurn_ok k d Hi Wd x n cx y m cy cs L3 w1 g1 l4 l4' g2 hl3 ok3
        rw [hL4] at this; exact this
      have HSF : Hid (∀ w1 : World, Ints w1 a cs → Ints w1 b ps → Calls Try.prog 18 #[.agg #[.int .i64 k, .int .i64 d, .int .i64 (Wd : Int), .int .i64 (Hi : Int), .slice a n c, .slice b m cc]] w1 fun e w' => (∃ x' cx' y' cy', e = .returned (.agg #[.int .i64 k, .int .i64 d, .int .i64 (Hi : Int), .int .i64 (Wd : Int), .slice x' n cx', .slice y' m cy']) ∧ Ints w' x' cs ∧ Ints w' y' L) ∧ Below w1.heap.size w1 w') := fun w1 g1 g2 => by rw [hL]; exact specTurn_ok k d Wd Hi a n c b m cc cs ps w1 g1 l4 l4' g2 l5 k5 hok
      have HWI : Hid (∀ (x : Option Addr) (cx : Nat) (y : Option Addr) (cy : Nat) (x' : Option Addr) (cx' : Nat) (y' : Option Addr) (cy' : Nat) (w1 : World), Ints w1 x cs → Ints w1 y L → Ints w1 x' cs → Ints w1 y' L → Calls Try.prog 11 #[.agg #[.int .i64 k, .int .i64 d, .int .i64 (Hi : Int), .int .i64 (Wd : Int), .slice x n cx, .slice y m cy], .agg #[.int .i64 k, .int .i64 d, .int .i64 (Hi : Int), .int .i64 (Wd : Int), .slice x' n cx', .slice y' m cy']] w1 fun e w' => e = .returned (.bool true) ∧ Below w1.heap.size w1 w') := fun x cx y cy x' cx' y' cy' w1 => wiImage_same k d Hi Wd n m cs L l4 hl1 (by omega) (by omega) x cx y cy x' cx' y' cy' w1
      have HWP : Hid (∀ (x : Option Addr) (cx : Nat) (y : Option Addr) (cy : Nat) (x' : Option Addr) (cx' : Nat) (y' : Option Addr) (cy' : Nat) (w1 : World), Ints w1 x cs → Ints w1 y ps → Ints w1 x' cs → Ints w1 y' ps → Calls Try.prog 11 #[.agg #[.int .i64 k, .int .i64 d, .int .i64 (Wd : Int), .int .i64 (Hi : Int), .slice x n cx, .slice y m cy], .agg #[.int .i64 k, .int .i64 d, .int .i64 (Wd : Int), .int .i64 (Hi : Int), .slice x' n cx', .slice y' m cy']] w1 fun e w' => e = .returned (.bool true) ∧ Below w1.heap.size w1 w') := fun x cx y cy x' cx' y' cy' w1 => wiImage_same k d Wd Hi n m cs ps l4 l5 (by omega) (by omega) x cx y cy x' cx' y' cy' w1
      have HOX : Hid (∀ (x : Option Addr) (cx : Nat) (y : Option Addr) (cy : Nat) (w1 : World), Ints w1 x cs → Ints w1 y L → Calls Try.prog 13 #[.agg #[.int .i64 k, .int .i64 d, .int .i64 (Hi : Int), .int .i64 (Wd : Int), .slice x n cx, .slice y m cy]] w1 fun e w' => e = .returned (.bool true) ∧ Below w1.heap.size w1 w') := fun x cx y cy w1 g1 g2 => by
        have := impl_imageOk k d Hi Wd x n cx y m cy w1 cs L g1 l4 (by omega) g2 hl1 (by omega)
        rw [ok1] at this; exact this
      have HOI : Hid (∀ w1 : World, Ints w1 a cs → Ints w1 b ps → Calls Try.prog 13 #[.agg #[.int .i64 k, .int .i64 d, .int .i64 (Wd : Int), .int .i64 (Hi : Int), .slice a n c, .slice b m cc]] w1 fun e w' => e = .returned (.bool true) ∧ Below w1.heap.size w1 w') := fun w1 g1 g2 => by
        have := impl_imageOk k d (Wd : Int) (Hi : Int) a n c b m cc w1 cs ps g1 l4 (by omega) g2 l5 (by omega)
        rw [hok] at this; exact this
      have HOS : Hid (∀ w1 : World, Ints w1 a cs → Ints w1 b ps → Calls Try.prog 14 #[.agg #[.int .i64 k, .int .i64 d, .int .i64 (Wd : Int), .int .i64 (Hi : Int), .slice a n c, .slice b m cc]] w1 fun e w' => e = .returned (.bool true) ∧ Below w1.heap.size w1 w') := fun w1 g1 g2 => by
        have := spec_imageOk k d (Wd : Int) (Hi : Int) a n c b m cc w1 cs ps g1 l4 (by omega) g2 l5
        rw [hok] at this; exact this
      have HLN : Hid (L2.length = m ∧ ps.length = m) := ⟨hl2, l5⟩
      clear hL hL2 hL3 hL4 hl1 hl2 hl3 ok1 ok2 ok3 hm hWH hw hh hmm
      have M1 : Hid (PB (w1.alloc (.cells #[.int .i64 k, .int .i64 d, .int .i64 (Wd : Int), .int .i64 (Hi : Int), .slice a n c, .slice b m cc] 25)) w1.heap.size k d (Wd : Int) (Hi : Int) a n c cs b m cc ps) := pb_new i4.ints i5.ints
      have B1 : Hid (Below w.heap.size w (w1.alloc (.cells #[.int .i64 k, .int .i64 d, .int .i64 (Wd : Int), .int .i64 (Hi : Int), .slice a n c, .slice b m cc] 25))) := b1.alloc b1.size _
      clear i4 i5 l4 l5 l4' k4 k5 bd b1 hok
      go_wp2_with fail
      refine (HT1.out _ _ _ _ _ M1.out.i4 M1.out.i5).mono ?_
      rintro e w2 ⟨⟨x, cx, y, cy, rfl, gx, gy⟩, b2⟩
      generalize w1.heap.size = MB at *
      have M2 : Hid (PB (w2.alloc (.cells #[.int .i64 k, .int .i64 d, .int .i64 (Hi : Int), .int .i64 (Wd : Int), .slice x n cx, .slice y m cy] 25)) MB k d (Wd : Int) (Hi : Int) a n c cs b m cc ps) := (M1.out.kept b2).kept ((Below.refl _ _).alloc (Nat.le_refl _) _)
      have X2 : Hid (PB (w2.alloc (.cells #[.int .i64 k, .int .i64 d, .int .i64 (Hi : Int), .int .i64 (Wd : Int), .slice x n cx, .slice y m cy] 25)) w2.heap.size k d (Hi : Int) (Wd : Int) x n cx cs y m cy L) := pb_new gx gy
      have B2 : Hid (Below w.heap.size w (w2.alloc (.cells #[.int .i64 k, .int .i64 d, .int .i64 (Hi : Int), .int .i64 (Wd : Int), .slice x n cx, .slice y m cy] 25))) := (B1.out.trans (b2.mono B1.out.size)).alloc (Nat.le_trans B1.out.size b2.size) _
      clear b2 M1 B1 HT1 gx gy
      obtain ⟨m20, m21, m22, m23, m24, m25⟩ := M2.out.box
      obtain ⟨x20, x21, x22, x23, x24, x25⟩ := X2.out.box
      go_upto_region 5 with fail
      generalize hW3 : w2.alloc (.cells #[.int .i64 k, .int .i64 d, .int .i64 (Hi : Int), .int .i64 (Wd : Int), .slice x n cx, .slice y m cy] 25) = W3 at *
      clear hW3
      generalize w2.heap.size = XB at *
      have M3 : Hid (PB W3.drew MB k d (Wd : Int) (Hi : Int) a n c cs b m cc ps) := M2.out.kept (Below.refl _ _).drew
      have X3 : Hid (PB W3.drew XB k d (Hi : Int) (Wd : Int) x n cx cs y m cy L) := X2.out.kept (Below.refl _ _).drew
      have B3 : Hid (Below w.heap.size w W3.drew) := B2.out.drew
      go_region_held3 (fun w' => w'.cell? ⟨MB, 0, none⟩ = some (.int .i64 k) ∧ w'.cell? ⟨MB, 1, none⟩ = some (.int .i64 d) ∧ w'.cell? ⟨MB, 2, none⟩ = some (.int .i64 (Wd : Int)) ∧ w'.cell? ⟨MB, 3, none⟩ = some (.int .i64 (Hi : Int)) ∧ w'.cell? ⟨MB, 4, none⟩ = some (.slice a n c) ∧ w'.cell? ⟨MB, 5, none⟩ = some (.slice b m cc) ∧ w'.cell? ⟨XB, 0, none⟩ = some (.int .i64 k) ∧ w'.cell? ⟨XB, 1, none⟩ = some (.int .i64 d) ∧ w'.cell? ⟨XB, 2, none⟩ = some (.int .i64 (Hi : Int)) ∧ w'.cell? ⟨XB, 3, none⟩ = some (.int .i64 (Wd : Int)) ∧ w'.cell? ⟨XB, 4, none⟩ = some (.slice x n cx) ∧ w'.cell? ⟨XB, 5, none⟩ = some (.slice y m cy)) (go_keep) (first | (go_at_call 14; refine (HOS.out _ M7.out.i4 M7.out.i5).mono ?_; rintro e w8 ⟨rfl, b8⟩; have M8 : Hid (PB w8 MB k d (Wd : Int) (Hi : Int) a n c cs b m cc ps) := M7.out.kept b8; have X8 : Hid (PB w8 XB k d (Hi : Int) (Wd : Int) x n cx cs y m cy L) := X7.out.kept b8; have B8 : Hid (Below w.heap.size w w8) := B7.out.trans (b8.mono B7.out.size); obtain ⟨m80, m81, m82, m83, m84, m85⟩ := M8.out.box; obtain ⟨x80, x81, x82, x83, x84, x85⟩ := X8.out.box; clear b8) | (go_at_call 14; refine (HOS.out _ M6.out.i4 M6.out.i5).mono ?_; rintro e w7 ⟨rfl, b7⟩; have M7 : Hid (PB w7 MB k d (Wd : Int) (Hi : Int) a n c cs b m cc ps) := M6.out.kept b7; have X7 : Hid (PB w7 XB k d (Hi : Int) (Wd : Int) x n cx cs y m cy L) := X6.out.kept b7; have B7 : Hid (Below w.heap.size w w7) := B6.out.trans (b7.mono B6.out.size); obtain ⟨m70, m71, m72, m73, m74, m75⟩ := M7.out.box; obtain ⟨x70, x71, x72, x73, x74, x75⟩ := X7.out.box; clear b7) | (go_at_call 13; refine (HOI.out _ M5.out.i4 M5.out.i5).mono ?_; rintro e w6 ⟨rfl, b6⟩; have M6 : Hid (PB w6 MB k d (Wd : Int) (Hi : Int) a n c cs b m cc ps) := M5.out.kept b6; have X6 : Hid (PB w6 XB k d (Hi : Int) (Wd : Int) x n cx cs y m cy L) := X5.out.kept b6; have B6 : Hid (Below w.heap.size w w6) := B5.out.trans (b6.mono B5.out.size); obtain ⟨m60, m61, m62, m63, m64, m65⟩ := M6.out.box; obtain ⟨x60, x61, x62, x63, x64, x65⟩ := X6.out.box; clear b6) | (go_at_call 11; refine (HWI.out x cx y cy x4 c4 y4 d4 _ X4.out.i4 X4.out.i5 G4.out.1 G4.out.2).mono ?_; rintro e w5 ⟨rfl, b5⟩; have M5 : Hid (PB w5 MB k d (Wd : Int) (Hi : Int) a n c cs b m cc ps) := M4.out.kept b5; have X5 : Hid (PB w5 XB k d (Hi : Int) (Wd : Int) x n cx cs y m cy L) := X4.out.kept b5; have B5 : Hid (Below w.heap.size w w5) := B4.out.trans (b5.mono B4.out.size); obtain ⟨m50, m51, m52, m53, m54, m55⟩ := M5.out.box; obtain ⟨x50, x51, x52, x53, x54, x55⟩ := X5.out.box; clear b5) | (go_at_call 18; refine (HSF.out _ M3.out.i4 M3.out.i5).mono ?_; rintro e w4 ⟨⟨x4, c4, y4, d4, rfl, gx4, gy4⟩, b4⟩; have G4 : Hid (Ints w4 x4 cs ∧ Ints w4 y4 L) := ⟨gx4, gy4⟩; clear gx4 gy4; have M4 : Hid (PB w4 MB k d (Wd : Int) (Hi : Int) a n c cs b m cc ps) := M3.out.kept b4; have X4 : Hid (PB w4 XB k d (Hi : Int) (Wd : Int) x n cx cs y m cy L) := X3.out.kept b4; have B4 : Hid (Below w.heap.size w w4) := B3.out.trans (b4.mono B3.out.size); obtain ⟨m40, m41, m42, m43, m44, m45⟩ := M4.out.box; obtain ⟨x40, x41, x42, x43, x44, x45⟩ := X4.out.box; clear b4))
      clear M2 X2 B2 M3 X3 B3 M4 X4 B4 M5 X5 B5 M6 X6 B6 M7 X7 B7 m20 m21 m22 m23 m24 m25 m40 m41 m42 m43 m44 m45 m50 m51 m52 m53 m54 m55 m60 m61 m62 m63 m64 m65 m70 m71 m72 m73 m74 m75 x20 x21 x22 x23 x24 x25 x40 x41 x42 x43 x44 x45 x50 x51 x52 x53 x54 x55 x60 x61 x62 x63 x64 x65 x70 x71 x72 x73 x74 x75 G4
      clear HSF HWI HOI HOS
      go_wp2_with fail
      refine (HT2.out _ _ _ _ _ X8.out.i4 X8.out.i5).mono ?_
      rintro e w9 ⟨⟨u, cu, v, cv, rfl, gu, gv⟩, b9⟩
      have MA : Hid (PB (w9.alloc (.cells #[.int .i64 k, .int .i64 d, .int .i64 (Wd : Int), .int .i64 (Hi : Int), .slice u n cu, .slice v m cv] 25)) MB k d (Wd : Int) (Hi : Int) a n c cs b m cc ps) := (M8.out.kept b9).kept ((Below.refl _ _).alloc (Nat.le_refl _) _)
      have XA : Hid (PB (w9.alloc (.cells #[.int .i64 k, .int .i64 d, .int .i64 (Wd : Int), .int .i64 (Hi : Int), .slice u n cu, .slice v m cv] 25)) XB k d (Hi : Int) (Wd : Int) x n cx cs y m cy L) := (X8.out.kept b9).kept ((Below.refl _ _).alloc (Nat.le_refl _) _)
      have YA : Hid (PB (w9.alloc (.cells #[.int .i64 k, .int .i64 d, .int .i64 (Wd : Int), .int .i64 (Hi : Int), .slice u n cu, .slice v m cv] 25)) w9.heap.size k d (Wd : Int) (Hi : Int) u n cu cs v m cv L2) := pb_new gu gv
      have BA : Hid (Below w.heap.size w (w9.alloc (.cells #[.int .i64 k, .int .i64 d, .int .i64 (Wd : Int), .int .i64 (Hi : Int), .slice u n cu, .slice v m cv] 25))) := (B8.out.trans (b9.mono B8.out.size)).alloc (Nat.le_trans B8.out.size b9.size) _
      clear b9 M8 X8 B8 HT2 gu gv m80 m81 m82 m83 m84 m85 x80 x81 x82 x83 x84 x85
      go_wp2_with fail
      generalize w9.alloc (.cells #[.int .i64 k, .int .i64 d, .int .i64 (Wd : Int), .int .i64 (Hi : Int), .slice u n cu, .slice v m cv] 25) = WA at *
      generalize w9.heap.size = YB at *
      go_loopw [6] (fun i wr => ∃ j : Nat, j ≤ m ∧ i = .int .i64 (j : Int) ∧ PB wr MB k d (Wd : Int) (Hi : Int) a n c cs b m cc ps ∧ PB wr XB k d (Hi : Int) (Wd : Int) x n cx cs y m cy L ∧ PB wr YB k d (Wd : Int) (Hi : Int) u n cu cs v m cv L2 ∧ Below w.heap.size w wr) (fun i _ => m - (intOf i).toNat)
      case atStart => exact ⟨0, Nat.zero_le _, rfl, MA.out, XA.out, YA.out, BA.out⟩
      case round =>
        obtain ⟨j, hj, rfl, hM, hX, hY, hB⟩ := hrel
        clear MA XA YA BA
        have M1 : Hid (PB wr MB k d (Wd : Int) (Hi : Int) a n c cs b m cc ps) := hM
        have X1 : Hid (PB wr XB k d (Hi : Int) (Wd : Int) x n cx cs y m cy L) := hX
        have Y1 : Hid (PB wr YB k d (Wd : Int) (Hi : Int) u n cu cs v m cv L2) := hY
        have B1 : Hid (Below w.heap.size w wr) := hB
        clear hM hX hY hB
        obtain ⟨m10, m11, m12, m13, m14, m15⟩ := M1.out.box
        obtain ⟨x10, x11, x12, x13, x14, x15⟩ := X1.out.box
        obtain ⟨y10, y11, y12, y13, y14, y15⟩ := Y1.out.box
        by_cases hlt : j < m
        · have hji : (j : Int) < (m : Int) := by omega
          obtain ⟨J, hJ⟩ : ∃ J : Nat, J = m - 1 - j := ⟨_, rfl⟩
          have hJ1 : (m : Int) - 1 - (j : Int) = (J : Int) := by omega
          have hJm : J < m := by omega
          have hJi : (J : Int) < (m : Int) := by omega
          obtain ⟨bb, bo, rfl, hcb⟩ := ints_cells M1.out.i5 (by rw [HLN.out.2]; omega)
          obtain ⟨vb, vo, rfl, hcv⟩ := ints_cells Y1.out.i5 (by rw [HLN.out.1]; omega)
          have e1 := hcb j (by rw [HLN.out.2]; omega)
          have e2 := hcv J (by rw [HLN.out.1]; omega)
          rw [hJ, HR.out j hlt, ← hJ] at e2
          generalize ps.getD j 0 = z at *
          have HF : Hid (PB wr MB k d (Wd : Int) (Hi : Int) a n c cs (some ⟨bb, bo, none⟩) m cc ps ∧ PB wr XB k d (Hi : Int) (Wd : Int) x n cx cs y m cy L ∧ PB wr YB k d (Wd : Int) (Hi : Int) u n cu cs (some ⟨vb, vo, none⟩) m cv L2 ∧ Below w.heap.size w wr) := ⟨M1.out, X1.out, Y1.out, B1.out⟩
          clear hcb hcv hJ
          go_wp2_with fail
          go_quiet (fail)
          clear e1 e2
          go_wp2_with fail
          go_roundw
          case rel => exact ⟨j + 1, by omega, by go_num, HF.out.1.kept (drewN_low _ _), HF.out.2.1.kept (drewN_low _ _), HF.out.2.2.1.kept (drewN_low _ _), HF.out.2.2.2.trans ((drewN_low _ _).mono HF.out.2.2.2.size)⟩
          case measure => simp [intOf]; omega
        · have hji : ¬ (j : Int) < (m : Int) := by omega
          have M2 : Hid (PB wr.drew MB k d (Wd : Int) (Hi : Int) a n c cs b m cc ps) := M1.out.kept (Below.refl _ _).drew
          have X2 : Hid (PB wr.drew XB k d (Hi : Int) (Wd : Int) x n cx cs y m cy L) := X1.out.kept (Below.refl _ _).drew
          have Y2 : Hid (PB wr.drew YB k d (Wd : Int) (Hi : Int) u n cu cs v m cv L2) := Y1.out.kept (Below.refl _ _).drew
          have B2 : Hid (Below w.heap.size w wr.drew) := B1.out.drew
          go_wp2_with fail
          go_region_held3 (fun w' => w'.cell? ⟨MB, 0, none⟩ = some (.int .i64 k) ∧ w'.cell? ⟨MB, 1, none⟩ = some (.int .i64 d) ∧ w'.cell? ⟨MB, 2, none⟩ = some (.int .i64 (Wd : Int)) ∧ w'.cell? ⟨MB, 3, none⟩ = some (.int .i64 (Hi : Int)) ∧ w'.cell? ⟨MB, 4, none⟩ = some (.slice a n c) ∧ w'.cell? ⟨MB, 5, none⟩ = some (.slice b m cc) ∧ w'.cell? ⟨XB, 0, none⟩ = some (.int .i64 k) ∧ w'.cell? ⟨XB, 1, none⟩ = some (.int .i64 d) ∧ w'.cell? ⟨XB, 2, none⟩ = some (.int .i64 (Hi : Int)) ∧ w'.cell? ⟨XB, 3, none⟩ = some (.int .i64 (Wd : Int)) ∧ w'.cell? ⟨XB, 4, none⟩ = some (.slice x n cx) ∧ w'.cell? ⟨XB, 5, none⟩ = some (.slice y m cy) ∧ w'.cell? ⟨YB, 0, none⟩ = some (.int .i64 k) ∧ w'.cell? ⟨YB, 1, none⟩ = some (.int .i64 d) ∧ w'.cell? ⟨YB, 2, none⟩ = some (.int .i64 (Wd : Int)) ∧ w'.cell? ⟨YB, 3, none⟩ = some (.int .i64 (Hi : Int)) ∧ w'.cell? ⟨YB, 4, none⟩ = some (.slice u n cu) ∧ w'.cell? ⟨YB, 5, none⟩ = some (.slice v m cv)) (go_keep) (first | (go_at_call 11; refine (HWP.out x5 c5 y5 d5 a c b cc _ G5.out.1 G5.out.2 M5.out.i4 M5.out.i5).mono ?_; rintro e w6 ⟨rfl, b6⟩; have M6 : Hid (PB w6 MB k d (Wd : Int) (Hi : Int) a n c cs b m cc ps) := M5.out.kept b6; have X6 : Hid (PB w6 XB k d (Hi : Int) (Wd : Int) x n cx cs y m cy L) := X5.out.kept b6; have Y6 : Hid (PB w6 YB k d (Wd : Int) (Hi : Int) u n cu cs v m cv L2) := Y5.out.kept b6; have B6 : Hid (Below w.heap.size w w6) := B5.out.trans (b6.mono B5.out.size); obtain ⟨m60, m61, m62, m63, m64, m65⟩ := M6.out.box; obtain ⟨x60, x61, x62, x63, x64, x65⟩ := X6.out.box; obtain ⟨y60, y61, y62, y63, y64, y65⟩ := Y6.out.box; clear b6) | (go_at_call 17; refine (HT4.out x4 c4 y4 d4 _ G4.out.1 G4.out.2).mono ?_; rintro e w5 ⟨⟨x5, c5, y5, d5, rfl, gx5, gy5⟩, b5⟩; have G5 : Hid (Ints w5 x5 cs ∧ Ints w5 y5 ps) := ⟨gx5, gy5⟩; clear gx5 gy5; have M5 : Hid (PB w5 MB k d (Wd : Int) (Hi : Int) a n c cs b m cc ps) := M4.out.kept b5; have X5 : Hid (PB w5 XB k d (Hi : Int) (Wd : Int) x n cx cs y m cy L) := X4.out.kept b5; have Y5 : Hid (PB w5 YB k d (Wd : Int) (Hi : Int) u n cu cs v m cv L2) := Y4.out.kept b5; have B5 : Hid (Below w.heap.size w w5) := B4.out.trans (b5.mono B4.out.size); obtain ⟨m50, m51, m52, m53, m54, m55⟩ := M5.out.box; obtain ⟨x50, x51, x52, x53, x54, x55⟩ := X5.out.box; obtain ⟨y50, y51, y52, y53, y54, y55⟩ := Y5.out.box; clear b5) | (go_at_call 17; refine (HT3.out u cu v cv _ Y3.out.i4 Y3.out.i5).mono ?_; rintro e w4 ⟨⟨x4, c4, y4, d4, rfl, gx4, gy4⟩, b4⟩; have G4 : Hid (Ints w4 x4 cs ∧ Ints w4 y4 L3) := ⟨gx4, gy4⟩; clear gx4 gy4; have M4 : Hid (PB w4 MB k d (Wd : Int) (Hi : Int) a n c cs b m cc ps) := M3.out.kept b4; have X4 : Hid (PB w4 XB k d (Hi : Int) (Wd : Int) x n cx cs y m cy L) := X3.out.kept b4; have Y4 : Hid (PB w4 YB k d (Wd : Int) (Hi : Int) u n cu cs v m cv L2) := Y3.out.kept b4; have B4 : Hid (Below w.heap.size w w4) := B3.out.trans (b4.mono B3.out.size); obtain ⟨m40, m41, m42, m43, m44, m45⟩ := M4.out.box; obtain ⟨x40, x41, x42, x43, x44, x45⟩ := X4.out.box; obtain ⟨y40, y41, y42, y43, y44, y45⟩ := Y4.out.box; clear b4) | (go_at_call 13; refine (HOX.out x cx y cy _ X2.out.i4 X2.out.i5).mono ?_; rintro e w3 ⟨rfl, b3⟩; have M3 : Hid (PB w3 MB k d (Wd : Int) (Hi : Int) a n c cs b m cc ps) := M2.out.kept b3; have X3 : Hid (PB w3 XB k d (Hi : Int) (Wd : Int) x n cx cs y m cy L) := X2.out.kept b3; have Y3 : Hid (PB w3 YB k d (Wd : Int) (Hi : Int) u n cu cs v m cv L2) := Y2.out.kept b3; have B3 : Hid (Below w.heap.size w w3) := B2.out.trans (b3.mono B2.out.size); obtain ⟨m30, m31, m32, m33, m34, m35⟩ := M3.out.box; obtain ⟨x30, x31, x32, x33, x34, x35⟩ := X3.out.box; obtain ⟨y30, y31, y32, y33, y34, y35⟩ := Y3.out.box; clear b3))
          all_goals go_wp2_with fail
          all_goals go_ret
          all_goals exact ⟨rfl, B6.out⟩
end Go.Proofs.Ytgeepemhmkoknaa
