/- ImageColor of the program, for every picture and place. -/
import Derived.Test.YticahbfkdenjbatColTop
namespace Go.Proofs.Yticahbfkdenjbat
open Go.RowKit

set_option maxHeartbeats 2000000 in
set_option maxRecDepth 20000 in
theorem impl_color_gray (D p : Nat) (wd hi x y : Int) (ca : Option Addr) (cn cc : Nat) (pa : Option Addr) (pn pc : Nat) (w : World) (cs : List Int) (hc : Ints w ca cs) (hcn : cs.length = cn) (hDD : D = 1 ∨ D = 2 ∨ D = 4 ∨ D = 8) (hp2 : p < 2 ^ D) 
    (hat : ∀ w', Below w.heap.size w w' → Calls Try.prog 52 #[.agg #[.int .i64 1, .int .i64 (D : Int), .int .i64 wd, .int .i64 hi, .slice ca cn cc, .slice pa pn pc], .int .i64 x, .int .i64 y] w' fun e w'' => e = .returned (.int .i64 (p : Int)) ∧ Below w'.heap.size w' w'')
    (hO : Calls Try.prog 17 #[.agg #[.int .i64 1, .int .i64 (D : Int), .int .i64 wd, .int .i64 hi, .slice ca cn cc, .slice pa pn pc]] (w.alloc (.cells #[.int .i64 1, .int .i64 (D : Int), .int .i64 wd, .int .i64 hi, .slice ca cn cc, .slice pa pn pc] 33)) fun e w' => e = .returned (.bool true) ∧ Below (w.alloc (.cells #[.int .i64 1, .int .i64 (D : Int), .int .i64 wd, .int .i64 hi, .slice ca cn cc, .slice pa pn pc] 33)).heap.size (w.alloc (.cells #[.int .i64 1, .int .i64 (D : Int), .int .i64 wd, .int .i64 hi, .slice ca cn cc, .slice pa pn pc] 33)) w') (hin : inB x y wd hi = true) :
    Calls Try.prog 22 #[.agg #[.int .i64 1, .int .i64 (D : Int), .int .i64 wd, .int .i64 hi, .slice ca cn cc, .slice pa pn pc], .int .i64 x, .int .i64 y] w fun e w' => e = .returned (.tuple #[.int .i64 (colOf 1 D cs (p : Int)), .bool true]) ∧ Below w.heap.size w w' := by
  have hcol : colOf 1 D cs (p : Int) = (p : Int) * (stepOf D : Int) * 16843008 + 255 := by
    unfold colOf; rw [if_pos rfl]
  have hst : p * stepOf D ≤ 255 := (gray_step hDD hp2).2.2.1
  have hB0 : Below w.heap.size w (w.alloc (.cells #[.int .i64 1, .int .i64 (D : Int), .int .i64 wd, .int .i64 hi, .slice ca cn cc, .slice pa pn pc] 33)) := (Below.refl _ _).alloc (Nat.le_refl _) _
  have HO : Hid (Calls Try.prog 17 #[.agg #[.int .i64 1, .int .i64 (D : Int), .int .i64 wd, .int .i64 hi, .slice ca cn cc, .slice pa pn pc]] (w.alloc (.cells #[.int .i64 1, .int .i64 (D : Int), .int .i64 wd, .int .i64 hi, .slice ca cn cc, .slice pa pn pc] 33)) fun e w' => e = .returned (.bool true) ∧ Below (w.alloc (.cells #[.int .i64 1, .int .i64 (D : Int), .int .i64 wd, .int .i64 hi, .slice ca cn cc, .slice pa pn pc] 33)).heap.size (w.alloc (.cells #[.int .i64 1, .int .i64 (D : Int), .int .i64 wd, .int .i64 hi, .slice ca cn cc, .slice pa pn pc] 33)) w') := hO
  have HIN : Hid (∀ w' : World, Calls Try.prog 51 #[.iface 64 (.agg #[.int .i64 1, .int .i64 (D : Int), .int .i64 wd, .int .i64 hi, .slice ca cn cc, .slice pa pn pc]), .int .i64 x, .int .i64 y] w' fun e w'' => e = .returned (.bool true) ∧ Below w'.heap.size w' w'') := by
    intro w'; have := inView_any 1 (D : Int) wd hi x y ca cn cc pa pn pc w'; rw [hin] at this; exact this
  have HAT : Hid (∀ w', Below w.heap.size w w' → Calls Try.prog 52 #[.agg #[.int .i64 1, .int .i64 (D : Int), .int .i64 wd, .int .i64 hi, .slice ca cn cc, .slice pa pn pc], .int .i64 x, .int .i64 y] w' fun e w'' => e = .returned (.int .i64 (p : Int)) ∧ Below w'.heap.size w' w'') := hat
  have HIC : Hid (∀ w', Below w.heap.size w w' → Ints w' ca cs) := fun w' b => hc.kept b
  have HCN : Hid (cs.length = cn) := hcn
  have HCOL : Hid (colOf 1 D cs (p : Int) = (p : Int) * (stepOf D : Int) * 16843008 + 255) := hcol
  clear hO hin hat hc hcn hcol
  generalize hcv : colOf 1 D cs (p : Int) = c at *
  have HCV : Hid (colOf 1 D cs (p : Int) = c) := hcv
  clear hcv
  go_enter Try.func22, Try.ntmps22
  go_wp2_with fail
  refine HO.out.mono ?_
  rintro e w1 ⟨rfl, b1⟩
  obtain ⟨k0, k1, k2, k3, k4, k5⟩ := box_kept (box_new w _ _ _ _ _ _ 33) b1 (by simp)
  have bel1 := hB0.trans (b1.mono (by simp))
  have hlt1 : w.heap.size < w1.heap.size := Nat.lt_of_lt_of_le (by simp) b1.size
  clear b1 HO hB0
  go_wp2_with fail
  refine (HIN.out _).mono ?_
  rintro e w2 ⟨rfl, b2⟩
  obtain ⟨j0, j1, j2, j3, j4, j5⟩ := box_kept ⟨k0, k1, k2, k3, k4, k5⟩ b2 hlt1
  have bel2 := bel1.trans (b2.mono bel1.size)
  clear b2 bel1 k0 k1 k2 k3 k4 k5 hlt1
  go_wp2_with fail
  refine (colored_gray D wd hi ca cn cc pa pn pc w2 hDD).mono ?_
  rintro e w3 ⟨⟨A, B, rfl, hA, hB, hA2, hB2⟩, b3⟩
  have bel3 := bel2.trans (b3.mono bel2.size)
  have hcol := HCOL.out
  have HCH : Hid (Calls Try.prog 96 #[.agg #[.iface 64 (.agg #[.int .i64 1, .int .i64 (D : Int), .int .i64 wd, .int .i64 hi, .slice ca cn cc, .slice pa pn pc]), .func (.func 72) #[] #[.pointer (some ⟨A, 0, none⟩), .pointer (some ⟨B, 0, none⟩)]], .int .i64 x, .int .i64 y] w3 fun e w' => e = .returned (.int .i64 c) ∧ Below w3.heap.size w3 w') :=
    changed_gray 1 (D : Int) wd hi x y (p : Int) c A B ca cn cc pa pn pc w3 (fun w' b' => HAT.out w' (bel3.trans (b'.mono bel3.size))) (fun w' b' => (gray_any A B (stepOf D) p w' ((b'.cell (p := ⟨A, 0, none⟩) hA2).trans hA) ((b'.cell (p := ⟨B, 0, none⟩) hB2).trans hB) hst).mono (fun e w'' h => ⟨by rw [h.1, hcol], by rw [h.2]; exact Below.refl _ _⟩))
  have m3 : ∀ w, (method 208 85 (.agg #[.iface 64 (.agg #[.int .i64 1, .int .i64 (D : Int), .int .i64 wd, .int .i64 hi, .slice ca cn cc, .slice pa pn pc]), .func (.func 72) #[] #[.pointer (some ⟨A, 0, none⟩), .pointer (some ⟨B, 0, none⟩)]]) "loop.example/intarsia/impl.at").run Try.prog w = .ok (96, .agg #[.iface 64 (.agg #[.int .i64 1, .int .i64 (D : Int), .int .i64 wd, .int .i64 hi, .slice ca cn cc, .slice pa pn pc]), .func (.func 72) #[] #[.pointer (some ⟨A, 0, none⟩), .pointer (some ⟨B, 0, none⟩)]]) w := fun w => by kernel_rfl
  have m4 : ∀ w, (nilAhead 208 85 (.agg #[.iface 64 (.agg #[.int .i64 1, .int .i64 (D : Int), .int .i64 wd, .int .i64 hi, .slice ca cn cc, .slice pa pn pc]), .func (.func 72) #[] #[.pointer (some ⟨A, 0, none⟩), .pointer (some ⟨B, 0, none⟩)]]) "loop.example/intarsia/impl.at").run Try.prog w = .ok (some false) w := fun w => by kernel_rfl
  clear b3 bel2 j0 j1 j2 j3 j4 j5 hcol
  go_wp2_with fail
  refine HCH.out.mono ?_
  rintro e w4 ⟨rfl, b4⟩
  have bel4 := bel3.trans (b4.mono bel3.size)
  clear b4 bel3 HCH m3 m4
  go_wp2_with fail
  go_ret2
  exact ⟨rfl, bel4⟩

set_option maxHeartbeats 2000000 in
set_option maxRecDepth 20000 in
theorem impl_color_pal (D p : Nat) (wd hi x y : Int) (ca : Option Addr) (cn cc : Nat) (pa : Option Addr) (pn pc : Nat) (w : World) (cs : List Int) (hc : Ints w ca cs) (hcn : cs.length = cn) (hpc : p < cn) (hW : Within 16777215 cs) 
    (hat : ∀ w', Below w.heap.size w w' → Calls Try.prog 52 #[.agg #[.int .i64 4, .int .i64 (D : Int), .int .i64 wd, .int .i64 hi, .slice ca cn cc, .slice pa pn pc], .int .i64 x, .int .i64 y] w' fun e w'' => e = .returned (.int .i64 (p : Int)) ∧ Below w'.heap.size w' w'')
    (hO : Calls Try.prog 17 #[.agg #[.int .i64 4, .int .i64 (D : Int), .int .i64 wd, .int .i64 hi, .slice ca cn cc, .slice pa pn pc]] (w.alloc (.cells #[.int .i64 4, .int .i64 (D : Int), .int .i64 wd, .int .i64 hi, .slice ca cn cc, .slice pa pn pc] 33)) fun e w' => e = .returned (.bool true) ∧ Below (w.alloc (.cells #[.int .i64 4, .int .i64 (D : Int), .int .i64 wd, .int .i64 hi, .slice ca cn cc, .slice pa pn pc] 33)).heap.size (w.alloc (.cells #[.int .i64 4, .int .i64 (D : Int), .int .i64 wd, .int .i64 hi, .slice ca cn cc, .slice pa pn pc] 33)) w') (hin : inB x y wd hi = true) :
    Calls Try.prog 22 #[.agg #[.int .i64 4, .int .i64 (D : Int), .int .i64 wd, .int .i64 hi, .slice ca cn cc, .slice pa pn pc], .int .i64 x, .int .i64 y] w fun e w' => e = .returned (.tuple #[.int .i64 (colOf 4 D cs (p : Int)), .bool true]) ∧ Below w.heap.size w w' := by
  have hcol : colOf 4 D cs (p : Int) = cs.getD p 0 * 256 + 255 := by
    unfold colOf; rw [if_neg (by decide), if_neg (by decide), if_pos rfl, Int.toNat_natCast]
  have hB0 : Below w.heap.size w (w.alloc (.cells #[.int .i64 4, .int .i64 (D : Int), .int .i64 wd, .int .i64 hi, .slice ca cn cc, .slice pa pn pc] 33)) := (Below.refl _ _).alloc (Nat.le_refl _) _
  have HO : Hid (Calls Try.prog 17 #[.agg #[.int .i64 4, .int .i64 (D : Int), .int .i64 wd, .int .i64 hi, .slice ca cn cc, .slice pa pn pc]] (w.alloc (.cells #[.int .i64 4, .int .i64 (D : Int), .int .i64 wd, .int .i64 hi, .slice ca cn cc, .slice pa pn pc] 33)) fun e w' => e = .returned (.bool true) ∧ Below (w.alloc (.cells #[.int .i64 4, .int .i64 (D : Int), .int .i64 wd, .int .i64 hi, .slice ca cn cc, .slice pa pn pc] 33)).heap.size (w.alloc (.cells #[.int .i64 4, .int .i64 (D : Int), .int .i64 wd, .int .i64 hi, .slice ca cn cc, .slice pa pn pc] 33)) w') := hO
  have HIN : Hid (∀ w' : World, Calls Try.prog 51 #[.iface 64 (.agg #[.int .i64 4, .int .i64 (D : Int), .int .i64 wd, .int .i64 hi, .slice ca cn cc, .slice pa pn pc]), .int .i64 x, .int .i64 y] w' fun e w'' => e = .returned (.bool true) ∧ Below w'.heap.size w' w'') := by
    intro w'; have := inView_any 4 (D : Int) wd hi x y ca cn cc pa pn pc w'; rw [hin] at this; exact this
  have HAT : Hid (∀ w', Below w.heap.size w w' → Calls Try.prog 52 #[.agg #[.int .i64 4, .int .i64 (D : Int), .int .i64 wd, .int .i64 hi, .slice ca cn cc, .slice pa pn pc], .int .i64 x, .int .i64 y] w' fun e w'' => e = .returned (.int .i64 (p : Int)) ∧ Below w'.heap.size w' w'') := hat
  have HIC : Hid (∀ w', Below w.heap.size w w' → Ints w' ca cs) := fun w' b => hc.kept b
  have HCN : Hid (cs.length = cn) := hcn
  have HCOL : Hid (colOf 4 D cs (p : Int) = cs.getD p 0 * 256 + 255) := hcol
  clear hO hin hat hc hcn hcol
  generalize hcv : colOf 4 D cs (p : Int) = c at *
  have HCV : Hid (colOf 4 D cs (p : Int) = c) := hcv
  clear hcv
  go_enter Try.func22, Try.ntmps22
  go_wp2_with fail
  refine HO.out.mono ?_
  rintro e w1 ⟨rfl, b1⟩
  obtain ⟨k0, k1, k2, k3, k4, k5⟩ := box_kept (box_new w _ _ _ _ _ _ 33) b1 (by simp)
  have bel1 := hB0.trans (b1.mono (by simp))
  have hlt1 : w.heap.size < w1.heap.size := Nat.lt_of_lt_of_le (by simp) b1.size
  clear b1 HO hB0
  go_wp2_with fail
  refine (HIN.out _).mono ?_
  rintro e w2 ⟨rfl, b2⟩
  obtain ⟨j0, j1, j2, j3, j4, j5⟩ := box_kept ⟨k0, k1, k2, k3, k4, k5⟩ b2 hlt1
  have bel2 := bel1.trans (b2.mono bel1.size)
  clear b2 bel1 k0 k1 k2 k3 k4 k5 hlt1
  go_wp2_with fail
  refine (colored_pal (D : Int) wd hi ca cn cc pa pn pc w2).mono ?_
  rintro e w3 ⟨⟨A, B, rfl, hA, hB, hA2, hB2⟩, b3⟩
  have bel3 := bel2.trans (b3.mono bel2.size)
  have hcol := HCOL.out
  have HCH : Hid (Calls Try.prog 96 #[.agg #[.iface 64 (.agg #[.int .i64 4, .int .i64 (D : Int), .int .i64 wd, .int .i64 hi, .slice ca cn cc, .slice pa pn pc]), .func (.func 73) #[] #[.pointer (some ⟨A, 0, none⟩), .pointer (some ⟨B, 0, none⟩)]], .int .i64 x, .int .i64 y] w3 fun e w' => e = .returned (.int .i64 c) ∧ Below w3.heap.size w3 w') :=
    changed_pal 4 (D : Int) wd hi x y (p : Int) c A B ca cn cc pa pn pc w3 (fun w' b' => HAT.out w' (bel3.trans (b'.mono bel3.size))) (fun w' b' => (pal_any A B p cn cc ca cs w' ((b'.cell (p := ⟨A, 0, none⟩) hA2).trans hA) ((b'.cell (p := ⟨B, 4, none⟩) hB2).trans hB) ((HIC.out _ bel3).kept b') HCN.out hpc hW).mono (fun e w'' h => ⟨by rw [h.1, hcol], by obtain ⟨m, hm⟩ := h.2; rw [hm]; exact below_drewN (Below.refl _ _) _⟩))
  have m3 : ∀ w, (method 208 85 (.agg #[.iface 64 (.agg #[.int .i64 4, .int .i64 (D : Int), .int .i64 wd, .int .i64 hi, .slice ca cn cc, .slice pa pn pc]), .func (.func 73) #[] #[.pointer (some ⟨A, 0, none⟩), .pointer (some ⟨B, 0, none⟩)]]) "loop.example/intarsia/impl.at").run Try.prog w = .ok (96, .agg #[.iface 64 (.agg #[.int .i64 4, .int .i64 (D : Int), .int .i64 wd, .int .i64 hi, .slice ca cn cc, .slice pa pn pc]), .func (.func 73) #[] #[.pointer (some ⟨A, 0, none⟩), .pointer (some ⟨B, 0, none⟩)]]) w := fun w => by kernel_rfl
  have m4 : ∀ w, (nilAhead 208 85 (.agg #[.iface 64 (.agg #[.int .i64 4, .int .i64 (D : Int), .int .i64 wd, .int .i64 hi, .slice ca cn cc, .slice pa pn pc]), .func (.func 73) #[] #[.pointer (some ⟨A, 0, none⟩), .pointer (some ⟨B, 0, none⟩)]]) "loop.example/intarsia/impl.at").run Try.prog w = .ok (some false) w := fun w => by kernel_rfl
  clear b3 bel2 j0 j1 j2 j3 j4 j5 hcol
  go_wp2_with fail
  refine HCH.out.mono ?_
  rintro e w4 ⟨rfl, b4⟩
  have bel4 := bel3.trans (b4.mono bel3.size)
  clear b4 bel3 HCH m3 m4
  go_wp2_with fail
  go_ret2
  exact ⟨rfl, bel4⟩

set_option maxHeartbeats 2000000 in
set_option maxRecDepth 20000 in
theorem impl_color_rgb (D p : Nat) (wd hi x y : Int) (ca : Option Addr) (cn cc : Nat) (pa : Option Addr) (pn pc : Nat) (w : World) (cs : List Int) (hc : Ints w ca cs) (hcn : cs.length = cn) (hp2 : p ≤ 16777216) 
    (hat : ∀ w', Below w.heap.size w w' → Calls Try.prog 52 #[.agg #[.int .i64 2, .int .i64 (D : Int), .int .i64 wd, .int .i64 hi, .slice ca cn cc, .slice pa pn pc], .int .i64 x, .int .i64 y] w' fun e w'' => e = .returned (.int .i64 (p : Int)) ∧ Below w'.heap.size w' w'')
    (hO : Calls Try.prog 17 #[.agg #[.int .i64 2, .int .i64 (D : Int), .int .i64 wd, .int .i64 hi, .slice ca cn cc, .slice pa pn pc]] (w.alloc (.cells #[.int .i64 2, .int .i64 (D : Int), .int .i64 wd, .int .i64 hi, .slice ca cn cc, .slice pa pn pc] 33)) fun e w' => e = .returned (.bool true) ∧ Below (w.alloc (.cells #[.int .i64 2, .int .i64 (D : Int), .int .i64 wd, .int .i64 hi, .slice ca cn cc, .slice pa pn pc] 33)).heap.size (w.alloc (.cells #[.int .i64 2, .int .i64 (D : Int), .int .i64 wd, .int .i64 hi, .slice ca cn cc, .slice pa pn pc] 33)) w') (hin : inB x y wd hi = true) :
    Calls Try.prog 22 #[.agg #[.int .i64 2, .int .i64 (D : Int), .int .i64 wd, .int .i64 hi, .slice ca cn cc, .slice pa pn pc], .int .i64 x, .int .i64 y] w fun e w' => e = .returned (.tuple #[.int .i64 (colOf 2 D cs (p : Int)), .bool true]) ∧ Below w.heap.size w w' := by
  have hcol : colOf 2 D cs (p : Int) = (p : Int) * 256 + 255 := by
    unfold colOf; rw [if_neg (by decide), if_pos rfl]
  have hB0 : Below w.heap.size w (w.alloc (.cells #[.int .i64 2, .int .i64 (D : Int), .int .i64 wd, .int .i64 hi, .slice ca cn cc, .slice pa pn pc] 33)) := (Below.refl _ _).alloc (Nat.le_refl _) _
  have HO : Hid (Calls Try.prog 17 #[.agg #[.int .i64 2, .int .i64 (D : Int), .int .i64 wd, .int .i64 hi, .slice ca cn cc, .slice pa pn pc]] (w.alloc (.cells #[.int .i64 2, .int .i64 (D : Int), .int .i64 wd, .int .i64 hi, .slice ca cn cc, .slice pa pn pc] 33)) fun e w' => e = .returned (.bool true) ∧ Below (w.alloc (.cells #[.int .i64 2, .int .i64 (D : Int), .int .i64 wd, .int .i64 hi, .slice ca cn cc, .slice pa pn pc] 33)).heap.size (w.alloc (.cells #[.int .i64 2, .int .i64 (D : Int), .int .i64 wd, .int .i64 hi, .slice ca cn cc, .slice pa pn pc] 33)) w') := hO
  have HIN : Hid (∀ w' : World, Calls Try.prog 51 #[.iface 64 (.agg #[.int .i64 2, .int .i64 (D : Int), .int .i64 wd, .int .i64 hi, .slice ca cn cc, .slice pa pn pc]), .int .i64 x, .int .i64 y] w' fun e w'' => e = .returned (.bool true) ∧ Below w'.heap.size w' w'') := by
    intro w'; have := inView_any 2 (D : Int) wd hi x y ca cn cc pa pn pc w'; rw [hin] at this; exact this
  have HAT : Hid (∀ w', Below w.heap.size w w' → Calls Try.prog 52 #[.agg #[.int .i64 2, .int .i64 (D : Int), .int .i64 wd, .int .i64 hi, .slice ca cn cc, .slice pa pn pc], .int .i64 x, .int .i64 y] w' fun e w'' => e = .returned (.int .i64 (p : Int)) ∧ Below w'.heap.size w' w'') := hat
  have HIC : Hid (∀ w', Below w.heap.size w w' → Ints w' ca cs) := fun w' b => hc.kept b
  have HCN : Hid (cs.length = cn) := hcn
  have HCOL : Hid (colOf 2 D cs (p : Int) = (p : Int) * 256 + 255) := hcol
  clear hO hin hat hc hcn hcol
  generalize hcv : colOf 2 D cs (p : Int) = c at *
  have HCV : Hid (colOf 2 D cs (p : Int) = c) := hcv
  clear hcv
  go_enter Try.func22, Try.ntmps22
  go_wp2_with fail
  refine HO.out.mono ?_
  rintro e w1 ⟨rfl, b1⟩
  obtain ⟨k0, k1, k2, k3, k4, k5⟩ := box_kept (box_new w _ _ _ _ _ _ 33) b1 (by simp)
  have bel1 := hB0.trans (b1.mono (by simp))
  have hlt1 : w.heap.size < w1.heap.size := Nat.lt_of_lt_of_le (by simp) b1.size
  clear b1 HO hB0
  go_wp2_with fail
  refine (HIN.out _).mono ?_
  rintro e w2 ⟨rfl, b2⟩
  obtain ⟨j0, j1, j2, j3, j4, j5⟩ := box_kept ⟨k0, k1, k2, k3, k4, k5⟩ b2 hlt1
  have bel2 := bel1.trans (b2.mono bel1.size)
  clear b2 bel1 k0 k1 k2 k3 k4 k5 hlt1
  go_wp2_with fail
  refine (colored_rgb (D : Int) wd hi ca cn cc pa pn pc w2).mono ?_
  rintro e w3 ⟨rfl, b3⟩
  have bel3 := bel2.trans (b3.mono bel2.size)
  have hcol := HCOL.out
  have HCH : Hid (Calls Try.prog 96 #[.agg #[.iface 64 (.agg #[.int .i64 2, .int .i64 (D : Int), .int .i64 wd, .int .i64 hi, .slice ca cn cc, .slice pa pn pc]), .func (.func 71) #[] #[]], .int .i64 x, .int .i64 y] w3 fun e w' => e = .returned (.int .i64 c) ∧ Below w3.heap.size w3 w') :=
    changed_rgb 2 (D : Int) wd hi x y (p : Int) c ca cn cc pa pn pc w3 (fun w' b' => HAT.out w' (bel3.trans (b'.mono bel3.size))) (fun w' b' => (solid_any (p : Int) w' (by omega) (by omega)).mono (fun e w'' h => ⟨by rw [h.1, hcol], by rw [h.2]; exact Below.refl _ _⟩))
  have m3 : ∀ w, (method 208 85 (.agg #[.iface 64 (.agg #[.int .i64 2, .int .i64 (D : Int), .int .i64 wd, .int .i64 hi, .slice ca cn cc, .slice pa pn pc]), .func (.func 71) #[] #[]]) "loop.example/intarsia/impl.at").run Try.prog w = .ok (96, .agg #[.iface 64 (.agg #[.int .i64 2, .int .i64 (D : Int), .int .i64 wd, .int .i64 hi, .slice ca cn cc, .slice pa pn pc]), .func (.func 71) #[] #[]]) w := fun w => by kernel_rfl
  have m4 : ∀ w, (nilAhead 208 85 (.agg #[.iface 64 (.agg #[.int .i64 2, .int .i64 (D : Int), .int .i64 wd, .int .i64 hi, .slice ca cn cc, .slice pa pn pc]), .func (.func 71) #[] #[]]) "loop.example/intarsia/impl.at").run Try.prog w = .ok (some false) w := fun w => by kernel_rfl
  clear b3 bel2 j0 j1 j2 j3 j4 j5 hcol
  go_wp2_with fail
  refine HCH.out.mono ?_
  rintro e w4 ⟨rfl, b4⟩
  have bel4 := bel3.trans (b4.mono bel3.size)
  clear b4 bel3 HCH m3 m4
  go_wp2_with fail
  go_ret2
  exact ⟨rfl, bel4⟩

set_option maxHeartbeats 2000000 in
set_option maxRecDepth 20000 in
theorem impl_color_rgba (D p : Nat) (wd hi x y : Int) (ca : Option Addr) (cn cc : Nat) (pa : Option Addr) (pn pc : Nat) (w : World) (cs : List Int) (hc : Ints w ca cs) (hcn : cs.length = cn) 
    (hat : ∀ w', Below w.heap.size w w' → Calls Try.prog 52 #[.agg #[.int .i64 3, .int .i64 (D : Int), .int .i64 wd, .int .i64 hi, .slice ca cn cc, .slice pa pn pc], .int .i64 x, .int .i64 y] w' fun e w'' => e = .returned (.int .i64 (p : Int)) ∧ Below w'.heap.size w' w'')
    (hO : Calls Try.prog 17 #[.agg #[.int .i64 3, .int .i64 (D : Int), .int .i64 wd, .int .i64 hi, .slice ca cn cc, .slice pa pn pc]] (w.alloc (.cells #[.int .i64 3, .int .i64 (D : Int), .int .i64 wd, .int .i64 hi, .slice ca cn cc, .slice pa pn pc] 33)) fun e w' => e = .returned (.bool true) ∧ Below (w.alloc (.cells #[.int .i64 3, .int .i64 (D : Int), .int .i64 wd, .int .i64 hi, .slice ca cn cc, .slice pa pn pc] 33)).heap.size (w.alloc (.cells #[.int .i64 3, .int .i64 (D : Int), .int .i64 wd, .int .i64 hi, .slice ca cn cc, .slice pa pn pc] 33)) w') (hin : inB x y wd hi = true) :
    Calls Try.prog 22 #[.agg #[.int .i64 3, .int .i64 (D : Int), .int .i64 wd, .int .i64 hi, .slice ca cn cc, .slice pa pn pc], .int .i64 x, .int .i64 y] w fun e w' => e = .returned (.tuple #[.int .i64 (colOf 3 D cs (p : Int)), .bool true]) ∧ Below w.heap.size w w' := by
  have hcol : colOf 3 D cs (p : Int) = (p : Int) := by
    unfold colOf; rw [if_neg (by decide), if_neg (by decide), if_neg (by decide)]
  have hB0 : Below w.heap.size w (w.alloc (.cells #[.int .i64 3, .int .i64 (D : Int), .int .i64 wd, .int .i64 hi, .slice ca cn cc, .slice pa pn pc] 33)) := (Below.refl _ _).alloc (Nat.le_refl _) _
  have HO : Hid (Calls Try.prog 17 #[.agg #[.int .i64 3, .int .i64 (D : Int), .int .i64 wd, .int .i64 hi, .slice ca cn cc, .slice pa pn pc]] (w.alloc (.cells #[.int .i64 3, .int .i64 (D : Int), .int .i64 wd, .int .i64 hi, .slice ca cn cc, .slice pa pn pc] 33)) fun e w' => e = .returned (.bool true) ∧ Below (w.alloc (.cells #[.int .i64 3, .int .i64 (D : Int), .int .i64 wd, .int .i64 hi, .slice ca cn cc, .slice pa pn pc] 33)).heap.size (w.alloc (.cells #[.int .i64 3, .int .i64 (D : Int), .int .i64 wd, .int .i64 hi, .slice ca cn cc, .slice pa pn pc] 33)) w') := hO
  have HIN : Hid (∀ w' : World, Calls Try.prog 51 #[.iface 64 (.agg #[.int .i64 3, .int .i64 (D : Int), .int .i64 wd, .int .i64 hi, .slice ca cn cc, .slice pa pn pc]), .int .i64 x, .int .i64 y] w' fun e w'' => e = .returned (.bool true) ∧ Below w'.heap.size w' w'') := by
    intro w'; have := inView_any 3 (D : Int) wd hi x y ca cn cc pa pn pc w'; rw [hin] at this; exact this
  have HAT : Hid (∀ w', Below w.heap.size w w' → Calls Try.prog 52 #[.agg #[.int .i64 3, .int .i64 (D : Int), .int .i64 wd, .int .i64 hi, .slice ca cn cc, .slice pa pn pc], .int .i64 x, .int .i64 y] w' fun e w'' => e = .returned (.int .i64 (p : Int)) ∧ Below w'.heap.size w' w'') := hat
  have HIC : Hid (∀ w', Below w.heap.size w w' → Ints w' ca cs) := fun w' b => hc.kept b
  have HCN : Hid (cs.length = cn) := hcn
  have HCOL : Hid (colOf 3 D cs (p : Int) = (p : Int)) := hcol
  clear hO hin hat hc hcn hcol
  generalize hcv : colOf 3 D cs (p : Int) = c at *
  have HCV : Hid (colOf 3 D cs (p : Int) = c) := hcv
  clear hcv
  go_enter Try.func22, Try.ntmps22
  go_wp2_with fail
  refine HO.out.mono ?_
  rintro e w1 ⟨rfl, b1⟩
  obtain ⟨k0, k1, k2, k3, k4, k5⟩ := box_kept (box_new w _ _ _ _ _ _ 33) b1 (by simp)
  have bel1 := hB0.trans (b1.mono (by simp))
  have hlt1 : w.heap.size < w1.heap.size := Nat.lt_of_lt_of_le (by simp) b1.size
  clear b1 HO hB0
  go_wp2_with fail
  refine (HIN.out _).mono ?_
  rintro e w2 ⟨rfl, b2⟩
  obtain ⟨j0, j1, j2, j3, j4, j5⟩ := box_kept ⟨k0, k1, k2, k3, k4, k5⟩ b2 hlt1
  have bel2 := bel1.trans (b2.mono bel1.size)
  clear b2 bel1 k0 k1 k2 k3 k4 k5 hlt1
  go_wp2_with fail
  refine (colored_rgba (D : Int) wd hi ca cn cc pa pn pc w2).mono ?_
  rintro e w3 ⟨rfl, b3⟩
  have bel3 := bel2.trans (b3.mono bel2.size)
  have hcol := HCOL.out
  have HCH : Hid (Calls Try.prog 96 #[.agg #[.iface 64 (.agg #[.int .i64 3, .int .i64 (D : Int), .int .i64 wd, .int .i64 hi, .slice ca cn cc, .slice pa pn pc]), .func (.func 74) #[] #[]], .int .i64 x, .int .i64 y] w3 fun e w' => e = .returned (.int .i64 c) ∧ Below w3.heap.size w3 w') :=
    changed_rgba 3 (D : Int) wd hi x y (p : Int) c ca cn cc pa pn pc w3 (fun w' b' => HAT.out w' (bel3.trans (b'.mono bel3.size))) (fun w' b' => (same_any (p : Int) w').mono (fun e w'' h => ⟨by rw [h.1, hcol], by rw [h.2]; exact Below.refl _ _⟩))
  have m3 : ∀ w, (method 208 85 (.agg #[.iface 64 (.agg #[.int .i64 3, .int .i64 (D : Int), .int .i64 wd, .int .i64 hi, .slice ca cn cc, .slice pa pn pc]), .func (.func 74) #[] #[]]) "loop.example/intarsia/impl.at").run Try.prog w = .ok (96, .agg #[.iface 64 (.agg #[.int .i64 3, .int .i64 (D : Int), .int .i64 wd, .int .i64 hi, .slice ca cn cc, .slice pa pn pc]), .func (.func 74) #[] #[]]) w := fun w => by kernel_rfl
  have m4 : ∀ w, (nilAhead 208 85 (.agg #[.iface 64 (.agg #[.int .i64 3, .int .i64 (D : Int), .int .i64 wd, .int .i64 hi, .slice ca cn cc, .slice pa pn pc]), .func (.func 74) #[] #[]]) "loop.example/intarsia/impl.at").run Try.prog w = .ok (some false) w := fun w => by kernel_rfl
  clear b3 bel2 j0 j1 j2 j3 j4 j5 hcol
  go_wp2_with fail
  refine HCH.out.mono ?_
  rintro e w4 ⟨rfl, b4⟩
  have bel4 := bel3.trans (b4.mono bel3.size)
  clear b4 bel3 HCH m3 m4
  go_wp2_with fail
  go_ret2
  exact ⟨rfl, bel4⟩

theorem impl_color_yes (k d wd hi x y : Int) (ca : Option Addr) (cn cc : Nat) (pa : Option Addr) (pn pc : Nat) (w : World) (cs ps : List Int) (hc : Ints w ca cs) (hcn : cs.length = cn) (hp : Ints w pa ps) (hpn : ps.length = pn) (hok : Im.okB k d wd hi cs ps = true) (hin : 0 ≤ x ∧ x < wd ∧ 0 ≤ y ∧ y < hi)
    (hO : Calls Try.prog 17 #[.agg #[.int .i64 k, .int .i64 d, .int .i64 wd, .int .i64 hi, .slice ca cn cc, .slice pa pn pc]] (w.alloc (.cells #[.int .i64 k, .int .i64 d, .int .i64 wd, .int .i64 hi, .slice ca cn cc, .slice pa pn pc] 33)) fun e w' => e = .returned (.bool true) ∧ Below (w.alloc (.cells #[.int .i64 k, .int .i64 d, .int .i64 wd, .int .i64 hi, .slice ca cn cc, .slice pa pn pc] 33)).heap.size (w.alloc (.cells #[.int .i64 k, .int .i64 d, .int .i64 wd, .int .i64 hi, .slice ca cn cc, .slice pa pn pc] 33)) w') :
    Calls Try.prog 22 #[.agg #[.int .i64 k, .int .i64 d, .int .i64 wd, .int .i64 hi, .slice ca cn cc, .slice pa pn pc], .int .i64 x, .int .i64 y] w fun e w' => e = .returned (.tuple #[.int .i64 (Im.coV k d wd hi x y cs ps), .bool (Im.coB k d wd hi x y cs ps)]) ∧ Below w.heap.size w w' := by
  have hOk := Im.ok_of' hok
  obtain ⟨I, X, Y, Wd, hsp⟩ := spot_of (pn := pn) hOk.2.1 hOk.2.2.1 (by rw [← hpn]; exact hOk.2.2.2.2.1) hin
  have hco : Im.coB k d wd hi x y cs ps = true := by unfold Im.coB; rw [hok, inB_yes hin]; rfl
  obtain ⟨D, rfl, hD, _⟩ := Im.dep_all hOk.1
  obtain ⟨p, hpv, hpt⟩ := Im.pt_ok hOk I (by have := hsp.lt; omega)
  have hv := Im.co_yes hco hsp
  rw [hpv] at hv
  rw [hv, hco]
  have hat : ∀ w', Below w.heap.size w w' → Calls Try.prog 52 #[.agg #[.int .i64 k, .int .i64 (D : Int), .int .i64 wd, .int .i64 hi, .slice ca cn cc, .slice pa pn pc], .int .i64 x, .int .i64 y] w' fun e w'' => e = .returned (.int .i64 (p : Int)) ∧ Below w'.heap.size w' w'' := by
    intro w' b'
    rw [← hpv]
    exact at_any k (D : Int) wd hi x y ca cn cc pa pn pc ps w' I X Y Wd hsp (hp.kept b') hpn
  rcases hpt with ⟨rfl, hDD, hp2⟩ | ⟨rfl, hp2⟩ | rfl | ⟨rfl, hp2, hW⟩
  · exact impl_color_gray D p wd hi x y ca cn cc pa pn pc w cs hc hcn hDD hp2 hat hO (inB_yes hin)
  · exact impl_color_rgb D p wd hi x y ca cn cc pa pn pc w cs hc hcn hp2 hat hO (inB_yes hin)
  · exact impl_color_rgba D p wd hi x y ca cn cc pa pn pc w cs hc hcn hat hO (inB_yes hin)
  · exact impl_color_pal D p wd hi x y ca cn cc pa pn pc w cs hc hcn (by omega) hW hat hO (inB_yes hin)

set_option maxHeartbeats 1000000 in
set_option maxRecDepth 20000 in
theorem impl_imageColor (k d wd hi x y : Int) (ca : Option Addr) (cn cc : Nat) (pa : Option Addr) (pn pc : Nat) (w : World) (cs ps : List Int) (hc : Ints w ca cs) (hcn : cs.length = cn) (hcl : cn ≤ 1048576) (hp : Ints w pa ps) (hpn : ps.length = pn) (hpl : pn ≤ 1048576) :
    Calls Try.prog 22 #[.agg #[.int .i64 k, .int .i64 d, .int .i64 wd, .int .i64 hi, .slice ca cn cc, .slice pa pn pc], .int .i64 x, .int .i64 y] w fun e w' => e = .returned (.tuple #[.int .i64 (Im.coV k d wd hi x y cs ps), .bool (Im.coB k d wd hi x y cs ps)]) ∧ Below w.heap.size w w' := by
  have hB0 : Below w.heap.size w (w.alloc (.cells #[.int .i64 k, .int .i64 d, .int .i64 wd, .int .i64 hi, .slice ca cn cc, .slice pa pn pc] 33)) := (Below.refl _ _).alloc (Nat.le_refl _) _
  have HOK := impl_imageOk k d wd hi ca cn cc pa pn pc _ cs ps (hc.kept hB0) hcn hcl (hp.kept hB0) hpn hpl
  have HIN : Hid (∀ w' : World, Calls Try.prog 51 #[.iface 64 (.agg #[.int .i64 k, .int .i64 d, .int .i64 wd, .int .i64 hi, .slice ca cn cc, .slice pa pn pc]), .int .i64 x, .int .i64 y] w' fun e w'' => e = .returned (.bool (inB x y wd hi)) ∧ Below w'.heap.size w' w'') := fun w' => inView_any k d wd hi x y ca cn cc pa pn pc w'
  cases hok : Im.okB k d wd hi cs ps
  · rw [hok] at HOK
    have HO : Hid (Calls Try.prog 17 #[.agg #[.int .i64 k, .int .i64 d, .int .i64 wd, .int .i64 hi, .slice ca cn cc, .slice pa pn pc]] (w.alloc (.cells #[.int .i64 k, .int .i64 d, .int .i64 wd, .int .i64 hi, .slice ca cn cc, .slice pa pn pc] 33)) fun e w' => e = .returned (.bool false) ∧ Below (w.alloc (.cells #[.int .i64 k, .int .i64 d, .int .i64 wd, .int .i64 hi, .slice ca cn cc, .slice pa pn pc] 33)).heap.size (w.alloc (.cells #[.int .i64 k, .int .i64 d, .int .i64 wd, .int .i64 hi, .slice ca cn cc, .slice pa pn pc] 33)) w') := HOK
    have hat : Im.coB k d wd hi x y cs ps = false := by unfold Im.coB; rw [hok]; rfl
    have HA : Hid (Im.coB k d wd hi x y cs ps = false ∧ Im.coV k d wd hi x y cs ps = 0) := ⟨hat, Im.co_no hat⟩
    clear HOK hat hok hc hp hcn hpn
    go_enter Try.func22, Try.ntmps22
    go_wp2_with fail
    refine HO.out.mono ?_
    rintro e w1 ⟨rfl, b1⟩
    have bel1 := hB0.trans (b1.mono (by simp))
    clear b1 HO hB0
    go_wp2_with fail
    go_ret2
    rw [HA.out.1, HA.out.2]
    exact ⟨rfl, bel1⟩
  · rw [hok] at HOK
    have HO : Hid (Calls Try.prog 17 #[.agg #[.int .i64 k, .int .i64 d, .int .i64 wd, .int .i64 hi, .slice ca cn cc, .slice pa pn pc]] (w.alloc (.cells #[.int .i64 k, .int .i64 d, .int .i64 wd, .int .i64 hi, .slice ca cn cc, .slice pa pn pc] 33)) fun e w' => e = .returned (.bool true) ∧ Below (w.alloc (.cells #[.int .i64 k, .int .i64 d, .int .i64 wd, .int .i64 hi, .slice ca cn cc, .slice pa pn pc] 33)).heap.size (w.alloc (.cells #[.int .i64 k, .int .i64 d, .int .i64 wd, .int .i64 hi, .slice ca cn cc, .slice pa pn pc] 33)) w') := HOK
    have hOk := Im.ok_of' hok
    have HIP : Hid (∀ w', Below w.heap.size w w' → Ints w' pa ps) := fun w' b => hp.kept b
    by_cases hin : 0 ≤ x ∧ x < wd ∧ 0 ≤ y ∧ y < hi
    · exact impl_color_yes k d wd hi x y ca cn cc pa pn pc w cs ps hc hcn hp hpn hok hin HO.out
    · have hat : Im.coB k d wd hi x y cs ps = false := by unfold Im.coB; rw [inB_no hin]; simp
      have HA : Hid (Im.coB k d wd hi x y cs ps = false ∧ Im.coV k d wd hi x y cs ps = 0) := ⟨hat, Im.co_no hat⟩
      rw [inB_no hin] at HIN
      clear HOK hat hok hc hp hcn hpn hOk hin HIP
      go_enter Try.func22, Try.ntmps22
      go_wp2_with fail
      refine HO.out.mono ?_
      rintro e w1 ⟨rfl, b1⟩
      obtain ⟨k0, k1, k2, k3, k4, k5⟩ := box_kept (box_new w _ _ _ _ _ _ 33) b1 (by simp)
      have bel1 := hB0.trans (b1.mono (by simp))
      clear b1 HO hB0
      go_wp2_with fail
      refine (HIN.out _).mono ?_
      rintro e w2 ⟨rfl, b2⟩
      have bel2 := bel1.trans (b2.mono bel1.size)
      clear b2 bel1 k0 k1 k2 k3 k4 k5
      go_wp2_with fail
      go_ret2
      rw [HA.out.1, HA.out.2]
      exact ⟨rfl, bel2⟩

end Go.Proofs.Yticahbfkdenjbat
