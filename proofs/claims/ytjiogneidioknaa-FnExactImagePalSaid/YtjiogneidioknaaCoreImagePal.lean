/- The exact law of ImagePal, walked. -/
import Derived.Test.YtjiogneidioknaaPicLaw
import Derived.Deep.RegionHeld3
namespace Go.Proofs.Ytjiogneidioknaa
open Go.RowKit

set_option maxHeartbeats 8000000 in
set_option maxRecDepth 20000 in
theorem exImagePal_core (k d wd hi : Int) (ca : Option Addr) (cn cc : Nat) (pa : Option Addr) (pn pc : Nat) (K D W H : Int) (ob : Bool) (c2 p2 : Nat) (cs ps cs2 ps2 : List Int) (w : World) (hIc : Ints w ca cs) (hIp : Ints w pa ps) (hcn : cs.length = cn) (hpn : ps.length = pn) (hsum : cn + pn ≤ 1048576) (hc2 : cs2.length = c2) (hp2 : ps2.length = p2) (hcl2 : c2 ≤ 1048576) (hpl2 : p2 ≤ 1048576)
    (hSP : ∀ (x y : Option Addr) (w' : World), Ints w' x cs → Ints w' y ps → Calls Try.prog 7 #[.agg #[.int .i64 k, .int .i64 d, .int .i64 wd, .int .i64 hi, .slice x cn cn, .slice y pn pn]] w' fun e w'' => (∃ x cx y cy, e = .returned (.tuple #[.agg #[.int .i64 K, .int .i64 D, .int .i64 W, .int .i64 H, .slice x c2 cx, .slice y p2 cy], .bool ob]) ∧ Ints w'' x cs2 ∧ Ints w'' y ps2) ∧ Below w'.heap.size w' w'')
    (hIM : ∀ (x y : Option Addr) (w' : World), Ints w' x cs → Ints w' y ps → Calls Try.prog 9 #[.agg #[.int .i64 k, .int .i64 d, .int .i64 wd, .int .i64 hi, .slice x cn cn, .slice y pn pn]] w' fun e w'' => (∃ x cx y cy, e = .returned (.tuple #[.agg #[.int .i64 K, .int .i64 D, .int .i64 W, .int .i64 H, .slice x c2 cx, .slice y p2 cy], .bool ob]) ∧ Pair2 w'' w'.heap.size x cs2 y ps2) ∧ Below w'.heap.size w' w'') :
    Calls Try.prog 3 #[.agg #[.int .i64 k, .int .i64 d, .int .i64 wd, .int .i64 hi, .slice ca cn cc, .slice pa pn pc]] w fun e w' => e = .returned (.bool true) ∧ Below w.heap.size w w' := by
  have HSP : Hid (∀ (x y : Option Addr) (w' : World), Ints w' x cs → Ints w' y ps → Calls Try.prog 7 #[.agg #[.int .i64 k, .int .i64 d, .int .i64 wd, .int .i64 hi, .slice x cn cn, .slice y pn pn]] w' fun e w'' => (∃ x cx y cy, e = .returned (.tuple #[.agg #[.int .i64 K, .int .i64 D, .int .i64 W, .int .i64 H, .slice x c2 cx, .slice y p2 cy], .bool ob]) ∧ Ints w'' x cs2 ∧ Ints w'' y ps2) ∧ Below w'.heap.size w' w'') := hSP
  have HIM : Hid (∀ (x y : Option Addr) (w' : World), Ints w' x cs → Ints w' y ps → Calls Try.prog 9 #[.agg #[.int .i64 k, .int .i64 d, .int .i64 wd, .int .i64 hi, .slice x cn cn, .slice y pn pn]] w' fun e w'' => (∃ x cx y cy, e = .returned (.tuple #[.agg #[.int .i64 K, .int .i64 D, .int .i64 W, .int .i64 H, .slice x c2 cx, .slice y p2 cy], .bool ob]) ∧ Pair2 w'' w'.heap.size x cs2 y ps2) ∧ Below w'.heap.size w' w'') := hIM
  have hB0 : Below w.heap.size w (w.alloc (.cells #[.int .i64 k, .int .i64 d, .int .i64 wd, .int .i64 hi, .slice ca cn cc, .slice pa pn pc] 24)) := (Below.refl _ _).alloc (Nat.le_refl _) _
  have HZ : Hid (Calls Try.prog 6 #[.agg #[.int .i64 k, .int .i64 d, .int .i64 wd, .int .i64 hi, .slice ca cn cc, .slice pa pn pc], .int .i64 1048576] (w.alloc (.cells #[.int .i64 k, .int .i64 d, .int .i64 wd, .int .i64 hi, .slice ca cn cc, .slice pa pn pc] 24)) fun e w' => e = .returned (.int .i64 (1048576 - (cn : Int) - (pn : Int))) ∧ Below (w.alloc (.cells #[.int .i64 k, .int .i64 d, .int .i64 wd, .int .i64 hi, .slice ca cn cc, .slice pa pn pc] 24)).heap.size (w.alloc (.cells #[.int .i64 k, .int .i64 d, .int .i64 wd, .int .i64 hi, .slice ca cn cc, .slice pa pn pc] 24)) w') := szImage_small k d wd hi ca cn cc pa pn pc _ hsum
  have HTO : Hid (∀ w', Ints w' ca cs → Ints w' pa ps → Calls Try.prog 8 #[.agg #[.int .i64 k, .int .i64 d, .int .i64 wd, .int .i64 hi, .slice ca cn cc, .slice pa pn pc]] w' fun e w'' => (∃ x y, e = .returned (.agg #[.int .i64 k, .int .i64 d, .int .i64 wd, .int .i64 hi, .slice x cn cn, .slice y pn pn]) ∧ Two w'' w'.heap.size w''.heap.size x cs y ps) ∧ Below w'.heap.size w' w'') := fun w' h1 h2 => toImage_two k d wd hi ca cn cc pa pn pc cs ps w' h1 hcn (by omega) h2 hpn (by omega)
  have HEQ0 : Hid (∀ (x y u v : Option Addr) (w' : World), Ints w' x cs → Ints w' y ps → Ints w' u cs → Ints w' v ps → Calls Try.prog 10 #[.agg #[.int .i64 k, .int .i64 d, .int .i64 wd, .int .i64 hi, .slice x cn cn, .slice y pn pn], .agg #[.int .i64 k, .int .i64 d, .int .i64 wd, .int .i64 hi, .slice u cn cn, .slice v pn pn]] w' fun e w'' => e = .returned (.bool true) ∧ Below w'.heap.size w' w'') := fun x y u v w' h1 h2 h3 h4 => eqImage_same k d wd hi x cn y pn u cn v pn cn pn cs ps w' h1 h2 h3 h4 hcn (by omega) hpn (by omega)
  have HEQ2 : Hid (∀ (x : Option Addr) (cx : Nat) (y : Option Addr) (cy : Nat) (u : Option Addr) (cu : Nat) (v : Option Addr) (cv : Nat) (w' : World), Ints w' x cs2 → Ints w' y ps2 → Ints w' u cs2 → Ints w' v ps2 → Calls Try.prog 10 #[.agg #[.int .i64 K, .int .i64 D, .int .i64 W, .int .i64 H, .slice x c2 cx, .slice y p2 cy], .agg #[.int .i64 K, .int .i64 D, .int .i64 W, .int .i64 H, .slice u c2 cu, .slice v p2 cv]] w' fun e w'' => e = .returned (.bool true) ∧ Below w'.heap.size w' w'') := fun x cx y cy u cu v cv w' h1 h2 h3 h4 => eqImage_same K D W H x cx y cy u cu v cv c2 p2 cs2 ps2 w' h1 h2 h3 h4 hc2 hcl2 hp2 hpl2
  obtain ⟨t1, ht1⟩ : ∃ t1 : Nat, t1 = 1 + cn + pn := ⟨_, rfl⟩
  obtain ⟨t2, ht2⟩ : ∃ t2 : Nat, t2 = 1 + c2 + p2 := ⟨_, rfl⟩
  have HMX : Hid (∀ (lo hi' : Nat) (x y : Option Addr) (w' : World), Two w' lo hi' x cs y ps → Calls Try.prog 11 #[.agg #[.int .i64 k, .int .i64 d, .int .i64 wd, .int .i64 hi, .slice x cn cn, .slice y pn pn], .int .i64 1] w' fun e w'' => e = .returned (.int .i64 (t1 : Int)) ∧ Two w'' lo hi' x (marksS 1 cn) y (marksS (1 + cn) pn) ∧ Outside lo hi' w' w'') := fun lo hi' x y w' h => by rw [ht1]; exact mark_two k d wd hi x y cn cn pn pn lo hi' cs ps w' h hcn hpn (by omega) (by omega)
  have HMG : Hid (∀ (lo hi' : Nat) (x : Option Addr) (cx : Nat) (y : Option Addr) (cy : Nat) (w' : World), Two w' lo hi' x cs2 y ps2 → Calls Try.prog 11 #[.agg #[.int .i64 K, .int .i64 D, .int .i64 W, .int .i64 H, .slice x c2 cx, .slice y p2 cy], .int .i64 1] w' fun e w'' => e = .returned (.int .i64 (t2 : Int)) ∧ Two w'' lo hi' x (marksS 1 c2) y (marksS (1 + c2) p2) ∧ Outside lo hi' w' w'') := fun lo hi' x cx y cy w' h => by rw [ht2]; exact mark_two K D W H x y c2 cx p2 cy lo hi' cs2 ps2 w' h hc2 hp2 hcl2 hpl2
  have HHG : Hid (∀ (lo hi' : Nat) (x : Option Addr) (cx : Nat) (y : Option Addr) (cy : Nat) (w' : World), Two w' lo hi' x (marksS 1 c2) y (marksS (1 + c2) p2) → Calls Try.prog 12 #[.agg #[.int .i64 K, .int .i64 D, .int .i64 W, .int .i64 H, .slice x c2 cx, .slice y p2 cy], .int .i64 1] w' fun e w'' => e = .returned (.int .i64 (t2 : Int)) ∧ Below w'.heap.size w' w'') := fun lo hi' x cx y cy w' h => by rw [ht2]; exact held_two K D W H x y c2 cx p2 cy lo hi' w' h hcl2 hpl2
  have hd0 : decide (1048576 - (cn : Int) - (pn : Int) < 0) = false := by simp; omega
  have hd1 : decide ((t1 : Int) < 0) = false := by simp
  have hd2 : decide ((t2 : Int) < 0) = false := by simp
  have HIC : Hid (∀ w', Below w.heap.size w w' → Ints w' ca cs) := fun w' b => hIc.kept b
  have HIP : Hid (∀ w', Below w.heap.size w w' → Ints w' pa ps) := fun w' b => hIp.kept b
  clear hIc hIp hcn hpn hSP hIM hc2 hp2 ht1 ht2 hsum hcl2 hpl2
  go_enter Try.func3, Try.ntmps3
  go_wp2_with fail
  refine HZ.out.mono ?_
  rintro e w1 ⟨rfl, b1⟩
  have A1 : Hid (Bx w1 w.heap.size (.int .i64 k) (.int .i64 d) (.int .i64 wd) (.int .i64 hi) (.slice ca cn cc) (.slice pa pn pc)) := (bx_new w _ _ _ _ _ _ 24).kept b1
  have bel1 : Below w.heap.size w w1 := hB0.trans (b1.mono hB0.size)
  obtain ⟨_, a0, a1, a2, a3, a4, a5⟩ := A1.out
  clear b1 HZ hB0
  go_wp2_with fail
  refine (HTO.out w1 (HIC.out _ bel1) (HIP.out _ bel1)).mono ?_
  rintro e w2 ⟨⟨x2, y2, rfl, T2⟩, b2⟩
  have A2 : Hid (Bx w2 w.heap.size (.int .i64 k) (.int .i64 d) (.int .i64 wd) (.int .i64 hi) (.slice ca cn cc) (.slice pa pn pc)) := A1.out.kept b2
  have bel2 : Below w.heap.size w w2 := bel1.trans (b2.mono bel1.size)
  have T2i : Hid (Ints w2 x2 cs ∧ Ints w2 y2 ps) := T2.ints
  clear b2 bel1 A1 T2 a0 a1 a2 a3 a4 a5
  go_wp2_with fail
  refine (HSP.out x2 y2 w2 T2i.out.1 T2i.out.2).mono ?_
  rintro e w3 ⟨⟨xw, cxw, yw, cyw, rfl, IX, IY⟩, b3⟩
  have LW3 : Hid (Ints w3 xw cs2 ∧ Ints w3 yw ps2) := ⟨IX, IY⟩
  have b4 : Below w3.heap.size w3 (w3.alloc (.cells #[.int .i64 K, .int .i64 D, .int .i64 W, .int .i64 H, .slice xw c2 cxw, .slice yw p2 cyw] 26)) := (Below.refl _ _).alloc (Nat.le_refl _) _
  have A4 : Hid (Bx (w3.alloc (.cells #[.int .i64 K, .int .i64 D, .int .i64 W, .int .i64 H, .slice xw c2 cxw, .slice yw p2 cyw] 26)) w.heap.size (.int .i64 k) (.int .i64 d) (.int .i64 wd) (.int .i64 hi) (.slice ca cn cc) (.slice pa pn pc)) := (A2.out.kept b3).kept b4
  have B4 : Hid (Bx (w3.alloc (.cells #[.int .i64 K, .int .i64 D, .int .i64 W, .int .i64 H, .slice xw c2 cxw, .slice yw p2 cyw] 26)) w3.heap.size (.int .i64 K) (.int .i64 D) (.int .i64 W) (.int .i64 H) (.slice xw c2 cxw) (.slice yw p2 cyw)) := bx_new w3 _ _ _ _ _ _ 26
  have bel3 : Below w.heap.size w w3 := bel2.trans (b3.mono bel2.size)
  have bel4 : Hid (Below w.heap.size w (w3.alloc (.cells #[.int .i64 K, .int .i64 D, .int .i64 W, .int .i64 H, .slice xw c2 cxw, .slice yw p2 cyw] 26))) := bel3.trans (b4.mono bel3.size)
  have LW4 : Hid (Ints (w3.alloc (.cells #[.int .i64 K, .int .i64 D, .int .i64 W, .int .i64 H, .slice xw c2 cxw, .slice yw p2 cyw] 26)) xw cs2 ∧ Ints (w3.alloc (.cells #[.int .i64 K, .int .i64 D, .int .i64 W, .int .i64 H, .slice xw c2 cxw, .slice yw p2 cyw] 26)) yw ps2) := ⟨IX.kept b4, IY.kept b4⟩
  have hs3 : w.heap.size < w3.heap.size := Nat.lt_of_lt_of_le A2.out.1 b3.size
  obtain ⟨_, a0, a1, a2, a3, a4, a5⟩ := A4.out
  clear b3 b4 bel2 bel3 A2 T2i IX IY HSP
  go_wp2_with fail
  refine (HTO.out _ (HIC.out _ bel4.out) (HIP.out _ bel4.out)).mono ?_
  rintro e w5 ⟨⟨x5, y5, rfl, T5⟩, b5⟩
  have hl4 : (w3.alloc (.cells #[.int .i64 K, .int .i64 D, .int .i64 W, .int .i64 H, .slice xw c2 cxw, .slice yw p2 cyw] 26)).heap.size = w3.heap.size + 1 := by simp
  rw [hl4] at T5
  have b6 : Below w5.heap.size w5 (w5.alloc (.cells #[.int .i64 k, .int .i64 d, .int .i64 wd, .int .i64 hi, .slice x5 cn cn, .slice y5 pn pn] 26)) := (Below.refl _ _).alloc (Nat.le_refl _) _
  have A6 : Hid (Bx (w5.alloc (.cells #[.int .i64 k, .int .i64 d, .int .i64 wd, .int .i64 hi, .slice x5 cn cn, .slice y5 pn pn] 26)) w.heap.size (.int .i64 k) (.int .i64 d) (.int .i64 wd) (.int .i64 hi) (.slice ca cn cc) (.slice pa pn pc)) := (A4.out.kept b5).kept b6
  have B6 : Hid (Bx (w5.alloc (.cells #[.int .i64 k, .int .i64 d, .int .i64 wd, .int .i64 hi, .slice x5 cn cn, .slice y5 pn pn] 26)) w3.heap.size (.int .i64 K) (.int .i64 D) (.int .i64 W) (.int .i64 H) (.slice xw c2 cxw) (.slice yw p2 cyw)) := (B4.out.kept b5).kept b6
  have X6 : Hid (Bx (w5.alloc (.cells #[.int .i64 k, .int .i64 d, .int .i64 wd, .int .i64 hi, .slice x5 cn cn, .slice y5 pn pn] 26)) w5.heap.size (.int .i64 k) (.int .i64 d) (.int .i64 wd) (.int .i64 hi) (.slice x5 cn cn) (.slice y5 pn pn)) := bx_new w5 _ _ _ _ _ _ 26
  have LW6 : Hid (Ints (w5.alloc (.cells #[.int .i64 k, .int .i64 d, .int .i64 wd, .int .i64 hi, .slice x5 cn cn, .slice y5 pn pn] 26)) xw cs2 ∧ Ints (w5.alloc (.cells #[.int .i64 k, .int .i64 d, .int .i64 wd, .int .i64 hi, .slice x5 cn cn, .slice y5 pn pn] 26)) yw ps2) := ⟨(LW4.out.1.kept b5).kept b6, (LW4.out.2.kept b5).kept b6⟩
  have LX6 : Hid (Two (w5.alloc (.cells #[.int .i64 k, .int .i64 d, .int .i64 wd, .int .i64 hi, .slice x5 cn cn, .slice y5 pn pn] 26)) (w3.heap.size + 1) w5.heap.size x5 cs y5 ps) := T5.kept b6
  have bel5 : Below w.heap.size w w5 := bel4.out.trans (b5.mono bel4.out.size)
  have bel6 : Hid (Below w.heap.size w (w5.alloc (.cells #[.int .i64 k, .int .i64 d, .int .i64 wd, .int .i64 hi, .slice x5 cn cn, .slice y5 pn pn] 26))) := bel5.trans (b6.mono bel5.size)
  have hs5 : w3.heap.size < w5.heap.size := Nat.lt_of_lt_of_le (by simp) b5.size
  clear b5 b6 bel4 bel5 A4 B4 LW4 T5 hl4 a0 a1 a2 a3 a4 a5
  go_wp2_with fail
  refine (HIM.out x5 y5 _ LX6.out.ints.1 LX6.out.ints.2).mono ?_
  rintro e w7 ⟨⟨xg, cg, yg, dg, rfl, P7⟩, b7⟩
  have hl6 : (w5.alloc (.cells #[.int .i64 k, .int .i64 d, .int .i64 wd, .int .i64 hi, .slice x5 cn cn, .slice y5 pn pn] 26)).heap.size = w5.heap.size + 1 := by simp
  have T7 : Two w7 (w5.heap.size + 1) w7.heap.size xg cs2 yg ps2 := by
    have := P7.two b7.size; rw [hl6] at this; exact this
  have b8 : Below w7.heap.size w7 (w7.alloc (.cells #[.int .i64 K, .int .i64 D, .int .i64 W, .int .i64 H, .slice xg c2 cg, .slice yg p2 dg] 26)) := (Below.refl _ _).alloc (Nat.le_refl _) _
  have A8 : Hid (Bx (w7.alloc (.cells #[.int .i64 K, .int .i64 D, .int .i64 W, .int .i64 H, .slice xg c2 cg, .slice yg p2 dg] 26)) w.heap.size (.int .i64 k) (.int .i64 d) (.int .i64 wd) (.int .i64 hi) (.slice ca cn cc) (.slice pa pn pc)) := (A6.out.kept b7).kept b8
  have B8 : Hid (Bx (w7.alloc (.cells #[.int .i64 K, .int .i64 D, .int .i64 W, .int .i64 H, .slice xg c2 cg, .slice yg p2 dg] 26)) w3.heap.size (.int .i64 K) (.int .i64 D) (.int .i64 W) (.int .i64 H) (.slice xw c2 cxw) (.slice yw p2 cyw)) := (B6.out.kept b7).kept b8
  have X8 : Hid (Bx (w7.alloc (.cells #[.int .i64 K, .int .i64 D, .int .i64 W, .int .i64 H, .slice xg c2 cg, .slice yg p2 dg] 26)) w5.heap.size (.int .i64 k) (.int .i64 d) (.int .i64 wd) (.int .i64 hi) (.slice x5 cn cn) (.slice y5 pn pn)) := (X6.out.kept b7).kept b8
  have G8 : Hid (Bx (w7.alloc (.cells #[.int .i64 K, .int .i64 D, .int .i64 W, .int .i64 H, .slice xg c2 cg, .slice yg p2 dg] 26)) w7.heap.size (.int .i64 K) (.int .i64 D) (.int .i64 W) (.int .i64 H) (.slice xg c2 cg) (.slice yg p2 dg)) := bx_new w7 _ _ _ _ _ _ 26
  have LW8 : Hid (Ints (w7.alloc (.cells #[.int .i64 K, .int .i64 D, .int .i64 W, .int .i64 H, .slice xg c2 cg, .slice yg p2 dg] 26)) xw cs2 ∧ Ints (w7.alloc (.cells #[.int .i64 K, .int .i64 D, .int .i64 W, .int .i64 H, .slice xg c2 cg, .slice yg p2 dg] 26)) yw ps2) := ⟨(LW6.out.1.kept b7).kept b8, (LW6.out.2.kept b7).kept b8⟩
  have LX8 : Hid (Two (w7.alloc (.cells #[.int .i64 K, .int .i64 D, .int .i64 W, .int .i64 H, .slice xg c2 cg, .slice yg p2 dg] 26)) (w3.heap.size + 1) w5.heap.size x5 cs y5 ps) := (LX6.out.kept b7).kept b8
  have LG8 : Hid (Two (w7.alloc (.cells #[.int .i64 K, .int .i64 D, .int .i64 W, .int .i64 H, .slice xg c2 cg, .slice yg p2 dg] 26)) (w5.heap.size + 1) w7.heap.size xg cs2 yg ps2) := T7.kept b8
  have bel7 : Below w.heap.size w w7 := bel6.out.trans (b7.mono bel6.out.size)
  have bel8 : Hid (Below w.heap.size w (w7.alloc (.cells #[.int .i64 K, .int .i64 D, .int .i64 W, .int .i64 H, .slice xg c2 cg, .slice yg p2 dg] 26))) := bel7.trans (b8.mono bel7.size)
  have hs7 : w5.heap.size < w7.heap.size := Nat.lt_of_lt_of_le (by simp) b7.size
  obtain ⟨_, c0, c1, c2', c3, c4, c5⟩ := B8.out
  clear b7 b8 bel6 bel7 A6 B6 X6 LW6 LX6 T7 P7 hl6
  go_wp2_with fail
  refine (HEQ2.out xg cg yg dg xw cxw yw cyw _ LG8.out.ints.1 LG8.out.ints.2 LW8.out.1 LW8.out.2).mono ?_
  rintro e w9 ⟨rfl, b9⟩
  have A9 : Hid (Bx w9 w.heap.size (.int .i64 k) (.int .i64 d) (.int .i64 wd) (.int .i64 hi) (.slice ca cn cc) (.slice pa pn pc)) := A8.out.kept b9
  have B9 : Hid (Bx w9 w3.heap.size (.int .i64 K) (.int .i64 D) (.int .i64 W) (.int .i64 H) (.slice xw c2 cxw) (.slice yw p2 cyw)) := B8.out.kept b9
  have X9 : Hid (Bx w9 w5.heap.size (.int .i64 k) (.int .i64 d) (.int .i64 wd) (.int .i64 hi) (.slice x5 cn cn) (.slice y5 pn pn)) := X8.out.kept b9
  have G9 : Hid (Bx w9 w7.heap.size (.int .i64 K) (.int .i64 D) (.int .i64 W) (.int .i64 H) (.slice xg c2 cg) (.slice yg p2 dg)) := G8.out.kept b9
  have LW9 : Hid (Ints w9 xw cs2 ∧ Ints w9 yw ps2) := ⟨LW8.out.1.kept b9, LW8.out.2.kept b9⟩
  have LX9 : Hid (Two w9 (w3.heap.size + 1) w5.heap.size x5 cs y5 ps) := LX8.out.kept b9
  have LG9 : Hid (Two w9 (w5.heap.size + 1) w7.heap.size xg cs2 yg ps2) := LG8.out.kept b9
  have bel9 : Hid (Below w.heap.size w w9) := bel8.out.trans (b9.mono bel8.out.size)
  have LA9 : Hid (Ints w9 ca cs ∧ Ints w9 pa ps) := ⟨HIC.out _ bel9.out, HIP.out _ bel9.out⟩
  obtain ⟨_, a0, a1, a2, a3, a4, a5⟩ := A9.out
  obtain ⟨_, x0', x1', x2', x3', x4', x5'⟩ := X9.out
  clear b9 bel8 A8 B8 X8 G8 LW8 LX8 LG8 c0 c1 c2' c3 c4 c5
  go_wp2_with fail
  go_region_held3 (fun w' => w'.cell? ⟨w.heap.size, 0, none⟩ = some (.int .i64 k) ∧ w'.cell? ⟨w.heap.size, 1, none⟩ = some (.int .i64 d) ∧ w'.cell? ⟨w.heap.size, 2, none⟩ = some (.int .i64 wd) ∧ w'.cell? ⟨w.heap.size, 3, none⟩ = some (.int .i64 hi) ∧ w'.cell? ⟨w.heap.size, 4, none⟩ = some (.slice ca cn cc) ∧ w'.cell? ⟨w.heap.size, 5, none⟩ = some (.slice pa pn pc) ∧ w'.cell? ⟨w5.heap.size, 0, none⟩ = some (.int .i64 k) ∧ w'.cell? ⟨w5.heap.size, 1, none⟩ = some (.int .i64 d) ∧ w'.cell? ⟨w5.heap.size, 2, none⟩ = some (.int .i64 wd) ∧ w'.cell? ⟨w5.heap.size, 3, none⟩ = some (.int .i64 hi) ∧ w'.cell? ⟨w5.heap.size, 4, none⟩ = some (.slice x5 cn cn) ∧ w'.cell? ⟨w5.heap.size, 5, none⟩ = some (.slice y5 pn pn)) (go_keep) (first | (go_at_call 8; refine (HTO.out _ (LA9.out.1.kept (Below.refl _ _).drew) (LA9.out.2.kept (Below.refl _ _).drew)).mono ?_; rintro e w10 ⟨⟨x10, y10, rfl, T10⟩, b10⟩; have b10' : Below w9.heap.size w9 w10 := box_drew b10; have LX10 : Hid (Ints w10 x5 cs ∧ Ints w10 y5 ps ∧ Ints w10 x10 cs ∧ Ints w10 y10 ps) := ⟨LX9.out.ints.1.kept b10', LX9.out.ints.2.kept b10', T10.ints.1, T10.ints.2⟩; have A10 : Hid (Bx w10 w.heap.size (.int .i64 k) (.int .i64 d) (.int .i64 wd) (.int .i64 hi) (.slice ca cn cc) (.slice pa pn pc)) := A9.out.kept b10'; have X10 : Hid (Bx w10 w5.heap.size (.int .i64 k) (.int .i64 d) (.int .i64 wd) (.int .i64 hi) (.slice x5 cn cn) (.slice y5 pn pn)) := X9.out.kept b10'; obtain ⟨_, m0, m1, m2, m3, m4, m5⟩ := A10.out; obtain ⟨_, n0, n1, n2, n3, n4, n5⟩ := X10.out; clear T10) | (go_at_call 10; refine (HEQ0.out _ _ _ _ _ LX10.out.1 LX10.out.2.1 LX10.out.2.2.1 LX10.out.2.2.2).mono ?_; rintro e w11 ⟨rfl, b11⟩; have A11 : Hid (Bx w11 w.heap.size (.int .i64 k) (.int .i64 d) (.int .i64 wd) (.int .i64 hi) (.slice ca cn cc) (.slice pa pn pc)) := A10.out.kept b11; have X11 : Hid (Bx w11 w5.heap.size (.int .i64 k) (.int .i64 d) (.int .i64 wd) (.int .i64 hi) (.slice x5 cn cn) (.slice y5 pn pn)) := X10.out.kept b11; obtain ⟨_, g0, g1, g2, g3, g4, g5⟩ := A11.out; obtain ⟨_, f0, f1, f2, f3, f4, f5⟩ := X11.out))
  all_goals
    have b911 : Below w9.heap.size w9 w11 := b10'.trans (b11.mono b10'.size)
    have B11 : Hid (Bx w11 w3.heap.size (.int .i64 K) (.int .i64 D) (.int .i64 W) (.int .i64 H) (.slice xw c2 cxw) (.slice yw p2 cyw)) := B9.out.kept b911
    have G11 : Hid (Bx w11 w7.heap.size (.int .i64 K) (.int .i64 D) (.int .i64 W) (.int .i64 H) (.slice xg c2 cg) (.slice yg p2 dg)) := G9.out.kept b911
    have LW11 : Hid (Ints w11 xw cs2 ∧ Ints w11 yw ps2) := ⟨LW9.out.1.kept b911, LW9.out.2.kept b911⟩
    have LX11 : Hid (Two w11 (w3.heap.size + 1) w5.heap.size x5 cs y5 ps) := LX9.out.kept b911
    have LG11 : Hid (Two w11 (w5.heap.size + 1) w7.heap.size xg cs2 yg ps2) := LG9.out.kept b911
    have bel11 : Hid (Below w.heap.size w w11) := bel9.out.trans (b911.mono bel9.out.size)
    clear b911 b10 b10' b11 A9 B9 X9 G9 LW9 LX9 LG9 bel9 LA9 LX10 A10 X10 m0 m1 m2 m3 m4 m5 n0 n1 n2 n3 n4 n5 a0 a1 a2 a3 a4 a5 x0' x1' x2' x3' x4' x5' g0 g1 g2 g3 g4 g5 HEQ0
    go_wp2_with fail
    refine (HMX.out (w3.heap.size + 1) w5.heap.size x5 y5 w11 LX11.out).mono ?_
    rintro e w12 ⟨rfl, _, o12⟩
    have A12 : Hid (Bx w12 w.heap.size (.int .i64 k) (.int .i64 d) (.int .i64 wd) (.int .i64 hi) (.slice ca cn cc) (.slice pa pn pc)) := A11.out.out o12 (by omega)
    have B12 : Hid (Bx w12 w3.heap.size (.int .i64 K) (.int .i64 D) (.int .i64 W) (.int .i64 H) (.slice xw c2 cxw) (.slice yw p2 cyw)) := B11.out.out o12 (by omega)
    have G12 : Hid (Bx w12 w7.heap.size (.int .i64 K) (.int .i64 D) (.int .i64 W) (.int .i64 H) (.slice xg c2 cg) (.slice yg p2 dg)) := G11.out.out o12 (by omega)
    have LW12 : Hid (Ints w12 xw cs2 ∧ Ints w12 yw ps2) := ⟨LW3.out.1.out LW11.out.1 o12 (by omega), LW3.out.2.out LW11.out.2 o12 (by omega)⟩
    have LG12 : Hid (Two w12 (w5.heap.size + 1) w7.heap.size xg cs2 yg ps2) := LG11.out.out o12 (by omega)
    have bel12 : Hid (Below w.heap.size w w12) := bel11.out.trans (o12.below (by omega) bel11.out.size)
    obtain ⟨_, g0, g1, g2, g3, g4, g5⟩ := G12.out
    obtain ⟨_, c0, c1, c2', c3, c4, c5⟩ := B12.out
    clear o12 A11 B11 X11 G11 LW11 LX11 LG11 bel11 f0 f1 f2 f3 f4 f5 HMX
    go_wp2_with fail
    refine (HEQ2.out xg cg yg dg xw cxw yw cyw _ LG12.out.ints.1 LG12.out.ints.2 LW12.out.1 LW12.out.2).mono ?_
    rintro e w13 ⟨rfl, b13⟩
    have A13 : Hid (Bx w13 w.heap.size (.int .i64 k) (.int .i64 d) (.int .i64 wd) (.int .i64 hi) (.slice ca cn cc) (.slice pa pn pc)) := A12.out.kept b13
    have B13 : Hid (Bx w13 w3.heap.size (.int .i64 K) (.int .i64 D) (.int .i64 W) (.int .i64 H) (.slice xw c2 cxw) (.slice yw p2 cyw)) := B12.out.kept b13
    have G13 : Hid (Bx w13 w7.heap.size (.int .i64 K) (.int .i64 D) (.int .i64 W) (.int .i64 H) (.slice xg c2 cg) (.slice yg p2 dg)) := G12.out.kept b13
    have LW13 : Hid (Ints w13 xw cs2 ∧ Ints w13 yw ps2) := ⟨LW12.out.1.kept b13, LW12.out.2.kept b13⟩
    have LG13 : Hid (Two w13 (w5.heap.size + 1) w7.heap.size xg cs2 yg ps2) := LG12.out.kept b13
    have bel13 : Hid (Below w.heap.size w w13) := bel12.out.trans (b13.mono bel12.out.size)
    clear b13 A12 B12 G12 LW12 LG12 bel12 g0 g1 g2 g3 g4 g5 c0 c1 c2' c3 c4 c5
    obtain ⟨_, g0, g1, g2, g3, g4, g5⟩ := G13.out
    go_wp2_with fail
    refine (HMG.out (w5.heap.size + 1) w7.heap.size xg cg yg dg w13 LG13.out).mono ?_
    rintro e w14 ⟨rfl, M14, o14⟩
    have LM14 : Hid (Two w14 (w5.heap.size + 1) w7.heap.size xg (marksS 1 c2) yg (marksS (1 + c2) p2)) := M14
    have A14 : Hid (Bx w14 w.heap.size (.int .i64 k) (.int .i64 d) (.int .i64 wd) (.int .i64 hi) (.slice ca cn cc) (.slice pa pn pc)) := A13.out.out o14 (by omega)
    have B14 : Hid (Bx w14 w3.heap.size (.int .i64 K) (.int .i64 D) (.int .i64 W) (.int .i64 H) (.slice xw c2 cxw) (.slice yw p2 cyw)) := B13.out.out o14 (by omega)
    have G14 : Hid (Bx w14 w7.heap.size (.int .i64 K) (.int .i64 D) (.int .i64 W) (.int .i64 H) (.slice xg c2 cg) (.slice yg p2 dg)) := G13.out.out o14 (by omega)
    have LW14 : Hid (Ints w14 xw cs2 ∧ Ints w14 yw ps2) := ⟨LW3.out.1.out LW13.out.1 o14 (by omega), LW3.out.2.out LW13.out.2 o14 (by omega)⟩
    have bel14 : Hid (Below w.heap.size w w14) := bel13.out.trans (o14.below (by omega) bel13.out.size)
    clear o14 M14 A13 B13 G13 LW13 LG13 bel13 g0 g1 g2 g3 g4 g5 HMG
    obtain ⟨_, g0, g1, g2, g3, g4, g5⟩ := G14.out
    go_wp2_with fail
    refine (HHG.out (w5.heap.size + 1) w7.heap.size xg cg yg dg w14 LM14.out).mono ?_
    rintro e w15 ⟨rfl, b15⟩
    have LM15 : Hid (Two w15 (w5.heap.size + 1) w7.heap.size xg (marksS 1 c2) yg (marksS (1 + c2) p2)) := LM14.out.kept b15
    have A15 : Hid (Bx w15 w.heap.size (.int .i64 k) (.int .i64 d) (.int .i64 wd) (.int .i64 hi) (.slice ca cn cc) (.slice pa pn pc)) := A14.out.kept b15
    have B15 : Hid (Bx w15 w3.heap.size (.int .i64 K) (.int .i64 D) (.int .i64 W) (.int .i64 H) (.slice xw c2 cxw) (.slice yw p2 cyw)) := B14.out.kept b15
    have G15 : Hid (Bx w15 w7.heap.size (.int .i64 K) (.int .i64 D) (.int .i64 W) (.int .i64 H) (.slice xg c2 cg) (.slice yg p2 dg)) := G14.out.kept b15
    have LW15 : Hid (Ints w15 xw cs2 ∧ Ints w15 yw ps2) := ⟨LW14.out.1.kept b15, LW14.out.2.kept b15⟩
    have bel15 : Hid (Below w.heap.size w w15) := bel14.out.trans (b15.mono bel14.out.size)
    clear b15 LM14 A14 B14 G14 LW14 bel14 g0 g1 g2 g3 g4 g5
    obtain ⟨_, a0, a1, a2, a3, a4, a5⟩ := A15.out
    go_wp2_with fail
    refine (HTO.out w15 (HIC.out _ bel15.out) (HIP.out _ bel15.out)).mono ?_
    rintro e w16 ⟨⟨x16, y16, rfl, T16⟩, b16⟩
    have T16i : Hid (Ints w16 x16 cs ∧ Ints w16 y16 ps) := T16.ints
    have LM16 : Hid (Two w16 (w5.heap.size + 1) w7.heap.size xg (marksS 1 c2) yg (marksS (1 + c2) p2)) := LM15.out.kept b16
    have B16 : Hid (Bx w16 w3.heap.size (.int .i64 K) (.int .i64 D) (.int .i64 W) (.int .i64 H) (.slice xw c2 cxw) (.slice yw p2 cyw)) := B15.out.kept b16
    have G16 : Hid (Bx w16 w7.heap.size (.int .i64 K) (.int .i64 D) (.int .i64 W) (.int .i64 H) (.slice xg c2 cg) (.slice yg p2 dg)) := G15.out.kept b16
    have LW16 : Hid (Ints w16 xw cs2 ∧ Ints w16 yw ps2) := ⟨LW15.out.1.kept b16, LW15.out.2.kept b16⟩
    have bel16 : Hid (Below w.heap.size w w16) := bel15.out.trans (b16.mono bel15.out.size)
    clear b16 T16 LM15 A15 B15 G15 LW15 bel15 a0 a1 a2 a3 a4 a5
    go_wp2_with fail
    refine (HIM.out x16 y16 w16 T16i.out.1 T16i.out.2).mono ?_
    rintro e w17 ⟨⟨xh, ch, yh, dh, rfl, P17⟩, b17⟩
    have T17 := P17.two b17.size
    have b18 : Below w17.heap.size w17 (w17.alloc (.cells #[.int .i64 K, .int .i64 D, .int .i64 W, .int .i64 H, .slice xh c2 ch, .slice yh p2 dh] 26)) := (Below.refl _ _).alloc (Nat.le_refl _) _
    have LH18 : Hid (Ints (w17.alloc (.cells #[.int .i64 K, .int .i64 D, .int .i64 W, .int .i64 H, .slice xh c2 ch, .slice yh p2 dh] 26)) xh cs2 ∧ Ints (w17.alloc (.cells #[.int .i64 K, .int .i64 D, .int .i64 W, .int .i64 H, .slice xh c2 ch, .slice yh p2 dh] 26)) yh ps2) := ⟨T17.ints.1.kept b18, T17.ints.2.kept b18⟩
    have LM18 : Hid (Two (w17.alloc (.cells #[.int .i64 K, .int .i64 D, .int .i64 W, .int .i64 H, .slice xh c2 ch, .slice yh p2 dh] 26)) (w5.heap.size + 1) w7.heap.size xg (marksS 1 c2) yg (marksS (1 + c2) p2)) := (LM16.out.kept b17).kept b18
    have B18 : Hid (Bx (w17.alloc (.cells #[.int .i64 K, .int .i64 D, .int .i64 W, .int .i64 H, .slice xh c2 ch, .slice yh p2 dh] 26)) w3.heap.size (.int .i64 K) (.int .i64 D) (.int .i64 W) (.int .i64 H) (.slice xw c2 cxw) (.slice yw p2 cyw)) := (B16.out.kept b17).kept b18
    have G18 : Hid (Bx (w17.alloc (.cells #[.int .i64 K, .int .i64 D, .int .i64 W, .int .i64 H, .slice xh c2 ch, .slice yh p2 dh] 26)) w7.heap.size (.int .i64 K) (.int .i64 D) (.int .i64 W) (.int .i64 H) (.slice xg c2 cg) (.slice yg p2 dg)) := (G16.out.kept b17).kept b18
    have LW18 : Hid (Ints (w17.alloc (.cells #[.int .i64 K, .int .i64 D, .int .i64 W, .int .i64 H, .slice xh c2 ch, .slice yh p2 dh] 26)) xw cs2 ∧ Ints (w17.alloc (.cells #[.int .i64 K, .int .i64 D, .int .i64 W, .int .i64 H, .slice xh c2 ch, .slice yh p2 dh] 26)) yw ps2) := ⟨(LW16.out.1.kept b17).kept b18, (LW16.out.2.kept b17).kept b18⟩
    have bel17 : Below w.heap.size w w17 := bel16.out.trans (b17.mono bel16.out.size)
    have bel18 : Hid (Below w.heap.size w (w17.alloc (.cells #[.int .i64 K, .int .i64 D, .int .i64 W, .int .i64 H, .slice xh c2 ch, .slice yh p2 dh] 26))) := bel17.trans (b18.mono bel17.size)
    clear b17 b18 bel17 P17 T17 T16i LM16 B16 G16 LW16 bel16
    obtain ⟨_, c0, c1, c2', c3, c4, c5⟩ := B18.out
    go_wp2_with fail
    refine (HEQ2.out xh ch yh dh xw cxw yw cyw _ LH18.out.1 LH18.out.2 LW18.out.1 LW18.out.2).mono ?_
    rintro e w19 ⟨rfl, b19⟩
    have G19 : Hid (Bx w19 w7.heap.size (.int .i64 K) (.int .i64 D) (.int .i64 W) (.int .i64 H) (.slice xg c2 cg) (.slice yg p2 dg)) := G18.out.kept b19
    have LM19 : Hid (Two w19 (w5.heap.size + 1) w7.heap.size xg (marksS 1 c2) yg (marksS (1 + c2) p2)) := LM18.out.kept b19
    have bel19 : Hid (Below w.heap.size w w19) := bel18.out.trans (b19.mono bel18.out.size)
    clear b19 LH18 LM18 B18 G18 LW18 bel18 c0 c1 c2' c3 c4 c5
    obtain ⟨_, g0, g1, g2, g3, g4, g5⟩ := G19.out
    go_wp2_with fail
    refine (HHG.out (w5.heap.size + 1) w7.heap.size xg cg yg dg w19 LM19.out).mono ?_
    rintro e w20 ⟨rfl, b20⟩
    have bel20 : Below w.heap.size w w20 := bel19.out.trans (b20.mono bel19.out.size)
    clear b20 LM19 G19 bel19 g0 g1 g2 g3 g4 g5
    go_wp2_with fail
    go_ret
    exact ⟨rfl, bel20⟩
end Go.Proofs.Ytjiogneidioknaa
