/- The exact law of ImageLike, at every two pictures. -/
import Derived.Test.YtjikjjganloobabImplLike
import Derived.Test.YtjikjjganloobabSpecLike
import Derived.Test.YtjikjjganloobabImgOk3
import Derived.Test.YtjikjjganloobabImgSpec3
namespace Go.Proofs.Ytjikjjganloobab
open Go.RowKit

set_option maxHeartbeats 400000 in
theorem szImage_from (l : Int) (k d wd hi : Int) (ca : Option Addr) (cn cc : Nat) (pa : Option Addr) (pn pc : Nat) (w : World) (hl : 0 ≤ l ∧ l ≤ 1048576) (h : (cn : Int) + (pn : Int) ≤ l) :
    Calls Try.prog 17 #[.agg #[.int .i64 k, .int .i64 d, .int .i64 wd, .int .i64 hi, .slice ca cn cc, .slice pa pn pc], .int .i64 l] w fun e w' => e = .returned (.int .i64 (l - (cn : Int) - (pn : Int))) ∧ Below w.heap.size w w' := by
  have bel : Below w.heap.size w (w.alloc (.cells #[.int .i64 k, .int .i64 d, .int .i64 wd, .int .i64 hi, .slice ca cn cc, .slice pa pn pc] 34)) := (Below.refl _ _).alloc (Nat.le_refl _) _
  obtain ⟨l1, hl1⟩ : ∃ l1 : Int, l1 = l - (cn : Int) := ⟨_, rfl⟩
  obtain ⟨l2, hl2⟩ : ∃ l2 : Int, l2 = l - (cn : Int) - (pn : Int) := ⟨_, rfl⟩
  rw [← hl2]
  have H1 : Hid (∀ w : World, Calls Try.prog 41 #[.slice ca cn cc, .int .i64 l] w fun e w' => e = .returned (.int .i64 l1) ∧ w' = w) := by
    intro w
    have := szInts_any ca cn cc l w (by omega) (by omega)
    rw [if_pos (by omega), ← hl1] at this; exact this
  have H2 : Hid (∀ w : World, Calls Try.prog 41 #[.slice pa pn pc, .int .i64 l1] w fun e w' => e = .returned (.int .i64 l2) ∧ w' = w) := by
    intro w
    have := szInts_any pa pn pc l1 w (by omega) (by omega)
    rw [if_pos (by omega), show l1 - (pn : Int) = l2 by omega] at this; exact this
  have d1 : decide (l1 < 0) = false := by simp; omega
  have d2 : decide (l2 < 0) = false := by simp; omega
  clear hl1 hl2
  go_enter Try.func17, Try.ntmps17
  go_wp2_with fail
  refine (H1.out _).mono ?_
  rintro e w1 ⟨rfl, hw1⟩
  subst hw1
  go_wp2_with fail
  refine (H2.out _).mono ?_
  rintro e w1 ⟨rfl, hw1⟩
  subst hw1
  go_wp2_with fail
  go_ret
  exact ⟨rfl, bel⟩

set_option maxHeartbeats 400000 in
theorem szImage_past (l : Int) (k d wd hi : Int) (ca : Option Addr) (cn cc : Nat) (pa : Option Addr) (pn pc : Nat) (w : World) (hl : 0 ≤ l ∧ l ≤ 1048576) (hc : cn ≤ 9223372036854775807) (hp : pn ≤ 9223372036854775807) (h : l < (cn : Int) + (pn : Int)) :
    Calls Try.prog 17 #[.agg #[.int .i64 k, .int .i64 d, .int .i64 wd, .int .i64 hi, .slice ca cn cc, .slice pa pn pc], .int .i64 l] w fun e w' => e = .returned (.int .i64 (-1)) ∧ Below w.heap.size w w' := by
  have bel : Below w.heap.size w (w.alloc (.cells #[.int .i64 k, .int .i64 d, .int .i64 wd, .int .i64 hi, .slice ca cn cc, .slice pa pn pc] 34)) := (Below.refl _ _).alloc (Nat.le_refl _) _
  by_cases hcb : (cn : Int) ≤ l
  · obtain ⟨l1, hl1⟩ : ∃ l1 : Int, l1 = l - (cn : Int) := ⟨_, rfl⟩
    have H1 : Hid (∀ w : World, Calls Try.prog 41 #[.slice ca cn cc, .int .i64 l] w fun e w' => e = .returned (.int .i64 l1) ∧ w' = w) := by
      intro w
      have := szInts_any ca cn cc l w (by omega) (by omega)
      rw [if_pos (by omega), ← hl1] at this; exact this
    have H2 : Hid (∀ w : World, Calls Try.prog 41 #[.slice pa pn pc, .int .i64 l1] w fun e w' => e = .returned (.int .i64 (-1)) ∧ w' = w) := by
      intro w
      have := szInts_any pa pn pc l1 w (by omega) (by omega)
      rw [if_neg (by omega)] at this; exact this
    have d1 : decide (l1 < 0) = false := by simp; omega
    clear hl1
    go_enter Try.func17, Try.ntmps17
    go_wp2_with fail
    refine (H1.out _).mono ?_
    rintro e w1 ⟨rfl, hw1⟩
    subst hw1
    go_wp2_with fail
    refine (H2.out _).mono ?_
    rintro e w1 ⟨rfl, hw1⟩
    subst hw1
    go_wp2_with fail
    go_ret
    exact ⟨rfl, bel⟩
  · have H1 : Hid (∀ w : World, Calls Try.prog 41 #[.slice ca cn cc, .int .i64 l] w fun e w' => e = .returned (.int .i64 (-1)) ∧ w' = w) := by
      intro w
      have := szInts_any ca cn cc l w (by omega) (by omega)
      rw [if_neg (by omega)] at this; exact this
    go_enter Try.func17, Try.ntmps17
    go_wp2_with fail
    refine (H1.out _).mono ?_
    rintro e w1 ⟨rfl, hw1⟩
    subst hw1
    go_wp2_with fail
    go_ret
    exact ⟨rfl, bel⟩

set_option maxHeartbeats 8000000 in
set_option maxRecDepth 20000 in
theorem exImageLike_core (k d wd hi : Int) (ca : Option Addr) (cn cc : Nat) (pa : Option Addr) (pn pc : Nat) (k2 d2 wd2 hi2 : Int) (ca2 : Option Addr) (cn2 cc2 : Nat) (pa2 : Option Addr) (pn2 pc2 : Nat) (r : Bool) (cs ps cs2 ps2 : List Int) (w : World) (hIc : Ints w ca cs) (hIp : Ints w pa ps) (hcn : cs.length = cn) (hpn : ps.length = pn) (hIc2 : Ints w ca2 cs2) (hIp2 : Ints w pa2 ps2) (hcn2 : cs2.length = cn2) (hpn2 : ps2.length = pn2) (hsum : cn + pn + cn2 + pn2 ≤ 1048576)
    (hSP : (∀ (x y x2 y2 : Option Addr) (w' : World), Ints w' x cs → Ints w' y ps → Ints w' x2 cs2 → Ints w' y2 ps2 → Calls Try.prog 24 #[.agg #[.int .i64 k, .int .i64 d, .int .i64 wd, .int .i64 hi, .slice x cn cn, .slice y pn pn], .agg #[.int .i64 k2, .int .i64 d2, .int .i64 wd2, .int .i64 hi2, .slice x2 cn2 cn2, .slice y2 pn2 pn2]] w' fun e w'' => e = .returned (.bool r) ∧ Below w'.heap.size w' w'')) (hIM : (∀ (x y x2 y2 : Option Addr) (w' : World), Ints w' x cs → Ints w' y ps → Ints w' x2 cs2 → Ints w' y2 ps2 → Calls Try.prog 25 #[.agg #[.int .i64 k, .int .i64 d, .int .i64 wd, .int .i64 hi, .slice x cn cn, .slice y pn pn], .agg #[.int .i64 k2, .int .i64 d2, .int .i64 wd2, .int .i64 hi2, .slice x2 cn2 cn2, .slice y2 pn2 pn2]] w' fun e w'' => e = .returned (.bool r) ∧ Below w'.heap.size w' w'')) :
    Calls Try.prog 6 #[.agg #[.int .i64 k, .int .i64 d, .int .i64 wd, .int .i64 hi, .slice ca cn cc, .slice pa pn pc], .agg #[.int .i64 k2, .int .i64 d2, .int .i64 wd2, .int .i64 hi2, .slice ca2 cn2 cc2, .slice pa2 pn2 pc2]] w fun e w' => e = .returned (.bool true) ∧ Below w.heap.size w w' := by
  have HSP : Hid (∀ (x y x2 y2 : Option Addr) (w' : World), Ints w' x cs → Ints w' y ps → Ints w' x2 cs2 → Ints w' y2 ps2 → Calls Try.prog 24 #[.agg #[.int .i64 k, .int .i64 d, .int .i64 wd, .int .i64 hi, .slice x cn cn, .slice y pn pn], .agg #[.int .i64 k2, .int .i64 d2, .int .i64 wd2, .int .i64 hi2, .slice x2 cn2 cn2, .slice y2 pn2 pn2]] w' fun e w'' => e = .returned (.bool r) ∧ Below w'.heap.size w' w'') := hSP
  have HIM : Hid (∀ (x y x2 y2 : Option Addr) (w' : World), Ints w' x cs → Ints w' y ps → Ints w' x2 cs2 → Ints w' y2 ps2 → Calls Try.prog 25 #[.agg #[.int .i64 k, .int .i64 d, .int .i64 wd, .int .i64 hi, .slice x cn cn, .slice y pn pn], .agg #[.int .i64 k2, .int .i64 d2, .int .i64 wd2, .int .i64 hi2, .slice x2 cn2 cn2, .slice y2 pn2 pn2]] w' fun e w'' => e = .returned (.bool r) ∧ Below w'.heap.size w' w'') := hIM
  have hB0 : Below w.heap.size w ((w.alloc (.cells #[.int .i64 k, .int .i64 d, .int .i64 wd, .int .i64 hi, .slice ca cn cc, .slice pa pn pc] 34)).alloc (.cells #[.int .i64 k2, .int .i64 d2, .int .i64 wd2, .int .i64 hi2, .slice ca2 cn2 cc2, .slice pa2 pn2 pc2] 34)) := ((Below.refl _ _).alloc (Nat.le_refl _) _).alloc (by simp) _
  have A0 : Hid (Bx ((w.alloc (.cells #[.int .i64 k, .int .i64 d, .int .i64 wd, .int .i64 hi, .slice ca cn cc, .slice pa pn pc] 34)).alloc (.cells #[.int .i64 k2, .int .i64 d2, .int .i64 wd2, .int .i64 hi2, .slice ca2 cn2 cc2, .slice pa2 pn2 pc2] 34)) w.heap.size (.int .i64 k) (.int .i64 d) (.int .i64 wd) (.int .i64 hi) (.slice ca cn cc) (.slice pa pn pc)) := (bx_new w _ _ _ _ _ _ 34).kept ((Below.refl _ _).alloc (Nat.le_refl _) _)
  have B0 : Hid (Bx ((w.alloc (.cells #[.int .i64 k, .int .i64 d, .int .i64 wd, .int .i64 hi, .slice ca cn cc, .slice pa pn pc] 34)).alloc (.cells #[.int .i64 k2, .int .i64 d2, .int .i64 wd2, .int .i64 hi2, .slice ca2 cn2 cc2, .slice pa2 pn2 pc2] 34)) (w.heap.size + 1) (.int .i64 k2) (.int .i64 d2) (.int .i64 wd2) (.int .i64 hi2) (.slice ca2 cn2 cc2) (.slice pa2 pn2 pc2)) := by
    have := bx_new (w.alloc (.cells #[.int .i64 k, .int .i64 d, .int .i64 wd, .int .i64 hi, .slice ca cn cc, .slice pa pn pc] 34)) (.int .i64 k2) (.int .i64 d2) (.int .i64 wd2) (.int .i64 hi2) (.slice ca2 cn2 cc2) (.slice pa2 pn2 pc2) 34
    rw [World.size_alloc] at this; exact this
  obtain ⟨l1, hl1⟩ : ∃ l1 : Int, l1 = 1048576 - (cn : Int) - (pn : Int) := ⟨_, rfl⟩
  obtain ⟨l2, hl2⟩ : ∃ l2 : Int, l2 = l1 - (cn2 : Int) - (pn2 : Int) := ⟨_, rfl⟩
  have HZA : Hid (∀ w', Calls Try.prog 17 #[.agg #[.int .i64 k, .int .i64 d, .int .i64 wd, .int .i64 hi, .slice ca cn cc, .slice pa pn pc], .int .i64 1048576] w' fun e w'' => e = .returned (.int .i64 l1) ∧ Below w'.heap.size w' w'') := fun w' => by rw [hl1]; exact szImage_from 1048576 k d wd hi ca cn cc pa pn pc w' (by omega) (by omega)
  have HZB : Hid (∀ w', Calls Try.prog 17 #[.agg #[.int .i64 k2, .int .i64 d2, .int .i64 wd2, .int .i64 hi2, .slice ca2 cn2 cc2, .slice pa2 pn2 pc2], .int .i64 l1] w' fun e w'' => e = .returned (.int .i64 l2) ∧ Below w'.heap.size w' w'') := fun w' => by rw [hl2]; exact szImage_from l1 k2 d2 wd2 hi2 ca2 cn2 cc2 pa2 pn2 pc2 w' (by omega) (by omega)
  have HTA : Hid (∀ w', Ints w' ca cs → Ints w' pa ps → Calls Try.prog 19 #[.agg #[.int .i64 k, .int .i64 d, .int .i64 wd, .int .i64 hi, .slice ca cn cc, .slice pa pn pc]] w' fun e w'' => (∃ x y, e = .returned (.agg #[.int .i64 k, .int .i64 d, .int .i64 wd, .int .i64 hi, .slice x cn cn, .slice y pn pn]) ∧ Two w'' w'.heap.size w''.heap.size x cs y ps) ∧ Below w'.heap.size w' w'') := fun w' h1 h2 => toImage_two k d wd hi ca cn cc pa pn pc cs ps w' h1 hcn (by omega) h2 hpn (by omega)
  have HTB : Hid (∀ w', Ints w' ca2 cs2 → Ints w' pa2 ps2 → Calls Try.prog 19 #[.agg #[.int .i64 k2, .int .i64 d2, .int .i64 wd2, .int .i64 hi2, .slice ca2 cn2 cc2, .slice pa2 pn2 pc2]] w' fun e w'' => (∃ x y, e = .returned (.agg #[.int .i64 k2, .int .i64 d2, .int .i64 wd2, .int .i64 hi2, .slice x cn2 cn2, .slice y pn2 pn2]) ∧ Two w'' w'.heap.size w''.heap.size x cs2 y ps2) ∧ Below w'.heap.size w' w'') := fun w' h1 h2 => toImage_two k2 d2 wd2 hi2 ca2 cn2 cc2 pa2 pn2 pc2 cs2 ps2 w' h1 hcn2 (by omega) h2 hpn2 (by omega)
  have HEA : Hid (∀ (x y u v : Option Addr) (w' : World), Ints w' x cs → Ints w' y ps → Ints w' u cs → Ints w' v ps → Calls Try.prog 21 #[.agg #[.int .i64 k, .int .i64 d, .int .i64 wd, .int .i64 hi, .slice x cn cn, .slice y pn pn], .agg #[.int .i64 k, .int .i64 d, .int .i64 wd, .int .i64 hi, .slice u cn cn, .slice v pn pn]] w' fun e w'' => e = .returned (.bool true) ∧ Below w'.heap.size w' w'') := fun x y u v w' h1 h2 h3 h4 => eqImage_same k d wd hi x cn y pn u cn v pn cn pn cs ps w' h1 h2 h3 h4 hcn (by omega) hpn (by omega)
  have HEB : Hid (∀ (x y u v : Option Addr) (w' : World), Ints w' x cs2 → Ints w' y ps2 → Ints w' u cs2 → Ints w' v ps2 → Calls Try.prog 21 #[.agg #[.int .i64 k2, .int .i64 d2, .int .i64 wd2, .int .i64 hi2, .slice x cn2 cn2, .slice y pn2 pn2], .agg #[.int .i64 k2, .int .i64 d2, .int .i64 wd2, .int .i64 hi2, .slice u cn2 cn2, .slice v pn2 pn2]] w' fun e w'' => e = .returned (.bool true) ∧ Below w'.heap.size w' w'') := fun x y u v w' h1 h2 h3 h4 => eqImage_same k2 d2 wd2 hi2 x cn2 y pn2 u cn2 v pn2 cn2 pn2 cs2 ps2 w' h1 h2 h3 h4 hcn2 (by omega) hpn2 (by omega)
  have d1 : decide (l1 < 0) = false := by simp; omega
  have d2' : decide (l2 < 0) = false := by simp; omega
  have HIC : Hid (∀ w', Below w.heap.size w w' → (Ints w' ca cs ∧ Ints w' pa ps) ∧ (Ints w' ca2 cs2 ∧ Ints w' pa2 ps2)) := fun w' b => ⟨⟨hIc.kept b, hIp.kept b⟩, ⟨hIc2.kept b, hIp2.kept b⟩⟩
  clear hIc hIp hcn hpn hIc2 hIp2 hcn2 hpn2 hSP hIM hsum hl1 hl2
  go_enter Try.func6, Try.ntmps6
  go_wp2_with fail
  refine (HZA.out _).mono ?_
  rintro e w1 ⟨rfl, b1⟩
  have A1 : Hid (Bx w1 w.heap.size (.int .i64 k) (.int .i64 d) (.int .i64 wd) (.int .i64 hi) (.slice ca cn cc) (.slice pa pn pc)) := A0.out.kept b1; have B1 : Hid (Bx w1 (w.heap.size + 1) (.int .i64 k2) (.int .i64 d2) (.int .i64 wd2) (.int .i64 hi2) (.slice ca2 cn2 cc2) (.slice pa2 pn2 pc2)) := B0.out.kept b1
  have bel1 : Below w.heap.size w w1 := hB0.trans (b1.mono hB0.size)
  obtain ⟨_, n0, n1, n2, n3, n4, n5⟩ := B1.out
  clear b1 hB0 A0 B0 HZA
  go_wp2_with fail
  refine (HZB.out _).mono ?_
  rintro e w2 ⟨rfl, b2⟩
  have A2 : Hid (Bx w2 w.heap.size (.int .i64 k) (.int .i64 d) (.int .i64 wd) (.int .i64 hi) (.slice ca cn cc) (.slice pa pn pc)) := A1.out.kept b2; have B2 : Hid (Bx w2 (w.heap.size + 1) (.int .i64 k2) (.int .i64 d2) (.int .i64 wd2) (.int .i64 hi2) (.slice ca2 cn2 cc2) (.slice pa2 pn2 pc2)) := B1.out.kept b2
  have bel2 : Below w.heap.size w w2 := bel1.trans (b2.mono bel1.size)
  clear n0 n1 n2 n3 n4 n5 b2 bel1 A1 B1 HZB
  obtain ⟨_, a0, a1, a2, a3, a4, a5⟩ := A2.out
  obtain ⟨_, p0, p1, p2, p3, p4, p5⟩ := B2.out
  go_wp2_with fail
  go_region_held3 (fun w' => w'.cell? ⟨w.heap.size, 0, none⟩ = some (.int .i64 k) ∧ w'.cell? ⟨w.heap.size, 1, none⟩ = some (.int .i64 d) ∧ w'.cell? ⟨w.heap.size, 2, none⟩ = some (.int .i64 wd) ∧ w'.cell? ⟨w.heap.size, 3, none⟩ = some (.int .i64 hi) ∧ w'.cell? ⟨w.heap.size, 4, none⟩ = some (.slice ca cn cc) ∧ w'.cell? ⟨w.heap.size, 5, none⟩ = some (.slice pa pn pc) ∧ w'.cell? ⟨w.heap.size + 1, 0, none⟩ = some (.int .i64 k2) ∧ w'.cell? ⟨w.heap.size + 1, 1, none⟩ = some (.int .i64 d2) ∧ w'.cell? ⟨w.heap.size + 1, 2, none⟩ = some (.int .i64 wd2) ∧ w'.cell? ⟨w.heap.size + 1, 3, none⟩ = some (.int .i64 hi2) ∧ w'.cell? ⟨w.heap.size + 1, 4, none⟩ = some (.slice ca2 cn2 cc2) ∧ w'.cell? ⟨w.heap.size + 1, 5, none⟩ = some (.slice pa2 pn2 pc2)) (go_keep) (first | (go_at_call_of 19 (Value.slice pa pn pc); refine (HTA.out _ ((HIC.out _ bel2.drew).1.1) ((HIC.out _ bel2.drew).1.2)).mono ?_; rintro e w3 ⟨⟨x3, y3, rfl, T3⟩, b3⟩; have b3' : Below w2.heap.size w2 w3 := box_drew b3; have bel3 : Below w.heap.size w w3 := bel2.trans (b3'.mono bel2.size); have I3 : Hid (Ints w3 x3 cs ∧ Ints w3 y3 ps) := T3.ints; have A3 : Hid (Bx w3 w.heap.size (.int .i64 k) (.int .i64 d) (.int .i64 wd) (.int .i64 hi) (.slice ca cn cc) (.slice pa pn pc)) := A2.out.kept b3'; have B3 : Hid (Bx w3 (w.heap.size + 1) (.int .i64 k2) (.int .i64 d2) (.int .i64 wd2) (.int .i64 hi2) (.slice ca2 cn2 cc2) (.slice pa2 pn2 pc2)) := B2.out.kept b3'; obtain ⟨_, m0, m1, m2, m3, m4, m5⟩ := A3.out; obtain ⟨_, n0, n1, n2, n3, n4, n5⟩ := B3.out; clear T3) | (go_at_call_of 19 (Value.slice pa2 pn2 pc2); refine (HTB.out _ ((HIC.out _ bel3).2.1) ((HIC.out _ bel3).2.2)).mono ?_; rintro e w4 ⟨⟨x4, y4, rfl, T4⟩, b4⟩; have bel4 : Below w.heap.size w w4 := bel3.trans (b4.mono bel3.size); have I4 : Hid ((Ints w4 x3 cs ∧ Ints w4 y3 ps) ∧ (Ints w4 x4 cs2 ∧ Ints w4 y4 ps2)) := ⟨⟨I3.out.1.kept b4, I3.out.2.kept b4⟩, T4.ints⟩; clear m0 m1 m2 m3 m4 m5 n0 n1 n2 n3 n4 n5; have A4 : Hid (Bx w4 w.heap.size (.int .i64 k) (.int .i64 d) (.int .i64 wd) (.int .i64 hi) (.slice ca cn cc) (.slice pa pn pc)) := A3.out.kept b4; have B4 : Hid (Bx w4 (w.heap.size + 1) (.int .i64 k2) (.int .i64 d2) (.int .i64 wd2) (.int .i64 hi2) (.slice ca2 cn2 cc2) (.slice pa2 pn2 pc2)) := B3.out.kept b4; obtain ⟨_, m0, m1, m2, m3, m4, m5⟩ := A4.out; obtain ⟨_, n0, n1, n2, n3, n4, n5⟩ := B4.out; clear T4) | (go_at_call 24; refine (HSP.out x3 y3 x4 y4 w4 I4.out.1.1 I4.out.1.2 I4.out.2.1 I4.out.2.2).mono ?_; rintro e w5 ⟨rfl, b5⟩; have bel5 : Below w.heap.size w w5 := bel4.trans (b5.mono bel4.size); clear m0 m1 m2 m3 m4 m5 n0 n1 n2 n3 n4 n5; have A5 : Hid (Bx w5 w.heap.size (.int .i64 k) (.int .i64 d) (.int .i64 wd) (.int .i64 hi) (.slice ca cn cc) (.slice pa pn pc)) := A4.out.kept b5; have B5 : Hid (Bx w5 (w.heap.size + 1) (.int .i64 k2) (.int .i64 d2) (.int .i64 wd2) (.int .i64 hi2) (.slice ca2 cn2 cc2) (.slice pa2 pn2 pc2)) := B4.out.kept b5; obtain ⟨_, m0, m1, m2, m3, m4, m5⟩ := A5.out; obtain ⟨_, n0, n1, n2, n3, n4, n5⟩ := B5.out))
  all_goals
    clear a0 a1 a2 a3 a4 a5 p0 p1 p2 p3 p4 p5 b3 b3' b4 b5 bel2 bel3 bel4 I3 I4 A2 B2 A3 B3 A4 B4 HSP
    clear m0 m1 m2 m3 m4 m5 n0 n1 n2 n3 n4 n5
    obtain ⟨_, a0, a1, a2, a3, a4, a5⟩ := A5.out
    go_wp2_with fail
    refine (HTA.out _ ((HIC.out _ bel5).1.1) ((HIC.out _ bel5).1.2)).mono ?_
    rintro e w6 ⟨⟨x6, y6, rfl, T6⟩, b6⟩
    have b7 : Below w6.heap.size w6 (w6.alloc (.cells #[.int .i64 k, .int .i64 d, .int .i64 wd, .int .i64 hi, .slice x6 cn cn, .slice y6 pn pn] 36)) := (Below.refl _ _).alloc (Nat.le_refl _) _
    have A7 : Hid (Bx (w6.alloc (.cells #[.int .i64 k, .int .i64 d, .int .i64 wd, .int .i64 hi, .slice x6 cn cn, .slice y6 pn pn] 36)) w.heap.size (.int .i64 k) (.int .i64 d) (.int .i64 wd) (.int .i64 hi) (.slice ca cn cc) (.slice pa pn pc)) := (A5.out.kept b6).kept b7
    have B7 : Hid (Bx (w6.alloc (.cells #[.int .i64 k, .int .i64 d, .int .i64 wd, .int .i64 hi, .slice x6 cn cn, .slice y6 pn pn] 36)) (w.heap.size + 1) (.int .i64 k2) (.int .i64 d2) (.int .i64 wd2) (.int .i64 hi2) (.slice ca2 cn2 cc2) (.slice pa2 pn2 pc2)) := (B5.out.kept b6).kept b7
    have X7 : Hid (Bx (w6.alloc (.cells #[.int .i64 k, .int .i64 d, .int .i64 wd, .int .i64 hi, .slice x6 cn cn, .slice y6 pn pn] 36)) w6.heap.size (.int .i64 k) (.int .i64 d) (.int .i64 wd) (.int .i64 hi) (.slice x6 cn cn) (.slice y6 pn pn)) := bx_new w6 _ _ _ _ _ _ 36
    have I7 : Hid (Ints (w6.alloc (.cells #[.int .i64 k, .int .i64 d, .int .i64 wd, .int .i64 hi, .slice x6 cn cn, .slice y6 pn pn] 36)) x6 cs ∧ Ints (w6.alloc (.cells #[.int .i64 k, .int .i64 d, .int .i64 wd, .int .i64 hi, .slice x6 cn cn, .slice y6 pn pn] 36)) y6 ps) := ⟨T6.ints.1.kept b7, T6.ints.2.kept b7⟩
    have bel6 : Below w.heap.size w w6 := bel5.trans (b6.mono bel5.size)
    have bel7 : Below w.heap.size w (w6.alloc (.cells #[.int .i64 k, .int .i64 d, .int .i64 wd, .int .i64 hi, .slice x6 cn cn, .slice y6 pn pn] 36)) := bel6.trans (b7.mono bel6.size)
    clear b6 b7 A5 B5 T6 bel5 bel6 a0 a1 a2 a3 a4 a5
    obtain ⟨_, n0, n1, n2, n3, n4, n5⟩ := B7.out
    go_wp2_with fail
    refine (HTB.out _ ((HIC.out _ bel7).2.1) ((HIC.out _ bel7).2.2)).mono ?_
    rintro e w8 ⟨⟨x8, y8, rfl, T8⟩, b8⟩
    have b9 : Below w8.heap.size w8 (w8.alloc (.cells #[.int .i64 k2, .int .i64 d2, .int .i64 wd2, .int .i64 hi2, .slice x8 cn2 cn2, .slice y8 pn2 pn2] 36)) := (Below.refl _ _).alloc (Nat.le_refl _) _
    have A9 : Hid (Bx (w8.alloc (.cells #[.int .i64 k2, .int .i64 d2, .int .i64 wd2, .int .i64 hi2, .slice x8 cn2 cn2, .slice y8 pn2 pn2] 36)) w.heap.size (.int .i64 k) (.int .i64 d) (.int .i64 wd) (.int .i64 hi) (.slice ca cn cc) (.slice pa pn pc)) := (A7.out.kept b8).kept b9
    have B9 : Hid (Bx (w8.alloc (.cells #[.int .i64 k2, .int .i64 d2, .int .i64 wd2, .int .i64 hi2, .slice x8 cn2 cn2, .slice y8 pn2 pn2] 36)) (w.heap.size + 1) (.int .i64 k2) (.int .i64 d2) (.int .i64 wd2) (.int .i64 hi2) (.slice ca2 cn2 cc2) (.slice pa2 pn2 pc2)) := (B7.out.kept b8).kept b9
    have X9 : Hid (Bx (w8.alloc (.cells #[.int .i64 k2, .int .i64 d2, .int .i64 wd2, .int .i64 hi2, .slice x8 cn2 cn2, .slice y8 pn2 pn2] 36)) w6.heap.size (.int .i64 k) (.int .i64 d) (.int .i64 wd) (.int .i64 hi) (.slice x6 cn cn) (.slice y6 pn pn)) := (X7.out.kept b8).kept b9
    have Y9 : Hid (Bx (w8.alloc (.cells #[.int .i64 k2, .int .i64 d2, .int .i64 wd2, .int .i64 hi2, .slice x8 cn2 cn2, .slice y8 pn2 pn2] 36)) w8.heap.size (.int .i64 k2) (.int .i64 d2) (.int .i64 wd2) (.int .i64 hi2) (.slice x8 cn2 cn2) (.slice y8 pn2 pn2)) := bx_new w8 _ _ _ _ _ _ 36
    have I9 : Hid ((Ints (w8.alloc (.cells #[.int .i64 k2, .int .i64 d2, .int .i64 wd2, .int .i64 hi2, .slice x8 cn2 cn2, .slice y8 pn2 pn2] 36)) x6 cs ∧ Ints (w8.alloc (.cells #[.int .i64 k2, .int .i64 d2, .int .i64 wd2, .int .i64 hi2, .slice x8 cn2 cn2, .slice y8 pn2 pn2] 36)) y6 ps) ∧ (Ints (w8.alloc (.cells #[.int .i64 k2, .int .i64 d2, .int .i64 wd2, .int .i64 hi2, .slice x8 cn2 cn2, .slice y8 pn2 pn2] 36)) x8 cs2 ∧ Ints (w8.alloc (.cells #[.int .i64 k2, .int .i64 d2, .int .i64 wd2, .int .i64 hi2, .slice x8 cn2 cn2, .slice y8 pn2 pn2] 36)) y8 ps2)) := ⟨⟨(I7.out.1.kept b8).kept b9, (I7.out.2.kept b8).kept b9⟩, ⟨T8.ints.1.kept b9, T8.ints.2.kept b9⟩⟩
    have bel8 : Below w.heap.size w w8 := bel7.trans (b8.mono bel7.size)
    have bel9 : Below w.heap.size w (w8.alloc (.cells #[.int .i64 k2, .int .i64 d2, .int .i64 wd2, .int .i64 hi2, .slice x8 cn2 cn2, .slice y8 pn2 pn2] 36)) := bel8.trans (b9.mono bel8.size)
    clear b8 b9 A7 B7 X7 I7 T8 bel7 bel8 n0 n1 n2 n3 n4 n5
    obtain ⟨_, n0, n1, n2, n3, n4, n5⟩ := X9.out
    go_wp2_with fail
    refine (HIM.out x6 y6 x8 y8 _ I9.out.1.1 I9.out.1.2 I9.out.2.1 I9.out.2.2).mono ?_
    rintro e w10 ⟨rfl, b10⟩
    have A10 : Hid (Bx w10 w.heap.size (.int .i64 k) (.int .i64 d) (.int .i64 wd) (.int .i64 hi) (.slice ca cn cc) (.slice pa pn pc)) := A9.out.kept b10
    have B10 : Hid (Bx w10 (w.heap.size + 1) (.int .i64 k2) (.int .i64 d2) (.int .i64 wd2) (.int .i64 hi2) (.slice ca2 cn2 cc2) (.slice pa2 pn2 pc2)) := B9.out.kept b10
    have X10 : Hid (Bx w10 w6.heap.size (.int .i64 k) (.int .i64 d) (.int .i64 wd) (.int .i64 hi) (.slice x6 cn cn) (.slice y6 pn pn)) := X9.out.kept b10
    have Y10 : Hid (Bx w10 w8.heap.size (.int .i64 k2) (.int .i64 d2) (.int .i64 wd2) (.int .i64 hi2) (.slice x8 cn2 cn2) (.slice y8 pn2 pn2)) := Y9.out.kept b10
    have I10 : Hid ((Ints w10 x6 cs ∧ Ints w10 y6 ps) ∧ (Ints w10 x8 cs2 ∧ Ints w10 y8 ps2)) := ⟨⟨I9.out.1.1.kept b10, I9.out.1.2.kept b10⟩, ⟨I9.out.2.1.kept b10, I9.out.2.2.kept b10⟩⟩
    have bel10 : Below w.heap.size w w10 := bel9.trans (b10.mono bel9.size)
    clear b10 A9 B9 X9 Y9 I9 bel9 n0 n1 n2 n3 n4 n5 HIM
    obtain ⟨_, a0, a1, a2, a3, a4, a5⟩ := A10.out
    obtain ⟨_, p0, p1, p2, p3, p4, p5⟩ := X10.out
    go_wp2_with fail
    go_region_held3 (fun w' => w'.cell? ⟨w.heap.size, 0, none⟩ = some (.int .i64 k) ∧ w'.cell? ⟨w.heap.size, 1, none⟩ = some (.int .i64 d) ∧ w'.cell? ⟨w.heap.size, 2, none⟩ = some (.int .i64 wd) ∧ w'.cell? ⟨w.heap.size, 3, none⟩ = some (.int .i64 hi) ∧ w'.cell? ⟨w.heap.size, 4, none⟩ = some (.slice ca cn cc) ∧ w'.cell? ⟨w.heap.size, 5, none⟩ = some (.slice pa pn pc) ∧ w'.cell? ⟨w6.heap.size, 0, none⟩ = some (.int .i64 k) ∧ w'.cell? ⟨w6.heap.size, 1, none⟩ = some (.int .i64 d) ∧ w'.cell? ⟨w6.heap.size, 2, none⟩ = some (.int .i64 wd) ∧ w'.cell? ⟨w6.heap.size, 3, none⟩ = some (.int .i64 hi) ∧ w'.cell? ⟨w6.heap.size, 4, none⟩ = some (.slice x6 cn cn) ∧ w'.cell? ⟨w6.heap.size, 5, none⟩ = some (.slice y6 pn pn)) (go_keep) (first | (go_at_call 19; refine (HTA.out _ ((HIC.out _ bel10.drew).1.1) ((HIC.out _ bel10.drew).1.2)).mono ?_; rintro e w11 ⟨⟨x11, y11, rfl, T11⟩, b11⟩; have b11' : Below w10.heap.size w10 w11 := box_drew b11; have I11 : Hid (Ints w11 x11 cs ∧ Ints w11 y11 ps) := T11.ints; have A11 : Hid (Bx w11 w.heap.size (.int .i64 k) (.int .i64 d) (.int .i64 wd) (.int .i64 hi) (.slice ca cn cc) (.slice pa pn pc)) := A10.out.kept b11'; have X11 : Hid (Bx w11 w6.heap.size (.int .i64 k) (.int .i64 d) (.int .i64 wd) (.int .i64 hi) (.slice x6 cn cn) (.slice y6 pn pn)) := X10.out.kept b11'; obtain ⟨_, m0, m1, m2, m3, m4, m5⟩ := A11.out; obtain ⟨_, n0, n1, n2, n3, n4, n5⟩ := X11.out; clear T11) | (go_at_call 21; refine (HEA.out _ _ _ _ _ (I10.out.1.1.kept b11') (I10.out.1.2.kept b11') I11.out.1 I11.out.2).mono ?_; rintro e w12 ⟨rfl, b12⟩; clear m0 m1 m2 m3 m4 m5 n0 n1 n2 n3 n4 n5; have A12 : Hid (Bx w12 w.heap.size (.int .i64 k) (.int .i64 d) (.int .i64 wd) (.int .i64 hi) (.slice ca cn cc) (.slice pa pn pc)) := A11.out.kept b12; have X12 : Hid (Bx w12 w6.heap.size (.int .i64 k) (.int .i64 d) (.int .i64 wd) (.int .i64 hi) (.slice x6 cn cn) (.slice y6 pn pn)) := X11.out.kept b12; obtain ⟨_, m0, m1, m2, m3, m4, m5⟩ := A12.out; obtain ⟨_, n0, n1, n2, n3, n4, n5⟩ := X12.out))
    all_goals
      have b1012 : Below w10.heap.size w10 w12 := b11'.trans (b12.mono b11'.size)
      have B12 : Hid (Bx w12 (w.heap.size + 1) (.int .i64 k2) (.int .i64 d2) (.int .i64 wd2) (.int .i64 hi2) (.slice ca2 cn2 cc2) (.slice pa2 pn2 pc2)) := B10.out.kept b1012
      have Y12 : Hid (Bx w12 w8.heap.size (.int .i64 k2) (.int .i64 d2) (.int .i64 wd2) (.int .i64 hi2) (.slice x8 cn2 cn2) (.slice y8 pn2 pn2)) := Y10.out.kept b1012
      have I12 : Hid (Ints w12 x8 cs2 ∧ Ints w12 y8 ps2) := ⟨I10.out.2.1.kept b1012, I10.out.2.2.kept b1012⟩
      have bel12 : Below w.heap.size w w12 := bel10.trans (b1012.mono bel10.size)
      clear b1012 b11 b11' b12 a0 a1 a2 a3 a4 a5 p0 p1 p2 p3 p4 p5 A10 B10 X10 Y10 I10 I11 A11 X11 A12 X12 bel10 HTA HEA
      clear m0 m1 m2 m3 m4 m5 n0 n1 n2 n3 n4 n5
      obtain ⟨_, a0, a1, a2, a3, a4, a5⟩ := B12.out
      obtain ⟨_, p0, p1, p2, p3, p4, p5⟩ := Y12.out
      go_wp2_with fail
      go_region_held3 (fun w' => w'.cell? ⟨w.heap.size + 1, 0, none⟩ = some (.int .i64 k2) ∧ w'.cell? ⟨w.heap.size + 1, 1, none⟩ = some (.int .i64 d2) ∧ w'.cell? ⟨w.heap.size + 1, 2, none⟩ = some (.int .i64 wd2) ∧ w'.cell? ⟨w.heap.size + 1, 3, none⟩ = some (.int .i64 hi2) ∧ w'.cell? ⟨w.heap.size + 1, 4, none⟩ = some (.slice ca2 cn2 cc2) ∧ w'.cell? ⟨w.heap.size + 1, 5, none⟩ = some (.slice pa2 pn2 pc2) ∧ w'.cell? ⟨w8.heap.size, 0, none⟩ = some (.int .i64 k2) ∧ w'.cell? ⟨w8.heap.size, 1, none⟩ = some (.int .i64 d2) ∧ w'.cell? ⟨w8.heap.size, 2, none⟩ = some (.int .i64 wd2) ∧ w'.cell? ⟨w8.heap.size, 3, none⟩ = some (.int .i64 hi2) ∧ w'.cell? ⟨w8.heap.size, 4, none⟩ = some (.slice x8 cn2 cn2) ∧ w'.cell? ⟨w8.heap.size, 5, none⟩ = some (.slice y8 pn2 pn2)) (go_keep) (first | (go_at_call 19; refine (HTB.out _ ((HIC.out _ bel12.drew).2.1) ((HIC.out _ bel12.drew).2.2)).mono ?_; rintro e w13 ⟨⟨x13, y13, rfl, T13⟩, b13⟩; have b13' : Below w12.heap.size w12 w13 := box_drew b13; have I13 : Hid (Ints w13 x13 cs2 ∧ Ints w13 y13 ps2) := T13.ints; have B13 : Hid (Bx w13 (w.heap.size + 1) (.int .i64 k2) (.int .i64 d2) (.int .i64 wd2) (.int .i64 hi2) (.slice ca2 cn2 cc2) (.slice pa2 pn2 pc2)) := B12.out.kept b13'; have Y13 : Hid (Bx w13 w8.heap.size (.int .i64 k2) (.int .i64 d2) (.int .i64 wd2) (.int .i64 hi2) (.slice x8 cn2 cn2) (.slice y8 pn2 pn2)) := Y12.out.kept b13'; obtain ⟨_, m0, m1, m2, m3, m4, m5⟩ := B13.out; obtain ⟨_, n0, n1, n2, n3, n4, n5⟩ := Y13.out; clear T13) | (go_at_call 21; refine (HEB.out _ _ _ _ _ (I12.out.1.kept b13') (I12.out.2.kept b13') I13.out.1 I13.out.2).mono ?_; rintro e w14 ⟨rfl, b14⟩; clear m0 m1 m2 m3 m4 m5 n0 n1 n2 n3 n4 n5; have B14 : Hid (Bx w14 (w.heap.size + 1) (.int .i64 k2) (.int .i64 d2) (.int .i64 wd2) (.int .i64 hi2) (.slice ca2 cn2 cc2) (.slice pa2 pn2 pc2)) := B13.out.kept b14; have Y14 : Hid (Bx w14 w8.heap.size (.int .i64 k2) (.int .i64 d2) (.int .i64 wd2) (.int .i64 hi2) (.slice x8 cn2 cn2) (.slice y8 pn2 pn2)) := Y13.out.kept b14; obtain ⟨_, m0, m1, m2, m3, m4, m5⟩ := B14.out; obtain ⟨_, n0, n1, n2, n3, n4, n5⟩ := Y14.out))
      all_goals
        have b1214 : Below w12.heap.size w12 w14 := b13'.trans (b14.mono b13'.size)
        have bel14 : Below w.heap.size w w14 := bel12.trans (b1214.mono bel12.size)
        clear b1214 b13 b13' b14 a0 a1 a2 a3 a4 a5 p0 p1 p2 p3 p4 p5 B12 Y12 I12 I13 B13 Y13 B14 Y14 bel12 HTB HEB
        clear m0 m1 m2 m3 m4 m5 n0 n1 n2 n3 n4 n5
        go_wp2_with fail
        go_ret
        exact ⟨rfl, bel14⟩

theorem ok_openL {k d wd hi : Int} {cs ps : List Int} (h : Im.okB k d wd hi cs ps = true) : Im.Ok k d wd hi cs ps := @of_decide_eq_true _ (Classical.propDecidable _) h

set_option maxHeartbeats 1000000 in
theorem exImageLike (k d wd hi : Int) (ca : Option Addr) (cn cc : Nat) (pa : Option Addr) (pn pc : Nat) (k2 d2 wd2 hi2 : Int) (ca2 : Option Addr) (cn2 cc2 : Nat) (pa2 : Option Addr) (pn2 pc2 : Nat) (w : World) (hc : Row64 w ca cn cc) (hp : Row64 w pa pn pc) (hc2 : Row64 w ca2 cn2 cc2) (hp2 : Row64 w pa2 pn2 pc2) :
    Calls Try.prog 6 #[.agg #[.int .i64 k, .int .i64 d, .int .i64 wd, .int .i64 hi, .slice ca cn cc, .slice pa pn pc], .agg #[.int .i64 k2, .int .i64 d2, .int .i64 wd2, .int .i64 hi2, .slice ca2 cn2 cc2, .slice pa2 pn2 pc2]] w fun e w' => e = .returned (.bool true) ∧ Below w.heap.size w w' := by
  obtain ⟨_, hcm, cs, hcn, hIc, _⟩ := hc
  obtain ⟨_, hpm, ps, hpn, hIp, _⟩ := hp
  obtain ⟨_, hcm2, cs2, hcn2, hIc2, _⟩ := hc2
  obtain ⟨_, hpm2, ps2, hpn2, hIp2, _⟩ := hp2
  unfold maxLen at hcm hpm hcm2 hpm2
  by_cases hbig : cn + pn + cn2 + pn2 ≤ 1048576
  · have key : ∃ r : Bool, (∀ (x y x2 y2 : Option Addr) (w' : World), Ints w' x cs → Ints w' y ps → Ints w' x2 cs2 → Ints w' y2 ps2 → Calls Try.prog 24 #[.agg #[.int .i64 k, .int .i64 d, .int .i64 wd, .int .i64 hi, .slice x cn cn, .slice y pn pn], .agg #[.int .i64 k2, .int .i64 d2, .int .i64 wd2, .int .i64 hi2, .slice x2 cn2 cn2, .slice y2 pn2 pn2]] w' fun e w'' => e = .returned (.bool r) ∧ Below w'.heap.size w' w'') ∧ (∀ (x y x2 y2 : Option Addr) (w' : World), Ints w' x cs → Ints w' y ps → Ints w' x2 cs2 → Ints w' y2 ps2 → Calls Try.prog 25 #[.agg #[.int .i64 k, .int .i64 d, .int .i64 wd, .int .i64 hi, .slice x cn cn, .slice y pn pn], .agg #[.int .i64 k2, .int .i64 d2, .int .i64 wd2, .int .i64 hi2, .slice x2 cn2 cn2, .slice y2 pn2 pn2]] w' fun e w'' => e = .returned (.bool r) ∧ Below w'.heap.size w' w'') := by
      rcases hok : Im.okB k d wd hi cs ps with _ | _
      · refine ⟨false, ?_, ?_⟩
        · intro x y x2 y2 w' H1 H2 H21 H22
          exact spec_like_bad1 k d wd hi x cn cn y pn pn k2 d2 wd2 hi2 x2 cn2 cn2 y2 pn2 pn2 w' (fun w'' b => by
          have := spec_imageOk k d wd hi x cn cn y pn pn w'' cs ps ((H1).kept b) hcn (by omega) ((H2).kept b) hpn
          rw [hok] at this; exact this)
        · intro x y x2 y2 w' H1 H2 H21 H22
          exact impl_like_bad1 k d wd hi x cn cn y pn pn k2 d2 wd2 hi2 x2 cn2 cn2 y2 pn2 pn2 w' (fun w'' b => by
          have := impl_imageOk k d wd hi x cn cn y pn pn w'' cs ps ((H1).kept b) hcn (by omega) ((H2).kept b) hpn (by omega)
          rw [hok] at this; exact this)
      · rcases hok2 : Im.okB k2 d2 wd2 hi2 cs2 ps2 with _ | _
        · refine ⟨false, ?_, ?_⟩
          · intro x y x2 y2 w' H1 H2 H21 H22
            exact spec_like_bad2 k d wd hi x cn cn y pn pn k2 d2 wd2 hi2 x2 cn2 cn2 y2 pn2 pn2 w' (fun w'' b => by
          have := spec_imageOk k d wd hi x cn cn y pn pn w'' cs ps ((H1).kept b) hcn (by omega) ((H2).kept b) hpn
          rw [hok] at this; exact this) (fun w'' b => by
          have := spec_imageOk k2 d2 wd2 hi2 x2 cn2 cn2 y2 pn2 pn2 w'' cs2 ps2 ((H21).kept b) hcn2 (by omega) ((H22).kept b) hpn2
          rw [hok2] at this; exact this)
          · intro x y x2 y2 w' H1 H2 H21 H22
            exact impl_like_bad2 k d wd hi x cn cn y pn pn k2 d2 wd2 hi2 x2 cn2 cn2 y2 pn2 pn2 w' (fun w'' b => by
          have := impl_imageOk k d wd hi x cn cn y pn pn w'' cs ps ((H1).kept b) hcn (by omega) ((H2).kept b) hpn (by omega)
          rw [hok] at this; exact this) (fun w'' b => by
          have := impl_imageOk k2 d2 wd2 hi2 x2 cn2 cn2 y2 pn2 pn2 w'' cs2 ps2 ((H21).kept b) hcn2 (by omega) ((H22).kept b) hpn2 (by omega)
          rw [hok2] at this; exact this)
        · by_cases hw : wd = wd2
          · subst hw
            by_cases hh : hi = hi2
            · subst hh
              have O1 := ok_openL hok
              have O2 := ok_openL hok2
              have R1 := O1
              have R2 := O2
              obtain ⟨q1, q2, q3, _, q5, _⟩ := R1
              obtain ⟨q7, _, _, _, q6, _⟩ := R2
              obtain ⟨D, rfl, _⟩ := Im.dep_all q1
              obtain ⟨D2, rfl, _⟩ := Im.dep_all q7
              obtain ⟨Wd, rfl⟩ := Int.eq_ofNat_of_zero_le (show 0 ≤ wd by omega)
              obtain ⟨Hi, rfl⟩ := Int.eq_ofNat_of_zero_le (show 0 ≤ hi by omega)
              have em : ((Wd * Hi : Nat) : Int) = (Wd : Int) * (Hi : Int) := by simp
              have hm : pn = Wd * Hi := by omega
              have hm2 : pn2 = Wd * Hi := by omega
              refine ⟨decide (cols k D cs ps = cols k2 D2 cs2 ps2), ?_, ?_⟩
              · intro x y x2 y2 w' H1 H2 H21 H22
                exact spec_like_yes k D Wd Hi x cn cn y pn pn k2 D2 x2 cn2 cn2 y2 pn2 pn2 cs ps cs2 ps2 w' O1 O2 H1 hcn H2 hpn H21 hcn2 H22 hpn2 (by omega) (by omega) hm hm2 (fun w'' b => by
          have := spec_imageOk k D Wd Hi x cn cn y pn pn w'' cs ps ((H1).kept b) hcn (by omega) ((H2).kept b) hpn
          rw [hok] at this; exact this) (fun w'' b => by
          have := spec_imageOk k2 D2 Wd Hi x2 cn2 cn2 y2 pn2 pn2 w'' cs2 ps2 ((H21).kept b) hcn2 (by omega) ((H22).kept b) hpn2
          rw [hok2] at this; exact this)
              · intro x y x2 y2 w' H1 H2 H21 H22
                exact impl_like_yes k D Wd Hi x cn cn y pn pn k2 D2 x2 cn2 cn2 y2 pn2 pn2 cs ps cs2 ps2 w' O1 O2 H1 hcn H2 hpn H21 hcn2 H22 hpn2 (by omega) (by omega) hm hm2 (fun w'' b => by
          have := impl_imageOk k D Wd Hi x cn cn y pn pn w'' cs ps ((H1).kept b) hcn (by omega) ((H2).kept b) hpn (by omega)
          rw [hok] at this; exact this) (fun w'' b => by
          have := impl_imageOk k2 D2 Wd Hi x2 cn2 cn2 y2 pn2 pn2 w'' cs2 ps2 ((H21).kept b) hcn2 (by omega) ((H22).kept b) hpn2 (by omega)
          rw [hok2] at this; exact this)
            · refine ⟨false, ?_, ?_⟩
              · intro x y x2 y2 w' H1 H2 H21 H22
                exact spec_like_high k d wd hi x cn cn y pn pn k2 d2 hi2 x2 cn2 cn2 y2 pn2 pn2 w' hh (fun w'' b => by
          have := spec_imageOk k d wd hi x cn cn y pn pn w'' cs ps ((H1).kept b) hcn (by omega) ((H2).kept b) hpn
          rw [hok] at this; exact this) (fun w'' b => by
          have := spec_imageOk k2 d2 wd hi2 x2 cn2 cn2 y2 pn2 pn2 w'' cs2 ps2 ((H21).kept b) hcn2 (by omega) ((H22).kept b) hpn2
          rw [hok2] at this; exact this)
              · intro x y x2 y2 w' H1 H2 H21 H22
                exact impl_like_high k d wd hi x cn cn y pn pn k2 d2 hi2 x2 cn2 cn2 y2 pn2 pn2 w' hh (fun w'' b => by
          have := impl_imageOk k d wd hi x cn cn y pn pn w'' cs ps ((H1).kept b) hcn (by omega) ((H2).kept b) hpn (by omega)
          rw [hok] at this; exact this) (fun w'' b => by
          have := impl_imageOk k2 d2 wd hi2 x2 cn2 cn2 y2 pn2 pn2 w'' cs2 ps2 ((H21).kept b) hcn2 (by omega) ((H22).kept b) hpn2 (by omega)
          rw [hok2] at this; exact this)
          · refine ⟨false, ?_, ?_⟩
            · intro x y x2 y2 w' H1 H2 H21 H22
              exact spec_like_wide k d wd hi x cn cn y pn pn k2 d2 wd2 hi2 x2 cn2 cn2 y2 pn2 pn2 w' hw (fun w'' b => by
          have := spec_imageOk k d wd hi x cn cn y pn pn w'' cs ps ((H1).kept b) hcn (by omega) ((H2).kept b) hpn
          rw [hok] at this; exact this) (fun w'' b => by
          have := spec_imageOk k2 d2 wd2 hi2 x2 cn2 cn2 y2 pn2 pn2 w'' cs2 ps2 ((H21).kept b) hcn2 (by omega) ((H22).kept b) hpn2
          rw [hok2] at this; exact this)
            · intro x y x2 y2 w' H1 H2 H21 H22
              exact impl_like_wide k d wd hi x cn cn y pn pn k2 d2 wd2 hi2 x2 cn2 cn2 y2 pn2 pn2 w' hw (fun w'' b => by
          have := impl_imageOk k d wd hi x cn cn y pn pn w'' cs ps ((H1).kept b) hcn (by omega) ((H2).kept b) hpn (by omega)
          rw [hok] at this; exact this) (fun w'' b => by
          have := impl_imageOk k2 d2 wd2 hi2 x2 cn2 cn2 y2 pn2 pn2 w'' cs2 ps2 ((H21).kept b) hcn2 (by omega) ((H22).kept b) hpn2 (by omega)
          rw [hok2] at this; exact this)
    obtain ⟨r, hSP, hIM⟩ := key
    exact exImageLike_core k d wd hi ca cn cc pa pn pc k2 d2 wd2 hi2 ca2 cn2 cc2 pa2 pn2 pc2 r cs ps cs2 ps2 w hIc hIp hcn hpn hIc2 hIp2 hcn2 hpn2 hbig hSP hIM
  · have hB0 : Below w.heap.size w ((w.alloc (.cells #[.int .i64 k, .int .i64 d, .int .i64 wd, .int .i64 hi, .slice ca cn cc, .slice pa pn pc] 34)).alloc (.cells #[.int .i64 k2, .int .i64 d2, .int .i64 wd2, .int .i64 hi2, .slice ca2 cn2 cc2, .slice pa2 pn2 pc2] 34)) := ((Below.refl _ _).alloc (Nat.le_refl _) _).alloc (by simp) _
    have B0 : Hid (Bx ((w.alloc (.cells #[.int .i64 k, .int .i64 d, .int .i64 wd, .int .i64 hi, .slice ca cn cc, .slice pa pn pc] 34)).alloc (.cells #[.int .i64 k2, .int .i64 d2, .int .i64 wd2, .int .i64 hi2, .slice ca2 cn2 cc2, .slice pa2 pn2 pc2] 34)) (w.heap.size + 1) (.int .i64 k2) (.int .i64 d2) (.int .i64 wd2) (.int .i64 hi2) (.slice ca2 cn2 cc2) (.slice pa2 pn2 pc2)) := by
      have := bx_new (w.alloc (.cells #[.int .i64 k, .int .i64 d, .int .i64 wd, .int .i64 hi, .slice ca cn cc, .slice pa pn pc] 34)) (.int .i64 k2) (.int .i64 d2) (.int .i64 wd2) (.int .i64 hi2) (.slice ca2 cn2 cc2) (.slice pa2 pn2 pc2) 34
      rw [World.size_alloc] at this; exact this
    clear hIc hIp hcn hpn hIc2 hIp2 hcn2 hpn2
    by_cases h1 : cn + pn ≤ 1048576
    · obtain ⟨l1, hl1⟩ : ∃ l1 : Int, l1 = 1048576 - (cn : Int) - (pn : Int) := ⟨_, rfl⟩
      have HZA : Hid (∀ w', Calls Try.prog 17 #[.agg #[.int .i64 k, .int .i64 d, .int .i64 wd, .int .i64 hi, .slice ca cn cc, .slice pa pn pc], .int .i64 1048576] w' fun e w'' => e = .returned (.int .i64 l1) ∧ Below w'.heap.size w' w'') := fun w' => by rw [hl1]; exact szImage_from 1048576 k d wd hi ca cn cc pa pn pc w' (by omega) (by omega)
      have HZB : Hid (∀ w', Calls Try.prog 17 #[.agg #[.int .i64 k2, .int .i64 d2, .int .i64 wd2, .int .i64 hi2, .slice ca2 cn2 cc2, .slice pa2 pn2 pc2], .int .i64 l1] w' fun e w'' => e = .returned (.int .i64 (-1)) ∧ Below w'.heap.size w' w'') := fun w' => szImage_past l1 k2 d2 wd2 hi2 ca2 cn2 cc2 pa2 pn2 pc2 w' (by omega) (by omega) (by omega) (by omega)
      have d1 : decide (l1 < 0) = false := by simp; omega
      clear hl1
      go_enter Try.func6, Try.ntmps6
      go_wp2_with fail
      refine (HZA.out _).mono ?_
      rintro e w1 ⟨rfl, b1⟩
      have B1 : Hid (Bx w1 (w.heap.size + 1) (.int .i64 k2) (.int .i64 d2) (.int .i64 wd2) (.int .i64 hi2) (.slice ca2 cn2 cc2) (.slice pa2 pn2 pc2)) := B0.out.kept b1
      have bel1 : Below w.heap.size w w1 := hB0.trans (b1.mono hB0.size)
      obtain ⟨_, n0, n1, n2, n3, n4, n5⟩ := B1.out
      clear b1 hB0 B0 HZA B1
      go_wp2_with fail
      refine (HZB.out _).mono ?_
      rintro e w2 ⟨rfl, b2⟩
      have bel2 : Below w.heap.size w w2 := bel1.trans (b2.mono bel1.size)
      clear b2 bel1 n0 n1 n2 n3 n4 n5 HZB
      go_wp2_with fail
      go_ret
      exact ⟨rfl, bel2⟩
    · have HZA : Hid (∀ w', Calls Try.prog 17 #[.agg #[.int .i64 k, .int .i64 d, .int .i64 wd, .int .i64 hi, .slice ca cn cc, .slice pa pn pc], .int .i64 1048576] w' fun e w'' => e = .returned (.int .i64 (-1)) ∧ Below w'.heap.size w' w'') := fun w' => szImage_past 1048576 k d wd hi ca cn cc pa pn pc w' (by omega) (by omega) (by omega) (by omega)
      go_enter Try.func6, Try.ntmps6
      go_wp2_with fail
      refine (HZA.out _).mono ?_
      rintro e w1 ⟨rfl, b1⟩
      have bel1 : Below w.heap.size w w1 := hB0.trans (b1.mono hB0.size)
      clear b1 hB0 B0 HZA
      go_wp2_with fail
      go_ret
      exact ⟨rfl, bel1⟩
end Go.Proofs.Ytjikjjganloobab
