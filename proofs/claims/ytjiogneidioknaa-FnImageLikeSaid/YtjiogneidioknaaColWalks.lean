/- The colour of a point, as the program makes it: a view by a rule. -/
import Derived.Test.YtjiogneidioknaaWithinWalks
import Derived.Test.YtjiogneidioknaaBoxWalks
import Derived.Deep.RegionHeld3
namespace Go.Proofs.Ytjiogneidioknaa
open Go.RowKit

/-- the value of the rule that makes a plain colour dense -/
def solidV : Value := .func (.func 64) #[] #[]

/-- what a step of gray is -/
def stepOf (D : Nat) : Nat := 255 / (2 ^ D - 1)
/-- the colour of a point -/
def colOf (k : Int) (D : Nat) (cs : List Int) (p : Int) : Int := if k = 1 then p * (stepOf D : Int) * 16843008 + 255 else if k = 2 then p * 256 + 255 else if k = 4 then cs.getD p.toNat 0 * 256 + 255 else p

set_option maxHeartbeats 400000 in
theorem solid_any (z : Int) (w : World) (h0 : 0 ≤ z) (h1 : z ≤ 16777216) :
    Calls Try.prog 64 #[.int .i64 z] w fun e w' => e = .returned (.int .i64 (z * 256 + 255)) ∧ w' = w := by
  go_enter Try.func64, Try.ntmps64
  go_wp2_with fail
  go_ret
  exact ⟨ret_int (by omega), rfl⟩

set_option maxHeartbeats 400000 in
theorem same_any (z : Int) (w : World) :
    Calls Try.prog 67 #[.int .i64 z] w fun e w' => e = .returned (.int .i64 z) ∧ w' = w := by
  go_enter Try.func67, Try.ntmps67
  go_wp2_with fail
  go_ret
  exact ⟨rfl, rfl⟩

set_option maxHeartbeats 1000000 in
theorem gray_any (A B s z : Nat) (w : World) (hA : w.cell? ⟨A, 0, none⟩ = some (.func (.func 64) #[] #[])) (hB : w.cell? ⟨B, 0, none⟩ = some (.int .i64 (s : Int))) (hz : z * s ≤ 255) :
    Calls Try.prog 65 #[.int .i64 (z : Int), .pointer (some ⟨A, 0, none⟩), .pointer (some ⟨B, 0, none⟩)] w fun e w' => e = .returned (.int .i64 ((z : Int) * (s : Int) * 16843008 + 255)) ∧ w' = w := by
  obtain ⟨M, hM⟩ : ∃ M, M = z * s := ⟨_, rfl⟩
  have hMi : (z : Int) * (s : Int) = (M : Int) := by rw [hM]; simp
  have hMb : M ≤ 255 := by omega
  have HS : Hid (∀ y : Int, y = (M : Int) * 65793 → Calls Try.prog 64 #[.int .i64 y] w fun e w' => e = .returned (.int .i64 ((M : Int) * 65793 * 256 + 255)) ∧ w' = w) := by
    intro y hy; rw [hy]; exact solid_any _ w (by omega) (by omega)
  rw [hMi]
  clear hM hz
  go_enter Try.func65, Try.ntmps65
  go_wp2_with fail
  refine (HS.out _ (by first | rfl | omega)).mono ?_
  rintro e w1 ⟨rfl, hw1⟩
  subst hw1
  go_wp2_with fail
  go_ret
  exact ⟨ret_int (by omega), rfl⟩

set_option maxHeartbeats 1000000 in
theorem pal_any (A B i cn cc : Nat) (ca : Option Addr) (cs : List Int) (w : World) (hA : w.cell? ⟨A, 0, none⟩ = some (.func (.func 64) #[] #[])) (hB : w.cell? ⟨B, 4, none⟩ = some (.slice ca cn cc)) (hI : Ints w ca cs) (hn : cs.length = cn) (hi : i < cn) (hW : Within 16777215 cs) :
    Calls Try.prog 66 #[.int .i64 (i : Int), .pointer (some ⟨A, 0, none⟩), .pointer (some ⟨B, 0, none⟩)] w fun e w' => e = .returned (.int .i64 (cs.getD i 0 * 256 + 255)) ∧ ∃ m, w' = w.drewN m := by
  have hil : i < cs.length := by omega
  rcases hI with g | ⟨b, off, rfl, hbB, hc⟩
  · rw [g] at hil; simp at hil
  · have hck := hc i hil
    have hb := hW cs[i] (List.getElem_mem hil)
    have e : cs.getD i 0 = cs[i] := by rw [List.getD_eq_getElem?_getD, List.getElem?_eq_getElem hil]; rfl
    rw [e]
    generalize cs[i] = v at *
    have HS : Hid (∀ w : World, Calls Try.prog 64 #[.int .i64 v] w fun e w' => e = .returned (.int .i64 (v * 256 + 255)) ∧ w' = w) := fun w => solid_any v w hb.1 (by omega)
    have hii : (i : Int) < (cn : Int) := by omega
    clear hc hW hn e
    go_enter Try.func66, Try.ntmps66
    go_wp2_with fail
    go_quiet ((go_at_call 64; exact Calls.quiet_of_same (HS.out _)))
    go_wp2_with fail
    go_ret
    exact ⟨rfl, nq, rfl⟩

set_option maxHeartbeats 2000000 in
set_option maxRecDepth 20000 in
theorem changed_gray (k d wd hi x y v c : Int) (A B : Nat) (ca : Option Addr) (cn cc : Nat) (pa : Option Addr) (pn pc : Nat) (w : World)
    (hat : ∀ w', Below w.heap.size w w' → Calls Try.prog 84 #[.agg #[.int .i64 k, .int .i64 d, .int .i64 wd, .int .i64 hi, .slice ca cn cc, .slice pa pn pc], .int .i64 x, .int .i64 y] w' fun e w'' => e = .returned (.int .i64 v) ∧ Below w'.heap.size w' w'')
    (hfn : ∀ w', Below w.heap.size w w' → Calls Try.prog 65 #[.int .i64 v, .pointer (some ⟨A, 0, none⟩), .pointer (some ⟨B, 0, none⟩)] w' fun e w'' => e = .returned (.int .i64 c) ∧ Below w'.heap.size w' w'') :
    Calls Try.prog 86 #[.agg #[.iface 49 (.agg #[.int .i64 k, .int .i64 d, .int .i64 wd, .int .i64 hi, .slice ca cn cc, .slice pa pn pc]), .func (.func 65) #[] #[.pointer (some ⟨A, 0, none⟩), .pointer (some ⟨B, 0, none⟩)]], .int .i64 x, .int .i64 y] w fun e w' => e = .returned (.int .i64 c) ∧ Below w.heap.size w w' := by
  have HAT : Hid (∀ w', Below w.heap.size w w' → Calls Try.prog 84 #[.agg #[.int .i64 k, .int .i64 d, .int .i64 wd, .int .i64 hi, .slice ca cn cc, .slice pa pn pc], .int .i64 x, .int .i64 y] w' fun e w'' => e = .returned (.int .i64 v) ∧ Below w'.heap.size w' w'') := hat
  have HFN : Hid (∀ w', Below w.heap.size w w' → Calls Try.prog 65 #[.int .i64 v, .pointer (some ⟨A, 0, none⟩), .pointer (some ⟨B, 0, none⟩)] w' fun e w'' => e = .returned (.int .i64 c) ∧ Below w'.heap.size w' w'') := hfn
  have m1 : ∀ w, (method 198 49 (.agg #[.int .i64 k, .int .i64 d, .int .i64 wd, .int .i64 hi, .slice ca cn cc, .slice pa pn pc]) "loop.example/intarsia/impl.at").run Try.prog w = .ok (84, .agg #[.int .i64 k, .int .i64 d, .int .i64 wd, .int .i64 hi, .slice ca cn cc, .slice pa pn pc]) w := fun w => by kernel_rfl
  have m2 : ∀ w, (nilAhead 198 49 (.agg #[.int .i64 k, .int .i64 d, .int .i64 wd, .int .i64 hi, .slice ca cn cc, .slice pa pn pc]) "loop.example/intarsia/impl.at").run Try.prog w = .ok (some false) w := fun w => by kernel_rfl
  clear hat hfn
  have hB0 : Below w.heap.size w (w.alloc (.cells #[.iface 49 (.agg #[.int .i64 k, .int .i64 d, .int .i64 wd, .int .i64 hi, .slice ca cn cc, .slice pa pn pc]), .func (.func 65) #[] #[.pointer (some ⟨A, 0, none⟩), .pointer (some ⟨B, 0, none⟩)]] 56)) := (Below.refl _ _).alloc (Nat.le_refl _) _
  go_enter Try.func86, Try.ntmps86
  go_wp2_with fail
  go_region_held3 (fun w' => w'.cell? ⟨w.heap.size, 0, none⟩ = some (.iface 49 (.agg #[.int .i64 k, .int .i64 d, .int .i64 wd, .int .i64 hi, .slice ca cn cc, .slice pa pn pc])) ∧ w'.cell? ⟨w.heap.size, 1, none⟩ = some (.func (.func 65) #[] #[.pointer (some ⟨A, 0, none⟩), .pointer (some ⟨B, 0, none⟩)])) (go_keep) (first | (go_at_call 84; refine (HAT.out _ hB0.drew).mono ?_; rintro e w2 ⟨rfl, b2⟩; have bw2 : Below w.heap.size w w2 := hB0.trans ((box_drew b2).mono (by simp)); have hlt : w.heap.size < (w.alloc (.cells #[.iface 49 (.agg #[.int .i64 k, .int .i64 d, .int .i64 wd, .int .i64 hi, .slice ca cn cc, .slice pa pn pc]), .func (.func 65) #[] #[.pointer (some ⟨A, 0, none⟩), .pointer (some ⟨B, 0, none⟩)]] 56)).heap.size := (by simp); have c0 := ((box_drew b2).cell (p := ⟨w.heap.size, 0, none⟩) hlt).trans (show (w.alloc (.cells #[.iface 49 (.agg #[.int .i64 k, .int .i64 d, .int .i64 wd, .int .i64 hi, .slice ca cn cc, .slice pa pn pc]), .func (.func 65) #[] #[.pointer (some ⟨A, 0, none⟩), .pointer (some ⟨B, 0, none⟩)]] 56)).cell? ⟨w.heap.size, 0, none⟩ = some (.iface 49 (.agg #[.int .i64 k, .int .i64 d, .int .i64 wd, .int .i64 hi, .slice ca cn cc, .slice pa pn pc])) by rw [World.cell?_alloc_at _ _ _ _ rfl]; rfl); have c1 := ((box_drew b2).cell (p := ⟨w.heap.size, 1, none⟩) hlt).trans (show (w.alloc (.cells #[.iface 49 (.agg #[.int .i64 k, .int .i64 d, .int .i64 wd, .int .i64 hi, .slice ca cn cc, .slice pa pn pc]), .func (.func 65) #[] #[.pointer (some ⟨A, 0, none⟩), .pointer (some ⟨B, 0, none⟩)]] 56)).cell? ⟨w.heap.size, 1, none⟩ = some (.func (.func 65) #[] #[.pointer (some ⟨A, 0, none⟩), .pointer (some ⟨B, 0, none⟩)]) by rw [World.cell?_alloc_at _ _ _ _ rfl]; rfl); have hlt2 : w.heap.size < w2.heap.size := Nat.lt_of_lt_of_le hlt b2.size) | (go_at_call 65; refine (HFN.out _ bw2).mono ?_; rintro e w3 ⟨rfl, b3⟩; have e0 := (b3.cell (p := ⟨w.heap.size, 0, none⟩) hlt2).trans c0; have e1 := (b3.cell (p := ⟨w.heap.size, 1, none⟩) hlt2).trans c1))
  all_goals
    have bel3 : Below w.heap.size w w3 := bw2.trans (b3.mono bw2.size)
    clear b3 bw2 b2
    go_wp2_with fail
    go_ret
    exact ⟨rfl, bel3⟩

set_option maxHeartbeats 2000000 in
set_option maxRecDepth 20000 in
theorem changed_pal (k d wd hi x y v c : Int) (A B : Nat) (ca : Option Addr) (cn cc : Nat) (pa : Option Addr) (pn pc : Nat) (w : World)
    (hat : ∀ w', Below w.heap.size w w' → Calls Try.prog 84 #[.agg #[.int .i64 k, .int .i64 d, .int .i64 wd, .int .i64 hi, .slice ca cn cc, .slice pa pn pc], .int .i64 x, .int .i64 y] w' fun e w'' => e = .returned (.int .i64 v) ∧ Below w'.heap.size w' w'')
    (hfn : ∀ w', Below w.heap.size w w' → Calls Try.prog 66 #[.int .i64 v, .pointer (some ⟨A, 0, none⟩), .pointer (some ⟨B, 0, none⟩)] w' fun e w'' => e = .returned (.int .i64 c) ∧ Below w'.heap.size w' w'') :
    Calls Try.prog 86 #[.agg #[.iface 49 (.agg #[.int .i64 k, .int .i64 d, .int .i64 wd, .int .i64 hi, .slice ca cn cc, .slice pa pn pc]), .func (.func 66) #[] #[.pointer (some ⟨A, 0, none⟩), .pointer (some ⟨B, 0, none⟩)]], .int .i64 x, .int .i64 y] w fun e w' => e = .returned (.int .i64 c) ∧ Below w.heap.size w w' := by
  have HAT : Hid (∀ w', Below w.heap.size w w' → Calls Try.prog 84 #[.agg #[.int .i64 k, .int .i64 d, .int .i64 wd, .int .i64 hi, .slice ca cn cc, .slice pa pn pc], .int .i64 x, .int .i64 y] w' fun e w'' => e = .returned (.int .i64 v) ∧ Below w'.heap.size w' w'') := hat
  have HFN : Hid (∀ w', Below w.heap.size w w' → Calls Try.prog 66 #[.int .i64 v, .pointer (some ⟨A, 0, none⟩), .pointer (some ⟨B, 0, none⟩)] w' fun e w'' => e = .returned (.int .i64 c) ∧ Below w'.heap.size w' w'') := hfn
  have m1 : ∀ w, (method 198 49 (.agg #[.int .i64 k, .int .i64 d, .int .i64 wd, .int .i64 hi, .slice ca cn cc, .slice pa pn pc]) "loop.example/intarsia/impl.at").run Try.prog w = .ok (84, .agg #[.int .i64 k, .int .i64 d, .int .i64 wd, .int .i64 hi, .slice ca cn cc, .slice pa pn pc]) w := fun w => by kernel_rfl
  have m2 : ∀ w, (nilAhead 198 49 (.agg #[.int .i64 k, .int .i64 d, .int .i64 wd, .int .i64 hi, .slice ca cn cc, .slice pa pn pc]) "loop.example/intarsia/impl.at").run Try.prog w = .ok (some false) w := fun w => by kernel_rfl
  clear hat hfn
  have hB0 : Below w.heap.size w (w.alloc (.cells #[.iface 49 (.agg #[.int .i64 k, .int .i64 d, .int .i64 wd, .int .i64 hi, .slice ca cn cc, .slice pa pn pc]), .func (.func 66) #[] #[.pointer (some ⟨A, 0, none⟩), .pointer (some ⟨B, 0, none⟩)]] 56)) := (Below.refl _ _).alloc (Nat.le_refl _) _
  go_enter Try.func86, Try.ntmps86
  go_wp2_with fail
  go_region_held3 (fun w' => w'.cell? ⟨w.heap.size, 0, none⟩ = some (.iface 49 (.agg #[.int .i64 k, .int .i64 d, .int .i64 wd, .int .i64 hi, .slice ca cn cc, .slice pa pn pc])) ∧ w'.cell? ⟨w.heap.size, 1, none⟩ = some (.func (.func 66) #[] #[.pointer (some ⟨A, 0, none⟩), .pointer (some ⟨B, 0, none⟩)])) (go_keep) (first | (go_at_call 84; refine (HAT.out _ hB0.drew).mono ?_; rintro e w2 ⟨rfl, b2⟩; have bw2 : Below w.heap.size w w2 := hB0.trans ((box_drew b2).mono (by simp)); have hlt : w.heap.size < (w.alloc (.cells #[.iface 49 (.agg #[.int .i64 k, .int .i64 d, .int .i64 wd, .int .i64 hi, .slice ca cn cc, .slice pa pn pc]), .func (.func 66) #[] #[.pointer (some ⟨A, 0, none⟩), .pointer (some ⟨B, 0, none⟩)]] 56)).heap.size := (by simp); have c0 := ((box_drew b2).cell (p := ⟨w.heap.size, 0, none⟩) hlt).trans (show (w.alloc (.cells #[.iface 49 (.agg #[.int .i64 k, .int .i64 d, .int .i64 wd, .int .i64 hi, .slice ca cn cc, .slice pa pn pc]), .func (.func 66) #[] #[.pointer (some ⟨A, 0, none⟩), .pointer (some ⟨B, 0, none⟩)]] 56)).cell? ⟨w.heap.size, 0, none⟩ = some (.iface 49 (.agg #[.int .i64 k, .int .i64 d, .int .i64 wd, .int .i64 hi, .slice ca cn cc, .slice pa pn pc])) by rw [World.cell?_alloc_at _ _ _ _ rfl]; rfl); have c1 := ((box_drew b2).cell (p := ⟨w.heap.size, 1, none⟩) hlt).trans (show (w.alloc (.cells #[.iface 49 (.agg #[.int .i64 k, .int .i64 d, .int .i64 wd, .int .i64 hi, .slice ca cn cc, .slice pa pn pc]), .func (.func 66) #[] #[.pointer (some ⟨A, 0, none⟩), .pointer (some ⟨B, 0, none⟩)]] 56)).cell? ⟨w.heap.size, 1, none⟩ = some (.func (.func 66) #[] #[.pointer (some ⟨A, 0, none⟩), .pointer (some ⟨B, 0, none⟩)]) by rw [World.cell?_alloc_at _ _ _ _ rfl]; rfl); have hlt2 : w.heap.size < w2.heap.size := Nat.lt_of_lt_of_le hlt b2.size) | (go_at_call 66; refine (HFN.out _ bw2).mono ?_; rintro e w3 ⟨rfl, b3⟩; have e0 := (b3.cell (p := ⟨w.heap.size, 0, none⟩) hlt2).trans c0; have e1 := (b3.cell (p := ⟨w.heap.size, 1, none⟩) hlt2).trans c1))
  all_goals
    have bel3 : Below w.heap.size w w3 := bw2.trans (b3.mono bw2.size)
    clear b3 bw2 b2
    go_wp2_with fail
    go_ret
    exact ⟨rfl, bel3⟩

set_option maxHeartbeats 2000000 in
set_option maxRecDepth 20000 in
theorem changed_rgb (k d wd hi x y v c : Int) (ca : Option Addr) (cn cc : Nat) (pa : Option Addr) (pn pc : Nat) (w : World)
    (hat : ∀ w', Below w.heap.size w w' → Calls Try.prog 84 #[.agg #[.int .i64 k, .int .i64 d, .int .i64 wd, .int .i64 hi, .slice ca cn cc, .slice pa pn pc], .int .i64 x, .int .i64 y] w' fun e w'' => e = .returned (.int .i64 v) ∧ Below w'.heap.size w' w'')
    (hfn : ∀ w', Below w.heap.size w w' → Calls Try.prog 64 #[.int .i64 v] w' fun e w'' => e = .returned (.int .i64 c) ∧ Below w'.heap.size w' w'') :
    Calls Try.prog 86 #[.agg #[.iface 49 (.agg #[.int .i64 k, .int .i64 d, .int .i64 wd, .int .i64 hi, .slice ca cn cc, .slice pa pn pc]), .func (.func 64) #[] #[]], .int .i64 x, .int .i64 y] w fun e w' => e = .returned (.int .i64 c) ∧ Below w.heap.size w w' := by
  have HAT : Hid (∀ w', Below w.heap.size w w' → Calls Try.prog 84 #[.agg #[.int .i64 k, .int .i64 d, .int .i64 wd, .int .i64 hi, .slice ca cn cc, .slice pa pn pc], .int .i64 x, .int .i64 y] w' fun e w'' => e = .returned (.int .i64 v) ∧ Below w'.heap.size w' w'') := hat
  have HFN : Hid (∀ w', Below w.heap.size w w' → Calls Try.prog 64 #[.int .i64 v] w' fun e w'' => e = .returned (.int .i64 c) ∧ Below w'.heap.size w' w'') := hfn
  have m1 : ∀ w, (method 198 49 (.agg #[.int .i64 k, .int .i64 d, .int .i64 wd, .int .i64 hi, .slice ca cn cc, .slice pa pn pc]) "loop.example/intarsia/impl.at").run Try.prog w = .ok (84, .agg #[.int .i64 k, .int .i64 d, .int .i64 wd, .int .i64 hi, .slice ca cn cc, .slice pa pn pc]) w := fun w => by kernel_rfl
  have m2 : ∀ w, (nilAhead 198 49 (.agg #[.int .i64 k, .int .i64 d, .int .i64 wd, .int .i64 hi, .slice ca cn cc, .slice pa pn pc]) "loop.example/intarsia/impl.at").run Try.prog w = .ok (some false) w := fun w => by kernel_rfl
  clear hat hfn
  have hB0 : Below w.heap.size w (w.alloc (.cells #[.iface 49 (.agg #[.int .i64 k, .int .i64 d, .int .i64 wd, .int .i64 hi, .slice ca cn cc, .slice pa pn pc]), .func (.func 64) #[] #[]] 56)) := (Below.refl _ _).alloc (Nat.le_refl _) _
  go_enter Try.func86, Try.ntmps86
  go_wp2_with fail
  go_region_held3 (fun w' => w'.cell? ⟨w.heap.size, 0, none⟩ = some (.iface 49 (.agg #[.int .i64 k, .int .i64 d, .int .i64 wd, .int .i64 hi, .slice ca cn cc, .slice pa pn pc])) ∧ w'.cell? ⟨w.heap.size, 1, none⟩ = some (.func (.func 64) #[] #[])) (go_keep) (first | (go_at_call 84; refine (HAT.out _ hB0.drew).mono ?_; rintro e w2 ⟨rfl, b2⟩; have bw2 : Below w.heap.size w w2 := hB0.trans ((box_drew b2).mono (by simp)); have hlt : w.heap.size < (w.alloc (.cells #[.iface 49 (.agg #[.int .i64 k, .int .i64 d, .int .i64 wd, .int .i64 hi, .slice ca cn cc, .slice pa pn pc]), .func (.func 64) #[] #[]] 56)).heap.size := (by simp); have c0 := ((box_drew b2).cell (p := ⟨w.heap.size, 0, none⟩) hlt).trans (show (w.alloc (.cells #[.iface 49 (.agg #[.int .i64 k, .int .i64 d, .int .i64 wd, .int .i64 hi, .slice ca cn cc, .slice pa pn pc]), .func (.func 64) #[] #[]] 56)).cell? ⟨w.heap.size, 0, none⟩ = some (.iface 49 (.agg #[.int .i64 k, .int .i64 d, .int .i64 wd, .int .i64 hi, .slice ca cn cc, .slice pa pn pc])) by rw [World.cell?_alloc_at _ _ _ _ rfl]; rfl); have c1 := ((box_drew b2).cell (p := ⟨w.heap.size, 1, none⟩) hlt).trans (show (w.alloc (.cells #[.iface 49 (.agg #[.int .i64 k, .int .i64 d, .int .i64 wd, .int .i64 hi, .slice ca cn cc, .slice pa pn pc]), .func (.func 64) #[] #[]] 56)).cell? ⟨w.heap.size, 1, none⟩ = some (.func (.func 64) #[] #[]) by rw [World.cell?_alloc_at _ _ _ _ rfl]; rfl); have hlt2 : w.heap.size < w2.heap.size := Nat.lt_of_lt_of_le hlt b2.size) | (go_at_call 64; refine (HFN.out _ bw2).mono ?_; rintro e w3 ⟨rfl, b3⟩; have e0 := (b3.cell (p := ⟨w.heap.size, 0, none⟩) hlt2).trans c0; have e1 := (b3.cell (p := ⟨w.heap.size, 1, none⟩) hlt2).trans c1))
  all_goals
    have bel3 : Below w.heap.size w w3 := bw2.trans (b3.mono bw2.size)
    clear b3 bw2 b2
    go_wp2_with fail
    go_ret
    exact ⟨rfl, bel3⟩

set_option maxHeartbeats 2000000 in
set_option maxRecDepth 20000 in
theorem changed_rgba (k d wd hi x y v c : Int) (ca : Option Addr) (cn cc : Nat) (pa : Option Addr) (pn pc : Nat) (w : World)
    (hat : ∀ w', Below w.heap.size w w' → Calls Try.prog 84 #[.agg #[.int .i64 k, .int .i64 d, .int .i64 wd, .int .i64 hi, .slice ca cn cc, .slice pa pn pc], .int .i64 x, .int .i64 y] w' fun e w'' => e = .returned (.int .i64 v) ∧ Below w'.heap.size w' w'')
    (hfn : ∀ w', Below w.heap.size w w' → Calls Try.prog 67 #[.int .i64 v] w' fun e w'' => e = .returned (.int .i64 c) ∧ Below w'.heap.size w' w'') :
    Calls Try.prog 86 #[.agg #[.iface 49 (.agg #[.int .i64 k, .int .i64 d, .int .i64 wd, .int .i64 hi, .slice ca cn cc, .slice pa pn pc]), .func (.func 67) #[] #[]], .int .i64 x, .int .i64 y] w fun e w' => e = .returned (.int .i64 c) ∧ Below w.heap.size w w' := by
  have HAT : Hid (∀ w', Below w.heap.size w w' → Calls Try.prog 84 #[.agg #[.int .i64 k, .int .i64 d, .int .i64 wd, .int .i64 hi, .slice ca cn cc, .slice pa pn pc], .int .i64 x, .int .i64 y] w' fun e w'' => e = .returned (.int .i64 v) ∧ Below w'.heap.size w' w'') := hat
  have HFN : Hid (∀ w', Below w.heap.size w w' → Calls Try.prog 67 #[.int .i64 v] w' fun e w'' => e = .returned (.int .i64 c) ∧ Below w'.heap.size w' w'') := hfn
  have m1 : ∀ w, (method 198 49 (.agg #[.int .i64 k, .int .i64 d, .int .i64 wd, .int .i64 hi, .slice ca cn cc, .slice pa pn pc]) "loop.example/intarsia/impl.at").run Try.prog w = .ok (84, .agg #[.int .i64 k, .int .i64 d, .int .i64 wd, .int .i64 hi, .slice ca cn cc, .slice pa pn pc]) w := fun w => by kernel_rfl
  have m2 : ∀ w, (nilAhead 198 49 (.agg #[.int .i64 k, .int .i64 d, .int .i64 wd, .int .i64 hi, .slice ca cn cc, .slice pa pn pc]) "loop.example/intarsia/impl.at").run Try.prog w = .ok (some false) w := fun w => by kernel_rfl
  clear hat hfn
  have hB0 : Below w.heap.size w (w.alloc (.cells #[.iface 49 (.agg #[.int .i64 k, .int .i64 d, .int .i64 wd, .int .i64 hi, .slice ca cn cc, .slice pa pn pc]), .func (.func 67) #[] #[]] 56)) := (Below.refl _ _).alloc (Nat.le_refl _) _
  go_enter Try.func86, Try.ntmps86
  go_wp2_with fail
  go_region_held3 (fun w' => w'.cell? ⟨w.heap.size, 0, none⟩ = some (.iface 49 (.agg #[.int .i64 k, .int .i64 d, .int .i64 wd, .int .i64 hi, .slice ca cn cc, .slice pa pn pc])) ∧ w'.cell? ⟨w.heap.size, 1, none⟩ = some (.func (.func 67) #[] #[])) (go_keep) (first | (go_at_call 84; refine (HAT.out _ hB0.drew).mono ?_; rintro e w2 ⟨rfl, b2⟩; have bw2 : Below w.heap.size w w2 := hB0.trans ((box_drew b2).mono (by simp)); have hlt : w.heap.size < (w.alloc (.cells #[.iface 49 (.agg #[.int .i64 k, .int .i64 d, .int .i64 wd, .int .i64 hi, .slice ca cn cc, .slice pa pn pc]), .func (.func 67) #[] #[]] 56)).heap.size := (by simp); have c0 := ((box_drew b2).cell (p := ⟨w.heap.size, 0, none⟩) hlt).trans (show (w.alloc (.cells #[.iface 49 (.agg #[.int .i64 k, .int .i64 d, .int .i64 wd, .int .i64 hi, .slice ca cn cc, .slice pa pn pc]), .func (.func 67) #[] #[]] 56)).cell? ⟨w.heap.size, 0, none⟩ = some (.iface 49 (.agg #[.int .i64 k, .int .i64 d, .int .i64 wd, .int .i64 hi, .slice ca cn cc, .slice pa pn pc])) by rw [World.cell?_alloc_at _ _ _ _ rfl]; rfl); have c1 := ((box_drew b2).cell (p := ⟨w.heap.size, 1, none⟩) hlt).trans (show (w.alloc (.cells #[.iface 49 (.agg #[.int .i64 k, .int .i64 d, .int .i64 wd, .int .i64 hi, .slice ca cn cc, .slice pa pn pc]), .func (.func 67) #[] #[]] 56)).cell? ⟨w.heap.size, 1, none⟩ = some (.func (.func 67) #[] #[]) by rw [World.cell?_alloc_at _ _ _ _ rfl]; rfl); have hlt2 : w.heap.size < w2.heap.size := Nat.lt_of_lt_of_le hlt b2.size) | (go_at_call 67; refine (HFN.out _ bw2).mono ?_; rintro e w3 ⟨rfl, b3⟩; have e0 := (b3.cell (p := ⟨w.heap.size, 0, none⟩) hlt2).trans c0; have e1 := (b3.cell (p := ⟨w.heap.size, 1, none⟩) hlt2).trans c1))
  all_goals
    have bel3 : Below w.heap.size w w3 := bw2.trans (b3.mono bw2.size)
    clear b3 bw2 b2
    go_wp2_with fail
    go_ret
    exact ⟨rfl, bel3⟩

end Go.Proofs.Ytjiogneidioknaa
