/- Texts laid together: ImplTurn, TurnMath. -/
import Derived.Test.YteldjmocbbbinaaGreatDoorKFRepx0a
/- ImageTurn of the program. -/
namespace Go.Proofs.YteldjmocbbbinaaGreatDoor
open Go.RowKit

theorem turn_ma (k d : Int) (Wd Hi : Nat) (ca : Option Addr) (cn cc : Nat) (pa : Option Addr) (pn pc : Nat) (w : World) : (method 553 57 (.agg #[.iface 52 (.agg #[.int .i64 k, .int .i64 d, .int .i64 (Wd : Int), .int .i64 (Hi : Int), .slice ca cn cc, .slice pa pn pc])]) "loop.example/intarsia/impl.at").run Tryz.prog w = .ok (371, .agg #[.iface 52 (.agg #[.int .i64 k, .int .i64 d, .int .i64 (Wd : Int), .int .i64 (Hi : Int), .slice ca cn cc, .slice pa pn pc])]) w := by kernel_rfl
theorem turn_na (k d : Int) (Wd Hi : Nat) (ca : Option Addr) (cn cc : Nat) (pa : Option Addr) (pn pc : Nat) (w : World) : (nilAhead 553 57 (.agg #[.iface 52 (.agg #[.int .i64 k, .int .i64 d, .int .i64 (Wd : Int), .int .i64 (Hi : Int), .slice ca cn cc, .slice pa pn pc])]) "loop.example/intarsia/impl.at").run Tryz.prog w = .ok (some false) w := by kernel_rfl
theorem turn_ns (k d : Int) (Wd Hi : Nat) (ca : Option Addr) (cn cc : Nat) (pa : Option Addr) (pn pc : Nat) (w : World) : (nilAhead 553 57 (.agg #[.iface 52 (.agg #[.int .i64 k, .int .i64 d, .int .i64 (Wd : Int), .int .i64 (Hi : Int), .slice ca cn cc, .slice pa pn pc])]) "loop.example/intarsia/impl.size").run Tryz.prog w = .ok (some false) w := by kernel_rfl
theorem turn_ms (k d : Int) (Wd Hi : Nat) (ca : Option Addr) (cn cc : Nat) (pa : Option Addr) (pn pc : Nat) (w : World) : (method 553 57 (.agg #[.iface 52 (.agg #[.int .i64 k, .int .i64 d, .int .i64 (Wd : Int), .int .i64 (Hi : Int), .slice ca cn cc, .slice pa pn pc])]) "loop.example/intarsia/impl.size").run Tryz.prog w = .ok (372, .agg #[.iface 52 (.agg #[.int .i64 k, .int .i64 d, .int .i64 (Wd : Int), .int .i64 (Hi : Int), .slice ca cn cc, .slice pa pn pc])]) w := by kernel_rfl

set_option maxHeartbeats 1000000 in
theorem turn_size (k d : Int) (Wd Hi : Nat) (ca : Option Addr) (cn cc : Nat) (pa : Option Addr) (pn pc : Nat) (w : World) :
    Calls Tryz.prog 372 #[.agg #[.iface 52 (.agg #[.int .i64 k, .int .i64 d, .int .i64 (Wd : Int), .int .i64 (Hi : Int), .slice ca cn cc, .slice pa pn pc])]] w fun e w' => e = .returned (.tuple #[.int .i64 (Hi : Int), .int .i64 (Wd : Int)]) ∧ Below w.heap.size w w' := by
  have m1 := fun w => method_size k d (Wd : Int) (Hi : Int) ca cn cc pa pn pc w
  have n1 := fun w => plain_ns k d Wd Hi ca cn cc pa pn pc w
  have hB0 : Below w.heap.size w (w.alloc (.cells #[.iface 52 (.agg #[.int .i64 k, .int .i64 d, .int .i64 (Wd : Int), .int .i64 (Hi : Int), .slice ca cn cc, .slice pa pn pc])] 57)) := (Below.refl _ _).alloc (Nat.le_refl _) _
  have HS : Hid (Calls Tryz.prog 369 #[.agg #[.int .i64 k, .int .i64 d, .int .i64 (Wd : Int), .int .i64 (Hi : Int), .slice ca cn cc, .slice pa pn pc]] (w.alloc (.cells #[.iface 52 (.agg #[.int .i64 k, .int .i64 d, .int .i64 (Wd : Int), .int .i64 (Hi : Int), .slice ca cn cc, .slice pa pn pc])] 57)) fun e w' => e = .returned (.tuple #[.int .i64 (Wd : Int), .int .i64 (Hi : Int)]) ∧ Below (w.alloc (.cells #[.iface 52 (.agg #[.int .i64 k, .int .i64 d, .int .i64 (Wd : Int), .int .i64 (Hi : Int), .slice ca cn cc, .slice pa pn pc])] 57)).heap.size (w.alloc (.cells #[.iface 52 (.agg #[.int .i64 k, .int .i64 d, .int .i64 (Wd : Int), .int .i64 (Hi : Int), .slice ca cn cc, .slice pa pn pc])] 57)) w') := size_any k d (Wd : Int) (Hi : Int) ca cn cc pa pn pc _
  go_enter Tryz.func372, Tryz.ntmps372
  go_wp2_with fail
  refine HS.out.mono ?_
  rintro e w1 ⟨rfl, b1⟩
  have bel1 := hB0.trans (b1.mono hB0.size)
  clear b1 hB0 HS
  go_wp2_with fail
  go_ret2
  exact ⟨rfl, bel1⟩

set_option maxHeartbeats 1000000 in
theorem turn_at (k d : Int) (Wd Hi : Nat) (ca : Option Addr) (cn cc : Nat) (pa : Option Addr) (pn pc : Nat) (x y : Nat) (v : Int) (w : World) (hx : x < Hi) (hH : Hi ≤ 20)
    (hat : ∀ w', Below w.heap.size w w' → Calls Tryz.prog 368 #[.agg #[.int .i64 k, .int .i64 d, .int .i64 (Wd : Int), .int .i64 (Hi : Int), .slice ca cn cc, .slice pa pn pc], .int .i64 (y : Int), .int .i64 ((Hi : Int) - 1 - (x : Int))] w' fun e w'' => e = .returned (.int .i64 v) ∧ Below w'.heap.size w' w'') :
    Calls Tryz.prog 371 #[.agg #[.iface 52 (.agg #[.int .i64 k, .int .i64 d, .int .i64 (Wd : Int), .int .i64 (Hi : Int), .slice ca cn cc, .slice pa pn pc])], .int .i64 (x : Int), .int .i64 (y : Int)] w fun e w' => e = .returned (.int .i64 v) ∧ Below w.heap.size w w' := by
  have m1 := fun w => method_size k d (Wd : Int) (Hi : Int) ca cn cc pa pn pc w
  have n1 := fun w => plain_ns k d Wd Hi ca cn cc pa pn pc w
  have m2 := fun w => plain_ma k d Wd Hi ca cn cc pa pn pc w
  have n2 := fun w => plain_na k d Wd Hi ca cn cc pa pn pc w
  have hB0 : Below w.heap.size w (w.alloc (.cells #[.iface 52 (.agg #[.int .i64 k, .int .i64 d, .int .i64 (Wd : Int), .int .i64 (Hi : Int), .slice ca cn cc, .slice pa pn pc])] 57)) := (Below.refl _ _).alloc (Nat.le_refl _) _
  have HS : Hid (Calls Tryz.prog 369 #[.agg #[.int .i64 k, .int .i64 d, .int .i64 (Wd : Int), .int .i64 (Hi : Int), .slice ca cn cc, .slice pa pn pc]] (w.alloc (.cells #[.iface 52 (.agg #[.int .i64 k, .int .i64 d, .int .i64 (Wd : Int), .int .i64 (Hi : Int), .slice ca cn cc, .slice pa pn pc])] 57)) fun e w' => e = .returned (.tuple #[.int .i64 (Wd : Int), .int .i64 (Hi : Int)]) ∧ Below (w.alloc (.cells #[.iface 52 (.agg #[.int .i64 k, .int .i64 d, .int .i64 (Wd : Int), .int .i64 (Hi : Int), .slice ca cn cc, .slice pa pn pc])] 57)).heap.size (w.alloc (.cells #[.iface 52 (.agg #[.int .i64 k, .int .i64 d, .int .i64 (Wd : Int), .int .i64 (Hi : Int), .slice ca cn cc, .slice pa pn pc])] 57)) w') := size_any k d (Wd : Int) (Hi : Int) ca cn cc pa pn pc _
  have HAT : Hid (∀ w', Below w.heap.size w w' → Calls Tryz.prog 368 #[.agg #[.int .i64 k, .int .i64 d, .int .i64 (Wd : Int), .int .i64 (Hi : Int), .slice ca cn cc, .slice pa pn pc], .int .i64 (y : Int), .int .i64 ((Hi : Int) - 1 - (x : Int))] w' fun e w'' => e = .returned (.int .i64 v) ∧ Below w'.heap.size w' w'') := hat
  clear hat
  have hc0 := (Boxed.new w 57 (.iface 52 (.agg #[.int .i64 k, .int .i64 d, .int .i64 (Wd : Int), .int .i64 (Hi : Int), .slice ca cn cc, .slice pa pn pc]))).cell
  go_enter Tryz.func371, Tryz.ntmps371
  go_wp2_with fail
  refine HS.out.mono ?_
  rintro e w1 ⟨rfl, b1⟩
  have hc1 : w1.cell? ⟨w.heap.size, 0, none⟩ = some (.iface 52 (.agg #[.int .i64 k, .int .i64 d, .int .i64 (Wd : Int), .int .i64 (Hi : Int), .slice ca cn cc, .slice pa pn pc])) := (b1.cell (p := ⟨w.heap.size, 0, none⟩) (by simp)).trans hc0
  have bel1 := hB0.trans (b1.mono hB0.size)
  clear b1 hB0 HS hc0
  go_wp2_with fail
  refine (HAT.out w1 bel1).mono ?_
  rintro e w2 ⟨rfl, b2⟩
  have bel2 := bel1.trans (b2.mono bel1.size)
  clear b2 bel1 hc1
  go_wp2_with fail
  go_ret
  exact ⟨rfl, bel2⟩

/-- what is told of the points -/
def turnF (Wd Hi : Nat) (ps : List Int) : Nat → Nat → Int := fun x y => ps.getD ((Hi - 1 - x) * Wd + y) 0

theorem turn_seen (k d : Int) (Wd Hi : Nat) (ca : Option Addr) (cn cc : Nat) (pa : Option Addr) (pn pc : Nat) (ps : List Int) (w : World) (hp : Ints w pa ps) (hpn : ps.length = pn) (hW : Wd ≤ 20) (hH : Hi ≤ 20) (hm : pn = Wd * Hi) :
    Seen 57 (.agg #[.iface 52 (.agg #[.int .i64 k, .int .i64 d, .int .i64 (Wd : Int), .int .i64 (Hi : Int), .slice ca cn cc, .slice pa pn pc])]) 372 (.agg #[.iface 52 (.agg #[.int .i64 k, .int .i64 d, .int .i64 (Wd : Int), .int .i64 (Hi : Int), .slice ca cn cc, .slice pa pn pc])]) 371 (.agg #[.iface 52 (.agg #[.int .i64 k, .int .i64 d, .int .i64 (Wd : Int), .int .i64 (Hi : Int), .slice ca cn cc, .slice pa pn pc])]) Hi Wd (turnF Wd Hi ps) w.heap.size w where
  ms := turn_ms k d Wd Hi ca cn cc pa pn pc
  ns := turn_ns k d Wd Hi ca cn cc pa pn pc
  ma := turn_ma k d Wd Hi ca cn cc pa pn pc
  na := turn_na k d Wd Hi ca cn cc pa pn pc
  es := enters_of Tryz.func372 (by kernel_rfl) rfl
  ea := enters_of Tryz.func371 (by kernel_rfl) rfl
  size := fun w' _ => turn_size k d Wd Hi ca cn cc pa pn pc w'
  at' := fun w' x y hx hy b => by
    have h1 : (Hi - 1 - x + 1) * Wd ≤ Hi * Wd := Nat.mul_le_mul_right _ (by omega)
    rw [Nat.add_mul, Nat.one_mul, Nat.mul_comm Hi Wd] at h1
    have h2 : Wd * Hi ≤ 20 * 20 := Nat.mul_le_mul (by omega) (by omega)
    have hs : Spot (Wd : Int) (Hi : Int) (y : Int) ((Hi : Int) - 1 - (x : Int)) pn ((Hi - 1 - x) * Wd + y) y (Hi - 1 - x) Wd := ⟨rfl, by omega, rfl, rfl, by omega, by omega⟩
    exact turn_at k d Wd Hi ca cn cc pa pn pc x y _ w' hx hH (fun w'' b' => at_any k d (Wd : Int) (Hi : Int) (y : Int) ((Hi : Int) - 1 - (x : Int)) ca cn cc pa pn pc ps w'' _ _ _ _ hs ((hp.kept b).kept b') hpn)

set_option maxHeartbeats 2000000 in
set_option maxRecDepth 20000 in
theorem impl_turn_yes (k d : Int) (Wd Hi : Nat) (ca : Option Addr) (cn cc : Nat) (pa : Option Addr) (pn pc : Nat) (cs ps : List Int) (w : World) (hc : Ints w ca cs) (hcn : cs.length = cn) (hcl : cn ≤ 1048576) (hp : Ints w pa ps) (hpn : ps.length = pn) (hW : Wd ≤ 20) (hH : Hi ≤ 20) (hm : pn = Wd * Hi)
    (hO : Calls Tryz.prog 7 #[.agg #[.int .i64 k, .int .i64 d, .int .i64 (Wd : Int), .int .i64 (Hi : Int), .slice ca cn cc, .slice pa pn pc]] ((w.alloc (.cells #[.int .i64 k, .int .i64 d, .int .i64 (Wd : Int), .int .i64 (Hi : Int), .slice ca cn cc, .slice pa pn pc] 25)).alloc (.cells #[.int .i64 0, .int .i64 0, .int .i64 0, .int .i64 0, .slice none 0 0, .slice none 0 0] 25)) fun e w' => e = .returned (.bool true) ∧ Below ((w.alloc (.cells #[.int .i64 k, .int .i64 d, .int .i64 (Wd : Int), .int .i64 (Hi : Int), .slice ca cn cc, .slice pa pn pc] 25)).alloc (.cells #[.int .i64 0, .int .i64 0, .int .i64 0, .int .i64 0, .slice none 0 0, .slice none 0 0] 25)).heap.size ((w.alloc (.cells #[.int .i64 k, .int .i64 d, .int .i64 (Wd : Int), .int .i64 (Hi : Int), .slice ca cn cc, .slice pa pn pc] 25)).alloc (.cells #[.int .i64 0, .int .i64 0, .int .i64 0, .int .i64 0, .slice none 0 0, .slice none 0 0] 25)) w') :
    Calls Tryz.prog 10 #[.agg #[.int .i64 k, .int .i64 d, .int .i64 (Wd : Int), .int .i64 (Hi : Int), .slice ca cn cc, .slice pa pn pc]] w fun e w' =>
      (∃ x cx y cy, e = .returned (.agg #[.int .i64 k, .int .i64 d, .int .i64 (Hi : Int), .int .i64 (Wd : Int), .slice x cn cx, .slice y (Hi * Wd) cy]) ∧ Pair2 w' w.heap.size x cs y (upto (ptF Hi (turnF Wd Hi ps)) (Hi * Wd))) ∧ Below w.heap.size w w' := by
  have hB0 : Below w.heap.size w ((w.alloc (.cells #[.int .i64 k, .int .i64 d, .int .i64 (Wd : Int), .int .i64 (Hi : Int), .slice ca cn cc, .slice pa pn pc] 25)).alloc (.cells #[.int .i64 0, .int .i64 0, .int .i64 0, .int .i64 0, .slice none 0 0, .slice none 0 0] 25)) := ((Below.refl _ _).alloc (Nat.le_refl _) _).alloc (by simp) _
  have HO : Hid (Calls Tryz.prog 7 #[.agg #[.int .i64 k, .int .i64 d, .int .i64 (Wd : Int), .int .i64 (Hi : Int), .slice ca cn cc, .slice pa pn pc]] ((w.alloc (.cells #[.int .i64 k, .int .i64 d, .int .i64 (Wd : Int), .int .i64 (Hi : Int), .slice ca cn cc, .slice pa pn pc] 25)).alloc (.cells #[.int .i64 0, .int .i64 0, .int .i64 0, .int .i64 0, .slice none 0 0, .slice none 0 0] 25)) fun e w' => e = .returned (.bool true) ∧ Below ((w.alloc (.cells #[.int .i64 k, .int .i64 d, .int .i64 (Wd : Int), .int .i64 (Hi : Int), .slice ca cn cc, .slice pa pn pc] 25)).alloc (.cells #[.int .i64 0, .int .i64 0, .int .i64 0, .int .i64 0, .slice none 0 0, .slice none 0 0] 25)).heap.size ((w.alloc (.cells #[.int .i64 k, .int .i64 d, .int .i64 (Wd : Int), .int .i64 (Hi : Int), .slice ca cn cc, .slice pa pn pc] 25)).alloc (.cells #[.int .i64 0, .int .i64 0, .int .i64 0, .int .i64 0, .slice none 0 0, .slice none 0 0] 25)) w') := hO
  clear hO
  have HZ : Hid (((w.alloc (.cells #[.int .i64 k, .int .i64 d, .int .i64 (Wd : Int), .int .i64 (Hi : Int), .slice ca cn cc, .slice pa pn pc] 25)).alloc (.cells #[.int .i64 0, .int .i64 0, .int .i64 0, .int .i64 0, .slice none 0 0, .slice none 0 0] 25)).heap[w.heap.size + 1]? = some (.cells #[.int .i64 0, .int .i64 0, .int .i64 0, .int .i64 0, .slice none 0 0, .slice none 0 0] 25 (0, 0))) := heap_alloc2_new _ _ _
  have HM : Hid (∀ w', Below w.heap.size w w' → Calls Tryz.prog 28 #[.iface 57 (.agg #[.iface 52 (.agg #[.int .i64 k, .int .i64 d, .int .i64 (Wd : Int), .int .i64 (Hi : Int), .slice ca cn cc, .slice pa pn pc])]), .int .i64 k, .int .i64 d, .slice ca cn cc] w' fun e w'' =>
      (∃ x cx y cy, e = .returned (.agg #[.int .i64 k, .int .i64 d, .int .i64 (Hi : Int), .int .i64 (Wd : Int), .slice x cn cx, .slice y (Hi * Wd) cy]) ∧ Pair2 w'' w'.heap.size x cs y (upto (ptF Hi (turnF Wd Hi ps)) (Hi * Wd))) ∧ Below w'.heap.size w' w'') :=
    fun w' b => drawn_any 57 _ _ _ _ _ Hi Wd _ (by omega) (by omega) k d ca cn cc cs w' (turn_seen k d Wd Hi ca cn cc pa pn pc ps w' (hp.kept b) hpn hW hH hm) (hc.kept b) hcn hcl
  have k0 := box_kept (box_new w (.int .i64 k) (.int .i64 d) (.int .i64 (Wd : Int)) (.int .i64 (Hi : Int)) (.slice ca cn cc) (.slice pa pn pc) 25) ((Below.refl _ _).alloc (Nat.le_refl _) (.cells #[.int .i64 0, .int .i64 0, .int .i64 0, .int .i64 0, .slice none 0 0, .slice none 0 0] 25)) (by simp)
  clear hc hcn hcl hp hpn hm
  go_enter Tryz.func10, Tryz.ntmps10
  go_wp2_with fail
  refine HO.out.mono ?_
  rintro e w1 ⟨rfl, b1⟩
  obtain ⟨k0, k1, k2, k3, k4, k5⟩ := box_kept k0 b1 (by simp; omega)
  have bel1 := hB0.trans (b1.mono hB0.size)
  have hlt1 : w.heap.size + 1 < w1.heap.size := Nat.lt_of_lt_of_le (by simp) b1.size
  have HZ1 : Hid (w1.heap[w.heap.size + 1]? = some (.cells #[.int .i64 0, .int .i64 0, .int .i64 0, .int .i64 0, .slice none 0 0, .slice none 0 0] 25 (0, 0))) := (b1.block _ (by simp)).trans HZ.out
  clear b1 hB0 HO HZ
  go_wp2_with fail
  refine (HM.out w1 bel1).mono ?_
  rintro e w2 ⟨⟨x, cx, y, cy, rfl, hP⟩, b2⟩
  have hz2 : w2.heap[w.heap.size + 1]? = some (.cells #[.int .i64 0, .int .i64 0, .int .i64 0, .int .i64 0, .slice none 0 0, .slice none 0 0] 25 (0, 0)) := (b2.block _ hlt1).trans HZ1.out
  have bel2 := bel1.trans (b2.mono bel1.size)
  have hI6 : (Tryz.prog.info? 25).map (·.size) = some (#[Value.int .i64 k, .int .i64 d, .int .i64 (Hi : Int), .int .i64 (Wd : Int), .slice x cn cx, .slice y (Hi * Wd) cy]).size := by kernel_rfl
  have h16 : (#[Value.int .i64 k, .int .i64 d, .int .i64 (Hi : Int), .int .i64 (Wd : Int), .slice x cn cx, .slice y (Hi * Wd) cy]).all (·.oneCell') = true := by simp [Value.oneCell']
  have HP : Hid (Pair2 w2 (w.heap.size + 1 + 1) x cs y (upto (ptF Hi (turnF Wd Hi ps)) (Hi * Wd))) := hP.lower hlt1
  clear b2 bel1 HZ1 hP k0 k1 k2 k3 k4 k5 HM
  go_wp2_with (refine wpList_store_row rfl 25 (.tmp 2) (.tmp 17) rfl (w.heap.size + 1) #[.int .i64 k, .int .i64 d, .int .i64 (Hi : Int), .int .i64 (Wd : Int), .slice x cn cx, .slice y (Hi * Wd) cy] rfl rfl 25 #[.int .i64 0, .int .i64 0, .int .i64 0, .int .i64 0, .slice none 0 0, .slice none 0 0] hz2 hI6 rfl h16 ?_)
  have hs2 := setRow_heap w2 (w.heap.size + 1) _ #[.int .i64 k, .int .i64 d, .int .i64 (Hi : Int), .int .i64 (Wd : Int), .slice x cn cx, .slice y (Hi * Wd) cy] _ _ hz2
  refine bodyPost_ret_by (results_cell_row (p := 2) (ty := 25) (by kernel_rfl) _ _ (w.heap.size + 1) 25 _ (0, 0) _ rfl hs2 Tryz.underlying25 rfl (by kernel_rfl)) rfl ⟨⟨x, cx, y, cy, rfl, ?_⟩, ?_⟩
  · exact (HP.out.row _).lower (by omega)
  · exact bel2.trans ((below_setRow _ _ _).mono (by omega))
end Go.Proofs.YteldjmocbbbinaaGreatDoor

/- A picture turned to the right: what the law on it wants. -/
namespace Go.Proofs.YteldjmocbbbinaaGreatDoor
open Go.RowKit

def turnL (Wd Hi : Nat) (ps : List Int) : List Int := upto (ptF Hi (turnF Wd Hi ps)) (Hi * Wd)
theorem turnL_len (Wd Hi : Nat) (ps : List Int) : (turnL Wd Hi ps).length = Hi * Wd := upto_length _ _
theorem turnL_at {Wd Hi x y : Nat} (ps : List Int) (hx : x < Hi) (hy : y < Wd) : (turnL Wd Hi ps).getD (y * Hi + x) 0 = ps.getD ((Hi - 1 - x) * Wd + y) 0 := by
  unfold turnL; rw [upto_getD _ (spot_lt hx hy), ptF_at _ hx]; rfl
theorem turnL_mem {Wd Hi : Nat} {ps : List Int} (h : ps.length = Wd * Hi) {z : Int} (hz : z ∈ turnL Wd Hi ps) : z ∈ ps := by
  obtain ⟨j, hj, rfl⟩ := List.getElem_of_mem hz
  have hj' := hj
  rw [turnL_len] at hj'
  obtain ⟨x, y, hx, hy, rfl⟩ := split_at hj'
  rw [getD_of, turnL_at _ hx hy]
  exact mem_getD (by rw [h]; exact spot_lt hy (by omega))
theorem ok_turn {k d : Int} {Wd Hi : Nat} {cs ps : List Int} (h : Im.okB k d Wd Hi cs ps = true) : Im.okB k d Hi Wd cs (turnL Wd Hi ps) = true := by
  obtain ⟨h1, h2, h3, h4, h5, h6⟩ := ok_open h
  have e : ((Wd * Hi : Nat) : Int) = (Wd : Int) * (Hi : Int) := by simp
  have e' : ((Hi * Wd : Nat) : Int) = (Hi : Int) * (Wd : Int) := by simp
  exact Im.okB_yes ⟨h1, h3, h2, h4, by rw [turnL_len]; exact e', fun z hz => h6 z (turnL_mem (by omega) hz)⟩

theorem implTurn_ok (k d : Int) (Wd Hi : Nat) (ca : Option Addr) (cn cc : Nat) (pa : Option Addr) (pn pc : Nat) (cs ps : List Int) (w : World) (hc : Ints w ca cs) (hcn : cs.length = cn) (hcl : cn ≤ 1000) (hp : Ints w pa ps) (hpn : ps.length = pn) (hok : Im.okB k d Wd Hi cs ps = true) :
    Calls Tryz.prog 10 #[.agg #[.int .i64 k, .int .i64 d, .int .i64 (Wd : Int), .int .i64 (Hi : Int), .slice ca cn cc, .slice pa pn pc]] w fun e w' => (∃ x cx y cy, e = .returned (.agg #[.int .i64 k, .int .i64 d, .int .i64 (Hi : Int), .int .i64 (Wd : Int), .slice x cn cx, .slice y pn cy]) ∧ Ints w' x cs ∧ Ints w' y (turnL Wd Hi ps)) ∧ Below w.heap.size w w' := by
  obtain ⟨_, hw, hh, _, hm, _⟩ := ok_open hok
  have e : ((Wd * Hi : Nat) : Int) = (Wd : Int) * (Hi : Int) := by simp
  have hmm : pn = Wd * Hi := by omega
  have hmul : Wd * Hi ≤ 20 * 20 := Nat.mul_le_mul (by omega) (by omega)
  have hO := impl_imageOk k d Wd Hi ca cn cc pa pn pc ((w.alloc (.cells #[.int .i64 k, .int .i64 d, .int .i64 (Wd : Int), .int .i64 (Hi : Int), .slice ca cn cc, .slice pa pn pc] 25)).alloc (.cells #[.int .i64 0, .int .i64 0, .int .i64 0, .int .i64 0, .slice none 0 0, .slice none 0 0] 25)) cs ps (hc.kept (below_two _ _ _)) hcn (by omega) (hp.kept (below_two _ _ _)) hpn (by omega)
  rw [hok] at hO
  refine (impl_turn_yes k d Wd Hi ca cn cc pa pn pc cs ps w hc hcn (by omega) hp hpn (by omega) (by omega) hmm hO).mono ?_
  rintro e w' ⟨⟨x, cx, y, cy, rfl, hT⟩, b⟩
  rw [hmm, Nat.mul_comm Wd Hi]
  exact ⟨⟨x, cx, y, cy, rfl, (hT.two b.size).ints.1, (hT.two b.size).ints.2⟩, b⟩
end Go.Proofs.YteldjmocbbbinaaGreatDoor
