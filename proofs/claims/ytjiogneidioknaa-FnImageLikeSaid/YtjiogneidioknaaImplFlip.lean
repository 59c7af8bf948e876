/- ImageFlip of the program. -/
import Derived.Test.YtjiogneidioknaaDrawnWalks
import Derived.Test.YtjiogneidioknaaPlainView
namespace Go.Proofs.Ytjiogneidioknaa
open Go.RowKit

theorem flip_ma (k d : Int) (Wd Hi : Nat) (ca : Option Addr) (cn cc : Nat) (pa : Option Addr) (pn pc : Nat) (w : World) : (method 198 69 (.agg #[.iface 49 (.agg #[.int .i64 k, .int .i64 d, .int .i64 (Wd : Int), .int .i64 (Hi : Int), .slice ca cn cc, .slice pa pn pc])]) "loop.example/intarsia/impl.at").run Try.prog w = .ok (87, .agg #[.iface 49 (.agg #[.int .i64 k, .int .i64 d, .int .i64 (Wd : Int), .int .i64 (Hi : Int), .slice ca cn cc, .slice pa pn pc])]) w := by kernel_rfl
theorem flip_na (k d : Int) (Wd Hi : Nat) (ca : Option Addr) (cn cc : Nat) (pa : Option Addr) (pn pc : Nat) (w : World) : (nilAhead 198 69 (.agg #[.iface 49 (.agg #[.int .i64 k, .int .i64 d, .int .i64 (Wd : Int), .int .i64 (Hi : Int), .slice ca cn cc, .slice pa pn pc])]) "loop.example/intarsia/impl.at").run Try.prog w = .ok (some false) w := by kernel_rfl
theorem flip_ns (k d : Int) (Wd Hi : Nat) (ca : Option Addr) (cn cc : Nat) (pa : Option Addr) (pn pc : Nat) (w : World) : (nilAhead 198 69 (.agg #[.iface 49 (.agg #[.int .i64 k, .int .i64 d, .int .i64 (Wd : Int), .int .i64 (Hi : Int), .slice ca cn cc, .slice pa pn pc])]) "loop.example/intarsia/impl.size").run Try.prog w = .ok (some false) w := by kernel_rfl
theorem flip_ms (k d : Int) (Wd Hi : Nat) (ca : Option Addr) (cn cc : Nat) (pa : Option Addr) (pn pc : Nat) (w : World) : (method 198 69 (.agg #[.iface 49 (.agg #[.int .i64 k, .int .i64 d, .int .i64 (Wd : Int), .int .i64 (Hi : Int), .slice ca cn cc, .slice pa pn pc])]) "loop.example/intarsia/impl.size").run Try.prog w = .ok (85, .agg #[.int .i64 k, .int .i64 d, .int .i64 (Wd : Int), .int .i64 (Hi : Int), .slice ca cn cc, .slice pa pn pc]) w := by kernel_rfl

set_option maxHeartbeats 1000000 in
theorem flip_at (k d : Int) (Wd Hi : Nat) (ca : Option Addr) (cn cc : Nat) (pa : Option Addr) (pn pc : Nat) (x y : Nat) (v : Int) (w : World) (hy : y < Hi) (hH : Hi ≤ 20)
    (hat : ∀ w', Below w.heap.size w w' → Calls Try.prog 84 #[.agg #[.int .i64 k, .int .i64 d, .int .i64 (Wd : Int), .int .i64 (Hi : Int), .slice ca cn cc, .slice pa pn pc], .int .i64 (x : Int), .int .i64 ((Hi : Int) - 1 - (y : Int))] w' fun e w'' => e = .returned (.int .i64 v) ∧ Below w'.heap.size w' w'') :
    Calls Try.prog 87 #[.agg #[.iface 49 (.agg #[.int .i64 k, .int .i64 d, .int .i64 (Wd : Int), .int .i64 (Hi : Int), .slice ca cn cc, .slice pa pn pc])], .int .i64 (x : Int), .int .i64 (y : Int)] w fun e w' => e = .returned (.int .i64 v) ∧ Below w.heap.size w w' := by
  have m1 := fun w => method_size k d (Wd : Int) (Hi : Int) ca cn cc pa pn pc w
  have n1 := fun w => plain_ns k d Wd Hi ca cn cc pa pn pc w
  have m2 := fun w => plain_ma k d Wd Hi ca cn cc pa pn pc w
  have n2 := fun w => plain_na k d Wd Hi ca cn cc pa pn pc w
  have hB0 : Below w.heap.size w (w.alloc (.cells #[.iface 49 (.agg #[.int .i64 k, .int .i64 d, .int .i64 (Wd : Int), .int .i64 (Hi : Int), .slice ca cn cc, .slice pa pn pc])] 69)) := (Below.refl _ _).alloc (Nat.le_refl _) _
  have HS : Hid (Calls Try.prog 85 #[.agg #[.int .i64 k, .int .i64 d, .int .i64 (Wd : Int), .int .i64 (Hi : Int), .slice ca cn cc, .slice pa pn pc]] (w.alloc (.cells #[.iface 49 (.agg #[.int .i64 k, .int .i64 d, .int .i64 (Wd : Int), .int .i64 (Hi : Int), .slice ca cn cc, .slice pa pn pc])] 69)) fun e w' => e = .returned (.tuple #[.int .i64 (Wd : Int), .int .i64 (Hi : Int)]) ∧ Below (w.alloc (.cells #[.iface 49 (.agg #[.int .i64 k, .int .i64 d, .int .i64 (Wd : Int), .int .i64 (Hi : Int), .slice ca cn cc, .slice pa pn pc])] 69)).heap.size (w.alloc (.cells #[.iface 49 (.agg #[.int .i64 k, .int .i64 d, .int .i64 (Wd : Int), .int .i64 (Hi : Int), .slice ca cn cc, .slice pa pn pc])] 69)) w') := size_any k d (Wd : Int) (Hi : Int) ca cn cc pa pn pc _
  have HAT : Hid (∀ w', Below w.heap.size w w' → Calls Try.prog 84 #[.agg #[.int .i64 k, .int .i64 d, .int .i64 (Wd : Int), .int .i64 (Hi : Int), .slice ca cn cc, .slice pa pn pc], .int .i64 (x : Int), .int .i64 ((Hi : Int) - 1 - (y : Int))] w' fun e w'' => e = .returned (.int .i64 v) ∧ Below w'.heap.size w' w'') := hat
  clear hat
  have hc0 := (Boxed.new w 69 (.iface 49 (.agg #[.int .i64 k, .int .i64 d, .int .i64 (Wd : Int), .int .i64 (Hi : Int), .slice ca cn cc, .slice pa pn pc]))).cell
  go_enter Try.func87, Try.ntmps87
  go_wp2_with fail
  refine HS.out.mono ?_
  rintro e w1 ⟨rfl, b1⟩
  have hc1 : w1.cell? ⟨w.heap.size, 0, none⟩ = some (.iface 49 (.agg #[.int .i64 k, .int .i64 d, .int .i64 (Wd : Int), .int .i64 (Hi : Int), .slice ca cn cc, .slice pa pn pc])) := (b1.cell (p := ⟨w.heap.size, 0, none⟩) (by simp)).trans hc0
  have bel1 := hB0.trans (b1.mono hB0.size)
  clear b1 hB0 HS hc0
  go_wp2_with fail
  refine (HAT.out w1 bel1).mono ?_
  rintro e w2 ⟨rfl, b2⟩
  have bel2 := bel1.trans (b2.mono bel1.size)
  clear b2 bel1 hc1
  go_wp2_with fail
  go_ret
  exact ⟨rfl, bel2⟩

/-- what is told of the points -/
def flipF (Wd Hi : Nat) (ps : List Int) : Nat → Nat → Int := fun x y => ps.getD ((Hi - 1 - y) * Wd + x) 0

theorem flip_seen (k d : Int) (Wd Hi : Nat) (ca : Option Addr) (cn cc : Nat) (pa : Option Addr) (pn pc : Nat) (ps : List Int) (w : World) (hp : Ints w pa ps) (hpn : ps.length = pn) (hW : Wd ≤ 20) (hH : Hi ≤ 20) (hm : pn = Wd * Hi) :
    Seen 69 (.agg #[.iface 49 (.agg #[.int .i64 k, .int .i64 d, .int .i64 (Wd : Int), .int .i64 (Hi : Int), .slice ca cn cc, .slice pa pn pc])]) 85 (.agg #[.int .i64 k, .int .i64 d, .int .i64 (Wd : Int), .int .i64 (Hi : Int), .slice ca cn cc, .slice pa pn pc]) 87 (.agg #[.iface 49 (.agg #[.int .i64 k, .int .i64 d, .int .i64 (Wd : Int), .int .i64 (Hi : Int), .slice ca cn cc, .slice pa pn pc])]) Wd Hi (flipF Wd Hi ps) w.heap.size w where
  ms := flip_ms k d Wd Hi ca cn cc pa pn pc
  ns := flip_ns k d Wd Hi ca cn cc pa pn pc
  ma := flip_ma k d Wd Hi ca cn cc pa pn pc
  na := flip_na k d Wd Hi ca cn cc pa pn pc
  es := enters_of Try.func85 (by kernel_rfl) rfl
  ea := enters_of Try.func87 (by kernel_rfl) rfl
  size := fun w' _ => size_any k d (Wd : Int) (Hi : Int) ca cn cc pa pn pc w'
  at' := fun w' x y hx hy b => by
    have h1 : (Hi - 1 - y + 1) * Wd ≤ Hi * Wd := Nat.mul_le_mul_right _ (by omega)
    rw [Nat.add_mul, Nat.one_mul, Nat.mul_comm Hi Wd] at h1
    have h2 : Wd * Hi ≤ 20 * 20 := Nat.mul_le_mul (by omega) (by omega)
    have hs : Spot (Wd : Int) (Hi : Int) (x : Int) ((Hi : Int) - 1 - (y : Int)) pn ((Hi - 1 - y) * Wd + x) x (Hi - 1 - y) Wd := ⟨rfl, by omega, rfl, rfl, by omega, by omega⟩
    exact flip_at k d Wd Hi ca cn cc pa pn pc x y _ w' hy hH (fun w'' b' => at_any k d (Wd : Int) (Hi : Int) (x : Int) ((Hi : Int) - 1 - (y : Int)) ca cn cc pa pn pc ps w'' _ _ _ _ hs ((hp.kept b).kept b') hpn)

set_option maxHeartbeats 1000000 in
set_option maxRecDepth 20000 in
theorem impl_flip_no (k d wd hi : Int) (ca : Option Addr) (cn cc : Nat) (pa : Option Addr) (pn pc : Nat) (w : World)
    (hO : Calls Try.prog 16 #[.agg #[.int .i64 k, .int .i64 d, .int .i64 wd, .int .i64 hi, .slice ca cn cc, .slice pa pn pc]] ((w.alloc (.cells #[.int .i64 k, .int .i64 d, .int .i64 wd, .int .i64 hi, .slice ca cn cc, .slice pa pn pc] 26)).alloc (.cells #[.int .i64 0, .int .i64 0, .int .i64 0, .int .i64 0, .slice none 0 0, .slice none 0 0] 26)) fun e w' => e = .returned (.bool false) ∧ Below ((w.alloc (.cells #[.int .i64 k, .int .i64 d, .int .i64 wd, .int .i64 hi, .slice ca cn cc, .slice pa pn pc] 26)).alloc (.cells #[.int .i64 0, .int .i64 0, .int .i64 0, .int .i64 0, .slice none 0 0, .slice none 0 0] 26)).heap.size ((w.alloc (.cells #[.int .i64 k, .int .i64 d, .int .i64 wd, .int .i64 hi, .slice ca cn cc, .slice pa pn pc] 26)).alloc (.cells #[.int .i64 0, .int .i64 0, .int .i64 0, .int .i64 0, .slice none 0 0, .slice none 0 0] 26)) w') :
    Calls Try.prog 19 #[.agg #[.int .i64 k, .int .i64 d, .int .i64 wd, .int .i64 hi, .slice ca cn cc, .slice pa pn pc]] w fun e w' => e = .returned (.agg #[.int .i64 0, .int .i64 0, .int .i64 0, .int .i64 0, .slice none 0 0, .slice none 0 0]) ∧ Below w.heap.size w w' := by
  have hB0 : Below w.heap.size w ((w.alloc (.cells #[.int .i64 k, .int .i64 d, .int .i64 wd, .int .i64 hi, .slice ca cn cc, .slice pa pn pc] 26)).alloc (.cells #[.int .i64 0, .int .i64 0, .int .i64 0, .int .i64 0, .slice none 0 0, .slice none 0 0] 26)) := ((Below.refl _ _).alloc (Nat.le_refl _) _).alloc (by simp) _
  have HO : Hid (Calls Try.prog 16 #[.agg #[.int .i64 k, .int .i64 d, .int .i64 wd, .int .i64 hi, .slice ca cn cc, .slice pa pn pc]] ((w.alloc (.cells #[.int .i64 k, .int .i64 d, .int .i64 wd, .int .i64 hi, .slice ca cn cc, .slice pa pn pc] 26)).alloc (.cells #[.int .i64 0, .int .i64 0, .int .i64 0, .int .i64 0, .slice none 0 0, .slice none 0 0] 26)) fun e w' => e = .returned (.bool false) ∧ Below ((w.alloc (.cells #[.int .i64 k, .int .i64 d, .int .i64 wd, .int .i64 hi, .slice ca cn cc, .slice pa pn pc] 26)).alloc (.cells #[.int .i64 0, .int .i64 0, .int .i64 0, .int .i64 0, .slice none 0 0, .slice none 0 0] 26)).heap.size ((w.alloc (.cells #[.int .i64 k, .int .i64 d, .int .i64 wd, .int .i64 hi, .slice ca cn cc, .slice pa pn pc] 26)).alloc (.cells #[.int .i64 0, .int .i64 0, .int .i64 0, .int .i64 0, .slice none 0 0, .slice none 0 0] 26)) w') := hO
  clear hO
  have HZ : Hid (((w.alloc (.cells #[.int .i64 k, .int .i64 d, .int .i64 wd, .int .i64 hi, .slice ca cn cc, .slice pa pn pc] 26)).alloc (.cells #[.int .i64 0, .int .i64 0, .int .i64 0, .int .i64 0, .slice none 0 0, .slice none 0 0] 26)).heap[w.heap.size + 1]? = some (.cells #[.int .i64 0, .int .i64 0, .int .i64 0, .int .i64 0, .slice none 0 0, .slice none 0 0] 26 (0, 0))) := heap_alloc2_new _ _ _
  go_enter Try.func19, Try.ntmps19
  go_wp2_with fail
  refine HO.out.mono ?_
  rintro e w1 ⟨rfl, b1⟩
  have bel1 := hB0.trans (b1.mono hB0.size)
  have hz1 : w1.heap[w.heap.size + 1]? = some (.cells #[.int .i64 0, .int .i64 0, .int .i64 0, .int .i64 0, .slice none 0 0, .slice none 0 0] 26 (0, 0)) := (b1.block _ (by simp)).trans HZ.out
  have hI6 : (Try.prog.info? 26).map (·.size) = some (#[Value.int .i64 0, .int .i64 0, .int .i64 0, .int .i64 0, .slice none 0 0, .slice none 0 0]).size := by kernel_rfl
  have h16 : (#[Value.int .i64 0, .int .i64 0, .int .i64 0, .int .i64 0, .slice none 0 0, .slice none 0 0]).all (·.oneCell') = true := by simp [Value.oneCell']
  clear b1 hB0 HO HZ
  go_wp2_with (refine wpList_store_row rfl 26 (.tmp 2) (.tmp 6) rfl (w.heap.size + 1) #[.int .i64 0, .int .i64 0, .int .i64 0, .int .i64 0, .slice none 0 0, .slice none 0 0] rfl rfl 26 #[.int .i64 0, .int .i64 0, .int .i64 0, .int .i64 0, .slice none 0 0, .slice none 0 0] hz1 hI6 rfl h16 ?_)
  have hs2 := setRow_heap w1 (w.heap.size + 1) _ #[.int .i64 0, .int .i64 0, .int .i64 0, .int .i64 0, .slice none 0 0, .slice none 0 0] _ _ hz1
  refine bodyPost_ret_by (results_cell_row (p := 2) (ty := 26) (by kernel_rfl) _ _ (w.heap.size + 1) 26 _ (0, 0) _ rfl hs2 Try.underlying26 rfl (by kernel_rfl)) rfl ⟨rfl, ?_⟩
  exact bel1.trans ((below_setRow _ _ _).mono (by omega))

set_option maxHeartbeats 2000000 in
set_option maxRecDepth 20000 in
theorem impl_flip_yes (k d : Int) (Wd Hi : Nat) (ca : Option Addr) (cn cc : Nat) (pa : Option Addr) (pn pc : Nat) (cs ps : List Int) (w : World) (hc : Ints w ca cs) (hcn : cs.length = cn) (hcl : cn ≤ 1048576) (hp : Ints w pa ps) (hpn : ps.length = pn) (hW : Wd ≤ 20) (hH : Hi ≤ 20) (hm : pn = Wd * Hi)
    (hO : Calls Try.prog 16 #[.agg #[.int .i64 k, .int .i64 d, .int .i64 (Wd : Int), .int .i64 (Hi : Int), .slice ca cn cc, .slice pa pn pc]] ((w.alloc (.cells #[.int .i64 k, .int .i64 d, .int .i64 (Wd : Int), .int .i64 (Hi : Int), .slice ca cn cc, .slice pa pn pc] 26)).alloc (.cells #[.int .i64 0, .int .i64 0, .int .i64 0, .int .i64 0, .slice none 0 0, .slice none 0 0] 26)) fun e w' => e = .returned (.bool true) ∧ Below ((w.alloc (.cells #[.int .i64 k, .int .i64 d, .int .i64 (Wd : Int), .int .i64 (Hi : Int), .slice ca cn cc, .slice pa pn pc] 26)).alloc (.cells #[.int .i64 0, .int .i64 0, .int .i64 0, .int .i64 0, .slice none 0 0, .slice none 0 0] 26)).heap.size ((w.alloc (.cells #[.int .i64 k, .int .i64 d, .int .i64 (Wd : Int), .int .i64 (Hi : Int), .slice ca cn cc, .slice pa pn pc] 26)).alloc (.cells #[.int .i64 0, .int .i64 0, .int .i64 0, .int .i64 0, .slice none 0 0, .slice none 0 0] 26)) w') :
    Calls Try.prog 19 #[.agg #[.int .i64 k, .int .i64 d, .int .i64 (Wd : Int), .int .i64 (Hi : Int), .slice ca cn cc, .slice pa pn pc]] w fun e w' =>
      (∃ x cx y cy, e = .returned (.agg #[.int .i64 k, .int .i64 d, .int .i64 (Wd : Int), .int .i64 (Hi : Int), .slice x cn cx, .slice y (Wd * Hi) cy]) ∧ Pair2 w' w.heap.size x cs y (upto (ptF Wd (flipF Wd Hi ps)) (Wd * Hi))) ∧ Below w.heap.size w w' := by
  have hB0 : Below w.heap.size w ((w.alloc (.cells #[.int .i64 k, .int .i64 d, .int .i64 (Wd : Int), .int .i64 (Hi : Int), .slice ca cn cc, .slice pa pn pc] 26)).alloc (.cells #[.int .i64 0, .int .i64 0, .int .i64 0, .int .i64 0, .slice none 0 0, .slice none 0 0] 26)) := ((Below.refl _ _).alloc (Nat.le_refl _) _).alloc (by simp) _
  have HO : Hid (Calls Try.prog 16 #[.agg #[.int .i64 k, .int .i64 d, .int .i64 (Wd : Int), .int .i64 (Hi : Int), .slice ca cn cc, .slice pa pn pc]] ((w.alloc (.cells #[.int .i64 k, .int .i64 d, .int .i64 (Wd : Int), .int .i64 (Hi : Int), .slice ca cn cc, .slice pa pn pc] 26)).alloc (.cells #[.int .i64 0, .int .i64 0, .int .i64 0, .int .i64 0, .slice none 0 0, .slice none 0 0] 26)) fun e w' => e = .returned (.bool true) ∧ Below ((w.alloc (.cells #[.int .i64 k, .int .i64 d, .int .i64 (Wd : Int), .int .i64 (Hi : Int), .slice ca cn cc, .slice pa pn pc] 26)).alloc (.cells #[.int .i64 0, .int .i64 0, .int .i64 0, .int .i64 0, .slice none 0 0, .slice none 0 0] 26)).heap.size ((w.alloc (.cells #[.int .i64 k, .int .i64 d, .int .i64 (Wd : Int), .int .i64 (Hi : Int), .slice ca cn cc, .slice pa pn pc] 26)).alloc (.cells #[.int .i64 0, .int .i64 0, .int .i64 0, .int .i64 0, .slice none 0 0, .slice none 0 0] 26)) w') := hO
  clear hO
  have HZ : Hid (((w.alloc (.cells #[.int .i64 k, .int .i64 d, .int .i64 (Wd : Int), .int .i64 (Hi : Int), .slice ca cn cc, .slice pa pn pc] 26)).alloc (.cells #[.int .i64 0, .int .i64 0, .int .i64 0, .int .i64 0, .slice none 0 0, .slice none 0 0] 26)).heap[w.heap.size + 1]? = some (.cells #[.int .i64 0, .int .i64 0, .int .i64 0, .int .i64 0, .slice none 0 0, .slice none 0 0] 26 (0, 0))) := heap_alloc2_new _ _ _
  have HM : Hid (∀ w', Below w.heap.size w w' → Calls Try.prog 32 #[.iface 69 (.agg #[.iface 49 (.agg #[.int .i64 k, .int .i64 d, .int .i64 (Wd : Int), .int .i64 (Hi : Int), .slice ca cn cc, .slice pa pn pc])]), .int .i64 k, .int .i64 d, .slice ca cn cc] w' fun e w'' =>
      (∃ x cx y cy, e = .returned (.agg #[.int .i64 k, .int .i64 d, .int .i64 (Wd : Int), .int .i64 (Hi : Int), .slice x cn cx, .slice y (Wd * Hi) cy]) ∧ Pair2 w'' w'.heap.size x cs y (upto (ptF Wd (flipF Wd Hi ps)) (Wd * Hi))) ∧ Below w'.heap.size w' w'') :=
    fun w' b => drawn_any 69 _ _ _ _ _ Wd Hi _ (by omega) (by omega) k d ca cn cc cs w' (flip_seen k d Wd Hi ca cn cc pa pn pc ps w' (hp.kept b) hpn hW hH hm) (hc.kept b) hcn hcl
  have k0 := box_kept (box_new w (.int .i64 k) (.int .i64 d) (.int .i64 (Wd : Int)) (.int .i64 (Hi : Int)) (.slice ca cn cc) (.slice pa pn pc) 26) ((Below.refl _ _).alloc (Nat.le_refl _) (.cells #[.int .i64 0, .int .i64 0, .int .i64 0, .int .i64 0, .slice none 0 0, .slice none 0 0] 26)) (by simp)
  clear hc hcn hcl hp hpn hm
  go_enter Try.func19, Try.ntmps19
  go_wp2_with fail
  refine HO.out.mono ?_
  rintro e w1 ⟨rfl, b1⟩
  obtain ⟨k0, k1, k2, k3, k4, k5⟩ := box_kept k0 b1 (by simp; omega)
  have bel1 := hB0.trans (b1.mono hB0.size)
  have hlt1 : w.heap.size + 1 < w1.heap.size := Nat.lt_of_lt_of_le (by simp) b1.size
  have HZ1 : Hid (w1.heap[w.heap.size + 1]? = some (.cells #[.int .i64 0, .int .i64 0, .int .i64 0, .int .i64 0, .slice none 0 0, .slice none 0 0] 26 (0, 0))) := (b1.block _ (by simp)).trans HZ.out
  clear b1 hB0 HO HZ
  go_wp2_with fail
  refine (HM.out w1 bel1).mono ?_
  rintro e w2 ⟨⟨x, cx, y, cy, rfl, hP⟩, b2⟩
  have hz2 : w2.heap[w.heap.size + 1]? = some (.cells #[.int .i64 0, .int .i64 0, .int .i64 0, .int .i64 0, .slice none 0 0, .slice none 0 0] 26 (0, 0)) := (b2.block _ hlt1).trans HZ1.out
  have bel2 := bel1.trans (b2.mono bel1.size)
  have hI6 : (Try.prog.info? 26).map (·.size) = some (#[Value.int .i64 k, .int .i64 d, .int .i64 (Wd : Int), .int .i64 (Hi : Int), .slice x cn cx, .slice y (Wd * Hi) cy]).size := by kernel_rfl
  have h16 : (#[Value.int .i64 k, .int .i64 d, .int .i64 (Wd : Int), .int .i64 (Hi : Int), .slice x cn cx, .slice y (Wd * Hi) cy]).all (·.oneCell') = true := by simp [Value.oneCell']
  have HP : Hid (Pair2 w2 (w.heap.size + 1 + 1) x cs y (upto (ptF Wd (flipF Wd Hi ps)) (Wd * Hi))) := hP.lower hlt1
  clear b2 bel1 HZ1 hP k0 k1 k2 k3 k4 k5 HM
  go_wp2_with (refine wpList_store_row rfl 26 (.tmp 2) (.tmp 17) rfl (w.heap.size + 1) #[.int .i64 k, .int .i64 d, .int .i64 (Wd : Int), .int .i64 (Hi : Int), .slice x cn cx, .slice y (Wd * Hi) cy] rfl rfl 26 #[.int .i64 0, .int .i64 0, .int .i64 0, .int .i64 0, .slice none 0 0, .slice none 0 0] hz2 hI6 rfl h16 ?_)
  have hs2 := setRow_heap w2 (w.heap.size + 1) _ #[.int .i64 k, .int .i64 d, .int .i64 (Wd : Int), .int .i64 (Hi : Int), .slice x cn cx, .slice y (Wd * Hi) cy] _ _ hz2
  refine bodyPost_ret_by (results_cell_row (p := 2) (ty := 26) (by kernel_rfl) _ _ (w.heap.size + 1) 26 _ (0, 0) _ rfl hs2 Try.underlying26 rfl (by kernel_rfl)) rfl ⟨⟨x, cx, y, cy, rfl, ?_⟩, ?_⟩
  · exact (HP.out.row _).lower (by omega)
  · exact bel2.trans ((below_setRow _ _ _).mono (by omega))
end Go.Proofs.Ytjiogneidioknaa
