/- ImageCut of the program. -/
import Derived.Test.YtgeepemhmkoknaaDrawnWalks
import Derived.Test.YtgeepemhmkoknaaPlainView
import Derived.Test.YtgeepemhmkoknaaBlankSpec
namespace Go.Proofs.Ytgeepemhmkoknaa
open Go.RowKit

theorem part_ma (k d : Int) (Wd Hi : Nat) (ca : Option Addr) (cn cc : Nat) (pa : Option Addr) (pn pc : Nat) (X Y W H : Nat) (w : World) : (method 205 68 (.agg #[.iface 52 (.agg #[.int .i64 k, .int .i64 d, .int .i64 (Wd : Int), .int .i64 (Hi : Int), .slice ca cn cc, .slice pa pn pc]), .int .i64 (X : Int), .int .i64 (Y : Int), .int .i64 (W : Int), .int .i64 (H : Int)]) "loop.example/intarsia/impl.at").run Try.prog w = .ok (102, .agg #[.iface 52 (.agg #[.int .i64 k, .int .i64 d, .int .i64 (Wd : Int), .int .i64 (Hi : Int), .slice ca cn cc, .slice pa pn pc]), .int .i64 (X : Int), .int .i64 (Y : Int), .int .i64 (W : Int), .int .i64 (H : Int)]) w := by kernel_rfl
theorem part_na (k d : Int) (Wd Hi : Nat) (ca : Option Addr) (cn cc : Nat) (pa : Option Addr) (pn pc : Nat) (X Y W H : Nat) (w : World) : (nilAhead 205 68 (.agg #[.iface 52 (.agg #[.int .i64 k, .int .i64 d, .int .i64 (Wd : Int), .int .i64 (Hi : Int), .slice ca cn cc, .slice pa pn pc]), .int .i64 (X : Int), .int .i64 (Y : Int), .int .i64 (W : Int), .int .i64 (H : Int)]) "loop.example/intarsia/impl.at").run Try.prog w = .ok (some false) w := by kernel_rfl
theorem part_ms (k d : Int) (Wd Hi : Nat) (ca : Option Addr) (cn cc : Nat) (pa : Option Addr) (pn pc : Nat) (X Y W H : Nat) (w : World) : (method 205 68 (.agg #[.iface 52 (.agg #[.int .i64 k, .int .i64 d, .int .i64 (Wd : Int), .int .i64 (Hi : Int), .slice ca cn cc, .slice pa pn pc]), .int .i64 (X : Int), .int .i64 (Y : Int), .int .i64 (W : Int), .int .i64 (H : Int)]) "loop.example/intarsia/impl.size").run Try.prog w = .ok (103, .agg #[.iface 52 (.agg #[.int .i64 k, .int .i64 d, .int .i64 (Wd : Int), .int .i64 (Hi : Int), .slice ca cn cc, .slice pa pn pc]), .int .i64 (X : Int), .int .i64 (Y : Int), .int .i64 (W : Int), .int .i64 (H : Int)]) w := by kernel_rfl
theorem part_ns (k d : Int) (Wd Hi : Nat) (ca : Option Addr) (cn cc : Nat) (pa : Option Addr) (pn pc : Nat) (X Y W H : Nat) (w : World) : (nilAhead 205 68 (.agg #[.iface 52 (.agg #[.int .i64 k, .int .i64 d, .int .i64 (Wd : Int), .int .i64 (Hi : Int), .slice ca cn cc, .slice pa pn pc]), .int .i64 (X : Int), .int .i64 (Y : Int), .int .i64 (W : Int), .int .i64 (H : Int)]) "loop.example/intarsia/impl.size").run Try.prog w = .ok (some false) w := by kernel_rfl

set_option maxHeartbeats 1000000 in
theorem part_size (k d : Int) (Wd Hi : Nat) (ca : Option Addr) (cn cc : Nat) (pa : Option Addr) (pn pc : Nat) (X Y W H : Nat) (w : World) :
    Calls Try.prog 103 #[.agg #[.iface 52 (.agg #[.int .i64 k, .int .i64 d, .int .i64 (Wd : Int), .int .i64 (Hi : Int), .slice ca cn cc, .slice pa pn pc]), .int .i64 (X : Int), .int .i64 (Y : Int), .int .i64 (W : Int), .int .i64 (H : Int)]] w fun e w' => e = .returned (.tuple #[.int .i64 (W : Int), .int .i64 (H : Int)]) ∧ Below w.heap.size w w' := by
  have hB0 : Below w.heap.size w (w.alloc (.cells #[.iface 52 (.agg #[.int .i64 k, .int .i64 d, .int .i64 (Wd : Int), .int .i64 (Hi : Int), .slice ca cn cc, .slice pa pn pc]), .int .i64 (X : Int), .int .i64 (Y : Int), .int .i64 (W : Int), .int .i64 (H : Int)] 68)) := (Below.refl _ _).alloc (Nat.le_refl _) _
  go_enter Try.func103, Try.ntmps103
  go_wp2_with fail
  go_quiet (fail)
  go_wp2_with fail
  go_ret2
  exact ⟨rfl, below_drewN hB0 _⟩

set_option maxHeartbeats 1000000 in
theorem part_at (k d : Int) (Wd Hi : Nat) (ca : Option Addr) (cn cc : Nat) (pa : Option Addr) (pn pc : Nat) (X Y W H : Nat) (x y : Nat) (v : Int) (w : World) (hX : X + x ≤ 100) (hY : Y + y ≤ 100)
    (hat : ∀ w', Below w.heap.size w w' → Calls Try.prog 51 #[.agg #[.int .i64 k, .int .i64 d, .int .i64 (Wd : Int), .int .i64 (Hi : Int), .slice ca cn cc, .slice pa pn pc], .int .i64 ((X + x : Nat) : Int), .int .i64 ((Y + y : Nat) : Int)] w' fun e w'' => e = .returned (.int .i64 v) ∧ Below w'.heap.size w' w'') :
    Calls Try.prog 102 #[.agg #[.iface 52 (.agg #[.int .i64 k, .int .i64 d, .int .i64 (Wd : Int), .int .i64 (Hi : Int), .slice ca cn cc, .slice pa pn pc]), .int .i64 (X : Int), .int .i64 (Y : Int), .int .i64 (W : Int), .int .i64 (H : Int)], .int .i64 (x : Int), .int .i64 (y : Int)] w fun e w' => e = .returned (.int .i64 v) ∧ Below w.heap.size w w' := by
  have m2 := fun w => plain_ma k d Wd Hi ca cn cc pa pn pc w
  have n2 := fun w => plain_na k d Wd Hi ca cn cc pa pn pc w
  have hB0 : Below w.heap.size w (w.alloc (.cells #[.iface 52 (.agg #[.int .i64 k, .int .i64 d, .int .i64 (Wd : Int), .int .i64 (Hi : Int), .slice ca cn cc, .slice pa pn pc]), .int .i64 (X : Int), .int .i64 (Y : Int), .int .i64 (W : Int), .int .i64 (H : Int)] 68)) := (Below.refl _ _).alloc (Nat.le_refl _) _
  obtain ⟨A, hA⟩ : ∃ A, A = X + x := ⟨_, rfl⟩
  obtain ⟨C, hC⟩ : ∃ C, C = Y + y := ⟨_, rfl⟩
  rw [← hA, ← hC] at hat
  have eA : (X : Int) + (x : Int) = (A : Int) := by omega
  have eC : (Y : Int) + (y : Int) = (C : Int) := by omega
  have HAT : Hid (∀ w', Below w.heap.size w w' → Calls Try.prog 51 #[.agg #[.int .i64 k, .int .i64 d, .int .i64 (Wd : Int), .int .i64 (Hi : Int), .slice ca cn cc, .slice pa pn pc], .int .i64 (A : Int), .int .i64 (C : Int)] w' fun e w'' => e = .returned (.int .i64 v) ∧ Below w'.heap.size w' w'') := hat
  have hAb : A ≤ 100 := by omega
  have hCb : C ≤ 100 := by omega
  clear hat hA hC hX hY
  go_enter Try.func102, Try.ntmps102
  go_wp2_with fail
  refine (HAT.out _ hB0).mono ?_
  rintro e w2 ⟨rfl, b2⟩
  have bel2 := hB0.trans (b2.mono hB0.size)
  clear b2 hB0
  go_wp2_with fail
  go_ret
  exact ⟨rfl, bel2⟩

/-- what is told of the points -/
def cutF (Wd X Y : Nat) (ps : List Int) : Nat → Nat → Int := fun x y => ps.getD ((Y + y) * Wd + (X + x)) 0

theorem part_seen (k d : Int) (Wd Hi : Nat) (ca : Option Addr) (cn cc : Nat) (pa : Option Addr) (pn pc : Nat) (X Y W H : Nat) (ps : List Int) (w : World) (hp : Ints w pa ps) (hpn : ps.length = pn) (hW : Wd ≤ 20) (hH : Hi ≤ 20) (hm : pn = Wd * Hi) (hXW : X + W ≤ Wd) (hYH : Y + H ≤ Hi) :
    Seen 68 (.agg #[.iface 52 (.agg #[.int .i64 k, .int .i64 d, .int .i64 (Wd : Int), .int .i64 (Hi : Int), .slice ca cn cc, .slice pa pn pc]), .int .i64 (X : Int), .int .i64 (Y : Int), .int .i64 (W : Int), .int .i64 (H : Int)]) 103 (.agg #[.iface 52 (.agg #[.int .i64 k, .int .i64 d, .int .i64 (Wd : Int), .int .i64 (Hi : Int), .slice ca cn cc, .slice pa pn pc]), .int .i64 (X : Int), .int .i64 (Y : Int), .int .i64 (W : Int), .int .i64 (H : Int)]) 102 (.agg #[.iface 52 (.agg #[.int .i64 k, .int .i64 d, .int .i64 (Wd : Int), .int .i64 (Hi : Int), .slice ca cn cc, .slice pa pn pc]), .int .i64 (X : Int), .int .i64 (Y : Int), .int .i64 (W : Int), .int .i64 (H : Int)]) W H (cutF Wd X Y ps) w.heap.size w where
  ms := part_ms k d Wd Hi ca cn cc pa pn pc X Y W H
  ns := part_ns k d Wd Hi ca cn cc pa pn pc X Y W H
  ma := part_ma k d Wd Hi ca cn cc pa pn pc X Y W H
  na := part_na k d Wd Hi ca cn cc pa pn pc X Y W H
  es := enters_of Try.func103 (by kernel_rfl) rfl
  ea := enters_of Try.func102 (by kernel_rfl) rfl
  size := fun w' _ => part_size k d Wd Hi ca cn cc pa pn pc X Y W H w'
  at' := fun w' x y hx hy b => by
    have h1 : (Y + y + 1) * Wd ≤ Hi * Wd := Nat.mul_le_mul_right _ (by omega)
    rw [Nat.add_mul, Nat.one_mul, Nat.mul_comm Hi Wd] at h1
    have h2 : Wd * Hi ≤ 20 * 20 := Nat.mul_le_mul (by omega) (by omega)
    have hs : Spot (Wd : Int) (Hi : Int) ((X + x : Nat) : Int) ((Y + y : Nat) : Int) pn ((Y + y) * Wd + (X + x)) (X + x) (Y + y) Wd := ⟨rfl, rfl, rfl, rfl, by omega, by omega⟩
    exact part_at k d Wd Hi ca cn cc pa pn pc X Y W H x y _ w' (by omega) (by omega) (fun w'' b' => at_any k d (Wd : Int) (Hi : Int) _ _ ca cn cc pa pn pc ps w'' _ _ _ _ hs ((hp.kept b).kept b') hpn)

/-- a part lies in a picture -/
def CutOk (wd hi x y cw ch : Int) : Prop := 0 ≤ x ∧ 0 ≤ y ∧ 1 ≤ cw ∧ 1 ≤ ch ∧ x + cw ≤ wd ∧ y + ch ≤ hi

set_option maxHeartbeats 1000000 in
set_option maxRecDepth 20000 in
theorem impl_cut_bad (k d wd hi x y cw ch : Int) (ca : Option Addr) (cn cc : Nat) (pa : Option Addr) (pn pc : Nat) (w : World)
    (hO : Calls Try.prog 13 #[.agg #[.int .i64 k, .int .i64 d, .int .i64 wd, .int .i64 hi, .slice ca cn cc, .slice pa pn pc]] ((w.alloc (.cells #[.int .i64 k, .int .i64 d, .int .i64 wd, .int .i64 hi, .slice ca cn cc, .slice pa pn pc] 25)).alloc (.cells #[.int .i64 0, .int .i64 0, .int .i64 0, .int .i64 0, .slice none 0 0, .slice none 0 0] 25)) fun e w' => e = .returned (.bool false) ∧ Below ((w.alloc (.cells #[.int .i64 k, .int .i64 d, .int .i64 wd, .int .i64 hi, .slice ca cn cc, .slice pa pn pc] 25)).alloc (.cells #[.int .i64 0, .int .i64 0, .int .i64 0, .int .i64 0, .slice none 0 0, .slice none 0 0] 25)).heap.size ((w.alloc (.cells #[.int .i64 k, .int .i64 d, .int .i64 wd, .int .i64 hi, .slice ca cn cc, .slice pa pn pc] 25)).alloc (.cells #[.int .i64 0, .int .i64 0, .int .i64 0, .int .i64 0, .slice none 0 0, .slice none 0 0] 25)) w') :
    Calls Try.prog 20 #[.agg #[.int .i64 k, .int .i64 d, .int .i64 wd, .int .i64 hi, .slice ca cn cc, .slice pa pn pc], .int .i64 x, .int .i64 y, .int .i64 cw, .int .i64 ch] w fun e w' => e = .returned (.tuple #[.agg #[.int .i64 0, .int .i64 0, .int .i64 0, .int .i64 0, .slice none 0 0, .slice none 0 0], .bool false]) ∧ Below w.heap.size w w' := by
  have hB0 : Below w.heap.size w ((w.alloc (.cells #[.int .i64 k, .int .i64 d, .int .i64 wd, .int .i64 hi, .slice ca cn cc, .slice pa pn pc] 25)).alloc (.cells #[.int .i64 0, .int .i64 0, .int .i64 0, .int .i64 0, .slice none 0 0, .slice none 0 0] 25)) := ((Below.refl _ _).alloc (Nat.le_refl _) _).alloc (by simp) _
  have HO : Hid (Calls Try.prog 13 #[.agg #[.int .i64 k, .int .i64 d, .int .i64 wd, .int .i64 hi, .slice ca cn cc, .slice pa pn pc]] ((w.alloc (.cells #[.int .i64 k, .int .i64 d, .int .i64 wd, .int .i64 hi, .slice ca cn cc, .slice pa pn pc] 25)).alloc (.cells #[.int .i64 0, .int .i64 0, .int .i64 0, .int .i64 0, .slice none 0 0, .slice none 0 0] 25)) fun e w' => e = .returned (.bool false) ∧ Below ((w.alloc (.cells #[.int .i64 k, .int .i64 d, .int .i64 wd, .int .i64 hi, .slice ca cn cc, .slice pa pn pc] 25)).alloc (.cells #[.int .i64 0, .int .i64 0, .int .i64 0, .int .i64 0, .slice none 0 0, .slice none 0 0] 25)).heap.size ((w.alloc (.cells #[.int .i64 k, .int .i64 d, .int .i64 wd, .int .i64 hi, .slice ca cn cc, .slice pa pn pc] 25)).alloc (.cells #[.int .i64 0, .int .i64 0, .int .i64 0, .int .i64 0, .slice none 0 0, .slice none 0 0] 25)) w') := hO
  clear hO
  have HZ : Hid (((w.alloc (.cells #[.int .i64 k, .int .i64 d, .int .i64 wd, .int .i64 hi, .slice ca cn cc, .slice pa pn pc] 25)).alloc (.cells #[.int .i64 0, .int .i64 0, .int .i64 0, .int .i64 0, .slice none 0 0, .slice none 0 0] 25)).heap[w.heap.size + 1]? = some (.cells #[.int .i64 0, .int .i64 0, .int .i64 0, .int .i64 0, .slice none 0 0, .slice none 0 0] 25 (0, 0))) := heap_alloc2_new _ _ _
  go_enter Try.func20, Try.ntmps20
  go_wp2_with fail
  refine HO.out.mono ?_
  rintro e w1 ⟨rfl, b1⟩
  have bel1 := hB0.trans (b1.mono hB0.size)
  have hz1 : w1.heap[w.heap.size + 1]? = some (.cells #[.int .i64 0, .int .i64 0, .int .i64 0, .int .i64 0, .slice none 0 0, .slice none 0 0] 25 (0, 0)) := (b1.block _ (by simp)).trans HZ.out
  clear b1 hB0 HO HZ
  have hI6 : (Try.prog.info? 25).map (·.size) = some (#[Value.int .i64 0, .int .i64 0, .int .i64 0, .int .i64 0, .slice none 0 0, .slice none 0 0]).size := by kernel_rfl
  have h16 : (#[Value.int .i64 0, .int .i64 0, .int .i64 0, .int .i64 0, .slice none 0 0, .slice none 0 0]).all (·.oneCell') = true := by simp [Value.oneCell']
  go_wp2_with (refine wpList_store_row rfl 25 (.tmp 10) (.tmp 48) rfl (w.heap.size + 1) #[.int .i64 0, .int .i64 0, .int .i64 0, .int .i64 0, .slice none 0 0, .slice none 0 0] rfl rfl 25 #[.int .i64 0, .int .i64 0, .int .i64 0, .int .i64 0, .slice none 0 0, .slice none 0 0] hz1 hI6 rfl h16 ?_)
  have hs2 := setRow_heap w1 (w.heap.size + 1) _ #[.int .i64 0, .int .i64 0, .int .i64 0, .int .i64 0, .slice none 0 0, .slice none 0 0] _ _ hz1
  obtain ⟨⟨z0, z1, z2, z3, z4, z5⟩, _⟩ := box6 hs2
  refine bodyPost_ret (v := .tuple #[.agg #[.int .i64 0, .int .i64 0, .int .i64 0, .int .i64 0, .slice none 0 0, .slice none 0 0], .bool false]) (by simp [results, Try.results20, go_sem, z0, z1, z2, z3, z4, z5]) rfl ⟨rfl, ?_⟩
  exact bel1.trans ((below_setRow _ _ _).mono (by omega))

set_option maxHeartbeats 2000000 in
set_option maxRecDepth 20000 in
theorem impl_cut_out (k d wd hi x y cw ch : Int) (ca : Option Addr) (cn cc : Nat) (pa : Option Addr) (pn pc : Nat) (w : World) (hwd : 0 ≤ wd ∧ wd ≤ 20) (hhi : 0 ≤ hi ∧ hi ≤ 20) (hno : ¬ CutOk wd hi x y cw ch)
    (hO : Calls Try.prog 13 #[.agg #[.int .i64 k, .int .i64 d, .int .i64 wd, .int .i64 hi, .slice ca cn cc, .slice pa pn pc]] ((w.alloc (.cells #[.int .i64 k, .int .i64 d, .int .i64 wd, .int .i64 hi, .slice ca cn cc, .slice pa pn pc] 25)).alloc (.cells #[.int .i64 0, .int .i64 0, .int .i64 0, .int .i64 0, .slice none 0 0, .slice none 0 0] 25)) fun e w' => e = .returned (.bool true) ∧ Below ((w.alloc (.cells #[.int .i64 k, .int .i64 d, .int .i64 wd, .int .i64 hi, .slice ca cn cc, .slice pa pn pc] 25)).alloc (.cells #[.int .i64 0, .int .i64 0, .int .i64 0, .int .i64 0, .slice none 0 0, .slice none 0 0] 25)).heap.size ((w.alloc (.cells #[.int .i64 k, .int .i64 d, .int .i64 wd, .int .i64 hi, .slice ca cn cc, .slice pa pn pc] 25)).alloc (.cells #[.int .i64 0, .int .i64 0, .int .i64 0, .int .i64 0, .slice none 0 0, .slice none 0 0] 25)) w') :
    Calls Try.prog 20 #[.agg #[.int .i64 k, .int .i64 d, .int .i64 wd, .int .i64 hi, .slice ca cn cc, .slice pa pn pc], .int .i64 x, .int .i64 y, .int .i64 cw, .int .i64 ch] w fun e w' => e = .returned (.tuple #[.agg #[.int .i64 0, .int .i64 0, .int .i64 0, .int .i64 0, .slice none 0 0, .slice none 0 0], .bool false]) ∧ Below w.heap.size w w' := by
  have hB0 : Below w.heap.size w ((w.alloc (.cells #[.int .i64 k, .int .i64 d, .int .i64 wd, .int .i64 hi, .slice ca cn cc, .slice pa pn pc] 25)).alloc (.cells #[.int .i64 0, .int .i64 0, .int .i64 0, .int .i64 0, .slice none 0 0, .slice none 0 0] 25)) := ((Below.refl _ _).alloc (Nat.le_refl _) _).alloc (by simp) _
  have HO : Hid (Calls Try.prog 13 #[.agg #[.int .i64 k, .int .i64 d, .int .i64 wd, .int .i64 hi, .slice ca cn cc, .slice pa pn pc]] ((w.alloc (.cells #[.int .i64 k, .int .i64 d, .int .i64 wd, .int .i64 hi, .slice ca cn cc, .slice pa pn pc] 25)).alloc (.cells #[.int .i64 0, .int .i64 0, .int .i64 0, .int .i64 0, .slice none 0 0, .slice none 0 0] 25)) fun e w' => e = .returned (.bool true) ∧ Below ((w.alloc (.cells #[.int .i64 k, .int .i64 d, .int .i64 wd, .int .i64 hi, .slice ca cn cc, .slice pa pn pc] 25)).alloc (.cells #[.int .i64 0, .int .i64 0, .int .i64 0, .int .i64 0, .slice none 0 0, .slice none 0 0] 25)).heap.size ((w.alloc (.cells #[.int .i64 k, .int .i64 d, .int .i64 wd, .int .i64 hi, .slice ca cn cc, .slice pa pn pc] 25)).alloc (.cells #[.int .i64 0, .int .i64 0, .int .i64 0, .int .i64 0, .slice none 0 0, .slice none 0 0] 25)) w') := hO
  clear hO
  have HZ : Hid (((w.alloc (.cells #[.int .i64 k, .int .i64 d, .int .i64 wd, .int .i64 hi, .slice ca cn cc, .slice pa pn pc] 25)).alloc (.cells #[.int .i64 0, .int .i64 0, .int .i64 0, .int .i64 0, .slice none 0 0, .slice none 0 0] 25)).heap[w.heap.size + 1]? = some (.cells #[.int .i64 0, .int .i64 0, .int .i64 0, .int .i64 0, .slice none 0 0, .slice none 0 0] 25 (0, 0))) := heap_alloc2_new _ _ _
  have HK0 := box_kept (box_new w (.int .i64 k) (.int .i64 d) (.int .i64 wd) (.int .i64 hi) (.slice ca cn cc) (.slice pa pn pc) 25) ((Below.refl _ _).alloc (Nat.le_refl _) (.cells #[.int .i64 0, .int .i64 0, .int .i64 0, .int .i64 0, .slice none 0 0, .slice none 0 0] 25)) (by simp)
  by_cases hin : 0 ≤ x ∧ x < wd ∧ 0 ≤ y ∧ y < hi
  · obtain ⟨c, hc⟩ : ∃ c : Int, c = wd - x := ⟨_, rfl⟩
    obtain ⟨f, hf⟩ : ∃ f : Int, f = hi - y := ⟨_, rfl⟩
    have hcw : wd - x = c := hc.symm
    have hfw : hi - y = f := hf.symm
    by_cases g1 : cw < 1
    · have d1 : decide (cw < 1) = true := by simpa using g1
      clear hcw hfw hc hf
      have HIN : Hid (∀ w' : World, Calls Try.prog 50 #[.iface 52 (.agg #[.int .i64 k, .int .i64 d, .int .i64 wd, .int .i64 hi, .slice ca cn cc, .slice pa pn pc]), .int .i64 x, .int .i64 y] w' fun e w'' => e = .returned (.bool true) ∧ Below w'.heap.size w' w'') := by
        intro w'; have := inView_any k d wd hi x y ca cn cc pa pn pc w'; rw [inB_yes hin] at this; exact this
      clear hin hno
      go_enter Try.func20, Try.ntmps20
      go_wp2_with fail
      refine HO.out.mono ?_
      rintro e w1 ⟨rfl, b1⟩
      obtain ⟨k0, k1, k2, k3, k4, k5⟩ := box_kept HK0 b1 (by simp; omega)
      have bel1 := hB0.trans (b1.mono hB0.size)
      have hlt1 : w.heap.size + 1 < w1.heap.size := Nat.lt_of_lt_of_le (by simp) b1.size
      have hz1 : Hid (w1.heap[w.heap.size + 1]? = some (.cells #[.int .i64 0, .int .i64 0, .int .i64 0, .int .i64 0, .slice none 0 0, .slice none 0 0] 25 (0, 0))) := (b1.block _ (by simp)).trans HZ.out
      clear b1 hB0 HO HZ HK0
      go_wp2_with fail
      refine (HIN.out _).mono ?_
      rintro e w2 ⟨rfl, b2⟩
      obtain ⟨j0, j1, j2, j3, j4, j5⟩ := box_kept ⟨k0, k1, k2, k3, k4, k5⟩ b2 (by omega)
      have bel2 := bel1.trans (b2.mono bel1.size)
      have hz2 : w2.heap[w.heap.size + 1]? = some (.cells #[.int .i64 0, .int .i64 0, .int .i64 0, .int .i64 0, .slice none 0 0, .slice none 0 0] 25 (0, 0)) := (b2.block _ hlt1).trans hz1.out
      clear b2 bel1 hz1 k0 k1 k2 k3 k4 k5 HIN
      have hI6 : (Try.prog.info? 25).map (·.size) = some (#[Value.int .i64 0, .int .i64 0, .int .i64 0, .int .i64 0, .slice none 0 0, .slice none 0 0]).size := by kernel_rfl
      have h16 : (#[Value.int .i64 0, .int .i64 0, .int .i64 0, .int .i64 0, .slice none 0 0, .slice none 0 0]).all (·.oneCell') = true := by simp [Value.oneCell']
      go_wp2_with (refine wpList_store_row rfl 25 (.tmp 10) (.tmp 48) rfl (w.heap.size + 1) #[.int .i64 0, .int .i64 0, .int .i64 0, .int .i64 0, .slice none 0 0, .slice none 0 0] rfl rfl 25 #[.int .i64 0, .int .i64 0, .int .i64 0, .int .i64 0, .slice none 0 0, .slice none 0 0] hz2 hI6 rfl h16 ?_)
      have hs2 := setRow_heap w2 (w.heap.size + 1) _ #[.int .i64 0, .int .i64 0, .int .i64 0, .int .i64 0, .slice none 0 0, .slice none 0 0] _ _ hz2
      obtain ⟨⟨z0, z1, z2, z3, z4, z5⟩, _⟩ := box6 hs2
      refine bodyPost_ret (v := .tuple #[.agg #[.int .i64 0, .int .i64 0, .int .i64 0, .int .i64 0, .slice none 0 0, .slice none 0 0], .bool false]) (by simp [results, Try.results20, go_sem, z0, z1, z2, z3, z4, z5]) rfl ⟨rfl, ?_⟩
      exact bel2.trans ((below_setRow _ _ _).mono (by omega))
    · have d1 : decide (cw < 1) = false := by simpa using g1
      by_cases g2 : c < cw
      · have d2 : decide (c < cw) = true := by simpa using g2
        have hcb : -20 ≤ c ∧ c ≤ 40 := by omega
        clear hfw hc hf
        have HIN : Hid (∀ w' : World, Calls Try.prog 50 #[.iface 52 (.agg #[.int .i64 k, .int .i64 d, .int .i64 wd, .int .i64 hi, .slice ca cn cc, .slice pa pn pc]), .int .i64 x, .int .i64 y] w' fun e w'' => e = .returned (.bool true) ∧ Below w'.heap.size w' w'') := by
          intro w'; have := inView_any k d wd hi x y ca cn cc pa pn pc w'; rw [inB_yes hin] at this; exact this
        clear hin hno
        go_enter Try.func20, Try.ntmps20
        go_wp2_with fail
        refine HO.out.mono ?_
        rintro e w1 ⟨rfl, b1⟩
        obtain ⟨k0, k1, k2, k3, k4, k5⟩ := box_kept HK0 b1 (by simp; omega)
        have bel1 := hB0.trans (b1.mono hB0.size)
        have hlt1 : w.heap.size + 1 < w1.heap.size := Nat.lt_of_lt_of_le (by simp) b1.size
        have hz1 : Hid (w1.heap[w.heap.size + 1]? = some (.cells #[.int .i64 0, .int .i64 0, .int .i64 0, .int .i64 0, .slice none 0 0, .slice none 0 0] 25 (0, 0))) := (b1.block _ (by simp)).trans HZ.out
        clear b1 hB0 HO HZ HK0
        go_wp2_with fail
        refine (HIN.out _).mono ?_
        rintro e w2 ⟨rfl, b2⟩
        obtain ⟨j0, j1, j2, j3, j4, j5⟩ := box_kept ⟨k0, k1, k2, k3, k4, k5⟩ b2 (by omega)
        have bel2 := bel1.trans (b2.mono bel1.size)
        have hz2 : w2.heap[w.heap.size + 1]? = some (.cells #[.int .i64 0, .int .i64 0, .int .i64 0, .int .i64 0, .slice none 0 0, .slice none 0 0] 25 (0, 0)) := (b2.block _ hlt1).trans hz1.out
        clear b2 bel1 hz1 k0 k1 k2 k3 k4 k5 HIN
        have hI6 : (Try.prog.info? 25).map (·.size) = some (#[Value.int .i64 0, .int .i64 0, .int .i64 0, .int .i64 0, .slice none 0 0, .slice none 0 0]).size := by kernel_rfl
        have h16 : (#[Value.int .i64 0, .int .i64 0, .int .i64 0, .int .i64 0, .slice none 0 0, .slice none 0 0]).all (·.oneCell') = true := by simp [Value.oneCell']
        go_wp2_with (refine wpList_store_row rfl 25 (.tmp 10) (.tmp 48) rfl (w.heap.size + 1) #[.int .i64 0, .int .i64 0, .int .i64 0, .int .i64 0, .slice none 0 0, .slice none 0 0] rfl rfl 25 #[.int .i64 0, .int .i64 0, .int .i64 0, .int .i64 0, .slice none 0 0, .slice none 0 0] hz2 hI6 rfl h16 ?_)
        have hs2 := setRow_heap w2 (w.heap.size + 1) _ #[.int .i64 0, .int .i64 0, .int .i64 0, .int .i64 0, .slice none 0 0, .slice none 0 0] _ _ hz2
        obtain ⟨⟨z0, z1, z2, z3, z4, z5⟩, _⟩ := box6 hs2
        refine bodyPost_ret (v := .tuple #[.agg #[.int .i64 0, .int .i64 0, .int .i64 0, .int .i64 0, .slice none 0 0, .slice none 0 0], .bool false]) (by simp [results, Try.results20, go_sem, z0, z1, z2, z3, z4, z5]) rfl ⟨rfl, ?_⟩
        exact bel2.trans ((below_setRow _ _ _).mono (by omega))
      · have d2 : decide (c < cw) = false := by simpa using g2
        have hcb : -20 ≤ c ∧ c ≤ 40 := by omega
        by_cases g3 : ch < 1
        · have d3 : decide (ch < 1) = true := by simpa using g3
          clear hfw hc hf
          have HIN : Hid (∀ w' : World, Calls Try.prog 50 #[.iface 52 (.agg #[.int .i64 k, .int .i64 d, .int .i64 wd, .int .i64 hi, .slice ca cn cc, .slice pa pn pc]), .int .i64 x, .int .i64 y] w' fun e w'' => e = .returned (.bool true) ∧ Below w'.heap.size w' w'') := by
            intro w'; have := inView_any k d wd hi x y ca cn cc pa pn pc w'; rw [inB_yes hin] at this; exact this
          clear hin hno
          go_enter Try.func20, Try.ntmps20
          go_wp2_with fail
          refine HO.out.mono ?_
          rintro e w1 ⟨rfl, b1⟩
          obtain ⟨k0, k1, k2, k3, k4, k5⟩ := box_kept HK0 b1 (by simp; omega)
          have bel1 := hB0.trans (b1.mono hB0.size)
          have hlt1 : w.heap.size + 1 < w1.heap.size := Nat.lt_of_lt_of_le (by simp) b1.size
          have hz1 : Hid (w1.heap[w.heap.size + 1]? = some (.cells #[.int .i64 0, .int .i64 0, .int .i64 0, .int .i64 0, .slice none 0 0, .slice none 0 0] 25 (0, 0))) := (b1.block _ (by simp)).trans HZ.out
          clear b1 hB0 HO HZ HK0
          go_wp2_with fail
          refine (HIN.out _).mono ?_
          rintro e w2 ⟨rfl, b2⟩
          obtain ⟨j0, j1, j2, j3, j4, j5⟩ := box_kept ⟨k0, k1, k2, k3, k4, k5⟩ b2 (by omega)
          have bel2 := bel1.trans (b2.mono bel1.size)
          have hz2 : w2.heap[w.heap.size + 1]? = some (.cells #[.int .i64 0, .int .i64 0, .int .i64 0, .int .i64 0, .slice none 0 0, .slice none 0 0] 25 (0, 0)) := (b2.block _ hlt1).trans hz1.out
          clear b2 bel1 hz1 k0 k1 k2 k3 k4 k5 HIN
          have hI6 : (Try.prog.info? 25).map (·.size) = some (#[Value.int .i64 0, .int .i64 0, .int .i64 0, .int .i64 0, .slice none 0 0, .slice none 0 0]).size := by kernel_rfl
          have h16 : (#[Value.int .i64 0, .int .i64 0, .int .i64 0, .int .i64 0, .slice none 0 0, .slice none 0 0]).all (·.oneCell') = true := by simp [Value.oneCell']
          go_wp2_with (refine wpList_store_row rfl 25 (.tmp 10) (.tmp 48) rfl (w.heap.size + 1) #[.int .i64 0, .int .i64 0, .int .i64 0, .int .i64 0, .slice none 0 0, .slice none 0 0] rfl rfl 25 #[.int .i64 0, .int .i64 0, .int .i64 0, .int .i64 0, .slice none 0 0, .slice none 0 0] hz2 hI6 rfl h16 ?_)
          have hs2 := setRow_heap w2 (w.heap.size + 1) _ #[.int .i64 0, .int .i64 0, .int .i64 0, .int .i64 0, .slice none 0 0, .slice none 0 0] _ _ hz2
          obtain ⟨⟨z0, z1, z2, z3, z4, z5⟩, _⟩ := box6 hs2
          refine bodyPost_ret (v := .tuple #[.agg #[.int .i64 0, .int .i64 0, .int .i64 0, .int .i64 0, .slice none 0 0, .slice none 0 0], .bool false]) (by simp [results, Try.results20, go_sem, z0, z1, z2, z3, z4, z5]) rfl ⟨rfl, ?_⟩
          exact bel2.trans ((below_setRow _ _ _).mono (by omega))
        · have d3 : decide (ch < 1) = false := by simpa using g3
          have g4 : f < ch := by
            by_cases q : f < ch
            · exact q
            · exact absurd ⟨hin.1, hin.2.2.1, by omega, by omega, by omega, by omega⟩ hno
          have d4 : decide (f < ch) = true := by simpa using g4
          have hfb : -20 ≤ f ∧ f ≤ 40 := by omega
          clear hc hf
          have HIN : Hid (∀ w' : World, Calls Try.prog 50 #[.iface 52 (.agg #[.int .i64 k, .int .i64 d, .int .i64 wd, .int .i64 hi, .slice ca cn cc, .slice pa pn pc]), .int .i64 x, .int .i64 y] w' fun e w'' => e = .returned (.bool true) ∧ Below w'.heap.size w' w'') := by
            intro w'; have := inView_any k d wd hi x y ca cn cc pa pn pc w'; rw [inB_yes hin] at this; exact this
          clear hin hno
          go_enter Try.func20, Try.ntmps20
          go_wp2_with fail
          refine HO.out.mono ?_
          rintro e w1 ⟨rfl, b1⟩
          obtain ⟨k0, k1, k2, k3, k4, k5⟩ := box_kept HK0 b1 (by simp; omega)
          have bel1 := hB0.trans (b1.mono hB0.size)
          have hlt1 : w.heap.size + 1 < w1.heap.size := Nat.lt_of_lt_of_le (by simp) b1.size
          have hz1 : Hid (w1.heap[w.heap.size + 1]? = some (.cells #[.int .i64 0, .int .i64 0, .int .i64 0, .int .i64 0, .slice none 0 0, .slice none 0 0] 25 (0, 0))) := (b1.block _ (by simp)).trans HZ.out
          clear b1 hB0 HO HZ HK0
          go_wp2_with fail
          refine (HIN.out _).mono ?_
          rintro e w2 ⟨rfl, b2⟩
          obtain ⟨j0, j1, j2, j3, j4, j5⟩ := box_kept ⟨k0, k1, k2, k3, k4, k5⟩ b2 (by omega)
          have bel2 := bel1.trans (b2.mono bel1.size)
          have hz2 : w2.heap[w.heap.size + 1]? = some (.cells #[.int .i64 0, .int .i64 0, .int .i64 0, .int .i64 0, .slice none 0 0, .slice none 0 0] 25 (0, 0)) := (b2.block _ hlt1).trans hz1.out
          clear b2 bel1 hz1 k0 k1 k2 k3 k4 k5 HIN
          have hI6 : (Try.prog.info? 25).map (·.size) = some (#[Value.int .i64 0, .int .i64 0, .int .i64 0, .int .i64 0, .slice none 0 0, .slice none 0 0]).size := by kernel_rfl
          have h16 : (#[Value.int .i64 0, .int .i64 0, .int .i64 0, .int .i64 0, .slice none 0 0, .slice none 0 0]).all (·.oneCell') = true := by simp [Value.oneCell']
          go_wp2_with (refine wpList_store_row rfl 25 (.tmp 10) (.tmp 48) rfl (w.heap.size + 1) #[.int .i64 0, .int .i64 0, .int .i64 0, .int .i64 0, .slice none 0 0, .slice none 0 0] rfl rfl 25 #[.int .i64 0, .int .i64 0, .int .i64 0, .int .i64 0, .slice none 0 0, .slice none 0 0] hz2 hI6 rfl h16 ?_)
          have hs2 := setRow_heap w2 (w.heap.size + 1) _ #[.int .i64 0, .int .i64 0, .int .i64 0, .int .i64 0, .slice none 0 0, .slice none 0 0] _ _ hz2
          obtain ⟨⟨z0, z1, z2, z3, z4, z5⟩, _⟩ := box6 hs2
          refine bodyPost_ret (v := .tuple #[.agg #[.int .i64 0, .int .i64 0, .int .i64 0, .int .i64 0, .slice none 0 0, .slice none 0 0], .bool false]) (by simp [results, Try.results20, go_sem, z0, z1, z2, z3, z4, z5]) rfl ⟨rfl, ?_⟩
          exact bel2.trans ((below_setRow _ _ _).mono (by omega))
  · have HIN : Hid (∀ w' : World, Calls Try.prog 50 #[.iface 52 (.agg #[.int .i64 k, .int .i64 d, .int .i64 wd, .int .i64 hi, .slice ca cn cc, .slice pa pn pc]), .int .i64 x, .int .i64 y] w' fun e w'' => e = .returned (.bool false) ∧ Below w'.heap.size w' w'') := by
      intro w'; have := inView_any k d wd hi x y ca cn cc pa pn pc w'; rw [inB_no hin] at this; exact this
    clear hin hno
    go_enter Try.func20, Try.ntmps20
    go_wp2_with fail
    refine HO.out.mono ?_
    rintro e w1 ⟨rfl, b1⟩
    obtain ⟨k0, k1, k2, k3, k4, k5⟩ := box_kept HK0 b1 (by simp; omega)
    have bel1 := hB0.trans (b1.mono hB0.size)
    have hlt1 : w.heap.size + 1 < w1.heap.size := Nat.lt_of_lt_of_le (by simp) b1.size
    have hz1 : Hid (w1.heap[w.heap.size + 1]? = some (.cells #[.int .i64 0, .int .i64 0, .int .i64 0, .int .i64 0, .slice none 0 0, .slice none 0 0] 25 (0, 0))) := (b1.block _ (by simp)).trans HZ.out
    clear b1 hB0 HO HZ HK0
    go_wp2_with fail
    refine (HIN.out _).mono ?_
    rintro e w2 ⟨rfl, b2⟩
    obtain ⟨j0, j1, j2, j3, j4, j5⟩ := box_kept ⟨k0, k1, k2, k3, k4, k5⟩ b2 (by omega)
    have bel2 := bel1.trans (b2.mono bel1.size)
    have hz2 : w2.heap[w.heap.size + 1]? = some (.cells #[.int .i64 0, .int .i64 0, .int .i64 0, .int .i64 0, .slice none 0 0, .slice none 0 0] 25 (0, 0)) := (b2.block _ hlt1).trans hz1.out
    clear b2 bel1 hz1 k0 k1 k2 k3 k4 k5 HIN
    have hI6 : (Try.prog.info? 25).map (·.size) = some (#[Value.int .i64 0, .int .i64 0, .int .i64 0, .int .i64 0, .slice none 0 0, .slice none 0 0]).size := by kernel_rfl
    have h16 : (#[Value.int .i64 0, .int .i64 0, .int .i64 0, .int .i64 0, .slice none 0 0, .slice none 0 0]).all (·.oneCell') = true := by simp [Value.oneCell']
    go_wp2_with (refine wpList_store_row rfl 25 (.tmp 10) (.tmp 48) rfl (w.heap.size + 1) #[.int .i64 0, .int .i64 0, .int .i64 0, .int .i64 0, .slice none 0 0, .slice none 0 0] rfl rfl 25 #[.int .i64 0, .int .i64 0, .int .i64 0, .int .i64 0, .slice none 0 0, .slice none 0 0] hz2 hI6 rfl h16 ?_)
    have hs2 := setRow_heap w2 (w.heap.size + 1) _ #[.int .i64 0, .int .i64 0, .int .i64 0, .int .i64 0, .slice none 0 0, .slice none 0 0] _ _ hz2
    obtain ⟨⟨z0, z1, z2, z3, z4, z5⟩, _⟩ := box6 hs2
    refine bodyPost_ret (v := .tuple #[.agg #[.int .i64 0, .int .i64 0, .int .i64 0, .int .i64 0, .slice none 0 0, .slice none 0 0], .bool false]) (by simp [results, Try.results20, go_sem, z0, z1, z2, z3, z4, z5]) rfl ⟨rfl, ?_⟩
    exact bel2.trans ((below_setRow _ _ _).mono (by omega))

set_option maxHeartbeats 2000000 in
set_option maxRecDepth 20000 in
theorem impl_cut_yes (k d : Int) (Wd Hi : Nat) (ca : Option Addr) (cn cc : Nat) (pa : Option Addr) (pn pc : Nat) (X Y W H : Nat) (cs ps : List Int) (w : World) (hc : Ints w ca cs) (hcn : cs.length = cn) (hcl : cn ≤ 1048576) (hp : Ints w pa ps) (hpn : ps.length = pn) (hW : Wd ≤ 20) (hH : Hi ≤ 20) (hm : pn = Wd * Hi) (hXW : X + W ≤ Wd) (hYH : Y + H ≤ Hi) (hW1 : 1 ≤ W) (hH1 : 1 ≤ H)
    (hO : Calls Try.prog 13 #[.agg #[.int .i64 k, .int .i64 d, .int .i64 (Wd : Int), .int .i64 (Hi : Int), .slice ca cn cc, .slice pa pn pc]] ((w.alloc (.cells #[.int .i64 k, .int .i64 d, .int .i64 (Wd : Int), .int .i64 (Hi : Int), .slice ca cn cc, .slice pa pn pc] 25)).alloc (.cells #[.int .i64 0, .int .i64 0, .int .i64 0, .int .i64 0, .slice none 0 0, .slice none 0 0] 25)) fun e w' => e = .returned (.bool true) ∧ Below ((w.alloc (.cells #[.int .i64 k, .int .i64 d, .int .i64 (Wd : Int), .int .i64 (Hi : Int), .slice ca cn cc, .slice pa pn pc] 25)).alloc (.cells #[.int .i64 0, .int .i64 0, .int .i64 0, .int .i64 0, .slice none 0 0, .slice none 0 0] 25)).heap.size ((w.alloc (.cells #[.int .i64 k, .int .i64 d, .int .i64 (Wd : Int), .int .i64 (Hi : Int), .slice ca cn cc, .slice pa pn pc] 25)).alloc (.cells #[.int .i64 0, .int .i64 0, .int .i64 0, .int .i64 0, .slice none 0 0, .slice none 0 0] 25)) w') :
    Calls Try.prog 20 #[.agg #[.int .i64 k, .int .i64 d, .int .i64 (Wd : Int), .int .i64 (Hi : Int), .slice ca cn cc, .slice pa pn pc], .int .i64 (X : Int), .int .i64 (Y : Int), .int .i64 (W : Int), .int .i64 (H : Int)] w fun e w' =>
      (∃ x cx y cy, e = .returned (.tuple #[.agg #[.int .i64 k, .int .i64 d, .int .i64 (W : Int), .int .i64 (H : Int), .slice x cn cx, .slice y (W * H) cy], .bool true]) ∧ Pair2 w' w.heap.size x cs y (upto (ptF W (cutF Wd X Y ps)) (W * H))) ∧ Below w.heap.size w w' := by
  have hB0 : Below w.heap.size w ((w.alloc (.cells #[.int .i64 k, .int .i64 d, .int .i64 (Wd : Int), .int .i64 (Hi : Int), .slice ca cn cc, .slice pa pn pc] 25)).alloc (.cells #[.int .i64 0, .int .i64 0, .int .i64 0, .int .i64 0, .slice none 0 0, .slice none 0 0] 25)) := ((Below.refl _ _).alloc (Nat.le_refl _) _).alloc (by simp) _
  have HO : Hid (Calls Try.prog 13 #[.agg #[.int .i64 k, .int .i64 d, .int .i64 (Wd : Int), .int .i64 (Hi : Int), .slice ca cn cc, .slice pa pn pc]] ((w.alloc (.cells #[.int .i64 k, .int .i64 d, .int .i64 (Wd : Int), .int .i64 (Hi : Int), .slice ca cn cc, .slice pa pn pc] 25)).alloc (.cells #[.int .i64 0, .int .i64 0, .int .i64 0, .int .i64 0, .slice none 0 0, .slice none 0 0] 25)) fun e w' => e = .returned (.bool true) ∧ Below ((w.alloc (.cells #[.int .i64 k, .int .i64 d, .int .i64 (Wd : Int), .int .i64 (Hi : Int), .slice ca cn cc, .slice pa pn pc] 25)).alloc (.cells #[.int .i64 0, .int .i64 0, .int .i64 0, .int .i64 0, .slice none 0 0, .slice none 0 0] 25)).heap.size ((w.alloc (.cells #[.int .i64 k, .int .i64 d, .int .i64 (Wd : Int), .int .i64 (Hi : Int), .slice ca cn cc, .slice pa pn pc] 25)).alloc (.cells #[.int .i64 0, .int .i64 0, .int .i64 0, .int .i64 0, .slice none 0 0, .slice none 0 0] 25)) w') := hO
  clear hO
  have HZ : Hid (((w.alloc (.cells #[.int .i64 k, .int .i64 d, .int .i64 (Wd : Int), .int .i64 (Hi : Int), .slice ca cn cc, .slice pa pn pc] 25)).alloc (.cells #[.int .i64 0, .int .i64 0, .int .i64 0, .int .i64 0, .slice none 0 0, .slice none 0 0] 25)).heap[w.heap.size + 1]? = some (.cells #[.int .i64 0, .int .i64 0, .int .i64 0, .int .i64 0, .slice none 0 0, .slice none 0 0] 25 (0, 0))) := heap_alloc2_new _ _ _
  have HM : Hid (∀ w', Below w.heap.size w w' → Calls Try.prog 38 #[.iface 68 (.agg #[.iface 52 (.agg #[.int .i64 k, .int .i64 d, .int .i64 (Wd : Int), .int .i64 (Hi : Int), .slice ca cn cc, .slice pa pn pc]), .int .i64 (X : Int), .int .i64 (Y : Int), .int .i64 (W : Int), .int .i64 (H : Int)]), .int .i64 k, .int .i64 d, .slice ca cn cc] w' fun e w'' =>
      (∃ x cx y cy, e = .returned (.agg #[.int .i64 k, .int .i64 d, .int .i64 (W : Int), .int .i64 (H : Int), .slice x cn cx, .slice y (W * H) cy]) ∧ Pair2 w'' w'.heap.size x cs y (upto (ptF W (cutF Wd X Y ps)) (W * H))) ∧ Below w'.heap.size w' w'') :=
    fun w' b => drawn_any 68 _ _ _ _ _ W H _ (by omega) (by omega) k d ca cn cc cs w' (part_seen k d Wd Hi ca cn cc pa pn pc X Y W H ps w' (hp.kept b) hpn hW hH hm hXW hYH) (hc.kept b) hcn hcl
  have HIN : Hid (∀ w' : World, Calls Try.prog 50 #[.iface 52 (.agg #[.int .i64 k, .int .i64 d, .int .i64 (Wd : Int), .int .i64 (Hi : Int), .slice ca cn cc, .slice pa pn pc]), .int .i64 (X : Int), .int .i64 (Y : Int)] w' fun e w'' => e = .returned (.bool true) ∧ Below w'.heap.size w' w'') := by
    intro w'; have := inView_any k d (Wd : Int) (Hi : Int) (X : Int) (Y : Int) ca cn cc pa pn pc w'; rw [inB_yes (by omega)] at this; exact this
  have HK0 := box_kept (box_new w (.int .i64 k) (.int .i64 d) (.int .i64 (Wd : Int)) (.int .i64 (Hi : Int)) (.slice ca cn cc) (.slice pa pn pc) 25) ((Below.refl _ _).alloc (Nat.le_refl _) (.cells #[.int .i64 0, .int .i64 0, .int .i64 0, .int .i64 0, .slice none 0 0, .slice none 0 0] 25)) (by simp)
  obtain ⟨c, hcc⟩ : ∃ c : Nat, c = Wd - X := ⟨_, rfl⟩
  obtain ⟨f, hff⟩ : ∃ f : Nat, f = Hi - Y := ⟨_, rfl⟩
  have hcw : (Wd : Int) - (X : Int) = (c : Int) := by omega
  have hfw : (Hi : Int) - (Y : Int) = (f : Int) := by omega
  have d1 : decide ((W : Int) < 1) = false := by simp; omega
  have d2 : decide ((c : Int) < (W : Int)) = false := by simp; omega
  have d3 : decide ((H : Int) < 1) = false := by simp; omega
  have d4 : decide ((f : Int) < (H : Int)) = false := by simp; omega
  have d2' : ¬ c < W := by omega
  have d4' : ¬ f < H := by omega
  have d1' : ¬ W < 1 := by omega
  have d3' : ¬ H < 1 := by omega
  have hcb : c ≤ 20 := by omega
  have hfb : f ≤ 20 := by omega
  clear hc hcn hcl hp hpn hm hcc hff hXW hYH
  go_enter Try.func20, Try.ntmps20
  go_wp2_with fail
  refine HO.out.mono ?_
  rintro e w1 ⟨rfl, b1⟩
  obtain ⟨k0, k1, k2, k3, k4, k5⟩ := box_kept HK0 b1 (by simp; omega)
  have bel1 := hB0.trans (b1.mono hB0.size)
  have hlt1 : w.heap.size + 1 < w1.heap.size := Nat.lt_of_lt_of_le (by simp) b1.size
  have HZ1 : Hid (w1.heap[w.heap.size + 1]? = some (.cells #[.int .i64 0, .int .i64 0, .int .i64 0, .int .i64 0, .slice none 0 0, .slice none 0 0] 25 (0, 0))) := (b1.block _ (by simp)).trans HZ.out
  clear b1 hB0 HO HZ HK0
  go_wp2_with fail
  refine (HIN.out _).mono ?_
  rintro e w2 ⟨rfl, b2⟩
  obtain ⟨j0, j1, j2, j3, j4, j5⟩ := box_kept ⟨k0, k1, k2, k3, k4, k5⟩ b2 (by omega)
  have bel2 := bel1.trans (b2.mono bel1.size)
  have hlt2 : w.heap.size + 1 < w2.heap.size := Nat.lt_of_lt_of_le hlt1 b2.size
  have HZ2 : Hid (w2.heap[w.heap.size + 1]? = some (.cells #[.int .i64 0, .int .i64 0, .int .i64 0, .int .i64 0, .slice none 0 0, .slice none 0 0] 25 (0, 0))) := (b2.block _ hlt1).trans HZ1.out
  have hA2 : Below w2.heap.size w2 (w2.alloc (.cells #[.iface 52 (.agg #[.int .i64 k, .int .i64 d, .int .i64 (Wd : Int), .int .i64 (Hi : Int), .slice ca cn cc, .slice pa pn pc]), .int .i64 (X : Int), .int .i64 (Y : Int), .int .i64 (W : Int), .int .i64 (H : Int)] 68)) := (Below.refl _ _).alloc (Nat.le_refl _) _
  have bel3 : Below w.heap.size w (w2.alloc (.cells #[.iface 52 (.agg #[.int .i64 k, .int .i64 d, .int .i64 (Wd : Int), .int .i64 (Hi : Int), .slice ca cn cc, .slice pa pn pc]), .int .i64 (X : Int), .int .i64 (Y : Int), .int .i64 (W : Int), .int .i64 (H : Int)] 68)) := bel2.alloc bel2.size _
  obtain ⟨i0, i1, i2, i3, i4, i5⟩ := box_kept ⟨j0, j1, j2, j3, j4, j5⟩ hA2 (by omega)
  have HZ3 : Hid ((w2.alloc (.cells #[.iface 52 (.agg #[.int .i64 k, .int .i64 d, .int .i64 (Wd : Int), .int .i64 (Hi : Int), .slice ca cn cc, .slice pa pn pc]), .int .i64 (X : Int), .int .i64 (Y : Int), .int .i64 (W : Int), .int .i64 (H : Int)] 68)).heap[w.heap.size + 1]? = some (.cells #[.int .i64 0, .int .i64 0, .int .i64 0, .int .i64 0, .slice none 0 0, .slice none 0 0] 25 (0, 0))) := (hA2.block _ hlt2).trans HZ2.out
  have hlt3 : w.heap.size + 1 < (w2.alloc (.cells #[.iface 52 (.agg #[.int .i64 k, .int .i64 d, .int .i64 (Wd : Int), .int .i64 (Hi : Int), .slice ca cn cc, .slice pa pn pc]), .int .i64 (X : Int), .int .i64 (Y : Int), .int .i64 (W : Int), .int .i64 (H : Int)] 68)).heap.size := by simp; omega
  clear b2 bel1 HZ1 HZ2 k0 k1 k2 k3 k4 k5 HIN hlt1 hA2 bel2
  go_wp2_with fail
  refine (HM.out _ bel3).mono ?_
  rintro e w4 ⟨⟨x, cx, y, cy, rfl, hP⟩, b4⟩
  have hz4 : w4.heap[w.heap.size + 1]? = some (.cells #[.int .i64 0, .int .i64 0, .int .i64 0, .int .i64 0, .slice none 0 0, .slice none 0 0] 25 (0, 0)) := (b4.block _ hlt3).trans HZ3.out
  have bel4 := bel3.trans (b4.mono bel3.size)
  have hI6 : (Try.prog.info? 25).map (·.size) = some (#[Value.int .i64 k, .int .i64 d, .int .i64 (W : Int), .int .i64 (H : Int), .slice x cn cx, .slice y (W * H) cy]).size := by kernel_rfl
  have h16 : (#[Value.int .i64 k, .int .i64 d, .int .i64 (W : Int), .int .i64 (H : Int), .slice x cn cx, .slice y (W * H) cy]).all (·.oneCell') = true := by simp [Value.oneCell']
  have HP : Hid (Pair2 w4 (w.heap.size + 1 + 1) x cs y (upto (ptF W (cutF Wd X Y ps)) (W * H))) := hP.lower (by simp; omega)
  clear b4 bel3 HZ3 hP j0 j1 j2 j3 j4 j5 i0 i1 i2 i3 i4 i5 HM hlt3 hlt2
  go_wp2_with (refine wpList_store_row rfl 25 (.tmp 10) (.tmp 64) rfl (w.heap.size + 1) #[.int .i64 k, .int .i64 d, .int .i64 (W : Int), .int .i64 (H : Int), .slice x cn cx, .slice y (W * H) cy] rfl rfl 25 #[.int .i64 0, .int .i64 0, .int .i64 0, .int .i64 0, .slice none 0 0, .slice none 0 0] hz4 hI6 rfl h16 ?_)
  have hs2 := setRow_heap w4 (w.heap.size + 1) _ #[.int .i64 k, .int .i64 d, .int .i64 (W : Int), .int .i64 (H : Int), .slice x cn cx, .slice y (W * H) cy] _ _ hz4
  obtain ⟨⟨z0, z1, z2, z3, z4, z5⟩, _⟩ := box6 hs2
  refine bodyPost_ret (v := .tuple #[.agg #[.int .i64 k, .int .i64 d, .int .i64 (W : Int), .int .i64 (H : Int), .slice x cn cx, .slice y (W * H) cy], .bool true]) (by simp [results, Try.results20, go_sem, z0, z1, z2, z3, z4, z5]) rfl ⟨⟨x, cx, y, cy, rfl, ?_⟩, ?_⟩
  · exact (HP.out.row _).lower (by omega)
  · exact bel4.trans ((below_setRow _ _ _).mono (by omega))
end Go.Proofs.Ytgeepemhmkoknaa
