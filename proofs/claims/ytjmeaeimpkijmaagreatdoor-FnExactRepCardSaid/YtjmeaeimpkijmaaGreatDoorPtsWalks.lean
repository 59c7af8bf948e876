/- The points of what is seen, row by row: pointsOf and its iterator. -/
import Derived.Test.YtjmeaeimpkijmaaGreatDoorSeqColl
namespace Go.Proofs.YtjmeaeimpkijmaaGreatDoor
open Go.RowKit Go.Shelf

attribute [local go_sem] Oper.semAt_some

/-- what has come when k points are told -/
def upto (F : Nat → Int) (k : Nat) : List Int := (List.range k).map F
theorem upto_succ (F : Nat → Int) (k : Nat) : upto F (k + 1) = upto F k ++ [F k] := by simp [upto, List.range_succ]
theorem upto_length (F : Nat → Int) (k : Nat) : (upto F k).length = k := by simp [upto]
theorem upto_take (F : Nat → Int) {k n : Nat} (h : k ≤ n) : upto F k <+: upto F n := by
  obtain ⟨d, rfl⟩ := Nat.exists_eq_add_of_le h
  exact ⟨(List.range d).map (fun j => F (k + j)), by simp [upto, List.range_add, Function.comp_def]⟩

/-- a view, told by what its methods answer -/
structure Seen (T : TypeId) (V : Value) (fs : Nat) (rs : Value) (fa : Nat) (ra : Value) (wd hi : Nat) (f : Nat → Nat → Int) (n₀ : Nat) (w : World) : Prop where
  ms : ∀ w', (method 547 T V "loop.example/intarsia/impl.size").run Tryz.prog w' = .ok (fs, rs) w'
  ns : ∀ w', (nilAhead 547 T V "loop.example/intarsia/impl.size").run Tryz.prog w' = .ok (some false) w'
  ma : ∀ w', (method 547 T V "loop.example/intarsia/impl.at").run Tryz.prog w' = .ok (fa, ra) w'
  na : ∀ w', (nilAhead 547 T V "loop.example/intarsia/impl.at").run Tryz.prog w' = .ok (some false) w'
  es : ∀ args w', (callFunc fs args).run Tryz.prog w' = .ok (.enter fs args) w'
  ea : ∀ args w', (callFunc fa args).run Tryz.prog w' = .ok (.enter fa args) w'
  size : ∀ w', Below n₀ w w' → Calls Tryz.prog fs #[rs] w' fun e w'' => e = .returned (.tuple #[.int .i64 (wd : Int), .int .i64 (hi : Int)]) ∧ Below w'.heap.size w' w''
  at' : ∀ (w' : World) (x y : Nat), x < wd → y < hi → Below n₀ w w' → Calls Tryz.prog fa #[ra, .int .i64 (x : Int), .int .i64 (y : Int)] w' fun e w'' => e = .returned (.int .i64 (f x y)) ∧ Below w'.heap.size w' w''

theorem grown_of_below {w w' : World} (h : Below w.heap.size w w') : w.grownBy w' none := ⟨h.os, h.tape, h.output, h.size, fun k hk _ => h.block k hk⟩

/-- the points in their order -/
def ptF (wd : Nat) (f : Nat → Nat → Int) (j : Nat) : Int := f (j % wd) (j / wd)
theorem ptF_at {wd x y : Nat} (f : Nat → Nat → Int) (h : x < wd) : ptF wd f (y * wd + x) = f x y := by
  unfold ptF
  rw [Nat.mul_comm y wd, Nat.mul_add_mod, Nat.mod_eq_of_lt h, Nat.mul_add_div (by omega), Nat.div_eq_of_lt h, Nat.add_zero]

set_option maxRecDepth 100000 in
set_option maxHeartbeats 2000000 in
theorem points1_in (n : Nat) (hn : 1 ≤ n) (l Bv n₀ : Nat) (T : TypeId) (V : Value) (fs : Nat) (rs : Value) (fa : Nat) (ra : Value) (wd hi : Nat) (f : Nat → Nat → Int) (hwd : wd ≤ 20) (hhi : hi ≤ 20) (w : World) (hBv : Bv < n₀) (S : Seen T V fs rs fa ra wd hi f n₀ w) (J Jx : List Int → World → Prop)
    (W : World) (hW : Below n₀ w W) (hn₀ : n₀ ≤ W.heap.size) (hJ : AbidesFrom W.heap.size J)
    (hY : ∀ pre x W, J pre W → pre.length < wd * hi → YieldAt Fence.wide (n - 1) Tryz.prog l #[.int .i64 x] W fun e W' =>
      (e = .returned (.bool true) ∧ J (pre ++ [x]) W' ∧ Below n₀ W W') ∨ (e = .returned (.bool false) ∧ Jx (pre ++ [x]) W'))
    (hc : W.cell? ⟨Bv, 0, none⟩ = some (.iface T V)) (h0 : J [] W) :
    CallsIn Fence.wide n Tryz.prog 235 #[.func (.yield l) #[] #[], .pointer (some ⟨Bv, 0, none⟩)] W fun e W' => (∃ v, e = .returned v) ∧
      ((∃ ys, ys = upto (ptF wd f) (wd * hi) ∧ J ys W') ∨ (∃ pre, pre <+: upto (ptF wd f) (wd * hi) ∧ Jx pre W')) := by
  have hro : Fence.wide.round = none := rfl
  have ms := S.ms
  have ns := S.ns
  have ma := S.ma
  have na := S.na
  refine callsIn_of_wp Tryz.func235 rfl trivial ?_ hro
  simp only [Tryz.ntmps235, List.size_toArray, List.length_cons, List.length_nil, Nat.reduceAdd, Nat.reduceSub, Array.replicate_succ, Array.replicate_zero, List.push_toArray, List.append_toArray, List.nil_append, List.cons_append]
  have es := S.es
  have ea := S.ea
  gi_wp2
  refine ⟨trivial, ?_⟩
  gi_wp2
  refine (callsIn_wide.2 (S.size W hW)).mono ?_
  rintro e W1 ⟨rfl, b1⟩
  have h01 : J [] W1 := hJ [] W W1 none h0 (grown_of_below b1) (fun r e => by cases e)
  have hW1 : Below n₀ w W1 := hW.trans (b1.mono hn₀)
  have hs1 : W.heap.size ≤ W1.heap.size := b1.size
  have hc1 : W1.cell? ⟨Bv, 0, none⟩ = some (.iface T V) := (b1.cell (p := ⟨Bv, 0, none⟩) (Nat.lt_of_lt_of_le hBv hn₀)).trans hc
  clear b1 h0 hc
  gi_wp2
  gi_loopw [13] (fun i wr => ∃ k : Nat, k ≤ hi ∧ i = .int .i64 (k : Int) ∧ J (upto (ptF wd f) (k * wd)) wr ∧ Below n₀ w wr ∧ W.heap.size ≤ wr.heap.size ∧ wr.cell? ⟨Bv, 0, none⟩ = some (.iface T V))
    (fun i _ => hi - (intOf i).toNat)
  case atStart => exact ⟨0, Nat.zero_le _, rfl, by simpa [upto] using h01, hW1, hs1, hc1⟩
  case round =>
    obtain ⟨k, hk, rfl, hJk, hWk, hsk, hck⟩ := hrel
    by_cases hlt : k < hi
    · gi_wp2
      gi_loopw [17] (fun i wr => ∃ x : Nat, x ≤ wd ∧ i = .int .i64 (x : Int) ∧ J (upto (ptF wd f) (k * wd + x)) wr ∧ Below n₀ w wr ∧ W.heap.size ≤ wr.heap.size ∧ wr.cell? ⟨Bv, 0, none⟩ = some (.iface T V))
        (fun i _ => wd - (intOf i).toNat)
      case atStart => exact ⟨0, Nat.zero_le _, rfl, hJk, hWk, hsk, hck⟩
      case round =>
        obtain ⟨x, hx, rfl, hJx', hWx, hsx, hcx⟩ := hrel
        by_cases hxl : x < wd
        · have hkm : k * wd + wd ≤ wd * hi := by
            have := Nat.mul_le_mul_right wd (show k + 1 ≤ hi by omega)
            rw [Nat.add_mul, Nat.one_mul, Nat.mul_comm hi wd] at this; exact this
          gi_wp2
          refine ⟨trivial, ?_⟩
          gi_wp2
          refine (callsIn_wide.2 (S.at' wr x k hxl hlt hWx)).mono ?_
          rintro e W2 ⟨rfl, b2⟩
          have hJ2 : J (upto (ptF wd f) (k * wd + x)) W2 := hJ _ wr W2 none hJx' (grown_of_below b2) (fun r e => by cases e)
          have hn2 : n₀ ≤ wr.heap.size := Nat.le_trans hn₀ hsx
          have hW2 : Below n₀ w W2 := hWx.trans (b2.mono hn2)
          have hs2 : W.heap.size ≤ W2.heap.size := Nat.le_trans hsx b2.size
          have hc2 : W2.cell? ⟨Bv, 0, none⟩ = some (.iface T V) := (b2.cell (p := ⟨Bv, 0, none⟩) (Nat.lt_of_lt_of_le hBv hn2)).trans hcx
          obtain ⟨fn, tmps, assign, body, hy, hR⟩ := hY _ (f x k) W2 hJ2 (by rw [upto_length]; omega)
          clear b2 hcx hsx hWx hJx'
          gi_wp2
          refine hR.mono ?_
          rintro e W3 (⟨rfl, hJ3, hk3⟩ | ⟨rfl, hJx3⟩)
          · gi_wp2
            go_roundw
            case rel => exact ⟨x + 1, by omega, by simp, by rw [← Nat.add_assoc, upto_succ, ptF_at f hxl]; exact hJ3, hW2.trans hk3, Nat.le_trans hs2 hk3.size, (hk3.cell (p := ⟨Bv, 0, none⟩) hBv).trans hc2⟩
            case measure => simp [intOf]; omega
          · gi_wp2
            refine bodyPost_ret (results_none rfl _ _ _) rfl ?_
            exact ⟨⟨_, rfl⟩, .inr ⟨_, by rw [← ptF_at f hxl, ← upto_succ]; exact upto_take _ (by omega), hJx3⟩⟩
        · obtain rfl : x = wd := by omega
          gi_wp2
          exact ⟨⟨k + 1, by omega, by simp, by rw [Nat.add_mul, Nat.one_mul]; exact hJx', hWx, hsx, hcx⟩, by simp [intOf]; omega⟩
    · obtain rfl : k = hi := by omega
      gi_wp2
      go_end0
      exact ⟨⟨_, rfl⟩, .inl ⟨_, by rw [Nat.mul_comm], hJk⟩⟩

set_option maxHeartbeats 400000 in
theorem pointsOf_any (T : TypeId) (V : Value) (w : World) :
    Calls Tryz.prog 174 #[.iface T V] w fun e w' => e = .returned (.func (.func 235) #[] #[.pointer (some ⟨w.heap.size, 0, none⟩)]) ∧ w' = w.alloc (.cells #[.iface T V] 142) := by
  go_enter Tryz.func174, Tryz.ntmps174
  go_wp2_with fail
  go_ret
  exact ⟨rfl, rfl⟩

/-- the iterator over a view tells its points -/
theorem points_tells (n : Nat) (hn : 1 ≤ n) (T : TypeId) (V : Value) (fs : Nat) (rs : Value) (fa : Nat) (ra : Value) (wd hi : Nat) (f : Nat → Nat → Int) (hwd : wd ≤ 20) (hhi : hi ≤ 20) (w : World) (S : Seen T V fs rs fa ra wd hi f w.heap.size w) :
    Tells n 235 #[.pointer (some ⟨w.heap.size, 0, none⟩)] (w.alloc (.cells #[.iface T V] 142)).heap.size (upto (ptF wd f) (wd * hi)) (w.alloc (.cells #[.iface T V] 142)) := by
  intro l J Jx W hW hJ _ hY h0
  have hb : Below w.heap.size w (w.alloc (.cells #[.iface T V] 142)) := (Below.refl _ _).alloc (Nat.le_refl _) _
  have hb' : Below (w.alloc (.cells #[.iface T V] 142)).heap.size w (w.alloc (.cells #[.iface T V] 142)) → True := fun _ => trivial
  have S' : Seen T V fs rs fa ra wd hi f (w.alloc (.cells #[.iface T V] 142)).heap.size (w.alloc (.cells #[.iface T V] 142)) :=
    { S with size := fun w' b => S.size w' (hb.trans (b.mono hb.size)), at' := fun w' x y hx hy b => S.at' w' x y hx hy (hb.trans (b.mono hb.size)) }
  exact points1_in n hn l w.heap.size _ T V fs rs fa ra wd hi f hwd hhi _ (by simp) S' J Jx W hW hW.size hJ (by rw [upto_length] at hY; exact hY) ((hW.cell (p := ⟨w.heap.size, 0, none⟩) (by simp)).trans (Boxed.new w 142 (.iface T V)).cell) h0
end Go.Proofs.YtjmeaeimpkijmaaGreatDoor
