/- Work that may break off with a code: insist, faultIn. -/
import Derived.Test.YtmfnepibhhhdcaaProg
import Derived.Test.YtmfnepibhhhdcaaBase
import Derived.Defers
import Derived.Recover
import Derived.RangeFuncBox
namespace Go.Proofs.Ytmfnepibhhhdcaa
open Go.RowKit

/-- a call that broke off with a code -/
def fault (c : Int) : Ending := .panicked [{ v := .iface 111 (.int .i64 c), recovered := false }]

set_option maxHeartbeats 400000 in
theorem insist_yes (c : Int) (w : World) : Calls Try.prog 90 #[.bool true, .int .i64 c] w fun e w' => e = .returned (.tuple #[]) ∧ w' = w := by
  go_enter Try.func90, Try.ntmps90
  go_wp2_with fail
  go_end0
  exact ⟨rfl, rfl⟩

set_option maxHeartbeats 400000 in
theorem insist_no (c : Int) (w : World) : Calls Try.prog 90 #[.bool false, .int .i64 c] w fun e w' => e = fault c ∧ w' = w := by
  go_enter Try.func90, Try.ntmps90
  go_wp2_with fail
  exact ⟨rfl, rfl, rfl⟩

theorem insist_of (b : Bool) (c : Int) (w : World) (h : b = true) : Calls Try.prog 90 #[.bool b, .int .i64 c] w fun e w' => e = .returned (.tuple #[]) ∧ w' = w := by subst h; exact insist_yes c w
theorem insist_not (b : Bool) (c : Int) (w : World) (h : b = false) : Calls Try.prog 90 #[.bool b, .int .i64 c] w fun e w' => e = fault c ∧ w' = w := by subst h; exact insist_no c w

theorem catch_met (p : Addr) (c : Int) (x : Value) (older : List PanicEntry) (w : World) (hc : w.cell? p = some x) (hz : w.frozen? p = false) :
    CallsD Try.prog 89 #[.pointer (some p)] (.panicking ({ v := .iface 111 (.int .i64 c), recovered := false } :: older)) w fun e u' w' =>
      e = .returned (.tuple #[]) ∧ u' = .panicking ({ v := .iface 111 (.int .i64 c), recovered := true } :: older) ∧ w' = w.setCell p (.int .i64 c) := by
  have hta : ∀ w : World, (Instr.typeAssert (.iface 111 (.int .i64 c)) 20 111 false).run Try.prog w = .ok (.int .i64 c) w := fun _ => by kernel_rfl
  have hne : ∀ w : World, (binOp BinOp.neq 20 (.iface 111 (.int .i64 c)) .nilIface).run Try.prog w = .ok (.bool true) w := fun _ => by kernel_rfl
  refine callsD_of_wpS Try.func89 rfl fun c₀ cs hu => ?_
  apply wpS_seq
  apply wpS_region
  simp [wpOpsS, go_sem, recoverD, hu, Try.ntmps89, Exit.thenS]
  refine wpS_of_wp ?_
  simp only [Array.replicate_succ, Array.replicate_zero, List.push_toArray, List.append_toArray, List.nil_append, List.cons_append, List.setIfInBounds_toArray, List.set_cons_zero, List.set_cons_succ]
  go_wp2_with fail
  simp [bodyPostS, results, Try.results89]

theorem catch_idle (p : Addr) (w : World) :
    CallsD Try.prog 89 #[.pointer (some p)] .returning w fun e u' w' => e = .returned (.tuple #[]) ∧ u' = .returning ∧ w' = w := by
  refine callsD_of_wpS Try.func89 rfl fun c₀ cs hu => ?_
  apply wpS_seq
  apply wpS_region
  simp [wpOpsS, go_sem, recoverD, hu, Try.ntmps89, Exit.thenS]
  refine wpS_of_wp ?_
  simp only [Array.replicate_succ, Array.replicate_zero, List.push_toArray, List.append_toArray, List.nil_append, List.cons_append, List.setIfInBounds_toArray, List.set_cons_zero, List.set_cons_succ]
  go_wp2_with fail
  cases c₀
  simp_all [bodyPostS, results, Try.results89]

/-- what faultIn makes of the world that the work left: its own variable holds the code -/
def Told (w w' w'' : World) (c : Int) : Prop := w'' = w'.setCell ⟨w.heap.size, 0, none⟩ (.int .i64 c)

/-- how faultIn ends -/
def FaultOut (w : World) (R : World → Prop) (Rc : Int → World → Prop) (e : Ending) (w'' : World) : Prop :=
  ∃ w', Boxed w' w.heap.size 3 (.int .i64 0) ∧ ((e = .returned (.int .i64 0) ∧ R w' ∧ Told w w' w'' 0) ∨ ∃ c, e = .returned (.int .i64 c) ∧ Rc c w' ∧ Told w w' w'' c)

set_option maxHeartbeats 1000000 in
theorem faultIn_any (fw : Nat) (env : Array Value) (eg : ∀ args w, (callFunc fw args).run Try.prog w = .ok (.enter fw args) w) (R : World → Prop) (Rc : Int → World → Prop) (w : World)
    (h : Calls Try.prog fw env (w.alloc (.cells #[.int .i64 0] 3)) fun e w' => Boxed w' w.heap.size 3 (.int .i64 0) ∧ ((∃ v, e = .returned v) ∧ R w' ∨ ∃ c, e = fault c ∧ Rc c w')) :
    Calls Try.prog 51 #[.func (.func fw) #[] env] w (FaultOut w R Rc) := by
  have hmf : ∀ (fn : Fn) (first cap : Array Value) (w : World), (Instr.makeFunc fn first cap).run Try.prog w = .ok (.func fn first cap) w := fun _ _ _ _ => rfl
  have H : Hid (Calls Try.prog fw env (w.alloc (.cells #[.int .i64 0] 3)) fun e w' => Boxed w' w.heap.size 3 (.int .i64 0) ∧ ((∃ v, e = .returned v) ∧ R w' ∨ ∃ c, e = fault c ∧ Rc c w')) := h
  clear h
  go_enter_defers Try.func51, Try.ntmps51
  go_wp2_with fail
  refine H.out.mono ?_
  rintro e w1 ⟨hb, (⟨⟨v, rfl⟩, hR⟩ | ⟨c, rfl, hR⟩)⟩
  · have hc := hb.cell
    have hf := hb.frozen
    have hb2 : Boxed (w1.setCell ⟨w.heap.size, 0, none⟩ (.int .i64 0)) w.heap.size 3 (.int .i64 0) := hb.set _
    have hc2 := hb2.cell
    have hfin : FaultOut w R Rc (.returned (.int .i64 0)) (w1.setCell ⟨w.heap.size, 0, none⟩ (.int .i64 0)) := ⟨w1, hb, .inl ⟨rfl, hR, rfl⟩⟩
    go_wp2_with fail
    refine leaves_cons (f := 89) (args := #[.pointer (some ⟨w.heap.size, 0, none⟩)]) (by simp) (by simp [go_sem]) ?_
    refine (catch_idle ⟨w.heap.size, 0, none⟩ _).mono ?_
    rintro e u' w'' ⟨rfl, rfl, rfl⟩
    simp [Leaves, settle, results, Try.results51, go_sem, hc2, hfin]
  · have hc := hb.cell
    have hf := hb.frozen
    have hb2 : Boxed (w1.setCell ⟨w.heap.size, 0, none⟩ (.int .i64 c)) w.heap.size 3 (.int .i64 c) := hb.set _
    have hc2 := hb2.cell
    have hfin : FaultOut w R Rc (.returned (.int .i64 c)) (w1.setCell ⟨w.heap.size, 0, none⟩ (.int .i64 c)) := ⟨w1, hb, .inr ⟨c, rfl, hR, rfl⟩⟩
    unfold fault
    go_wp2_with fail
    refine leaves_cons (f := 89) (args := #[.pointer (some ⟨w.heap.size, 0, none⟩)]) (by simp) (by simp [go_sem]) ?_
    refine (catch_met ⟨w.heap.size, 0, none⟩ c _ [] _ hc hf).mono ?_
    rintro e u' w'' ⟨rfl, rfl, rfl⟩
    simp [Leaves, settle, results, Try.results51, go_sem, hc2, hfin]
end Go.Proofs.Ytmfnepibhhhdcaa
