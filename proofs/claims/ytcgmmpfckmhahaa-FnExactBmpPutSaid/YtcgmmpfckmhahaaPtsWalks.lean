/- The points of what is seen, row by row: pointsOf and its iterator. -/
import Derived.Test.YtcgmmpfckmhahaaSeqColl
namespace Go.Proofs.Ytcgmmpfckmhahaa
open Go.RowKit Go.Shelf

attribute [local go_sem] Oper.semAt_some

/-- what has come when k points are told -/
def upto (F : Nat → Int) (k : Nat) : List Int := (List.range k).map F
theorem upto_succ (F : Nat → Int) (k : Nat) : upto F (k + 1) = upto F k ++ [F k] := by simp [upto, List.range_succ]
theorem upto_length (F : Nat → Int) (k : Nat) : (upto F k).length = k := by simp [upto]
theorem upto_take (F : Nat → Int) {k n : Nat} (h : k ≤ n) : upto F k <+: upto F n := by
  obtain ⟨d, rfl⟩ := Nat.exists_eq_add_of_le h
  exact ⟨(List.range d).map (fun j => F (k + j)), by simp [upto, List.range_add, Function.comp_def]⟩

/-- a view, told by what its methods answer -/
structure Seen (T : TypeId) (V : Value) (fs : Nat) (rs : Value) (fa : Nat) (ra : Value) (wd hi : Nat) (f : Nat → Nat → Int) (n₀ : Nat) (w : World) : Prop where
  ms : ∀ w', (method 301 T V "loop.example/intarsia/impl.size").run Try.prog w' = .ok (fs, rs) w'
  ns : ∀ w', (nilAhead 301 T V "loop.example/intarsia/impl.size").run Try.prog w' = .ok (some false) w'
  ma : ∀ w', (method 301 T V "loop.example/intarsia/impl.at").run Try.prog w' = .ok (fa, ra) w'
  na : ∀ w', (nilAhead 301 T V "loop.example/intarsia/impl.at").run Try.prog w' = .ok (some false) w'
  es : ∀ args w', (callFunc fs args).run Try.prog w' = .ok (.enter fs args) w'
  ea : ∀ args w', (callFunc fa args).run Try.prog w' = .ok (.enter fa args) w'
  size : ∀ w', Below n₀ w w' → Calls Try.prog fs #[rs] w' fun e w'' => e = .returned (.tuple #[.int .i64 (wd : Int), .int .i64 (hi : Int)]) ∧ Below w'.heap.size w' w''
  at' : ∀ (w' : World) (x y : Nat), x < wd → y < hi → Below n₀ w w' → Calls Try.prog fa #[ra, .int .i64 (x : Int), .int .i64 (y : Int)] w' fun e w'' => e = .returned (.int .i64 (f x y)) ∧ Below w'.heap.size w' w''

theorem grown_of_below {w w' : World} (h : Below w.heap.size w w') : w.grownBy w' none := ⟨h.os, h.tape, h.output, h.size, fun k hk _ => h.block k hk⟩

/-- the points in their order -/
def ptF (wd : Nat) (f : Nat → Nat → Int) (j : Nat) : Int := f (j % wd) (j / wd)
theorem ptF_at {wd x y : Nat} (f : Nat → Nat → Int) (h : x < wd) : ptF wd f (y * wd + x) = f x y := by
  unfold ptF
  rw [Nat.mul_comm y wd, Nat.mul_add_mod, Nat.mod_eq_of_lt h, Nat.mul_add_div (by omega), Nat.div_eq_of_lt h, Nat.add_zero]

end Go.Proofs.Ytcgmmpfckmhahaa
