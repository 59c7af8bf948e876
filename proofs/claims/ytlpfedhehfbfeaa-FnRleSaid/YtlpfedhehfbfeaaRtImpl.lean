/- RunPut of the program. -/
import Derived.Test.YtlpfedhehfbfeaaRnIterI
import Derived.Test.YtlpfedhehfbfeaaRnWent
import Derived.Test.YtlpfedhehfbfeaaRoundReg
import Derived.Test.YtlpfedhehfbfeaaRtText
import Derived.Maps.AppendAt
namespace Go.Proofs.Ytlpfedhehfbfeaa
open Go.RowKit Go.Shelf

attribute [local go_sem] Oper.semAt_some

/-- the list as it came: in a block below the call's own, or empty -/
def CameIn (w : World) (a : Option Addr) (b off : Nat) (l : List Int) : Prop := (b = w.heap.size ∧ l = []) ∨ (b < w.heap.size ∧ a = some ⟨b, off, none⟩ ∧ ∀ i (h : i < l.length), w.cell? ⟨b, off + i, none⟩ = some (.int .i64 l[i]))
theorem CameIn.of {w : World} {a : Option Addr} {l : List Int} (h : Ints w a l) : ∃ b off, CameIn w a b off l := by
  rcases h with rfl | ⟨b, off, rfl, hb, hc⟩
  · exact ⟨w.heap.size, 0, .inl ⟨rfl, rfl⟩⟩
  · exact ⟨b, off, .inr ⟨hb, rfl, hc⟩⟩
theorem CameIn.lies {w W : World} {a : Option Addr} {b off : Nat} {l : List Int} (h : CameIn w a b off l) (hb : Below w.heap.size w W) (hz : w.heap.size < W.heap.size) : RI.Lies W b off l := by
  rcases h with ⟨rfl, rfl⟩ | ⟨h1, _, h3⟩
  · exact ⟨hz, fun i hi => by simp at hi⟩
  · exact ⟨by omega, fun i hi => (hb.cell (p := ⟨b, off + i, none⟩) h1).trans (h3 i hi)⟩
theorem RI.Lies.take {w : World} {b off : Nat} {l : List Int} (h : RI.Lies w b off l) (t : Nat) : b < w.heap.size ∧ ∀ i (hi : i < (l.take t).length), w.cell? ⟨b, off + i, none⟩ = some (.int .i64 (l.take t)[i]) :=
  ⟨h.1, fun i hi => by
    have h1 : i < l.length := by rw [List.length_take] at hi; omega
    rw [List.getElem_take]; exact h.2 i h1⟩
theorem CameIn.le {w : World} {a : Option Addr} {b off : Nat} {l : List Int} (h : CameIn w a b off l) : b ≤ w.heap.size := by
  rcases h with ⟨rfl, _⟩ | ⟨h1, _⟩ <;> omega
theorem CameIn.ptr {w : World} {a : Option Addr} {b off : Nat} {l : List Int} (h : CameIn w a b off l) : l.length = 0 ∨ a = some ⟨b, off, none⟩ := by
  rcases h with ⟨_, rfl⟩ | ⟨_, h1, _⟩
  · exact .inl rfl
  · exact .inr h1

/-- between two rounds: the text so far in a row of the call's own -/
def RtI (w : World) (S : Nat) (l : List Int) (N : Nat) (pre : List (RI.St N 128)) (W : World) : Prop :=
  (∃ v, Boxed W (w.heap.size + 1) 22 v ∧ OwnT W (w.heap.size + 5) v (Rt.flat S l (pre.map Subtype.val)).length (Rt.flat S l (pre.map Subtype.val))) ∧
  Boxed W w.heap.size 3 (.int .i64 (S : Int)) ∧ Below w.heap.size w W ∧ w.heap.size + 5 ≤ W.heap.size

theorem rtI_own (w : World) (S : Nat) (l : List Int) (N B : Nat) (hB : w.heap.size + 5 ≤ B) : OwnFrom B (RtI w S l N) := by
  rintro pre X Y row ⟨⟨v, hv, hr⟩, hZ, hb, hs⟩ hg hrow
  have hne : ∀ k, k < w.heap.size + 5 → some k ≠ row := fun k hk e => by have := (hrow k e.symm).1; omega
  refine ⟨⟨v, hv.kept hg (hne _ (by omega)), World.ownsRow.kept (show World.ownsRow _ _ _ _ _ _ _ from hr) hg ?_⟩, hZ.kept hg (hne _ (by omega)), hb.grown hg hb.size (fun k e => by have := (hrow k e).1; omega), Nat.le_trans hs hg.size⟩
  by_cases h0 : v.ownBlock = none
  · exact .inl h0
  · refine .inr (fun e => ?_)
    rcases (show World.ownsRow _ _ _ _ _ _ _ from hr).2 with ⟨rfl, _⟩ | ⟨g, cap, cur, rfl, _, h2, _⟩
    · exact h0 rfl
    · obtain ⟨_, o, ho, hc⟩ := hrow g e.symm
      rw [h2] at ho; cases ho; cases hc

theorem rt_end {w : World} {S : Nat} {l : List Int} {N : Nat} {pre : List (RI.St N 128)} {x : RI.St N 128} {W W' : World} {T : TypeId} {v : Value} {m : Nat} {q : List UInt8} (hI : RtI w S l N pre W) (hw : Went (w.heap.size + 1) (w.heap.size + 5) T W W')
    (hb : Boxed W' (w.heap.size + 1) 22 v) (hr : OwnT W' (w.heap.size + 5) v m q) (hq : q = Rt.flat S l (pre.map Subtype.val) ++ Rt.piece S l x.1) (B : Nat) : KeepsFrom B W W' ∧ Beside (w.heap.size + 1) (w.heap.size + 5) W W' ∧ RtI w S l N (pre ++ [x]) W' := by
  obtain ⟨_, hZ, hbel, hs⟩ := hI
  refine ⟨hw.ko.from _, hw.bs, ⟨v, hb, ?_⟩, (hw.bs.2 w.heap.size (by omega) (by omega)).trans hZ, hbel.trans (hw.bl.mono (by omega)), Nat.le_trans hs hw.bs.1⟩
  rw [List.map_append, List.map_singleton, Rt.flat_snoc, ← hq, hr.len]
  exact hr

end Go.Proofs.Ytlpfedhehfbfeaa
