/- Rows read by the specification: where all lies; a byte, a put. -/
import Derived.Test.YtlpfedhehfbfeaaRlMem
import Derived.BigQuiet
import Derived.Deep.QuietTactic
import Derived.StillTailTactics
namespace Go.Proofs.Ytlpfedhehfbfeaa
open Go.RowKit

/-- the reader of rows -/
def Lr (w : World) (Q : Nat) (s : ByteArray) (A : Nat) (rv : Value) (x y : Nat) (ok : Bool) : Prop := w.heap[Q]? = some (.cells #[.string s, .int .i64 (A : Int), rv, .int .i64 (x : Int), .int .i64 (y : Int), .bool ok] 74 (0, 0))
theorem Lr.cells {w : World} {Q A x y : Nat} {s : ByteArray} {rv : Value} {ok : Bool} (h : Lr w Q s A rv x y ok) : w.cell? ⟨Q, 0, none⟩ = some (.string s) ∧ w.cell? ⟨Q, 1, none⟩ = some (.int .i64 (A : Int)) ∧ w.cell? ⟨Q, 2, none⟩ = some rv ∧ w.cell? ⟨Q, 3, none⟩ = some (.int .i64 (x : Int)) ∧ w.cell? ⟨Q, 4, none⟩ = some (.int .i64 (y : Int)) ∧ w.cell? ⟨Q, 5, none⟩ = some (.bool ok) := by
  refine ⟨?_, ?_, ?_, ?_, ?_, ?_⟩ <;> simp [World.cell?, show w.heap[Q]? = _ from h]
theorem Lr.free {w : World} {Q A x y : Nat} {s : ByteArray} {rv : Value} {ok : Bool} (h : Lr w Q s A rv x y ok) (i : Nat) : w.frozen? ⟨Q, i, none⟩ = false := by
  simp [World.frozen?, show w.heap[Q]? = _ from h]
theorem Lr.set {w : World} {Q A x y A' x' y' i : Nat} {s : ByteArray} {rv rv' u : Value} {ok ok' : Bool} (h : Lr w Q s A rv x y ok) (hi : (#[Value.string s, .int .i64 (A : Int), rv, .int .i64 (x : Int), .int .i64 (y : Int), .bool ok]).setIfInBounds i u = #[Value.string s, .int .i64 (A' : Int), rv', .int .i64 (x' : Int), .int .i64 (y' : Int), .bool ok']) : Lr (w.setCell ⟨Q, i, none⟩ u) Q s A' rv' x' y' ok' := by
  unfold Lr
  rw [setCell_eq_setRow w Q i _ _ (0, 0) _ h, hi]
  exact setRow_heap w Q _ _ _ _ h
/-- where all lies, one apart from the other -/
structure ApQ (Q R : Nat) (G : List Nat) (ro : Option Addr) : Prop where
  qg : Q ∉ G
  rq : R ≠ Q
  ro : G = [] ∨ ro = some ⟨R, 0, none⟩
/-- the state between two operations -/
def Qst (base : Nat) (w : World) (Q R : Nat) (G : List Nat) (W : Nat) (ro : Option Addr) (cp : Nat) (s : ByteArray) (A x y : Nat) (ok : Bool) (g : Rl.Grid) (wr : World) : Prop :=
  Lr wr Q s A (.slice ro G.length cp) x y ok ∧ Gd base wr R G W g ∧ Tn Q Q G w wr
theorem Qst.drewN {base : Nat} {w wr : World} {Q R W cp A x y : Nat} {G : List Nat} {ro : Option Addr} {s : ByteArray} {g : Rl.Grid} {ok : Bool} (h : Qst base w Q R G W ro cp s A x y ok g wr) (q : Nat) : Qst base w Q R G W ro cp s A x y ok g (wr.drewN q) :=
  ⟨h.1, h.2.1.same (Nat.le_refl _) (fun _ => rfl) (fun _ _ => rfl), h.2.2.drewN q⟩
theorem Qst.set {base : Nat} {w wr : World} {Q R W cp A x y A' x' y' i : Nat} {G : List Nat} {ro : Option Addr} {s : ByteArray} {g : Rl.Grid} {ok ok' : Bool} {u : Value} (h : Qst base w Q R G W ro cp s A x y ok g wr) (ap : ApQ Q R G ro) (hi : (#[Value.string s, .int .i64 (A : Int), .slice ro G.length cp, .int .i64 (x : Int), .int .i64 (y : Int), .bool ok]).setIfInBounds i u = #[Value.string s, .int .i64 (A' : Int), .slice ro G.length cp, .int .i64 (x' : Int), .int .i64 (y' : Int), .bool ok']) :
    Qst base w Q R G W ro cp s A' x' y' ok' g (wr.setCell ⟨Q, i, none⟩ u) :=
  ⟨h.1.set hi, h.2.1.same (by rw [World.size_setCell]; exact Nat.le_refl _) (fun _ => Below.heap_setCell wr ⟨Q, i, none⟩ _ R (fun e => ap.rq e)) (fun b hb => Below.heap_setCell wr ⟨Q, i, none⟩ _ b (fun e => ap.qg ((show b = Q from e) ▸ hb))), h.2.2.set (.inl rfl) _⟩
theorem Qst.num {base : Nat} {w wr : World} {Q R W cp A x y : Nat} {G : List Nat} {ro : Option Addr} {s : ByteArray} {g : Rl.Grid} {ok : Bool} (h : Qst base w Q R G W ro cp s A x y ok g wr) (ap : ApQ Q R G ro) (hy : y < G.length) (hx : x < W) (b : Int) : Qst base w Q R G W ro cp s A x y ok (Rl.upd g y x b) (wr.setCell ⟨G[y], x, none⟩ (.int .i64 b)) :=
  ⟨(Below.heap_setCell wr ⟨G[y], x, none⟩ _ Q (fun e => ap.qg ((show Q = G[y] from e) ▸ List.getElem_mem hy))).trans h.1, h.2.1.put hy hx b, h.2.2.set (.inr (List.getElem_mem hy)) _⟩

set_option maxHeartbeats 2000000 in
set_option maxRecDepth 100000 in
theorem qbyte_yes (base : Nat) (w : World) (Q R : Nat) (G : List Nat) (W : Nat) (ro : Option Addr) (cp : Nat) (s : ByteArray) (A x y : Nat) (ok : Bool) (g : Rl.Grid) (wr : World) (h : Qst base w Q R G W ro cp s A x y ok g wr) (ap : ApQ Q R G ro) (hs : s.size ≤ 9000) (hA : A < s.size) :
    Calls Try.prog 49 #[.pointer (some ⟨Q, 0, none⟩)] wr fun e w' => e = .returned (.int .i64 (byteAt s A : Int)) ∧ Qst base w Q R G W ro cp s (A + 1) x y ok g w' := by
  obtain ⟨c0, c1, -, -, -, -⟩ := h.1.cells
  have z1 := h.1.free 1
  have hAi : ¬ (s.size : Int) ≤ (A : Int) := by omega
  have dA : decide ((A : Int) ≥ (s.size : Int)) = false := decide_eq_false (by omega)
  have HST : Hid (Qst base w Q R G W ro cp s A x y ok g wr) := h
  obtain ⟨A1, hA1⟩ : ∃ A1, A1 = A + 1 := ⟨_, rfl⟩
  have HA1 : Hid (A1 = A + 1) := hA1
  have e1 : (A : Int) + 1 = (A1 : Int) := by omega
  have e2 : (A1 : Int) - 1 = (A : Int) := by omega
  have f1 := wrap_i64_nat A1 (by omega)
  have f2 := wrap_i64_nat A (by omega)
  obtain ⟨b, hb⟩ : ∃ b : Nat, b = byteAt s A := ⟨_, rfl⟩
  have HB : Hid (b = byteAt s A) := hb
  have hbs : (s[A]).toNat = b := by rw [hb]; exact byteAt_eq s A hA
  have hbb : b < 256 := by rw [hb]; exact byteAt_lt _ _
  have hAj : (A : Int) < (s.size : Int) := by omega
  rw [← hb, ← hA1]
  clear h hb hA1
  go_enter Try.func49, Try.ntmps49
  go_wp2_with fail
  go_quiet (fail)
  have HS1 : Hid (Qst base w Q R G W ro cp s A x y ok g (wr.drewN nq)) := HST.out.drewN nq
  have c1' : (wr.drewN nq).cell? ⟨Q, 1, none⟩ = some (.int .i64 (A : Int)) := c1
  have z1' : (wr.drewN nq).frozen? ⟨Q, 1, none⟩ = false := z1
  generalize wr.drewN nq = w1 at *
  have HS2 : Hid (Qst base w Q R G W ro cp s A1 x y ok g (w1.setCell ⟨Q, 1, none⟩ (.int .i64 (A1 : Int)))) := HS1.out.set ap rfl
  obtain ⟨d0, d1, -, -, -, -⟩ := HS2.out.1.cells
  clear c0 c1 z1 HST HS1
  go_wp2_with fail
  generalize w1.setCell ⟨Q, 1, none⟩ (.int .i64 (A1 : Int)) = w2 at *
  go_quiet (fail)
  have HF : Hid (Qst base w Q R G W ro cp s A1 x y ok g (w2.drewN nq)) := HS2.out.drewN nq
  go_wp2_with fail
  go_ret
  exact ⟨rfl, HF.out⟩

set_option maxHeartbeats 2000000 in
set_option maxRecDepth 100000 in
theorem qbyte_no (base : Nat) (w : World) (Q R : Nat) (G : List Nat) (W : Nat) (ro : Option Addr) (cp : Nat) (s : ByteArray) (A x y : Nat) (ok : Bool) (g : Rl.Grid) (wr : World) (h : Qst base w Q R G W ro cp s A x y ok g wr) (ap : ApQ Q R G ro) (hA : s.size ≤ A) :
    Calls Try.prog 49 #[.pointer (some ⟨Q, 0, none⟩)] wr fun e w' => e = .returned (.int .i64 0) ∧ Qst base w Q R G W ro cp s A x y false g w' := by
  obtain ⟨c0, c1, -, -, -, c5⟩ := h.1.cells
  have z5 := h.1.free 5
  have hAi : (s.size : Int) ≤ (A : Int) := by omega
  have dA : decide ((A : Int) ≥ (s.size : Int)) = true := decide_eq_true (by omega)
  have HST : Hid (Qst base w Q R G W ro cp s A x y ok g wr) := h
  clear h
  go_enter Try.func49, Try.ntmps49
  go_wp2_with fail
  go_quiet (fail)
  have HS1 : Hid (Qst base w Q R G W ro cp s A x y ok g (wr.drewN nq)) := HST.out.drewN nq
  have c5' : (wr.drewN nq).cell? ⟨Q, 5, none⟩ = some (.bool ok) := c5
  have z5' : (wr.drewN nq).frozen? ⟨Q, 5, none⟩ = false := z5
  generalize wr.drewN nq = w1 at *
  have HS2 : Hid (Qst base w Q R G W ro cp s A x y false g (w1.setCell ⟨Q, 5, none⟩ (.bool false))) := HS1.out.set ap rfl
  clear c0 c1 c5 z5 HST HS1
  go_wp2_with fail
  go_ret
  exact ⟨rfl, HS2.out⟩

/-- how a put ends -/
def QpEnd (base : Nat) (w : World) (Q R : Nat) (G : List Nat) (W : Nat) (ro : Option Addr) (cp : Nat) (s : ByteArray) (A x y : Nat) (g : Rl.Grid) (b : Int) (e : Ending) (w' : World) : Prop :=
  e = .returned (.tuple #[]) ∧ (((y < G.length ∧ x < W) ∧ Qst base w Q R G W ro cp s A (x + 1) y true (Rl.upd g y x b) w') ∨ (¬ (y < G.length ∧ x < W) ∧ Qst base w Q R G W ro cp s A x y false g w'))

set_option maxHeartbeats 4000000 in
set_option maxRecDepth 100000 in
theorem qput_any (base : Nat) (w : World) (Q R : Nat) (G : List Nat) (W : Nat) (ro : Option Addr) (cp : Nat) (s : ByteArray) (A x y : Nat) (g : Rl.Grid) (b : Int) (wr : World) (h : Qst base w Q R G W ro cp s A x y true g wr) (ap : ApQ Q R G ro) (hx9 : x ≤ 10000000) :
    Calls Try.prog 51 #[.pointer (some ⟨Q, 0, none⟩), .int .i64 b] wr (QpEnd base w Q R G W ro cp s A x y g b) := by
  obtain ⟨-, -, c2, c3, c4, c5⟩ := h.1.cells
  have z3 := h.1.free 3
  have z5 := h.1.free 5
  have HST : Hid (Qst base w Q R G W ro cp s A x y true g wr) := h
  obtain ⟨H, hHe⟩ : ∃ H, H = G.length := ⟨_, rfl⟩
  rw [← hHe] at c2
  have HHE : Hid (H = G.length) := hHe
  clear h hHe
  by_cases hy : y < H
  · have dy : decide ((y : Int) ≥ (H : Int)) = false := decide_eq_false (by omega)
    have hyi : (y : Int) < (H : Int) := by omega
    have hyj : ¬ (H : Int) ≤ (y : Int) := by omega
    have hyG : y < G.length := by have := HHE.out; omega
    have hro : ro = some ⟨R, 0, none⟩ := by
      rcases ap.ro with h | h
      · rw [h] at hyG; simp at hyG
      · exact h
    have cr := HST.out.2.1.row y hyG
    obtain ⟨P, hP⟩ : ∃ P, P = G[y] := ⟨_, rfl⟩
    by_cases hx : x < W
    · have dx : decide ((x : Int) ≥ (W : Int)) = false := decide_eq_false (by omega)
      have hxi : (x : Int) < (W : Int) := by omega
      have hxj : ¬ (W : Int) ≤ (x : Int) := by omega
      obtain ⟨cn, zn⟩ := HST.out.2.1.num y hyG x hx
      have HF : Hid (∀ q : Nat, Qst base w Q R G W ro cp s A x y true (Rl.upd g y x b) ((wr.drewN q).setCell ⟨P, x, none⟩ (.int .i64 b))) := fun q => by rw [hP]; exact (HST.out.drewN q).num ap hyG hx b
      rw [← hP] at cr cn zn
      subst hro
      clear hP
      go_enter Try.func51, Try.ntmps51
      go_wp2_with fail
      go_quiet (fail)
      have c2' : (wr.drewN nq).cell? ⟨Q, 2, none⟩ = some (.slice (some ⟨R, 0, none⟩) H cp) := c2
      have c3' : (wr.drewN nq).cell? ⟨Q, 3, none⟩ = some (.int .i64 (x : Int)) := c3
      have c4' : (wr.drewN nq).cell? ⟨Q, 4, none⟩ = some (.int .i64 (y : Int)) := c4
      have cr' : (wr.drewN nq).cell? ⟨R, y, none⟩ = some (.slice (some ⟨P, 0, none⟩) W W) := cr
      have cn' : (wr.drewN nq).cell? ⟨P, x, none⟩ = some (.int .i64 (g y x)) := cn
      have zn' : (wr.drewN nq).frozen? ⟨P, x, none⟩ = false := zn
      have HF1 : Hid (Qst base w Q R G W (some ⟨R, 0, none⟩) cp s A x y true (Rl.upd g y x b) ((wr.drewN nq).drew.setCell ⟨P, x, none⟩ (.int .i64 b))) := HF.out (nq + 1)
      generalize wr.drewN nq = w1 at *
      generalize g y x = u at *
      clear HF HST c2 c3 c4 c5 z3 z5 cr cn zn dx dy
      go_wp2_with fail
      go_still_tail 16, (by kernel_rfl)
      have k1 : (w1.setCell ⟨P, x, none⟩ (.int .i64 b)).cell? ⟨Q, 3, none⟩ = some (.int .i64 (x : Int)) := HF1.out.1.cells.2.2.2.1
      have f1 : (w1.setCell ⟨P, x, none⟩ (.int .i64 b)).frozen? ⟨Q, 3, none⟩ = false := HF1.out.1.free 3
      have HF2 : Hid (QpEnd base w Q R G W (some ⟨R, 0, none⟩) cp s A x y g b (.returned (.tuple #[])) ((w1.drew.setCell ⟨P, x, none⟩ (.int .i64 b)).setCell ⟨Q, 3, none⟩ (.int .i64 ((x : Int) + 1)))) := by
        refine ⟨rfl, .inl ⟨⟨hyG, hx⟩, HF1.out.set ap ?_⟩⟩
        rw [show ((x + 1 : Nat) : Int) = (x : Int) + 1 by omega]; rfl
      clear HF1
      go_wp2_with fail
      go_end0
      exact HF2.out
    · have dx : decide ((x : Int) ≥ (W : Int)) = true := decide_eq_true (by omega)
      have hxi : (W : Int) ≤ (x : Int) := by omega
      rw [← hP] at cr
      subst hro
      clear hP
      go_enter Try.func51, Try.ntmps51
      go_wp2_with fail
      go_quiet (fail)
      have c5' : (wr.drewN nq).cell? ⟨Q, 5, none⟩ = some (.bool true) := c5
      have z5' : (wr.drewN nq).frozen? ⟨Q, 5, none⟩ = false := z5
      have HF : Hid (QpEnd base w Q R G W (some ⟨R, 0, none⟩) cp s A x y g b (.returned (.tuple #[])) ((wr.drewN nq).setCell ⟨Q, 5, none⟩ (.bool false))) := ⟨rfl, .inr ⟨fun h => hx h.2, (HST.out.drewN nq).set ap rfl⟩⟩
      generalize wr.drewN nq = w1 at *
      clear c2 c3 c4 c5 z3 z5 cr HST
      go_wp2_with fail
      go_end0
      exact HF.out
  · have dy : decide ((y : Int) ≥ (H : Int)) = true := decide_eq_true (by omega)
    have hyi : (H : Int) ≤ (y : Int) := by omega
    have hno : ¬ (y < G.length ∧ x < W) := fun h => by have := HHE.out; omega
    go_enter Try.func51, Try.ntmps51
    go_wp2_with fail
    go_quiet (fail)
    have c5' : (wr.drewN nq).cell? ⟨Q, 5, none⟩ = some (.bool true) := c5
    have z5' : (wr.drewN nq).frozen? ⟨Q, 5, none⟩ = false := z5
    have HF : Hid (QpEnd base w Q R G W ro cp s A x y g b (.returned (.tuple #[])) ((wr.drewN nq).setCell ⟨Q, 5, none⟩ (.bool false))) := ⟨rfl, .inr ⟨hno, (HST.out.drewN nq).set ap rfl⟩⟩
    generalize wr.drewN nq = w1 at *
    clear c2 c3 c4 c5 z3 z5 HST hno
    go_wp2_with fail
    go_end0
    exact HF.out
end Go.Proofs.Ytlpfedhehfbfeaa
