/- A sheet of rows in memory. -/
import Derived.Test.YtlpfedhehfbfeaaGdMem
import Derived.Test.YtlpfedhehfbfeaaBrWalks
import Derived.StillTailTactics
namespace Go.Proofs.Ytlpfedhehfbfeaa
open Go.RowKit

/-- the sheet: its rows, and where the next byte is put -/
def Sh (w : World) (S : Nat) (rv : Value) (x y : Nat) : Prop := w.heap[S]? = some (.cells #[rv, .int .i64 (x : Int), .int .i64 (y : Int)] 60 (0, 0))
theorem Sh.cells {w : World} {S x y : Nat} {rv : Value} (h : Sh w S rv x y) : w.cell? ⟨S, 0, none⟩ = some rv ∧ w.cell? ⟨S, 1, none⟩ = some (.int .i64 (x : Int)) ∧ w.cell? ⟨S, 2, none⟩ = some (.int .i64 (y : Int)) ∧ w.frozen? ⟨S, 1, none⟩ = false ∧ w.frozen? ⟨S, 2, none⟩ = false := by
  refine ⟨?_, ?_, ?_, ?_, ?_⟩ <;> simp [World.cell?, World.frozen?, show w.heap[S]? = _ from h]
theorem Sh.setX {w : World} {S x y : Nat} {rv : Value} (h : Sh w S rv x y) (x' : Nat) : Sh (w.setCell ⟨S, 1, none⟩ (.int .i64 (x' : Int))) S rv x' y := by
  unfold Sh
  rw [setCell_eq_setRow w S 1 _ _ (0, 0) _ h]
  exact setRow_heap w S _ _ _ _ h
theorem Sh.setY {w : World} {S x y : Nat} {rv : Value} (h : Sh w S rv x y) (y' : Nat) : Sh (w.setCell ⟨S, 2, none⟩ (.int .i64 (y' : Int))) S rv x y' := by
  unfold Sh
  rw [setCell_eq_setRow w S 2 _ _ (0, 0) _ h]
  exact setRow_heap w S _ _ _ _ h

/-- only the reader, the sheet and the rows have turned -/
structure Tn (B S : Nat) (G : List Nat) (w w' : World) : Prop where
  os : w'.os = w.os
  tape : w'.tape = w.tape
  output : w'.output = w.output
  size : w'.heap.size = w.heap.size
  rest : ∀ k, k ≠ B → k ≠ S → k ∉ G → w'.heap[k]? = w.heap[k]?
theorem Tn.refl (B S : Nat) (G : List Nat) (w : World) : Tn B S G w w := ⟨rfl, rfl, rfl, rfl, fun _ _ _ _ => rfl⟩
theorem Tn.trans {B S : Nat} {G : List Nat} {a b c : World} (h : Tn B S G a b) (k : Tn B S G b c) : Tn B S G a c := ⟨k.os.trans h.os, k.tape.trans h.tape, k.output.trans h.output, k.size.trans h.size, fun i h1 h2 h3 => (k.rest i h1 h2 h3).trans (h.rest i h1 h2 h3)⟩
theorem Tn.drewN {B S : Nat} {G : List Nat} {a b : World} (h : Tn B S G a b) (q : Nat) : Tn B S G a (b.drewN q) := ⟨h.os, h.tape, h.output, h.size, h.rest⟩
theorem Tn.set {B S : Nat} {G : List Nat} {a b : World} (h : Tn B S G a b) {k i : Nat} (hk : k = S ∨ k ∈ G) (v : Value) : Tn B S G a (b.setCell ⟨k, i, none⟩ v) :=
  ⟨h.os, h.tape, h.output, by rw [World.size_setCell]; exact h.size, fun j h1 h2 h3 => (Below.heap_setCell b ⟨k, i, none⟩ _ j (fun e => by
    have e2 : j = k := e
    rcases hk with hk | hk
    · exact h2 (e2.trans hk)
    · exact h3 (e2 ▸ hk))).trans (h.rest j h1 h2 h3)⟩
theorem Tn.only {B S : Nat} {G : List Nat} {a b c : World} (h : Tn B S G a b) (o : Only B b c) (hz : c.heap.size = b.heap.size) : Tn B S G a c :=
  ⟨o.below.os.trans h.os, o.below.tape.trans h.tape, o.below.output.trans h.output, hz.trans h.size, fun k h1 h2 h3 => by
    by_cases hk : k < b.heap.size
    · exact (o.rest k hk h1).trans (h.rest k h1 h2 h3)
    · have e1 : c.heap[k]? = none := Array.getElem?_eq_none (by omega)
      have e2 : b.heap[k]? = none := Array.getElem?_eq_none (by omega)
      rw [e1, ← e2]; exact h.rest k h1 h2 h3⟩

/-- where all lies, one apart from the other -/
structure Apart (B S R : Nat) (G : List Nat) (ro : Option Addr) : Prop where
  bs : B ≠ S
  bg : B ∉ G
  sg : S ∉ G
  rb : R ≠ B
  rs : R ≠ S
  ro : G = [] ∨ ro = some ⟨R, 0, none⟩

/-- the state between two operations -/
def Rst (base : Nat) (w : World) (B S R : Nat) (G : List Nat) (W : Nat) (ro : Option Addr) (cp : Nat) (s : ByteArray) (A x y : Nat) (g : Rl.Grid) (wr : World) : Prop :=
  Br wr B s A ∧ Sh wr S (.slice ro G.length cp) x y ∧ Gd base wr R G W g ∧ Tn B S G w wr
theorem Rst.drewN {base : Nat} {w wr : World} {B S R W cp A x y : Nat} {G : List Nat} {ro : Option Addr} {s : ByteArray} {g : Rl.Grid} (h : Rst base w B S R G W ro cp s A x y g wr) (q : Nat) : Rst base w B S R G W ro cp s A x y g (wr.drewN q) :=
  ⟨h.1, h.2.1, h.2.2.1.same (Nat.le_refl _) (fun _ => rfl) (fun _ _ => rfl), h.2.2.2.drewN q⟩
/-- the reader went on -/
theorem Rst.read {base : Nat} {w wr w2 : World} {B S R W cp A A' x y : Nat} {G : List Nat} {ro : Option Addr} {s : ByteArray} {g : Rl.Grid} (h : Rst base w B S R G W ro cp s A x y g wr) (ap : Apart B S R G ro) (o : Only B wr w2) (hz : w2.heap.size = wr.heap.size) (hb : Br w2 B s A') : Rst base w B S R G W ro cp s A' x y g w2 := by
  obtain ⟨h1, h2, h3, h4⟩ := h
  refine ⟨hb, (o.rest S (Array.getElem?_eq_some_iff.1 h2).1 (fun e => ap.bs e.symm)).trans h2, h3.same (by omega) (fun hl => ?_) (fun b hb => o.rest b (h3.low b hb).2 (fun e => ap.bg (e ▸ hb))), h4.only o hz⟩
  exact o.rest R (World.block_lt_of_cell? _ _ (h3.row 0 hl)) ap.rb
/-- the place went on -/
theorem Rst.setX {base : Nat} {w wr : World} {B S R W cp A x y : Nat} {G : List Nat} {ro : Option Addr} {s : ByteArray} {g : Rl.Grid} (h : Rst base w B S R G W ro cp s A x y g wr) (ap : Apart B S R G ro) (x' : Nat) : Rst base w B S R G W ro cp s A x' y g (wr.setCell ⟨S, 1, none⟩ (.int .i64 (x' : Int))) :=
  ⟨(Below.heap_setCell wr ⟨S, 1, none⟩ _ B (fun e => ap.bs e)).trans h.1, h.2.1.setX x', h.2.2.1.same (by rw [World.size_setCell]; exact Nat.le_refl _) (fun _ => Below.heap_setCell wr ⟨S, 1, none⟩ _ R (fun e => ap.rs e)) (fun b hb => Below.heap_setCell wr ⟨S, 1, none⟩ _ b (fun e => ap.sg ((show b = S from e) ▸ hb))), h.2.2.2.set (.inl rfl) _⟩
theorem Rst.setY {base : Nat} {w wr : World} {B S R W cp A x y : Nat} {G : List Nat} {ro : Option Addr} {s : ByteArray} {g : Rl.Grid} (h : Rst base w B S R G W ro cp s A x y g wr) (ap : Apart B S R G ro) (y' : Nat) : Rst base w B S R G W ro cp s A x y' g (wr.setCell ⟨S, 2, none⟩ (.int .i64 (y' : Int))) :=
  ⟨(Below.heap_setCell wr ⟨S, 2, none⟩ _ B (fun e => ap.bs e)).trans h.1, h.2.1.setY y', h.2.2.1.same (by rw [World.size_setCell]; exact Nat.le_refl _) (fun _ => Below.heap_setCell wr ⟨S, 2, none⟩ _ R (fun e => ap.rs e)) (fun b hb => Below.heap_setCell wr ⟨S, 2, none⟩ _ b (fun e => ap.sg ((show b = S from e) ▸ hb))), h.2.2.2.set (.inl rfl) _⟩
/-- a number put -/
theorem Rst.num {base : Nat} {w wr : World} {B S R W cp A x y : Nat} {G : List Nat} {ro : Option Addr} {s : ByteArray} {g : Rl.Grid} (h : Rst base w B S R G W ro cp s A x y g wr) (ap : Apart B S R G ro) (hy : y < G.length) (hx : x < W) (b : Int) : Rst base w B S R G W ro cp s A x y (Rl.upd g y x b) (wr.setCell ⟨G[y], x, none⟩ (.int .i64 b)) :=
  ⟨(Below.heap_setCell wr ⟨G[y], x, none⟩ _ B (fun e => ap.bg ((show B = G[y] from e) ▸ List.getElem_mem hy))).trans h.1, (Below.heap_setCell wr ⟨G[y], x, none⟩ _ S (fun e => ap.sg ((show S = G[y] from e) ▸ List.getElem_mem hy))).trans h.2.1, h.2.2.1.put hy hx b, h.2.2.2.set (.inr (List.getElem_mem hy)) _⟩

/-- how a put ends -/
def PtEndR (base : Nat) (w : World) (B S R : Nat) (G : List Nat) (W : Nat) (ro : Option Addr) (cp : Nat) (s : ByteArray) (A x y : Nat) (g : Rl.Grid) (b : Int) (e : Ending) (w' : World) : Prop :=
  ((y < G.length ∧ x < W) ∧ e = .returned (.tuple #[]) ∧ Rst base w B S R G W ro cp s A (x + 1) y (Rl.upd g y x b) w') ∨ (¬ (y < G.length ∧ x < W) ∧ e = fault 1 ∧ Tn B S G w w')
end Go.Proofs.Ytlpfedhehfbfeaa
