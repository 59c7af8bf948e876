/- A picture that is drawn: its box in memory, beside the reader. -/
import Derived.Test.YtjiogneidioknaaDrawRow
import Derived.Test.YtjiogneidioknaaAppInts
import Derived.Test.YtjiogneidioknaaBlankSpec
import Derived.Laws.Tables
namespace Go.Proofs.Ytjiogneidioknaa
open Go.RowKit

def Z6 : Array Value := #[.int .i64 0, .int .i64 0, .int .i64 0, .int .i64 0, .slice none 0 0, .slice none 0 0]

/-- some picture, its two lists new -/
def PicOut (lo : Nat) (e : Ending) (w' : World) : Prop := ∃ (k d wd hi : Nat) (a : Option Addr) (n c : Nat) (cs : List Int) (b : Option Addr) (m cc : Nat) (ps : List Int), e = .returned (.agg #[.int .i64 k, .int .i64 d, .int .i64 wd, .int .i64 hi, .slice a n c, .slice b m cc]) ∧ OwnI w' lo (.slice a n c) n cs ∧ OwnI w' lo (.slice b m cc) m ps ∧ m = wd * hi ∧ 1 ≤ wd ∧ wd ≤ 20 ∧ 1 ≤ hi ∧ hi ≤ 20 ∧ n ≤ 256 ∧ 1 ≤ k ∧ k ≤ 4 ∧ d ≤ 32

/-- what a drawing of a picture keeps: the reader, the result's box, the picture's own box behind it -/
structure LI (w wc : World) (B M q : Nat) (k d wd hi : Int) (v4 v5 : Value) : Prop where
  rd : RdAt wc B q
  only : Only B w wc
  res : wc.heap[w.heap.size]? = some (.cells #[.int .i64 0, .int .i64 0, .int .i64 0, .int .i64 0, .slice none 0 0, .slice none 0 0] 26 (0, 0))
  box : wc.heap[M]? = some (.cells #[.int .i64 k, .int .i64 d, .int .i64 wd, .int .i64 hi, v4, v5] 26 (0, 0))
  lt : B < w.heap.size
  hM : w.heap.size < M

theorem lt_of_block {w : World} {b : Nat} {o : Obj} (h : w.heap[b]? = some o) : b < w.heap.size := (Array.getElem?_eq_some_iff.1 h).1

theorem LI.pick {w wc w' : World} {B M q : Nat} {k d wd hi : Int} {v4 v5 : Value} (h : LI w wc B M q k d wd hi v4 v5) (hr : RdAt w' B (q + 1)) (ho : Only B wc w') : LI w w' B M (q + 1) k d wd hi v4 v5 :=
  ⟨hr, h.only.trans ho, (ho.rest _ (lt_of_block h.res) (by have := h.lt; have := h.hM; omega)).trans h.res, (ho.rest _ (lt_of_block h.box) (by have := h.lt; have := h.hM; omega)).trans h.box, h.lt, h.hM⟩

theorem LI.alloc {w wc : World} {B M q : Nat} {k d wd hi : Int} {v4 v5 : Value} (h : LI w wc B M q k d wd hi v4 v5) (o : Obj) : LI w (wc.alloc o) B M q k d wd hi v4 v5 :=
  ⟨h.rd.alloc o, h.only.alloc h.rd.lt o, (heap_alloc_old _ _ (lt_of_block h.res)).trans h.res, (heap_alloc_old _ _ (lt_of_block h.box)).trans h.box, h.lt, h.hM⟩

theorem setCell_block {w : World} {g i : Nat} {cur : Array Value} {t : TypeId} {fr : Nat × Nat} (h : w.heap[g]? = some (.cells cur t fr)) (v : Value) : (w.setCell ⟨g, i, none⟩ v).heap[g]? = some (.cells (cur.setIfInBounds i v) t fr) := by
  rw [setCell_eq_setRow w g i cur t fr v h]; exact setRow_heap _ _ _ _ _ _ h

theorem Only.setM {B M i : Nat} {w a : World} {v : Value} (h : Only B w a) (hB : B < w.heap.size) (hM : w.heap.size ≤ M) : Only B w (a.setCell ⟨M, i, none⟩ v) :=
  h.grown hB ((Below.refl _ _).setCell (p := ⟨M, i, none⟩) hM v)
theorem RdAt.set {B M i q : Nat} {a : World} {v : Value} (h : RdAt a B q) (hM : B < M) : RdAt (a.setCell ⟨M, i, none⟩ v) B q :=
  h.kept ((Below.refl _ _).setCell (p := ⟨M, i, none⟩) hM v)

theorem LI.setd {w wc : World} {B M q : Nat} {k d wd hi : Int} {v4 v5 : Value} (h : LI w wc B M q k d wd hi v4 v5) (x : Int) : LI w (wc.setCell ⟨M, 1, none⟩ (.int .i64 x)) B M q k x wd hi v4 v5 :=
  ⟨h.rd.set (by have := h.lt; have := h.hM; omega), h.only.setM h.lt (by have := h.hM; omega), (Below.heap_setCell wc ⟨M, 1, none⟩ _ _ (by have := h.hM; show w.heap.size ≠ M; omega)).trans h.res, setCell_block h.box _, h.lt, h.hM⟩
theorem LI.setw {w wc : World} {B M q : Nat} {k d wd hi : Int} {v4 v5 : Value} (h : LI w wc B M q k d wd hi v4 v5) (x : Int) : LI w (wc.setCell ⟨M, 2, none⟩ (.int .i64 x)) B M q k d x hi v4 v5 :=
  ⟨h.rd.set (by have := h.lt; have := h.hM; omega), h.only.setM h.lt (by have := h.hM; omega), (Below.heap_setCell wc ⟨M, 2, none⟩ _ _ (by have := h.hM; show w.heap.size ≠ M; omega)).trans h.res, setCell_block h.box _, h.lt, h.hM⟩
theorem LI.seth {w wc : World} {B M q : Nat} {k d wd hi : Int} {v4 v5 : Value} (h : LI w wc B M q k d wd hi v4 v5) (x : Int) : LI w (wc.setCell ⟨M, 3, none⟩ (.int .i64 x)) B M q k d wd x v4 v5 :=
  ⟨h.rd.set (by have := h.lt; have := h.hM; omega), h.only.setM h.lt (by have := h.hM; omega), (Below.heap_setCell wc ⟨M, 3, none⟩ _ _ (by have := h.hM; show w.heap.size ≠ M; omega)).trans h.res, setCell_block h.box _, h.lt, h.hM⟩
theorem LI.set4 {w wc : World} {B M q : Nat} {k d wd hi : Int} {v4 v5 : Value} (h : LI w wc B M q k d wd hi v4 v5) (x : Value) : LI w (wc.setCell ⟨M, 4, none⟩ x) B M q k d wd hi x v5 :=
  ⟨h.rd.set (by have := h.lt; have := h.hM; omega), h.only.setM h.lt (by have := h.hM; omega), (Below.heap_setCell wc ⟨M, 4, none⟩ _ _ (by have := h.hM; show w.heap.size ≠ M; omega)).trans h.res, setCell_block h.box _, h.lt, h.hM⟩
theorem LI.set5 {w wc : World} {B M q : Nat} {k d wd hi : Int} {v4 v5 : Value} (h : LI w wc B M q k d wd hi v4 v5) (x : Value) : LI w (wc.setCell ⟨M, 5, none⟩ x) B M q k d wd hi v4 x :=
  ⟨h.rd.set (by have := h.lt; have := h.hM; omega), h.only.setM h.lt (by have := h.hM; omega), (Below.heap_setCell wc ⟨M, 5, none⟩ _ _ (by have := h.hM; show w.heap.size ≠ M; omega)).trans h.res, setCell_block h.box _, h.lt, h.hM⟩

theorem LI.below {w wc w' : World} {B M q : Nat} {k d wd hi : Int} {v4 v5 : Value} (h : LI w wc B M q k d wd hi v4 v5) (hb : Below (M + 1) wc w') : LI w w' B M q k d wd hi v4 v5 :=
  ⟨h.rd.kept (hb.mono (by have := h.lt; have := h.hM; omega)), h.only.grown h.lt (hb.mono (by have := h.hM; omega)), (hb.block _ (by have := h.hM; omega)).trans h.res, (hb.block _ (by omega)).trans h.box, h.lt, h.hM⟩
theorem LI.drew {w wc : World} {B M q : Nat} {k d wd hi : Int} {v4 v5 : Value} (h : LI w wc B M q k d wd hi v4 v5) : LI w wc.drew B M q k d wd hi v4 v5 :=
  ⟨h.rd.drew, ⟨h.only.below.drew, h.only.rest⟩, h.res, h.box, h.lt, h.hM⟩

theorem OwnI.set {w : World} {lo n M i : Nat} {v x : Value} {l : List Int} (h : OwnI w lo v n l) (hM : M < lo) : OwnI (w.setCell ⟨M, i, none⟩ x) lo v n l :=
  h.same (fun k _ hk => Below.heap_setCell w ⟨M, i, none⟩ _ _ (by show k ≠ M; omega))
theorem OwnI.old {w : World} {lo n : Nat} {v : Value} {l : List Int} (h : OwnI w lo v n l) (o : Obj) : OwnI (w.alloc o) lo v n l :=
  h.same (fun _ hk _ => heap_alloc_old w o hk)

theorem OwnI.row {w : World} {lo n M : Nat} {v : Value} {l : List Int} (h : OwnI w lo v n l) (hM : M < lo) (cs : Array Value) : OwnI (w.setRow M cs) lo v n l :=
  h.same (fun k _ hk => setRow_other w M k cs (by omega))

theorem ints_one (w : World) (x : Int) : Ints (w.alloc (.cells #[.int .i64 x] 3)) (some ⟨w.heap.size, 0, none⟩) [x] := by
  have hh := heap_alloc_new w (.cells #[.int .i64 x] 3)
  refine .inr ⟨w.heap.size, 0, rfl, by simp, fun i hi => ?_⟩
  have : i = 0 := by simp at hi; omega
  subst this
  simp only [World.cell?, Nat.add_zero, hh]
  rfl

/-- the colours, while they are drawn -/
structure CX (w wr : World) (B M q : Nat) (k d wd hi : Int) (v4 : Value) (n : Nat) (cs : List Int) : Prop where
  li : LI w wr B M q k d wd hi v4 (.slice none 0 0)
  own : OwnI wr (M + 1) v4 n cs
theorem CX.drew {w wr : World} {B M q n : Nat} {k d wd hi : Int} {v4 : Value} {cs : List Int} (h : CX w wr B M q k d wd hi v4 n cs) : CX w wr.drew B M q k d wd hi v4 n cs := ⟨h.li.drew, h.own⟩
theorem CX.pick {w wr w' : World} {B M q n : Nat} {k d wd hi : Int} {v4 : Value} {cs : List Int} (h : CX w wr B M q k d wd hi v4 n cs) (hr : RdAt w' B (q + 1)) (ho : Only B wr w') : CX w w' B M (q + 1) k d wd hi v4 n cs :=
  ⟨h.li.pick hr ho, h.own.only ho (by have := h.li.lt; have := h.li.hM; omega)⟩
theorem CX.alloc {w wr : World} {B M q n : Nat} {k d wd hi : Int} {v4 : Value} {cs : List Int} (h : CX w wr B M q k d wd hi v4 n cs) (o : Obj) : CX w (wr.alloc o) B M q k d wd hi v4 n cs := ⟨h.li.alloc o, h.own.old o⟩
theorem CX.grow {w wr w4 : World} {B M q n : Nat} {k d wd hi : Int} {v4 : Value} {cs : List Int} (h : CX w wr B M q k d wd hi v4 n cs) (hG : wr.grownBy w4 v4.ownBlock) : LI w w4 B M q k d wd hi v4 (.slice none 0 0) :=
  h.li.below ((Below.refl (M + 1) wr).grown hG (lt_of_block h.li.box) (fun c hc => (World.ownsRow.lt h.own c hc).1))

/-- the points, while they are drawn: what the loop found beside them is as it was -/
structure PX (w wc wr : World) (B M q : Nat) (k d wd hi : Int) (v4 v5 : Value) (n : Nat) (ps : List Int) : Prop where
  li : LI w wr B M q k d wd hi v4 v5
  own : OwnI wr wc.heap.size v5 n ps
  keep : ∀ j, j < wc.heap.size → M < j → wr.heap[j]? = wc.heap[j]?
  size : wc.heap.size ≤ wr.heap.size
  hc : M < wc.heap.size
theorem PX.pick {w wc wr w' : World} {B M q n : Nat} {k d wd hi : Int} {v4 v5 : Value} {ps : List Int} (h : PX w wc wr B M q k d wd hi v4 v5 n ps) (hr : RdAt w' B (q + 1)) (ho : Only B wr w') : PX w wc w' B M (q + 1) k d wd hi v4 v5 n ps :=
  ⟨h.li.pick hr ho, h.own.only ho (by have := h.li.lt; have := h.li.hM; have := h.hc; omega), fun j hj hM => (ho.rest j (Nat.lt_of_lt_of_le hj h.size) (by have := h.li.lt; have := h.li.hM; omega)).trans (h.keep j hj hM), Nat.le_trans h.size ho.below.size, h.hc⟩
theorem PX.push {w wc wr w4 : World} {B M q n cy : Nat} {k d wd hi : Int} {v4 v5 : Value} {ps : List Int} {y : Option Addr} {o : Obj} {x : Int} (h : PX w wc wr B M q k d wd hi v4 v5 n ps) (hO : OwnI w4 wc.heap.size (.slice y (n + 1) cy) (n + 1) (ps ++ [x])) (hG : (wr.alloc o).grownBy w4 v5.ownBlock) :
    LI w w4 B M q k d wd hi v4 v5 ∧ PX w wc (w4.setCell ⟨M, 5, none⟩ (.slice y (n + 1) cy)) B M q k d wd hi v4 (.slice y (n + 1) cy) (n + 1) (ps ++ [x]) := by
  have hown := (h.own.old o)
  have hlt := World.ownsRow.lt hown
  have b0 : Below wc.heap.size (wr.alloc o) w4 := (Below.refl _ _).grown hG (Nat.le_trans h.size (by simp)) (fun c hc => (hlt c hc).1)
  have l4 : LI w w4 B M q k d wd hi v4 v5 := (h.li.alloc o).below (b0.mono h.hc)
  refine ⟨l4, l4.set5 _, hO.set h.hc, fun j hj hM => ?_, ?_, h.hc⟩
  · rw [Below.heap_setCell w4 ⟨M, 5, none⟩ _ _ (by show j ≠ M; omega), b0.block j hj, heap_alloc_old wr o (Nat.lt_of_lt_of_le hj h.size)]
    exact h.keep j hj hM
  · have := b0.size; have := h.size; simp at *; omega
end Go.Proofs.Ytjiogneidioknaa
