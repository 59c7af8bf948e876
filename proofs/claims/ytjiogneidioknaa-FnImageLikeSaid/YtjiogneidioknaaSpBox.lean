/- A picture that is spoilt: its box, its two lists, beside the reader. -/
import Derived.Test.YtjiogneidioknaaImgCopy
import Derived.Test.YtjiogneidioknaaAppOne
namespace Go.Proofs.Ytjiogneidioknaa
open Go.RowKit

/-- the slice's cells read as the list, in a block from lo on -/
def IntsFrom (w : World) (lo : Nat) (a : Option Addr) (zs : List Int) : Prop :=
  zs = [] ∨ ∃ b off, a = some ⟨b, off, none⟩ ∧ lo ≤ b ∧ b < w.heap.size ∧ ∀ i (h : i < zs.length), w.cell? ⟨b, off + i, none⟩ = some (.int .i64 zs[i])
theorem IntsFrom.ints {w : World} {lo : Nat} {a : Option Addr} {zs : List Int} (h : IntsFrom w lo a zs) : Ints w a zs := by
  rcases h with e | ⟨b, off, rfl, _, h2, h3⟩
  · exact .inl e
  · exact .inr ⟨b, off, rfl, h2, h3⟩
theorem IntsFrom.row {w : World} {lo M : Nat} {a : Option Addr} {zs : List Int} (h : IntsFrom w lo a zs) (hM : M < lo) (cs : Array Value) : IntsFrom (w.setRow M cs) lo a zs := by
  rcases h with e | ⟨b, off, rfl, h1, h2, h3⟩
  · exact .inl e
  · refine .inr ⟨b, off, rfl, h1, by simpa using h2, fun i hi => ?_⟩
    rw [World.cell?_of_block (w := w) (a := ⟨b, off + i, none⟩) (setRow_other w M b cs (by omega))]; exact h3 i hi
theorem IntsFrom.set {w : World} {lo M i : Nat} {a : Option Addr} {zs : List Int} {v : Value} (h : IntsFrom w lo a zs) (hM : ∀ b off, a = some ⟨b, off, none⟩ → b ≠ M) : IntsFrom (w.setCell ⟨M, i, none⟩ v) lo a zs := by
  rcases h with e | ⟨b, off, rfl, h1, h2, h3⟩
  · exact .inl e
  · refine .inr ⟨b, off, rfl, h1, by simpa using h2, fun j hj => ?_⟩
    rw [World.cell?_of_block (w := w) (a := ⟨b, off + j, none⟩) (Below.heap_setCell w ⟨M, i, none⟩ v b (hM b off rfl))]; exact h3 j hj
theorem IntsFrom.only {w w' : World} {lo B : Nat} {a : Option Addr} {zs : List Int} (h : IntsFrom w lo a zs) (ho : Only B w w') (hB : B < lo) : IntsFrom w' lo a zs := by
  rcases h with e | ⟨b, off, rfl, h1, h2, h3⟩
  · exact .inl e
  · exact .inr ⟨b, off, rfl, h1, Nat.lt_of_lt_of_le h2 ho.below.size, fun i hi => (ho.cell b (off + i) h2 (by omega)).trans (h3 i hi)⟩
theorem OwnI.from {w : World} {lo n c : Nat} {a : Option Addr} {zs : List Int} (h : OwnI w lo (.slice a n c) n zs) : IntsFrom w lo a zs := by
  obtain ⟨ao, cap, e, hO⟩ := h.owns
  cases e
  rcases hO with e | ⟨b, rfl, h1, h2, h3⟩
  · exact .inl e
  · exact .inr ⟨b, 0, rfl, h1, h2, fun i hi => by rw [Nat.zero_add]; exact (h3 i hi).1⟩
theorem OwnI.tail {w : World} {lo n c : Nat} {a : Option Addr} {zs : List Int} (h : OwnI w lo (.slice a (n + 1) c) (n + 1) zs) : ∃ g, a = some ⟨g, 0, none⟩ ∧ IntsFrom w lo (some ⟨g, 1, none⟩) zs.tail ∧ n + 1 ≤ c := by
  have hl := h.len
  have hc : n + 1 ≤ c := by
    rcases h.2 with ⟨e, h0⟩ | ⟨g, cap', cur, e, _, _, h1, _⟩
    · omega
    · cases e; exact h1
  rcases h.from with e | ⟨b, off, rfl, h1, h2, h3⟩
  · rw [e] at hl; simp at hl
  · obtain ⟨ao, cap, e, hO⟩ := h.owns
    cases e
    rcases hO with e | ⟨g, e, _, _, _⟩
    · rw [e] at hl; simp at hl
    · cases e
      refine ⟨b, rfl, .inr ⟨b, 1, rfl, h1, h2, fun i hi => ?_⟩, hc⟩
      rw [List.length_tail] at hi
      have := h3 (i + 1) (by omega)
      rw [show 1 + i = 0 + (i + 1) by omega, this]
      simp

theorem OwnI.cap {w : World} {lo n c : Nat} {a : Option Addr} {zs : List Int} (h : OwnI w lo (.slice a n c) n zs) : n ≤ c := by
  rcases h.2 with ⟨e, h0⟩ | ⟨g, cap', cur, e, _, _, h1, _⟩
  · cases e; omega
  · cases e; exact h1

/-- some picture -/
def AnyOut (lo : Nat) (e : Ending) (w' : World) : Prop := ∃ (k d wd hi : Int) (a : Option Addr) (n c : Nat) (cs : List Int) (b : Option Addr) (m cc : Nat) (ps : List Int),
  e = .returned (.agg #[.int .i64 k, .int .i64 d, .int .i64 wd, .int .i64 hi, .slice a n c, .slice b m cc]) ∧ IntsFrom w' lo a cs ∧ cs.length = n ∧ n ≤ 1000 ∧ n ≤ c ∧ IntsFrom w' lo b ps ∧ ps.length = m ∧ m ≤ 1000 ∧ m ≤ cc ∧
  0 ≤ k ∧ k ≤ 100 ∧ 0 ≤ d ∧ d ≤ 100 ∧ 0 ≤ wd ∧ wd ≤ 100 ∧ 0 ≤ hi ∧ hi ≤ 100

/-- what the spoiling of a picture keeps -/
structure SX (w wc : World) (B X q : Nat) (k d wd hi : Int) (v4 : Value) (n : Nat) (cs : List Int) (v5 : Value) (m : Nat) (ps : List Int) : Prop where
  rd : RdAt wc B q
  only : Only B w wc
  res : wc.heap[w.heap.size + 1]? = some (.cells #[.int .i64 0, .int .i64 0, .int .i64 0, .int .i64 0, .slice none 0 0, .slice none 0 0] 26 (0, 0))
  box : wc.heap[X]? = some (.cells #[.int .i64 k, .int .i64 d, .int .i64 wd, .int .i64 hi, v4, v5] 26 (0, 0))
  lt : B < w.heap.size
  hX : w.heap.size + 2 ≤ X
  o4 : OwnI wc (w.heap.size + 2) v4 n cs
  o5 : OwnI wc (w.heap.size + 2) v5 m ps
  f4 : v4.ownBlock ≠ some X
  f5 : v5.ownBlock ≠ some X
  ne : ∀ g, v4.ownBlock = some g → v5.ownBlock ≠ some g

theorem SX.pick {w wc w' : World} {B X q n m : Nat} {k d wd hi : Int} {v4 v5 : Value} {cs ps : List Int} (h : SX w wc B X q k d wd hi v4 n cs v5 m ps) (hr : RdAt w' B (q + 1)) (ho : Only B wc w') : SX w w' B X (q + 1) k d wd hi v4 n cs v5 m ps :=
  { h with rd := hr, only := h.only.trans ho, res := (ho.rest _ (lt_of_block h.res) (by have := h.lt; omega)).trans h.res, box := (ho.rest _ (lt_of_block h.box) (by have := h.lt; have := h.hX; omega)).trans h.box, o4 := h.o4.only ho (by have := h.lt; omega), o5 := h.o5.only ho (by have := h.lt; omega) }
theorem SX.alloc {w wc : World} {B X q n m : Nat} {k d wd hi : Int} {v4 v5 : Value} {cs ps : List Int} (h : SX w wc B X q k d wd hi v4 n cs v5 m ps) (o : Obj) : SX w (wc.alloc o) B X q k d wd hi v4 n cs v5 m ps :=
  { h with rd := h.rd.alloc o, only := h.only.alloc h.rd.lt o, res := (heap_alloc_old _ _ (lt_of_block h.res)).trans h.res, box := (heap_alloc_old _ _ (lt_of_block h.box)).trans h.box, o4 := h.o4.old o, o5 := h.o5.old o }
theorem SX.drew {w wc : World} {B X q n m : Nat} {k d wd hi : Int} {v4 v5 : Value} {cs ps : List Int} (h : SX w wc B X q k d wd hi v4 n cs v5 m ps) : SX w wc.drew B X q k d wd hi v4 n cs v5 m ps :=
  { h with rd := h.rd.drew, only := ⟨h.only.below.drew, h.only.rest⟩, res := h.res, box := h.box, o4 := h.o4, o5 := h.o5 }

theorem OwnI.far_set {w : World} {lo n M i : Nat} {v x : Value} {l : List Int} (h : OwnI w lo v n l) (hf : v.ownBlock ≠ some M) : OwnI (w.setCell ⟨M, i, none⟩ x) lo v n l := by
  refine World.ownsRow.kept (show World.ownsRow _ _ _ _ _ _ _ from h) (row := some M) ⟨rfl, rfl, rfl, by simp, fun k _ hk => Below.heap_setCell w ⟨M, i, none⟩ x k (fun e => hk (by rw [e]))⟩ (.inr hf)

/-- the picture as it is handed back: any numbers, lists that lie somewhere -/
structure FX (w wc : World) (B X q : Nat) (k d wd hi : Int) (a : Option Addr) (n c : Nat) (cs : List Int) (b : Option Addr) (m cc : Nat) (ps : List Int) : Prop where
  rd : RdAt wc B q
  only : Only B w wc
  res : wc.heap[w.heap.size + 1]? = some (.cells #[.int .i64 0, .int .i64 0, .int .i64 0, .int .i64 0, .slice none 0 0, .slice none 0 0] 26 (0, 0))
  box : wc.heap[X]? = some (.cells #[.int .i64 k, .int .i64 d, .int .i64 wd, .int .i64 hi, .slice a n c, .slice b m cc] 26 (0, 0))
  lt : B < w.heap.size
  i4 : IntsFrom wc (w.heap.size + 2) a cs
  i5 : IntsFrom wc (w.heap.size + 2) b ps
  l4 : cs.length = n ∧ n ≤ 1000 ∧ n ≤ c
  l5 : ps.length = m ∧ m ≤ 1000 ∧ m ≤ cc
  bd : 0 ≤ k ∧ k ≤ 100 ∧ 0 ≤ d ∧ d ≤ 100 ∧ 0 ≤ wd ∧ wd ≤ 100 ∧ 0 ≤ hi ∧ hi ≤ 100

theorem SX.fx {w wc : World} {B X q n m c cc : Nat} {k d wd hi : Int} {a b : Option Addr} {cs ps : List Int} (h : SX w wc B X q k d wd hi (.slice a n c) n cs (.slice b m cc) m ps) (hn : n ≤ 1000) (hm : m ≤ 1000) (bd : 0 ≤ k ∧ k ≤ 100 ∧ 0 ≤ d ∧ d ≤ 100 ∧ 0 ≤ wd ∧ wd ≤ 100 ∧ 0 ≤ hi ∧ hi ≤ 100) : FX w wc B X q k d wd hi a n c cs b m cc ps :=
  ⟨h.rd, h.only, h.res, h.box, h.lt, h.o4.from, h.o5.from, ⟨h.o4.len, hn, h.o4.cap⟩, ⟨h.o5.len, hm, h.o5.cap⟩, bd⟩

/-- a number of the picture is another one -/
theorem SX.setn {w wc : World} {B X q n m : Nat} {k d wd hi k' d' wd' hi' : Int} {v4 v5 : Value} {cs ps : List Int} (h : SX w wc B X q k d wd hi v4 n cs v5 m ps) (i : Nat) (x : Value) (e : (#[Value.int .i64 k, .int .i64 d, .int .i64 wd, .int .i64 hi, v4, v5]).setIfInBounds i x = #[.int .i64 k', .int .i64 d', .int .i64 wd', .int .i64 hi', v4, v5]) : SX w (wc.setCell ⟨X, i, none⟩ x) B X q k' d' wd' hi' v4 n cs v5 m ps :=
  { h with rd := h.rd.set (by have := h.lt; have := h.hX; omega), only := h.only.setM h.lt (by have := h.hX; omega), res := (Below.heap_setCell wc ⟨X, i, none⟩ _ _ (by have := h.hX; show w.heap.size + 1 ≠ X; omega)).trans h.res, box := by rw [← e]; exact setCell_block h.box _, o4 := h.o4.far_set h.f4, o5 := h.o5.far_set h.f5 }

/-- the points' list is another one, that lies where it lies -/
theorem SX.tail {w wc : World} {B X q n m c cc : Nat} {k d wd hi : Int} {a b : Option Addr} {cs ps : List Int} (h : SX w wc B X q k d wd hi (.slice a n c) n cs (.slice b (m + 1) cc) (m + 1) ps) (hn : n ≤ 1000) (hm : m ≤ 1000) (bd : 0 ≤ k ∧ k ≤ 100 ∧ 0 ≤ d ∧ d ≤ 100 ∧ 0 ≤ wd ∧ wd ≤ 100 ∧ 0 ≤ hi ∧ hi ≤ 100) :
    ∃ g, b = some ⟨g, 0, none⟩ ∧ m + 1 ≤ cc ∧ FX w (wc.setCell ⟨X, 5, none⟩ (.slice (if cc = 1 then some ⟨g, 0, none⟩ else some ⟨g, 1, none⟩) m (cc - 1))) B X q k d wd hi a n c cs (if cc = 1 then some ⟨g, 0, none⟩ else some ⟨g, 1, none⟩) m (cc - 1) ps.tail := by
  obtain ⟨g, rfl, hI, hc⟩ := h.o5.tail
  have hgX : g ≠ X := fun e => h.f5 (by rw [e]; rfl)
  have h4X : ∀ b off, a = some ⟨b, off, none⟩ → b ≠ X := fun b off e eX => h.f4 (by rw [e, eX]; rfl)
  refine ⟨g, rfl, hc, ⟨h.rd.set (by have := h.lt; have := h.hX; omega), h.only.setM h.lt (by have := h.hX; omega), (Below.heap_setCell wc ⟨X, 5, none⟩ _ _ (by have := h.hX; show w.heap.size + 1 ≠ X; omega)).trans h.res, setCell_block h.box _, h.lt, h.o4.from.set h4X, ?_, ⟨h.o4.len, hn, h.o4.cap⟩, ⟨by rw [List.length_tail, h.o5.len]; omega, hm, by omega⟩, bd⟩⟩
  by_cases h1 : cc = 1
  · exact .inl (List.eq_nil_of_length_eq_zero (by rw [List.length_tail, h.o5.len]; omega))
  · rw [if_neg h1]; exact hI.set (fun b off e => by cases e; exact hgX)

/-- one colour more -/
theorem SX.more {w wc w4 : World} {B X q n m g cy : Nat} {k d wd hi : Int} {v4 v5 : Value} {cs ps : List Int} {x : Int} (h : SX w wc B X q k d wd hi v4 n cs v5 m ps) (hO : OwnI w4 (w.heap.size + 2) (.slice (some ⟨g, 0, none⟩) (n + 1) cy) (n + 1) (cs ++ [x])) (hG : Grew (w.heap.size + 2) wc w4 v4 g) :
    w4.heap[X]? = some (.cells #[.int .i64 k, .int .i64 d, .int .i64 wd, .int .i64 hi, v4, v5] 26 (0, 0)) ∧
    SX w (w4.setCell ⟨X, 4, none⟩ (.slice (some ⟨g, 0, none⟩) (n + 1) cy)) B X q k d wd hi (.slice (some ⟨g, 0, none⟩) (n + 1) cy) (n + 1) (cs ++ [x]) v5 m ps := by
  have hbl : ∀ j, j < wc.heap.size → v4.ownBlock ≠ some j → w4.heap[j]? = wc.heap[j]? := fun j hj hne => hG.block j hj (fun e => hne e.symm)
  have hsz := lt_of_block h.box
  have hb : w4.heap[X]? = some (.cells #[.int .i64 k, .int .i64 d, .int .i64 wd, .int .i64 hi, v4, v5] 26 (0, 0)) := (hbl X hsz h.f4).trans h.box
  have hlow : ∀ j, j < w.heap.size + 2 → v4.ownBlock ≠ some j := fun j hj e => by have := (hG.own j e).1; omega
  have b4 : Below (w.heap.size + 2) wc w4 := ⟨hG.os, hG.tape, hG.output, hG.size, fun j hj => hbl j (by have := h.hX; omega) (hlow j hj)⟩
  have f4' : (Value.slice (some ⟨g, 0, none⟩) (n + 1) cy).ownBlock ≠ some X := hG.far hsz h.f4
  have o5' : OwnI w4 (w.heap.size + 2) v5 m ps := by
    refine World.ownsRow.kept (show World.ownsRow _ _ _ _ _ _ _ from h.o5) (row := v4.ownBlock) ⟨hG.os, hG.tape, hG.output, hG.size, fun j hj hne => hG.block j hj hne⟩ ?_
    rcases hv : v4.ownBlock with _ | g4
    · rcases h5 : v5.ownBlock with _ | g5
      · exact .inl rfl
      · exact .inr (by simp)
    · exact .inr (h.ne g4 hv)
  refine ⟨hb, ?_⟩
  refine ⟨(h.rd.kept (b4.mono (by have := h.lt; omega))).set (by have := h.lt; have := h.hX; omega), (h.only.grown h.lt (b4.mono (by omega))).setM h.lt (by have := h.hX; omega), ?_, setCell_block hb _, h.lt, h.hX, hO.far_set f4', o5'.far_set h.f5, f4', h.f5, ?_⟩
  · rw [Below.heap_setCell w4 ⟨X, 4, none⟩ _ _ (by have := h.hX; show w.heap.size + 1 ≠ X; omega), b4.block _ (by omega)]; exact h.res
  · intro g' e
    have e' : some g = some g' := e
    cases e'
    intro h5
    rcases hG.at_ with e4 | hge
    · exact h.ne g e4 h5
    · have := (World.ownsRow.lt (show World.ownsRow _ _ _ _ _ _ _ from h.o5) g h5).2; omega

/-- a point is another one -/
theorem SX.put {w wc : World} {B X q n m g cc j : Nat} {k d wd hi : Int} {v4 : Value} {cs ps : List Int} {x : Int} (h : SX w wc B X q k d wd hi v4 n cs (.slice (some ⟨g, 0, none⟩) m cc) m ps) :
    SX w (wc.setCell ⟨g, j, none⟩ (.int .i64 x)) B X q k d wd hi v4 n cs (.slice (some ⟨g, 0, none⟩) m cc) m (ps.set j x) := by
  have hg2 := (World.ownsRow.lt (show World.ownsRow _ _ _ _ _ _ _ from h.o5) g rfl).1
  have hgX : g ≠ X := fun e => h.f5 (by rw [e]; rfl)
  have hs := (World.ownsRow.stored (show World.ownsRow _ _ _ _ _ _ _ from h.o5) j (.int .i64 x)).1
  have e : (intsV ps).set j (.int .i64 x) = intsV (ps.set j x) := by simp [intsV, List.map_set]
  rw [e] at hs
  refine { h with rd := h.rd.set (by have := h.lt; omega), only := h.only.setM h.lt (by omega), res := (Below.heap_setCell wc ⟨g, j, none⟩ _ _ (by show w.heap.size + 1 ≠ g; omega)).trans h.res, box := (Below.heap_setCell wc ⟨g, j, none⟩ _ _ (by show X ≠ g; omega)).trans h.box, o4 := h.o4.far_set (fun e => h.ne g e rfl), o5 := hs }
end Go.Proofs.Ytjiogneidioknaa
