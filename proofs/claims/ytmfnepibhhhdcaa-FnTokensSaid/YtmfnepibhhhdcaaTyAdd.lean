/- A place that has been gone by is taken in. -/
import Derived.Test.YtmfnepibhhhdcaaTyMap
import Derived.Maps.OwnOps
import Derived.OwnWalk
import Derived.Deep.AppendLies
namespace Go.Proofs.Ytmfnepibhhhdcaa
open Go.RowKit Go.Maps
open Go.ChangeShapes (lits)

theorem wpList_entry {P : Program} (w : World) {ops : Array Oper} {rest : List Oper} {o : Oper} {a : Act} {Q : Exit → Act → World → Prop}
    (hg : o.guard = none) (m x : Operand) (t : TypeId) (hop : o.op = Op.mapEntry t m x) (vm vx : Value) (hm : a.eval m = vm) (hx : a.eval x = vx) (r : Value) (wA : World) (hrun : (Instr.mapEntry t vm vx).run P w = .ok r wA)
    (hK : wpList P ops Q rest (a.put o.dst r) wA) : wpList P ops Q (o :: rest) a w := by
  refine wpList_plain hg fun K' hK' => ?_
  unfold Oper.wp
  simp [execOp, hop, hm, hx, hrun, Result.andThen]
  exact hK' _ _ hK
theorem wpList_stores {P : Program} (w : World) {ops : Array Oper} {rest : List Oper} {o : Oper} {a : Act} {Q : Exit → Act → World → Prop}
    (hg : o.guard = none) (m x v : Operand) (t : TypeId) (hop : o.op = Op.entryStore t m x v) (vm vx vv : Value) (hm : a.eval m = vm) (hx : a.eval x = vx) (hv : a.eval v = vv) (wC : World) (hrun : (Instr.entryStore t vm vx vv).run P w = .ok () wC)
    (hK : wpList P ops Q rest (a.put o.dst undef) wC) : wpList P ops Q (o :: rest) a w := by
  refine wpList_plain hg fun K' hK' => ?_
  unfold Oper.wp
  simp [execOp, hop, hm, hx, hv, hrun, Result.andThen]
  exact hK' _ _ hK

/-- what the iterator leaves alone -/
def Stays : Obj → Prop
  | .map .. => False
  | .cells _ t _ => t ≠ 3
  | _ => True
structure Tn (B : Nat) (W W' : World) : Prop where
  low : Below B W W'
  same : ∀ (k : Nat) (o : Obj), W.heap[k]? = some o → Stays o → W'.heap[k]? = some o
theorem Tn.size {B : Nat} {X Y : World} (h : Tn B X Y) : X.heap.size ≤ Y.heap.size := h.low.size
theorem Tn.refl (B : Nat) (W : World) : Tn B W W := ⟨Below.refl _ _, fun _ _ h _ => h⟩
theorem Tn.trans {B : Nat} {X Y Z : World} (h : Tn B X Y) (k : Tn B Y Z) : Tn B X Z := ⟨h.low.trans k.low, fun i o hi ho => k.same i o (h.same i o hi ho) ho⟩
theorem Tn.below {B m : Nat} {X Y : World} (h : Below m X Y) (hB : B ≤ m) (hm : X.heap.size ≤ m) : Tn B X Y := ⟨h.mono hB, fun i o hi _ => (h.block i (by have := (Array.getElem?_eq_some_iff.1 hi).1; omega)).trans hi⟩
theorem Tn.grown {B : Nat} {X Y : World} {row : Option Nat} (h : X.grownBy Y row) (hB : B ≤ X.heap.size) (hr : ∀ j, row = some j → B ≤ j ∧ ∀ o, X.heap[j]? = some o → ¬ Stays o) : Tn B X Y :=
  ⟨(Below.refl B X).grown h hB (fun j e => (hr j e).1), fun i o hi ho => (h.block i (Array.getElem?_eq_some_iff.1 hi).1 (fun e => (hr i e.symm).2 o hi ho)).trans hi⟩

theorem Seen.map {s : ByteArray} {B A : Nat} {W : World} (h : Seen s B A W) : ∃ es clock, W.heap[B]? = some (.map es clock) := by
  obtain ⟨D, n, _, h1, _⟩ := h
  obtain ⟨es, clock, hb, _⟩ := h1
  exact ⟨es, clock, hb⟩
theorem Seen.lt {s : ByteArray} {B A : Nat} {W : World} (h : Seen s B A W) : B < W.heap.size := by
  obtain ⟨_, _, hb⟩ := h.map
  exact (Array.getElem?_eq_some_iff.1 hb).1
theorem Seen.kept {s : ByteArray} {B A : Nat} {W W' : World} (h : Seen s B A W) (hb : W'.heap[B]? = W.heap[B]?) (hk : ∀ (j : Nat) (cs : Array Value) (fr : Nat × Nat), W.heap[j]? = some (Obj.cells cs 3 fr) → W'.heap[j]? = some (Obj.cells cs 3 fr)) : Seen s B A W' := by
  obtain ⟨D, n, hn, h1, h2⟩ := h
  exact ⟨D, n, hn, ownsGroups_same h1 hb hk, h2⟩
theorem Seen.below {s : ByteArray} {B A m : Nat} {W W' : World} (h : Seen s B A W) (hb : Below m W W') (hm : W.heap.size ≤ m) : Seen s B A W' :=
  h.kept (hb.block B (by have := h.lt; omega)) (fun j _ _ hj => (hb.block j (by have := (Array.getElem?_eq_some_iff.1 hj).1; omega)).trans hj)

theorem own_stays {W : World} {base j : Nat} {v : Value} {zs : List Int} {o : Obj} (h : W.ownsInts base 3 .i64 v zs) (e : v.ownBlock = some j) (ho : W.heap[j]? = some o) : ¬ Stays o := by
  intro hs
  rcases h.1.2 with ⟨rfl, _⟩ | ⟨g, cap, cur, rfl, _, hgb, _⟩
  · simp [Value.ownBlock] at e
  · obtain rfl : g = j := by simpa [Value.ownBlock] using e
    rw [hgb] at ho; cases ho; exact hs rfl
def AddEnd (s : ByteArray) (B A : Nat) (w : World) (e : Ending) (w' : World) : Prop := (∃ v, e = .returned v) ∧ Seen s B (A + 1) w' ∧ Tn B w w'
set_option maxHeartbeats 2000000 in
set_option maxRecDepth 20000 in
theorem add_any (s : ByteArray) (B A : Nat) (w : World) (hs : s.size ≤ 9001) (hA : A < s.size) (h : Seen s B A w) :
    Calls Try.prog 86 #[.map (some B), .string s, .int .i64 (A : Int)] w (AddEnd s B A w) := by
  have hBlt := h.lt
  by_cases h3 : A + 3 ≤ s.size
  · have HT : Hid (Calls Try.prog 113 #[.string s, .int .i64 (A : Int)] w (ThreeEnd (.agg #[.int .u8 (Ty.b s A : Int), .int .u8 (Ty.b s (A + 1) : Int), .int .u8 (Ty.b s (A + 2) : Int)]) true w)) := threeAt_yes s A w hs h3
    have hkey := triKey_of (Ty.b s A) (Ty.b s (A + 1)) (Ty.b s (A + 2)) (Ty.b_lt _ _) (Ty.b_lt _ _) (Ty.b_lt _ _)
    obtain ⟨i0, hi, hz0, hz1, hz2⟩ := info_parts (show (Try.prog.info? 3).map (fun i => (i.zero, i.size, i.bytes)) = some (some (.int .i64 0), 1, 8) by kernel_rfl)
    have HS : Hid (Seen s B A w) := h
    have HM : Hid (∀ D, TriTab D s A → TriTab (D.put (triKey (Ty.b s A) (Ty.b s (A + 1)) (Ty.b s (A + 2))) (.slice (lits .i64 (plsI s (Ty.b s A) (Ty.b s (A + 1)) (Ty.b s (A + 2)) A ++ [(A : Int)])) [])) s (A + 1)) := fun D t => t.more h3
    have HI : Hid (∀ (D : DataW Unit) (w : World) (base : Nat) (v : Value) (zs : List Int), TriTab D s A → D.atKey (triKey (Ty.b s A) (Ty.b s (A + 1)) (Ty.b s (A + 2))) .nil = rowDatum .i64 v zs → w.ownsInts base 3 .i64 v zs → zs = plsI s (Ty.b s A) (Ty.b s (A + 1)) (Ty.b s (A + 2)) A) := fun D w base v zs t h1 h2 => t.is (Ty.b_lt _ _) (Ty.b_lt _ _) (Ty.b_lt _ _) h1 h2
    have hpl : (plsI s (Ty.b s A) (Ty.b s (A + 1)) (Ty.b s (A + 2)) A).length ≤ A := plsI_len _ _ _ _ _
    generalize plsI s (Ty.b s A) (Ty.b s (A + 1)) (Ty.b s (A + 2)) A = pl at *
    generalize Ty.b s A = x at *
    generalize Ty.b s (A + 1) = y at *
    generalize Ty.b s (A + 2) = z at *
    clear h
    go_enter Try.func86, Try.ntmps86
    go_wp2_with fail
    refine HT.out.mono ?_
    rintro e w1 ⟨rfl, bel1⟩
    have hw1 := bel1.size
    have hS1 : Seen s B A w1 := HS.out.below bel1 (Nat.le_refl _)
    obtain ⟨W0, hW0⟩ : ∃ W0, W0 = (w1.alloc (.cells #[.int .u8 (x : Int), .int .u8 (y : Int), .int .u8 (z : Int)] 139)).alloc (.cells #[.int .i64 (A : Int)] 3) := ⟨_, rfl⟩
    have bW : Below w1.heap.size w1 W0 := by rw [hW0]; exact ((Below.refl _ _).alloc (Nat.le_refl _) _).alloc (by simp) _
    have hS0 : Seen s B A W0 := hS1.below bW (Nat.le_refl _)
    have hT0 : Tn B w W0 := (Tn.below bel1 (by omega) (Nat.le_refl _)).trans (Tn.below bW (by omega) (Nat.le_refl _))
    have hnew : W0.heap[w1.heap.size + 1]? = some (.cells #[.int .i64 (A : Int)] 3 (0, 0)) := by
      rw [hW0]; have := heap_alloc_new (w1.alloc (.cells #[.int .u8 (x : Int), .int .u8 (y : Int), .int .u8 (z : Int)] 139)) (.cells #[.int .i64 (A : Int)] 3); rwa [World.size_alloc] at this
    have hsz0 : W0.heap.size = w1.heap.size + 2 := by rw [hW0]; simp
    obtain ⟨D, n, hn, hown, htab⟩ := hS0
    obtain ⟨v0, st, zs, wA, hrun, hat, hoi, hzl, hgA, hvb, hmA, hback⟩ := groups_entry hown law_tri Try.underlying103 zero_ints (by unfold maxLen; omega) hkey
    have hzs : zs = pl := HI.out D wA (B + 1) v0 zs htab hat hoi
    have hnewA : wA.heap[w1.heap.size + 1]? = some (.cells #[.int .i64 (A : Int)] 3 (0, 0)) := (hgA.block _ (by omega) (by intro e; cases e; omega)).trans hnew
    have hAs := hgA.size
    clear hkey HI HS bel1 hS1 bW
    have HBK : Hid (∀ (wB : World) (v' : Value) (zs' : List Int), wA.grownBy wB v0.ownBlock → wB.ownsInts (B + 1) 3 .i64 v' zs' → zs'.length ≤ n + 1 → (v'.ownBlock = v0.ownBlock ∨ ∃ g, v'.ownBlock = some g ∧ W0.heap.size ≤ g) →
        ∃ wC, (Instr.entryStore 103 (.map (some B)) (goInt st) v').run Try.prog wB = .ok () wC ∧ wC.ownsGroups Try.prog 139 (B + 1) 3 .i64 B (n + 1) (D.put (triKey x y z) (rowDatum .i64 v' zs')) ∧ wB.grownBy wC (some B)) := hback
    have HTN : Hid (Tn B w W0) := hT0
    have HTM : Hid (∃ es clock, W0.heap[B]? = some (.map es clock)) := by
      obtain ⟨es, clock, hb, _⟩ := hown
      exact ⟨es, clock, hb⟩
    have HPL : Hid (zs = pl) := hzs
    have hzb : zs.length ≤ A := Nat.le_trans hzl hn
    clear hback hzs hat hpl hown hT0 hnew
    go_wp2_with (first
      | (refine wpList_entry _ rfl _ _ 103 rfl _ _ rfl rfl (.tuple #[v0, goInt st]) wA (by rw [← hW0]; exact hrun) ?_)
      | (at_builtin; refine wpList_append_own_at _ rfl _ _ 22 rfl (B + 1) 3 i0 (.int .i64 0) 1 8 Try.underlying22 hi hz0 hz1 hz2 rfl (by decide) _ _ _ rfl hoi.1 ⟨w1.heap.size + 1, 0, none⟩ 1 1 [.int .i64 (A : Int)] rfl rfl (World.news_of_block hnewA) (ints_oneCell .i64 [(A : Int)]) (by unfold maxLen; omega) (by omega) (by omega) ?_; intro v' wB hown' hgB hnil hloc; obtain ⟨wC, hrunC, hownC, hgC⟩ := HBK.out wB v' (zs ++ [(A : Int)]) hgB (hoi.appended hown' (WalkArith.wf_i64 (by omega))) (by simp; omega) (hloc.imp id (fun h => ⟨_, h, by omega⟩)); have hrunD : (Instr.entryStore 103 (.map (some B)) (.int .i64 (st : Int)) v').run Try.prog wB = .ok () wC := hrunC)
      | fail)
    have hoiB := hoi.appended hown' (WalkArith.wf_i64 (n := (A : Int)) (by omega))
    have hT : Tn B w wC := by
      obtain ⟨es, clock, hm⟩ := HTM.out
      have t1 : Tn B W0 wA := Tn.grown hgA (by omega) (fun j e => by cases e; exact ⟨Nat.le_refl _, fun o ho hs => by rw [hm] at ho; cases ho; exact hs⟩)
      have t2 : Tn B wA wB := Tn.grown hgB (by omega) (fun j e => ⟨by have := (hoi.1.lt j e).1; omega, fun o ho => own_stays hoi e ho⟩)
      have t3 : Tn B wB wC := Tn.grown hgC (by have := hgB.size; omega) (fun j e => by
        cases e
        refine ⟨Nat.le_refl _, fun o ho hs => ?_⟩
        obtain ⟨es2, clock2, hm2⟩ : ∃ es2 clock2, wB.heap[B]? = some (.map es2 clock2) := by
          have hbA : wA.heap[B]? = wB.heap[B]? := (hgB.block B (by omega) (fun e => hvb e.symm)).symm
          rw [← hbA]
          exact hmA
        rw [hm2] at ho; cases ho; exact hs)
      exact HTN.out.trans (t1.trans (t2.trans t3))
    have hF : ∀ v, AddEnd s B A w (.returned v) wC := fun v => by
      refine ⟨⟨_, rfl⟩, ⟨_, n + 1, by omega, hownC, ?_⟩, hT⟩
      rw [hoiB.datum_pos (by simp), HPL.out]
      exact HM.out D htab
    go_end0
    exact hF _
  · have HT : Hid (Calls Try.prog 113 #[.string s, .int .i64 (A : Int)] w (ThreeEnd (.agg #[.int .u8 0, .int .u8 0, .int .u8 0]) false w)) := threeAt_no s A w hs (by omega) h3
    have HF : Hid (∀ w', Below w.heap.size w w' → ∀ v, AddEnd s B A w (.returned v) w') := fun w' hb v => by
      obtain ⟨D, n, hn, h1, h2⟩ := h.below hb (Nat.le_refl _)
      exact ⟨⟨_, rfl⟩, ⟨D, n, by omega, h1, h2.none h3⟩, Tn.below hb (by omega) (Nat.le_refl _)⟩
    clear h
    go_enter Try.func86, Try.ntmps86
    go_wp2_with fail
    refine HT.out.mono ?_
    rintro e w1 ⟨rfl, bel1⟩
    go_wp2_with fail
    go_end0
    exact HF.out _ (bel1.trans (((Below.refl _ _).alloc (Nat.le_refl _) _).mono bel1.size)) _
end Go.Proofs.Ytmfnepibhhhdcaa
