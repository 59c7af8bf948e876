/- slices.Backward of numbers. -/
import Derived.RangeFuncBox
import Derived.RangeFuncLeaves
import Derived.RangeFuncWrites
import Derived.Shelf.Abstract
import Derived.WalkKit
import Derived.OwnWalkIn
import Derived.TacticsInMore
import Derived.LoopNIn
import Derived.LoopIn
import Derived.Test.YtmfnepibhhhdcaaProg
import Derived.Test.YtmfnepibhhhdcaaBase
namespace Go.Proofs.Ytmfnepibhhhdcaa
open Go.RowKit Go.Shelf

attribute [local go_sem] Oper.semAt_some

/-- what lies below n₀ is as it was, but for some blocks -/
def BsY (P : Nat → Prop) (n₀ : Nat) (W W' : World) : Prop := W.heap.size ≤ W'.heap.size ∧ ∀ k, k < n₀ → ¬ P k → W'.heap[k]? = W.heap[k]?
theorem BsY.trans {P : Nat → Prop} {n₀ : Nat} {A B C : World} (h : BsY P n₀ A B) (k : BsY P n₀ B C) : BsY P n₀ A C := ⟨Nat.le_trans h.1 k.1, fun i hi ho => (k.2 i hi ho).trans (h.2 i hi ho)⟩
theorem BsY.of {P : Nat → Prop} {n₀ : Nat} {A B : World} (h : Below n₀ A B) : BsY P n₀ A B := ⟨h.size, fun i hi _ => h.block i hi⟩
theorem BsY.book {P : Nat → Prop} {n₀ : Nat} {w : World} (hn : n₀ ≤ w.heap.size) (W : World) (l : Nat) (x x' : Obj) (hl : w.heap.size ≤ l) (h : W.heap[l]? = some x) (h1 : x.isCells = false) (h2 : x.isWalk = false) : BsY P n₀ W (W.putObj l x') := .of (belowK_b hn W l x x' hl h h1 h2)

/-- the numbers from the last one on -/
def bkTo (ps : List Nat) : Nat → List (Nat × Nat)
  | 0 => []
  | k + 1 => (k, ps.getD k 0) :: bkTo ps k
theorem bkTo_snd : ∀ (ps : List Nat) (k : Nat), k ≤ ps.length → (bkTo ps k).map Prod.snd = (ps.take k).reverse
  | ps, 0, _ => by simp [bkTo]
  | ps, k + 1, h => by
    rw [bkTo, List.map_cons, bkTo_snd ps k (by omega), List.take_succ_eq_append_getElem (by omega), List.reverse_append, List.getD_eq_getElem?_getD, List.getElem?_eq_getElem (by omega)]
    rfl
theorem bkTo_len (ps : List Nat) : ∀ k, (bkTo ps k).length = k
  | 0 => rfl
  | k + 1 => by rw [bkTo, List.length_cons, bkTo_len ps k]

/-- what the iterator reads -/
structure HeldY (W : World) (a : Option Addr) (Bs g cap N : Nat) (ps : List Nat) : Prop where
  box : W.cell? ⟨Bs, 0, none⟩ = some (.slice a N cap)
  lies : ∀ i, i < N → W.cell? ⟨g, i, none⟩ = some (.int .i64 (ps.getD i 0 : Int))
theorem HeldY.kept {W W' : World} {a : Option Addr} {Bs g cap N n₀ : Nat} {ps : List Nat} {P : Nat → Prop} (h : HeldY W a Bs g cap N ps) (hb : BsY P n₀ W W') (h1 : Bs < n₀) (h2 : N = 0 ∨ g < n₀) (o1 : ¬ P Bs) (o2 : N = 0 ∨ ¬ P g) : HeldY W' a Bs g cap N ps :=
  ⟨(World.cell?_of_block (w := W) (a := ⟨Bs, 0, none⟩) (hb.2 _ h1 o1)).trans h.box,
   fun i hi => (World.cell?_of_block (w := W) (a := ⟨g, i, none⟩) (hb.2 _ (show g < n₀ by omega) (by rcases o2 with o2 | o2; (exfalso; omega); exact o2))).trans (h.lies i hi)⟩

set_option maxRecDepth 100000 in
set_option maxHeartbeats 4000000 in
theorem backward1_in (n : Nat) (hn : 1 ≤ n) (a : Option Addr) (l Bs g cap N n₀ : Nat) (P : Nat → Prop) (ps : List Nat) (A : Nat) (hps : ∀ i, i < N → ps.getD i 0 < A) (h1 : Bs < n₀) (h2 : N = 0 ∨ g < n₀) (o1 : ¬ P Bs) (o2 : N = 0 ∨ ¬ P g)
    (hNb : N ≤ 100000) (ha : N = 0 ∨ a = some ⟨g, 0, none⟩) (J Jx : List (Nat × Nat) → World → Prop)
    (W : World)
    (hY : ∀ pre x W, x.2 < A → J pre W → pre.length < N → YieldAt Fence.wide (n - 1) Try.prog l #[.int .i64 (x.1 : Int), .int .i64 (x.2 : Int)] W fun e W' =>
      (e = .returned (.bool true) ∧ J (pre ++ [x]) W' ∧ BsY P n₀ W W') ∨ (e = .returned (.bool false) ∧ Jx (pre ++ [x]) W'))
    (hH : HeldY W a Bs g cap N ps) (h0 : J [] W) :
    CallsIn Fence.wide n Try.prog 129 #[.func (.yield l) #[] #[], .pointer (some ⟨Bs, 0, none⟩)] W fun e W' => (∃ v, e = .returned v) ∧
      ((∃ ys, ys = bkTo ps N ∧ J ys W') ∨ (∃ pre, pre <+: bkTo ps N ∧ Jx pre W')) := by
  have hro : Fence.wide.round = none := rfl
  have HY : Hid (∀ (pre : List (Nat × Nat)) (x : Nat × Nat) (W : World), x.2 < A → J pre W → pre.length < N → YieldAt Fence.wide (n - 1) Try.prog l #[.int .i64 (x.1 : Int), .int .i64 (x.2 : Int)] W fun e W' =>
      (e = .returned (.bool true) ∧ J (pre ++ [x]) W' ∧ BsY P n₀ W W') ∨ (e = .returned (.bool false) ∧ Jx (pre ++ [x]) W')) := hY
  have HPS : Hid (∀ i, i < N → ps.getD i 0 < A) := hps
  clear hY hps
  refine callsIn_of_wp Try.func129 rfl trivial ?_ hro
  simp only [Try.ntmps129, List.size_toArray, List.length_cons, List.length_nil, Nat.reduceAdd, Nat.reduceSub, Array.replicate_succ, Array.replicate_zero, List.push_toArray, List.append_toArray, List.nil_append, List.cons_append]
  have hbx := hH.box
  gi_wp2
  gi_loopw [3] (fun i wr => ∃ (k : Nat) (pre : List (Nat × Nat)), k ≤ N ∧ i = .int .i64 ((k : Int) - 1) ∧ Hid (bkTo ps N = pre ++ bkTo ps k) ∧ J pre wr ∧ HeldY wr a Bs g cap N ps)
    (fun i _ => (intOf i + 1).toNat)
  case atStart => exact ⟨N, [], Nat.le_refl _, by go_num, rfl, h0, hH⟩
  case round =>
    obtain ⟨k, pre, hk, rfl, HX, hJk, hHk⟩ := hrel
    obtain ⟨c1, hL⟩ := id hHk
    by_cases hlt : 0 < k
    · obtain ⟨j, rfl⟩ : ∃ j, k = j + 1 := ⟨k - 1, by omega⟩
      have ej : ((j + 1 : Nat) : Int) - 1 = (j : Int) := by omega
      rw [ej]
      obtain rfl : a = some ⟨g, 0, none⟩ := by
        rcases ha with h | h
        · omega
        · exact h
      have hjN : j < N := by omega
      have hjNi : (j : Int) < (N : Int) := by omega
      have cj := hL j hjN
      have hpj := HPS.out j hjN
      have hlen : pre.length < N := by
        have e := congrArg List.length HX.out
        rw [List.length_append, bkTo_len, bkTo_len] at e
        omega
      have HX2 : Hid (bkTo ps N = (pre ++ [(j, ps.getD j 0)]) ++ bkTo ps j) := by
        show _ = _
        rw [HX.out, bkTo]; simp
      generalize ps.getD j 0 = p at *
      clear HX hL HPS
      obtain ⟨fn, tmps, assign, body, hy, hR⟩ := HY.out pre (j, p) _ hpj hJk hlen
      dsimp only at hy
      gi_wp2
      refine hR.mono ?_
      rintro e W3 (⟨rfl, hJ3, hk3⟩ | ⟨rfl, hJx3⟩)
      · have hH3 := hHk.kept hk3 h1 h2 o1 o2
        gi_wp2
        go_roundw
        case rel => exact ⟨j, _, by omega, by go_num, HX2, hJ3, hH3⟩
        case measure => simp [intOf]
      · gi_wp2
        refine bodyPost_ret (results_none rfl _ _ _) rfl ?_
        exact ⟨⟨_, rfl⟩, .inr ⟨_, ⟨_, HX2.out.symm⟩, hJx3⟩⟩
    · obtain rfl : k = 0 := by omega
      gi_wp2
      go_end0
      exact ⟨⟨_, rfl⟩, .inl ⟨_, by rw [HX.out]; simp [bkTo], hJk⟩⟩

abbrev BkS (A : Nat) := {x : Nat × Nat // x.2 < A}
theorem backward_stops (n : Nat) (hn : 1 ≤ n) (a : Option Addr) (Bs g cap N n₀ : Nat) (P : Nat → Prop) (ps : List Nat) (A : Nat) (w : World) (hps : ∀ i, i < N → ps.getD i 0 < A) (h1 : Bs < n₀) (h2 : N = 0 ∨ g < n₀) (o1 : ¬ P Bs) (o2 : N = 0 ∨ ¬ P g) (hn₀ : n₀ ≤ w.heap.size)
    (hNb : N ≤ 100000) (ha : N = 0 ∨ a = some ⟨g, 0, none⟩) (hH : HeldY w a Bs g cap N ps) :
    SeqStopsK Fence.wide n Try.prog 129 #[.pointer (some ⟨Bs, 0, none⟩)] (fun x : BkS A => #[Value.int .i64 (x.1.1 : Int), Value.int .i64 (x.1.2 : Int)]) (BsY P n₀)
      (fun ys => ys.map Subtype.val = bkTo ps N) (fun pre => pre.map Subtype.val <+: bkTo ps N) N w := by
  intro l J Jx W hW hJ _ hY h0
  refine (backward1_in n hn a l Bs g cap N n₀ P ps A hps h1 h2 o1 o2 hNb ha
    (fun pre W => ∃ p : List (BkS A), p.map Subtype.val = pre ∧ J p W) (fun pre W => ∃ p : List (BkS A), p.map Subtype.val = pre ∧ Jx p W) W ?_ ?_ ⟨[], rfl, h0⟩).mono ?_
  · rintro pre x W1 hx ⟨p, rfl, hj⟩ hlen
    obtain ⟨fn, tmps, assign, body, hy, hR⟩ := hY p ⟨x, hx⟩ W1 hj (by simpa using hlen)
    refine ⟨fn, tmps, assign, body, hy, hR.mono ?_⟩
    rintro e W' (⟨rfl, h2, h3⟩ | ⟨rfl, h2⟩)
    · exact .inl ⟨rfl, ⟨p ++ [⟨x, hx⟩], by simp, h2⟩, h3⟩
    · exact .inr ⟨rfl, ⟨p ++ [⟨x, hx⟩], by simp, h2⟩⟩
  · exact hH.kept (BsY.of (P := P) (hW.mono hn₀)) h1 h2 o1 o2
  · rintro e W' ⟨hv, h⟩
    refine ⟨hv, ?_⟩
    rcases h with ⟨ys, hy, p, hp, hj⟩ | ⟨pre, hpre, p, hp, hj⟩
    · exact .inl ⟨p, hp.trans hy, hj⟩
    · exact .inr ⟨p, by show p.map Subtype.val <+: _; rw [hp]; exact hpre, hj⟩
end Go.Proofs.Ytmfnepibhhhdcaa
